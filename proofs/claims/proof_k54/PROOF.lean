import PyProof.Rows.All
import Wide.All
import OpenK.AllK
import Wide.FinOn
import PyProof.EqAt
import PyProof.EqKinds
import PyProof.TupleCall
import PyProof.MinMaxWalk
import PyProof.WalkInts
import PyProof.NeKinds
import PyProof.SliceStr2
import PyProof.StrBlockI
import PyProof.MaxThree
import PyProof.ZipIter
import PyProof.Draws
import PyProof.EnumMake
import PyProof.ListMulRoad
import PyProof.Rows.StrRev
import PyProof.DictItems
import KE.IntBitsLaws
import PySem.Challenge.RW_leasttolls_k54_lesser
set_option Elab.async false
set_option linter.all false
set_option maxRecDepth 100000
set_option maxHeartbeats 4000000
open PySem renaming wpAny_bind->ab,Shared->af,wpAny_pure->aq,mem_of_lookup->ax,sizeLine->aF,Program->aI,cellsFrom->aL,Around->aZ,wpAny_newObj_type->bf,Arguments->bj,starEach->bn,bootBuiltins->bo,mainGlobals->bv,wpAny_truthy_bool->bC,FuncData->bJ,NameKind->bM,wpAny_callSpecial?_slot->b9,wpAny_call_entry->cb,binaryOp->cj,wpAny_Call_Name_kw->cn,wpAny_typeNameOfWhole_itemiter->cq,compareOp->cw,sysModules->cx,wpAny_mono->cy,wpAny_field->cz,assignEach->cC,rawInt->cD,wpAny_typeNameOf_itemiter->cK,wpAny_passesOwn->cL,behindInMarks->cR,wpAny_holding->cS,codeAmong->cW,sizeLine_eq->cZ,tupleKind_room_in1->c8,wpAny_setField_rec->c9,pushCells_keeps->dj,attributeBase->dq,wpAny_pyIter_list->dw,foldedSetIterable->dz,relabel->dB,IsItemIter->dE,argBest->dG,backTo->dL,isTrue->dY,sliceBounds->d6,wpAny_seqItems->ee,wpAny_tryCatch->ef,wpAny_isOneOf_itemiter->eA,pushCells->eO,bindArgs->eT,letOwnedTupleGo->e9,codeAny_mono->ft,tupleKind->fy,swapsWith->fA,Paired->fB,newFunctionEnv->fI,firstArgMember->fK,wpAny_binaryOp_repeat_ref->fM,codeAny->fR,InCallC->fS,wpAny_letGo->fV,wpAny_dictEntries->fX,pyNext->f8,IsPart->gb,wpAny_comprehension_free->gd,plainId_quiet->gf,storeName->gm,noFill_tuple_add->gr,DictEntry->gz,builtinsNs->gD,assign->gE,name_of_addr->gG,getItem->gH,wpAny_typeOf->gJ,typeIs_int->gM,call_meets->gN,codeAny_compStart_list->gP,wpAny_execs_nil->gZ,codeAny_builtin->g6,wpAny_updateSeq->g8,wpAny_dictEpoch->g9,wpAny_storeName_local->hU,wpAny_isTrue_Compare1->hV,codeAny_call_function->hW,wpAny_storeName_cell->ig,wpAny_setField->iz,strIterType->iA,Keyword->iG,callerA->iH,seqItems?->iI,TriplesOk->iJ,valueAt->iK,wpAny_standAt->iR,swappedStores->iU,seq_tuple_add->iV,IsItemIterOut->iY,annotationsOf->iZ,wpAny_pyIter_tuple->i8,wpAny_rule->jd,holding->jj,wpAny_assign_Name->jl,concat_meets->jp,wpAny_sequenceKey->jq,seqIndex_neg->jr,slot_list_getitem->js,notedBy->jt,call_meetsIn->jv,wpAny_pyIter_slot->jw,seqSlot_of->jI,wpAny_Dict_empty->jJ,seqIndex_of->jM,keywordEach->jN,wpAny_of_eq->jO,BindsTo->jW,Builtin->jY,call->jZ,wpAny_Name->j0,pyIter->j1,wpAny_call->j2,typeIs_str->j4,PlainAttrs->j5,defaultsOf->j8,qualnameIn->j9,lastMarks->kz,Within->kC
open List renaming getElem?_eq_some_iff->ac,getElem?_eq_getElem->ag,size_toArray->ar,length_map->au,mem_cons_of_mem->az,length_append->aB,getElem?_map->aC,mem_cons->aE,mem_cons_self->aG,replicate->aH,getElem?_append_left->aK,mem_of_getElem?->aM,mem_map->aN,map_cons->aO,mem_map_of_mem->aP,mem_append->aQ,getElem?_set_ne->aR,mem_append_right->aS,mem_singleton->aU,getElem?_set_self->aV,length_cons->aW,all_eq_true->aX,getElem?_append_right->aY,length_set->a0,getD_eq_getElem?_getD->be,lookup_cons->bh,append_nil->bq,range->bz,mem_append_left->bE,replicate_succ->bI,length_eq_zero_iff->bK,filterMap_map->bN,nil_append->bO,length_take->bQ,cons_append->bS,filterMap_cons->bU,append_assoc->bV,map_nil->bZ,not_mem_nil->cc,mem_range->cf,getElem?_toArray->cG,getElem?_eq_none->cH,filterMap_eq_map->cI,find?_cons->cM,mem_iff_getElem->cQ,mem_filterMap->c5,set_set->db,nodup_cons->dh,foldl_cons->di,length_singleton->dv,flatten_cons->dA,map_map->dH,drop_eq_getElem_cons->dJ,take_append_getElem->dU,of_mem_zip->dW,length_nil->dX,reverse_cons->d9,drop_zero->eC,take_of_length_le->eD,set_getElem_self->eK,length_drop->eN,all_cons->eR,take_append_of_le_length->eZ,pairwise_append->e8,map_append->fg,getElem?_range->fm,pairwise_map->f6,any_cons->gh,getElem?_replicate->gq,take_length->gC,drop_eq_nil_of_le->gW,mem_filter->gY,set_append->hJ,length->io,forIn_nil->iu,filterMap->iy,mem_of_mem_drop->iB,mem_of_mem_take->iC,getElem?_of_mem->iE,length_pos_iff->iP,getElem?_take->jg,pairwise_cons->ji,length_range->jA,any_eq_true->jG,getElem_mem->jL,forIn_cons->jR,foldl->j6,take_zero->kh,lookup->kK
open PySem.W renaming Frag->ae,tabIn->bp,kia_one->bH,kla_fn->bW,CodeHd->bX,keepIn->cu,fnX->cA,kitOne->cE,fnOf->c6,envX->c7,OpenLaw->dg,mg_of->dt,tabObj->em,nsIn->eG,codeIn->fG,methodObj->fO,cellsFrom_some->gF,instObj->gX,lookIn->ii,findIn->ik,kitx_tuple->i9,callWith_K->ja,kitx_list->jm,kitx_dict->jn,plainGet->jC,codeHdIn->jH,TabsAt->ke,noTabs->kg,WalkO->kn
open PySem.Heap renaming get?_push_of_some->ai,lt_size->ay,get?_push_size->aA,get?_update_other->bR,SameBut->cg,size_push->ci,get?_update_self->du,ExtBut->iw
open Bool renaming and_eq_true->aj,false_ne_true->aJ,false_eq_true->bG,or_eq_true->bP,not_eq_true'->eF,or_eq_false_iff->eW,eq_iff_iff->fh,and_true->gi,true_and->gj,and_eq_true_iff->ie,not_true->iX,false_or->kq
open Nat renaming le_refl->ak,le_trans->am,lt_of_lt_of_le->ao,ne_of_lt->av,lt_irrefl->bw,ne_of_gt->cN,zero_le->cO,le_succ->dD,le_of_lt->dF,lt_trans->eh,lt_succ_self->eP,le_of_succ_le->fT,lt_succ_of_lt->fU,lt_trichotomy->fY,add_comm->gO,zero_add->gR,pow_le_pow_right->iD,lt_or_ge->jx,le_of_not_lt->jF,mul_add->jP,min_eq_left->jV,mul_comm->kD,sub_self->kE,add_zero->kG,pow_succ->kH,sub_zero->kI
open Option.some renaming inj->aw
open PyProof.Rows renaming slot_tuple_getitem->bu,kindOf->eM,callWith_type1->fq,AllBare->fQ,envOfC->f9,subscriptTail_builtinR->gK,entry_tuple_getitem->iL,Constant_none->iQ,tupleItemsOf_->iW,args_tuple_getitem->jb,IntsAre->jX,tail_any->j3
open PySem.Builtin.Str renaming strSliceIndices->bA,tooLong->km
open False renaming elim->bB
open Int renaming toNat_natCast->bD,le_refl->eV,mul_le_mul_of_nonneg_left->eY,toNat_of_nonneg->fj,fdiv_eq_ediv_of_nonneg->fD,one_mul->fZ,ofNat_lt->ju,sub_zero->jy,le_total->jz,zero_add->jB,natCast_mul->jS,le_antisymm->jT
open PySem.F renaming slot_dict_itemiterator_next->bF,plain_min_loop->cB,slot_tuple_iterator_next->cF,plainAttrs_list->cX,args_tuple_add_2->dP,slot_int_rmul->dZ,entry_tuple_add->d5,slot_tuple_add->d7,slot_list_extend->ed,slot_tuple_mul->et,args_dict_itemiterator_next_1->eI,slot_dict_get->eJ,entry_dict_itemiterator_next->eQ,slot_dict_itemiterator_iter->eX,args_tuple_iterator_next_1->fe,entry_tuple_iterator_next->fx,slot_dict_getitem->fN,type_list_extend->gk,entry_min_loop->gu,slot_tuple_rmul->gv,args_dict_get_3->gx,plainAttrs_dict->gy,slot_dict_items->gA,entry_dict_get->gS,slot_dict_items_iter->gT,slot_list_append->hX,args_int_rmul_2->ir,slot_int_index->iM,entry_int_rmul->iO,fills_int_mul->jc
open Ne renaming symm->bL
open PySem.Builtin.SmallTypes renaming nextOf->bT
open PySem.Str renaming ofString->cr
open PySem.Builtin.Slice renaming slicePlaces->cJ,sliceAdjust->dI,sliceApplied->fH,slicePartIndex->jQ,sliceFields->ki
open PySem.Builtin.Tuple renaming tupleExact->cT,tupleItemsOf->dC,tupleTooMany->fL,tupleIsExact->ka
open PySem.Builtin.List renaming listTooLong->cU
open Array renaming length_toList->cV,toList_append->dM,getElem?_toList->ic,append_assoc->i7,toList->jk
open List.Nodup renaming length_le_of_subset->cY
open PySem.Builtin.Dict_items renaming ownsTuple->dk,ownedTupleFields->dQ,ownedTupleIsFree->dR,pairFromOwner->eB,newIterator->jK,dictOf->kj
open Option renaming map_some->dm,isSome_some->fJ,isSome_map->fW,isSome_iff_exists->ga,map_eq_some_iff->gQ,isSome_none->je,getD_none->jE,map->kQ
open PySem.Paired renaming length->dN,snoc->kM
open Function renaming comp->dS
open PySem.Calls renaming callWith_builtin->d8,Name_function_global->fC,spliced_cons->fF,evalArgs_plain->iq,spliced_nil->jo
open PySem.Around renaming under_plainId->eU,frames_deeper->ip
open PySem.Txt renaming slice->fc
open PySem.Heap.SameBut renaming update->fi
open PySem.Builtin.Builtins renaming bindParams->fw
open PySem.W.OpenLaw renaming wellSaid->f7
open Classical renaming propDecidable->gB
open PySem.Obj renaming mapSeq->gL,data_mapFields->jf
open PySem.SeqAt renaming EqAt->gU,RcNeAt->kF,RcAt->kP
open PySem.SeqAt.EqAt renaming same->hG,int_str->i5,str_int->i6,of_refs->jh
open PySem.Builtin.Dict renaming showsAll->hZ
open Prod.mk renaming injEq->i4
open PyProof.Rows.IsTup renaming new->jD
open PySem.PassesOwn renaming never->jU
open PySem.Walks renaming list->j7
open PySem.Value renaming isStrOf->ko,isInt->kJ
open PySem.CmpOf renaming ints_lt->kr
open PySem.Shared renaming TypeIs->kt
open List.Pairwise renaming imp_of_mem->ku,filter->kN
open PySem.Builtin.Range renaming rangeSize->kx
open PySem.StrLaws renaming found_one->kA
open PySem.W.OpenRow renaming toRowW->kB
open PySem.Heap.Ns renaming new->kL
open PySem.Heap.IsSliceOf renaming new->kO
noncomputable section
namespace L2
open PySem PySem.Spec PyProof.Rows
theorem head_of {l:dg}{q:aI}{loose:List Str}{H:PySem.W.Hook}{N:Nat}{d:DefRec}{h:List (Str×Expr)}
  (left:PySem.W.LeftO l.row.prog q loose (λ s=>PySem.W.xlAt q [] s&&PySem.W.recOk (PySem.W.RowW.records (kB l.row)) s) H.obs H.val N)
  (y:PySem.W.defOf q l.row.name=some (d,h)) (C:l.row.prog.theDef l.row.name=some (d.params,d.body,d.scope)) (hk:PySem.W.kwWritten? d.params.kwonlyargs d.params.kw_defaults=some h) (z:(!l.row.writes||l.row.records.isEmpty)=true)
  (k1:l.row.wellSaid=true) (ok:(PySem.W.chainsOk q&&PySem.W.opensWell l.row.prog&&(PySem.W.frees l.row.toRowW&&l.row.within.isEmpty))=true) (hb:l.row.prog.bare) (hw:l.row.toRowW.promised)
  (call:kn q loose (PySem.W.XL q []) H.says l.row.toRowW d h λ f vs=>jZ f vs):l.row.Holds :=
 PySem.W.holds_open left H.of H.keeps (λ s e=>PySem.W.xl_of s (ie.mp e).1) PySem.W.XL.keeps y C hk (λ s e=>PySem.W.recFacts_of (ie.mp e).2) z k1 ok hb hw call
end L2
end
noncomputable section
namespace My
open PySem L2
noncomputable def nmS:Stmt->Bool
 | .Assign [.Name x _] _ _=>decide (x=("__name__":Str))
 | _=>false
noncomputable def vq:aI:={ PySem.Challenge.pw_leasttolls_k54_lesser with main:={ (PySem.Challenge.pw_leasttolls_k54_lesser).main with body:=(PySem.Challenge.pw_leasttolls_k54_lesser).main.body.filter λ s=>!nmS s } }
inductive IsL:dg->Prop|mk:IsL PySem.Challenge.rw_leasttolls_k54_lesser
theorem bL3 {l:dg}(h:IsL l):PySem.Challenge.rw_leasttolls_k54_lesser=l:=by cases h;rfl
noncomputable def lwp:{ l:dg // IsL l }:=by
 refine⟨?p,?h⟩
 case h =>
  have e:PySem.Challenge.rw_leasttolls_k54_lesser=?p:=by
   conv=>lhs;reduce
  exact e▸IsL.mk
theorem ws1:f7 lwp.1=true:=by k_qdec
theorem ws:f7 PySem.Challenge.rw_leasttolls_k54_lesser=true:=by
 rw[bL3 lwp.2];exact ws1
end My
end
section
open PySem PySem.W PyProof.Rows
local macro_rules | `(tactic| o_head $H) => `(tactic| refine L2.head_of (q := My.vq) (loose := []) (H := $H) (N := 4000) (λ w => by kernel_rfl) (by rfl) (by rfl) (by rfl) rfl (by assumption) (by decide +kernel) ⟨rfl, rfl, rfl, rfl, rfl, by decide +kernel⟩ ?_ ?_)
set_option maxRecDepth 100000 in
set_option maxHeartbeats 0 in
noncomputable def My.GT:{ G:Prop // G->PySem.Challenge.rw_leasttolls_k54_lesser.Holds }:=by
 refine⟨?G,?h⟩
 case h =>
  intro g
  w_on;refine holds_law My.ws λ said=>?_;k_head;(focus w_witness2)
  exact g
end
noncomputable section
namespace L2
open PySem PySem.Spec PyProof.Rows
noncomputable abbrev Key:=Sum Int Str
noncomputable def aK3:Key->Value->Bool
 | .inl k,v=>kJ k v
 | .inr x,v=>ko x v
noncomputable def bX2 (w:World):Key->Int
 | .inl k=>hashInt k
 | .inr x=>hashStr w x
theorem zv:∀ {k:Key} {v:Value},aK3 k v=true->(∃ i t,k=Sum.inl i/\v=Value.int i t)\/(∃ x t,k=Sum.inr x/\v=Value.str x t)
 | .inl i,v,h=>by
  obtain⟨t,e⟩:=Value.isInt_shape (k:=i) (v:=v) h
  exact .inl ⟨i,t,rfl,e⟩
 | .inr x,v,h=>by
  obtain⟨t,e⟩:=Value.isStrOf_shape (x:=x) (v:=v) h
  exact .inr ⟨x,t,rfl,e⟩
theorem aO9 (i:Int)(t:Tok):aK3 (.inl i) (.int i t)=true:=by simp[aK3,kJ]
theorem aV1 (x:Str)(t:Tok):aK3 (.inr x) (.str x t)=true:=by simp[aK3,ko]
theorem bK5 (a b:Int):decide ((Sum.inl a:Key)=Sum.inl b)=(a==b):=by
 by_cases e:a=b
 ·subst e;simp
 ·have h:¬(Sum.inl a:Key)=Sum.inl b:=λ q=>e (Sum.inl.inj q)
  rw[decide_eq_false h]
  exact(beq_eq_false_iff_ne.mpr e).symm
theorem bH5 (a b:Str):decide ((Sum.inr a:Key)=Sum.inr b)=decide (a=b):=by
 by_cases e:a=b
 ·subst e;simp
 ·have h:¬(Sum.inr a:Key)=Sum.inr b:=λ q=>e (Sum.inr.inj q)
  rw[decide_eq_false h,decide_eq_false e]
theorem bG3 (a:Int)(b:Str):decide ((Sum.inl a:Key)=Sum.inr b)=false:=decide_eq_false (λ q=>nomatch q)
theorem bE1 (a:Str)(b:Int):decide ((Sum.inr a:Key)=Sum.inl b)=false:=decide_eq_false (λ q=>nomatch q)
noncomputable def zx (prog:aI)(w:World):PySem.KeyKind prog w Key where
 is:=aK3
 hash:=bX2 w
 inj:=λ v a b ha hb=>by
  rcases zv ha with⟨i,t,rfl,rfl⟩|⟨x,t,rfl,rfl⟩
  ·rcases zv hb with⟨j,u,rfl,e⟩|⟨y,u,rfl,e⟩
   ·injection e with e1 _;rw[e1]
   ·exact nomatch e
  ·rcases zv hb with⟨j,u,rfl,e⟩|⟨y,u,rfl,e⟩
   ·exact nomatch e
   ·injection e with e1 _;rw[e1]
 byValue:=λ k v h=>by
  rcases zv h with⟨i,t,rfl,rfl⟩|⟨x,t,rfl,rfl⟩<;>rfl
 pyHash:=λ hv h=>by
  rcases zv hv with⟨i,t,rfl,rfl⟩|⟨x,t,rfl,rfl⟩
  ·exact wpAny_pyHash_int h
  ·exact wpAny_pyHash_str h
 eqBool:=λ hu hv h=>by
  rcases zv hu with⟨i,t,rfl,rfl⟩|⟨x,t,rfl,rfl⟩
  ·rcases zv hv with⟨j,u,rfl,rfl⟩|⟨y,u,rfl,rfl⟩
   ·rw[bK5]at h;exact wpAny_eqBool_int h
   ·rw[bG3]at h;exact i5 i t y u _ _ _ _ h
  ·rcases zv hv with⟨j,u,rfl,rfl⟩|⟨y,u,rfl,rfl⟩
   ·rw[bE1]at h;exact i6 x t j u _ _ _ _ h
   ·rw[bH5]at h;exact wpAny_eqBool_str h
 «strs»:=λ k x t v h=>by
  rcases zv h with⟨i,u,rfl,e⟩|⟨y,u,rfl,e⟩
  ·exact nomatch e
  ·injection e with e1 _
   subst e1
   cases v<;>rfl
theorem aD7 (prog:aI)(w:World)(i:Int)(t:Tok):(zx prog w).is (.inl i) (.int i t)=true:=aO9 i t
theorem aE3 (prog:aI)(w:World)(x:Str)(t:Tok):(zx prog w).is (.inr x) (.str x t)=true:=aV1 x t
inductive V where
 | non|bl (b:Bool)|int (i:Int)|str (x:Str)|byt (b:Array UInt8)|flt (b:UInt64)|ref (a:Addr)|ty (n:String)
 deriving DecidableEq
noncomputable def RelV:V->Value->Prop
 | .non,u=>u=Value.none
 | .bl b,u=>u=Value.bool b
 | .int i,u=>∃ t,u=Value.int i t
 | .str x,u=>∃ t,u=Value.str x t
 | .byt b,u=>∃ t,u=Value.bytes b t
 | .flt b,u=>∃ t,u=Value.float b t
 | .ref a,u=>u=Value.ref a
 | .ty n,u=>u=Value.type n
abbrev Vals:List V->List Value->Prop:=fB RelV
theorem Vals.length {h:List V}{us:List Value}(r:Vals h us):h.length=us.length:=dN r
theorem Vals.get:∀ {h:List V} {us:List Value} {i:Nat} {x:V},Vals h us->h[i]?=some x->∃ u,us[i]?=some u/\RelV x u
 | _,_,_,_,.nil,e=>by simp at e
 | _,_,0,_,.cons r _,e=>by simp at e;subst e;exact⟨_,rfl,r⟩
 | _,_,i+1,x,.cons _ t,e=>by
  obtain⟨u,y,z⟩:=Vals.get (i:=i) (x:=x) t (by simpa using e)
  exact⟨u,by simpa using y,z⟩
theorem Vals.set {x:V}{u:Value}(r:RelV x u):∀ {h:List V} {us:List Value} (i:Nat),Vals h us->Vals (h.set i x) (us.set i u)
 | _,_,_,.nil=>.nil
 | _,_,0,.cons _ t=>.cons r t
 | _,_,i+1,.cons q t=>.cons q (Vals.set r i t)
theorem Vals.append:∀ {h ys:List V} {us ws:List Value},Vals h us->Vals ys ws->Vals (h++ys) (us++ws)
 | _,_,_,_,.nil,s=>s
 | _,_,_,_,.cons r t,s=>.cons r (Vals.append t s)
theorem Vals.take:∀ {h:List V} {us:List Value} (n:Nat),Vals h us->Vals (h.take n) (us.take n)
 | _,_,0,_=>.nil
 | _,_,_+1,.nil=>.nil
 | _,_,n+1,.cons r t=>.cons r (Vals.take n t)
theorem Vals.drop:∀ {h:List V} {us:List Value} (n:Nat),Vals h us->Vals (h.drop n) (us.drop n)
 | _,_,0,r=>r
 | _,_,_+1,.nil=>.nil
 | _,_,n+1,.cons _ t=>Vals.drop n t
noncomputable def aJ7:Option V->Option Value->Prop
 | some v,some u=>RelV v u
 | none,none=>True
 | _,_=>False
def KV {κ:Type}:List (κ×V)->List (κ×Value)->Prop:=fB λ(p:κ×V) (q:κ×Value)=>p.1=q.1/\RelV p.2 q.2
noncomputable def kV:Key->V
 | .inl i=>.int i
 | .inr x=>.str x
inductive HO where
 | lst (xs:List V)
 | tup (xs:List V)
 | dK (kvs:List (Key×V))|dT (kvs:List (List Key×V))
 | set (S:Int->Bool) (n:Nat)
 | ins (C dx:Addr) (fs:List (Str×V))
 | own (x:Addr)
 | xd (fs:List (Str×V))
 | met (f x:Addr)
 | rng (lo hi:Int)
 | frz (o:Obj) (u:HO)
 | tbl (ps:Array Value)
 | ext (φ:Heap->Prop)
noncomputable abbrev Hp:=Addr->Option HO
noncomputable def upd (H:Hp)(a:Addr)(o:HO):Hp:=λ b=>if b=a then some o else H b
theorem zb {H:Hp}{a:Addr}{o:HO}:upd H a o a=some o:=by unfold upd;rw[if_pos rfl]
theorem za {H:Hp}{a b:Addr}{o:HO}(h:b≠a):upd H a o b=H b:=by unfold upd;rw[if_neg h]
theorem bs2 {H:Hp}{a b:Addr}{o u:HO}(h:H a=some o)(h':H b=some u)(d:o≠u):a≠b:=by
 intro e;subst e;rw[h]at h';exact d (aw h')
theorem zn {H:Hp}{a b:Addr}{o:HO}(h:H a=some o)(h':H b=none):a≠b:=by
 intro e;subst e;rw[h]at h';cases h'
section
variable (P:aI) (w:World)
noncomputable def ab2 (H:Hp)(h:Heap)(a:Addr):HO->Prop
 | .lst xs=>xs.length<=aF/\∃(its:List Value) (n:Nat),Vals xs its/\h.get? a=some { cls:=.type "list",data:=.seq its.toArray n }
 | .tup xs=>xs.length<=aF/\∃ its:List Value,Vals xs its/\IsTup h a its.toArray
 | .dK kvs=>kvs.length<=aF/\(a==cx)=false/\∃ vs,KV kvs vs/\h.DictOf (zx P w) a vs
 | .dT kvs=>kvs.length<=aF/\(a==cx)=false/\∃ xs:List (List Key×Addr×Value),
   fB (λ(p:List Key×V) (q:List Key×Addr×Value)=>p.1=q.1/\H q.2.1=some (.tup (p.1.map kV))/\RelV p.2 q.2.2) kvs xs /\
   ∃ o es ep,h.get? a=some o/\o.ExactDict/\o.data=.dict es ep/\es.toList=xs.map (entryOfKey (fy (zx P w)))/\(xs.map (·.1)).Nodup
 | .set S n=>h.SetOf (intKind P w) a S n
 | .ins C dx fs=>H dx=some (.own a)/\fs.length<=1000/\dx≠a/\h.get? a=some (gX C dx) /\
   ∃ mA,h.Ns1 dx mA/\(∀ f,aJ7 (fs.lookup f) (mA f))/\kC mA (fs.map (·.1))
 | .own _=>∃ o,h.get? a=some o
 | .xd fs=>∃ mA,h.Ns1 a mA/\∀ f,aJ7 (fs.lookup f) (mA f)
 | .rng lo hi=>∃ t u v,h.get? a=some { cls:=.type "range",data:=.fields #[.int lo t,.int hi u,.int 1 v] }
 | .frz o u=>h.get? a=some o/\ab2 H h a u
 | .tbl ps=>h.get? a=some { cls:=.none,data:=.fields ps }
 | .met f x=>h.get? a=some (fO (.ref f) (.ref x))
 | .ext φ=>φ h/\(∃ o,h.get? a=some o)/\∀ h1 h2:Heap,φ h1->(∀ o,h1.get? a=some o->h2.get? a=some o)->φ h2
def HOk (H:Hp)(h:Heap):Prop:=∀ a o,H a=some o->ab2 P w H h a o
end
section
variable {P:aI} {w:World} {H H':Hp} {h h':Heap} {a:Addr} {o:HO}
theorem ab2.lt (x:ab2 P w H h a o):a<h.objs.size:=by
 cases o with
 | lst xs=>obtain⟨_,_,_,_,e⟩:=x;exact ay e
 | tup xs=>obtain⟨_,_,_,p⟩:=x;exact p.lt
 | dK kvs=>obtain⟨_,_,_,_,o,_,_,e,_⟩:=x;exact ay e
 | dT kvs=>obtain⟨_,_,_,_,o,_,_,e,_⟩:=x;exact ay e
 | set S n=>obtain⟨o,_,_,_,e,_⟩:=x;exact ay e
 | ins C dx fs=>obtain⟨_,_,_,e,_⟩:=x;exact ay e
 | own y=>obtain⟨_,e⟩:=x;exact ay e
 | xd fs=>obtain⟨_,⟨_,_,_,e,_⟩,_⟩:=x;exact ay e
 | rng lo hi=>obtain⟨_,_,_,e⟩:=x;exact ay e
 | frz ob u=>obtain⟨e,_⟩:=x;exact ay e
 | tbl ps=>exact ay (show h.get? a=some _ from x)
 | met f y=>exact ay (show h.get? a=some _ from x)
 | ext φ=>obtain⟨_,⟨_,e⟩,_⟩:=x;exact ay e
theorem fB.mapP {α β:Type}{F G:α->β->Prop}:∀ {h:List α} {l₂:List β},fB F h l₂->(∀ a b,F a b->G a b)->fB G h l₂
 | _,_,.nil,_=>.nil
 | _,_,.cons r t,f=>.cons (f _ _ r) (fB.mapP t f)
theorem ab2.stay (x:ab2 P w H h a o)(k:∀ b u,(b=a\/H b=some (.own a))->h.get? b=some u->h'.get? b=some u)
  (ho:∀ b,H b=some (.own a)->H' b=some (.own a)) (Y:∀ b G,H b=some (.tup G)->H' b=some (.tup G)):ab2 P w H' h' a o:=by
 induction o with
 | lst G=>obtain⟨z,its,n,r,e⟩:=x;exact⟨z,its,n,r,k _ _ (.inl rfl) e⟩
 | tup G=>obtain⟨z,its,r,ob,e,c⟩:=x;exact⟨z,its,r,ob,k _ _ (.inl rfl) e,c⟩
 | dK kvs=>obtain⟨z,y,vs,r,ob,es,F,e,c⟩:=x;exact⟨z,y,vs,r,ob,es,F,k _ _ (.inl rfl) e,c⟩
 | dT kvs =>
  obtain⟨z,y,G,r,ob,es,F,e,c⟩:=x
  exact⟨z,y,G,fB.mapP r λ p q z=>⟨z.1,Y _ _ z.2.1,z.2.2⟩,ob,es,F,k _ _ (.inl rfl) e,c⟩
 | set S n=>obtain⟨ob,es,F,t,e,c⟩:=x;exact⟨ob,es,F,t,k _ _ (.inl rfl) e,c⟩
 | ins C dx fs =>
  obtain⟨d,z,ne,e,J,⟨od,es,F,e2,c⟩,r⟩:=x
  exact⟨ho _ d,z,ne,k _ _ (.inl rfl) e,J,⟨od,es,F,k _ _ (.inr d) e2,c⟩,r⟩
 | own y=>obtain⟨ob,e⟩:=x;exact⟨ob,k _ _ (.inl rfl) e⟩
 | xd fs=>obtain⟨J,⟨od,es,F,e,c⟩,r⟩:=x;exact⟨J,⟨od,es,F,k _ _ (.inl rfl) e,c⟩,r⟩
 | rng lo hi=>obtain⟨t,u,v,e⟩:=x;exact⟨t,u,v,k _ _ (.inl rfl) e⟩
 | frz ob u ih=>obtain⟨e,q⟩:=x;exact⟨k _ _ (.inl rfl) e,ih q⟩
 | tbl ps =>
  have e:h.get? a=some { cls:=.none,data:=.fields ps }:=x
  show h'.get? a=some { cls:=.none,data:=.fields ps }
  exact k a _ (.inl rfl) e
 | met f y =>
  have e:h.get? a=some (fO (.ref f) (.ref y)):=x
  show h'.get? a=some (fO (.ref f) (.ref y))
  exact k a _ (.inl rfl) e
 | ext φ=>obtain⟨p,⟨o,e⟩,st⟩:=x;exact⟨st _ _ p λ o q=>k _ _ (.inl rfl) q,⟨o,k _ _ (.inl rfl) e⟩,st⟩
theorem HOk.lt (x:HOk P w H h)(e:H a=some o):a<h.objs.size:=(x a o e).lt
theorem HOk.fresh (x:HOk P w H h)(e:h.objs.size<=a):H a=none:=by
 cases q:H a with
 | none=>rfl
 | some u=>exact absurd (ao (x.lt q) e) (bw _)
theorem HOk.kept (x:HOk P w H h)(k:∀ b u,h.get? b=some u->h'.get? b=some u):HOk P w H h':=λ a o e =>
 (x a o e).stay (λ b u _ q=>k b u q) (λ _ q=>q) λ _ _ q=>q
theorem HOk.laid (x:HOk P w H h)(k:∀ b u,h.get? b=some u->h'.get? b=some u)(y:h.objs.size<=a)(new:ab2 P w (upd H a o) h' a o):HOk P w (upd H a o) h':=λ b u e=>by
 have hn:=x.fresh y
 by_cases hb:b=a
 ·subst hb;rw[zb]at e;cases e;exact new
 ·rw[za hb]at e
  exact(x b u e).stay (λ c v _ q=>k c v q) (λ c q=>by rw[za (zn q hn)];exact q) λ c z q=>by rw[za (zn q hn)];exact q
end
def Rd (H:Hp)(a:Addr)(u:HO):Prop:=H a=some u\/∃ o,H a=some (.frz o u)
theorem Rd.ok {P:aI}{w:World}{H:Hp}{h:Heap}{a:Addr}{u:HO}(r:Rd H a u)(x:HOk P w H h):ab2 P w H h a u:=by
 rcases r with r|⟨o,r⟩
 ·exact x a u r
 ·obtain⟨_,q⟩:=x a _ r
  exact q
noncomputable def Mut:Option HO->Prop
 | some (.lst _)=>True
 | some (.dK _)=>True
 | some (.dT _)=>True
 | some (.set _ _)=>True
 | some (.ins _ _ _)=>True
 | some (.ext _)=>True
 | _=>False
section
variable {P:aI} {w:World} {H:Hp} {h h':Heap} {x e:Addr} {o':HO}
theorem HOk.write (ok:HOk P w H h)(mu:Mut (H x))(Y:e=x\/H e=some (.own x))(k:∀ b u,b≠e->h.get? b=some u->h'.get? b=some u)(J:∃ u,h'.get? e=some u)
  (new:ab2 P w (upd H x o') h' x o'):HOk P w (upd H x o') h':=λ b u q=>by
 have C:∀ c y,H c=some (.own y)->c≠x:=λ c y r z=>by subst z;rw[r]at mu;exact mu
 have F:∀ c G,H c=some (.tup G)->c≠x:=λ c G r z=>by subst z;rw[r]at mu;exact mu
 by_cases hb:b=x
 ·subst hb;rw[zb]at q;cases q;exact new
 ·rw[za hb]at q
  by_cases hbe:b=e
  ·have Z:H b=some (.own x):=by
    rcases Y with z|z
    ·exact absurd (hbe.trans z) hb
    ·rw[hbe];exact z
   rw[q]at Z;cases Z
   obtain⟨v,hv⟩:=J
   exact⟨v,by rw[hbe];exact hv⟩
  ·refine(ok b u q).stay (λ c v hc r=>k c v ?_ r) (λ c r=>by rw[za (C c b r)];exact r) λ c G r=>by rw[za (F c G r)];exact r
   rcases hc with rfl|hc
   ·exact hbe
   ·rintro rfl
    rcases Y with z|z
    ·exact C c b hc z
    ·rw[hc]at z;cases z;exact hb rfl
end
structure Un (fs ex:List Addr)(H H':Hp)(h h':Heap):Prop where
 keep:∀ b o,h.get? b=some o->H b=none->b ∉ fs->b ∉ ex->h'.get? b=some o
 slot:∀ b o,h.get? b=some o->H b=none->b∈fs->b ∉ ex->∃ sl,h'.get? b=some { o with slots:=sl }
 free:∀ b o,h.get? b=some o->H b=none->b ∉ ex->H' b=none
 there:∀ b o,h.get? b=some o->b ∉ ex->∃ o',h'.get? b=some o'
 tups:∀ b xs,H b=some (.tup xs)->H' b=some (.tup xs)
 frzs:∀ b o u,H b=some (.frz o u)->H' b=some (.frz o u)
 tbls:∀ b ps,H b=some (.tbl ps)->∃ more,H' b=some (.tbl (ps++more))
section
variable {fs fs' ex ex':List Addr} {H H1 H2:Hp} {h h1 h2 h':Heap} {a x e:Addr} {o:HO}
theorem Un.any (u:Un fs ex H H1 h h1){b:Addr}{ob:Obj}(q:h.get? b=some ob)(n:H b=none)(hx:b ∉ ex):∃ sl,h1.get? b=some { ob with slots:=sl }:=by
 by_cases hb:b∈fs
 ·exact u.slot b ob q n hb hx
 ·exact⟨ob.slots,u.keep b ob q n hb hx⟩
theorem Un.kept (k:∀ b u,h.get? b=some u->h'.get? b=some u):Un fs ex H H h h' :=
 ⟨λ b ob q _ _ _=>k b ob q,λ b ob q _ _ _=>⟨ob.slots,k b ob q⟩,λ _ _ _ n _=>n,λ b ob q _=>⟨ob,k b ob q⟩,λ _ _ q=>q,λ _ _ _ q=>q,λ _ ps q=>⟨#[],by rw[q];simp⟩⟩
theorem Un.refl:Un fs ex H H h h:=Un.kept λ _ _ q=>q
theorem Un.laid (k:∀ b u,h.get? b=some u->h'.get? b=some u)(z:h.objs.size<=a)(hn:H a=none):Un fs ex H (upd H a o) h h' where
 keep:=λ b u q _ _ _=>k b u q
 slot:=λ b u q _ _ _=>⟨u.slots,k b u q⟩
 free:=λ b u q n _=>by rw[za (av (ao (ay q) z))];exact n
 there:=λ b u q _=>⟨u,k b u q⟩
 tups:=λ b y q=>by rw[za (zn q hn)];exact q
 frzs:=λ b u y q=>by rw[za (zn q hn)];exact q
 tbls:=λ b ps q=>⟨#[],by rw[za (zn q hn),q];simp⟩
theorem Un.write (mu:Mut (H x))(J:e=x\/H e=some (.own x))(k:∀ b u,b≠e->h.get? b=some u->h'.get? b=some u)(y:∃ u,h'.get? e=some u):Un fs ex H (upd H x o) h h':=by
 have hx:∀ b,H b=none->b≠x:=λ b n z=>by subst z;rw[n]at mu;exact mu
 have hb:∀ b,H b=none->b≠e:=λ b n z=>by
  subst z
  rcases J with r|r
  ·exact hx b n r
  ·rw[n]at r;cases r
 have C:∀ b u,H b=some u->¬ Mut (some u)->b≠x:=λ b u q G z=>by subst z;rw[q]at mu;exact G mu
 refine⟨λ b u q n _ _=>k b u (hb b n) q,λ b u q n _ _=>⟨u.slots,k b u (hb b n) q⟩,λ b u q n _=>by rw[za (hx b n)];exact n,λ b u q _=>?_,
  λ b F q=>by rw[za (C b _ q λ z=>z)];exact q,λ b u F q=>by rw[za (C b _ q λ z=>z)];exact q,λ b ps q=>⟨#[],by rw[za (C b _ q λ z=>z),q];simp⟩⟩
 by_cases hbe:b=e
 ·subst hbe;exact y
 ·exact⟨u,k b u hbe q⟩
end
noncomputable def trk (h:Heap)(H:Hp):List Addr:=(bz h.objs.size).filter λ a=>(H a).isSome
noncomputable def aX2 (h:Heap)(H:Hp):Heap:=PySem.W.hideAll h (trk h H)
theorem aR7 (h:Heap)(H:Hp):(aX2 h H).objs.size=h.objs.size:=PySem.W.hideAll_size _ _
theorem ai7 {h:Heap}{H:Hp}{b:Addr}{o:Obj}(e:h.get? b=some o)(n:H b=none):(aX2 h H).get? b=some o :=
 PySem.W.hideAll_get _ e λ y=>by
  have q:(H b).isSome=true:=(gY.mp y).2
  rw[n]at q;simp at q
theorem bw2 {h:Heap}{H:Hp}{b:Addr}{o:Obj}(e:(aX2 h H).get? b=some o):h.get? b=some o/\H b=none:=by
 have e':h.get? b=some o:=PySem.W.of_hideAll (trk h H) e
 refine⟨e',?_⟩
 cases q:H b with
 | none=>rfl
 | some x =>
  have y:b∈trk h H:=gY.mpr ⟨cf.mpr (ay e'),by simp[q]⟩
  have z:(aX2 h H).get? b=none:=PySem.W.hideAll_none (trk h H) y
  rw[z]at e;cases e
noncomputable def bp9 (g h:Heap)(L:Addr):List (Addr×Obj):=(bz h.objs.size).filterMap λ a=>if a=L\/(g.get? a).isSome=true then none else(h.get? a).map λ o=>(a,o)
noncomputable def rest (g h:Heap)(L d:Addr):List (Addr×Obj):=(bp9 g h L).filter λ p=>decide (p.1≠d)
structure Mod (K:ae)(mg:Str->Option Value)(base:Heap):Prop where
 kin:K.In base
 glob:base.Ns bv mg
 blt:∃ mb,base.Ns gD mb/\∀ x:Str,x ≠ "__name__"->mb x=bo x
 nolimit:base.NoLimit
structure Cx where
 prog:aI
 w:World
 K:ae
 mg:Str->Option Value
 base:Heap
 A:aZ
 N:List Str
 s₀:af
 H₀:Hp
 env:Env
 outer:List Env
 stack:List Env
 ex:List Addr
 fn:Str->Bool
 calm:Bool
 pn:List (Addr×Obj)
 xe:Value->af->Prop
noncomputable def frs (l:List Env):List Addr:=l.filterMap (·.frame)
noncomputable abbrev Cx.fs (X:Cx):List Addr:=frs X.outer
def Vis (sc:Scope)(x:Str):Prop:=sc.names.lookup x=some .local\/sc.names.lookup x=some .cell\/sc.names.lookup x=some .free
def Loc (sc:Scope)(x:Str):Prop:=sc.names.lookup x=some .local\/sc.names.lookup x=some .cell
def Look (env:Env)(h:Heap)(m:Str->Option Value)(x:Str)(u:Value):Prop :=
 (env.kindOf x=some .local/\m x=some u)\/((env.kindOf x=some .cell\/env.kindOf x=some .free)/\∃ c,env.cells.lookup x=some c/\h.IsCell c (some u))
structure Cx.Ok (X:Cx):Prop where
 mod:Mod X.K X.mg X.base
 kind:X.env.scope.kind=.function
 glob:X.env.globals=bv
 blt:X.env.builtins=gD
 above:X.s₀.heap.objs.size<=X.env.locals
 inj:∀ x y c,X.env.cells.lookup x=some c->X.env.cells.lookup y=some c->x=y
 has:∀ x,(X.env.kindOf x=some .cell\/X.env.kindOf x=some .free)->∃ c,X.env.cells.lookup x=some c
 cab:∀ x c,X.fn x=true->X.env.cells.lookup x=some c->X.s₀.heap.objs.size<=c
 hd:X.calm=true->X.A.handled=none
 frames:X.A.frames=some X.stack
 stk:X.stack=X.outer\/(X.stack=X.env::X.outer/\X.env.frame=some X.env.locals)
 exf:∀ b∈X.ex,b≠X.env.locals/\∀ x c,X.env.cells.lookup x=some c->c≠b
 bs:∀ b o,X.base.get? b=some o->X.s₀.heap.get? b=some o/\X.H₀ b=none
 bsz:X.base.objs.size<=X.s₀.heap.objs.size
 noex:∀ b o,X.base.get? b=some o->b ∉ X.ex
 exfs:∀ b∈X.ex,b ∉ X.fs
 funs:X.s₀.heap.FunFrames X.base X.outer
 frf:∀ b∈X.fs,X.H₀ b=none
structure Inv (X:Cx)(pins:List (Addr×Obj))(σ:List (Option V))(H:Hp)(s:af):Prop where
 ok:X.Ok
 os:s.os=X.s₀.os
 bare:fQ s.gens
 base:Un X.fs X.ex X.H₀ H X.s₀.heap s.heap
 loc:∃ m,s.heap.Ns X.env.locals m/\∀(i:Nat) (x:Str) (v:V),X.N[i]?=some x->σ[i]?=some (some v)->Vis X.env.scope x->∃ u,RelV v u/\Look X.env s.heap m x u
 cell:∀ x c,X.env.cells.lookup x=some c->∃ v,s.heap.IsCell c v
 free:H X.env.locals=none
 freeC:∀ x c,X.env.cells.lookup x=some c->H c=none
 pin:∀ p∈X.pn++pins,s.heap.get? p.1=some p.2/\H p.1=none/\p.1≠X.env.locals/\p.1 ∉ X.fs/\∀ v,p.2.data≠.cell v
 hok:HOk X.prog X.w H s.heap
 len:σ.length=X.N.length
section
variable {X:Cx} {pins:List (Addr×Obj)} {σ:List (Option V)} {H H':Hp} {s:af} {h':Heap}
theorem Cx.Ok.nofr (ok:X.Ok){b:Addr}{o:Obj}(e:X.base.get? b=some o):b ∉ X.fs:=λ hb=>by
 have:=(ok.funs.mem hb).1
 rw[e]at this;cases this
theorem Inv.bs (I:Inv X pins σ H s):∀ b o,X.base.get? b=some o->s.heap.get? b=some o/\H b=none:=λ b o e =>
 ⟨I.base.keep b o (I.ok.bs b o e).1 (I.ok.bs b o e).2 (I.ok.nofr e) (I.ok.noex b o e),I.base.free b o (I.ok.bs b o e).1 (I.ok.bs b o e).2 (I.ok.noex b o e)⟩
theorem Inv.bk (I:Inv X pins σ H s):∀ b o,X.base.get? b=some o->s.heap.get? b=some o:=λ b o e=>(I.bs b o e).1
theorem Inv.mod (I:Inv X pins σ H s):Mod X.K X.mg X.base:=I.ok.mod
theorem Inv.kIn (I:Inv X pins σ H s):X.K.In s.heap:=I.ok.mod.kin.keeps I.bk
theorem Inv.lt (I:Inv X pins σ H s):X.env.locals<s.heap.objs.size:=let⟨_,hn,_⟩:=I.loc;hn.lt
theorem Inv.sz (I:Inv X pins σ H s):X.s₀.heap.objs.size<=s.heap.objs.size:=am I.ok.above (dF I.lt)
theorem Inv.nofs (I:Inv X pins σ H s){a:Addr}(h:s.heap.objs.size<=a):a ∉ X.fs:=λ hb=>by
 obtain⟨_,o,ho,_⟩:=I.ok.funs.mem hb
 exact absurd (ao (ay ho) (am I.sz h)) (bw _)
theorem Inv.cne (I:Inv X pins σ H s):∀ x c,X.env.cells.lookup x=some c->c≠X.env.locals:=λ x c e z=>by
 obtain⟨v,o,ho,hd⟩:=I.cell x c e
 obtain⟨m,⟨C,es,F,h,y,_⟩,_⟩:=I.loc
 rw[z,h]at ho;cases ho;rw[y]at hd;cases hd
theorem Inv.funs (I:Inv X pins σ H s):s.heap.FunFrames X.base X.outer:=by
 have all:∀(l:List Env),(∀ b∈frs l,b∈X.fs)->X.s₀.heap.FunFrames X.base l->s.heap.FunFrames X.base l:=by
  intro l
  induction l with
  | nil=>intro _ _;trivial
  | cons env r ih =>
   intro hs hl
   obtain⟨hk,⟨L,o,y,hn,ho,hd⟩,hr⟩:=hl
   have h:L∈X.fs:=hs L (by unfold frs;rw[bU,y];exact aG)
   obtain⟨sl,e⟩:=I.base.slot L o ho (I.ok.frf L h) h λ z=>I.ok.exfs L z h
   exact⟨hk,⟨L,_,y,hn,e,hd⟩,ih (λ b hb=>hs b (by unfold frs;rw[bU,y];exact az _ hb)) hr⟩
 exact all X.outer (λ _ hb=>hb) I.ok.funs
theorem Inv.stack (I:Inv X pins σ H s):s.heap.FunFrames X.base X.stack:=by
 rcases I.ok.stk with e|⟨e,h⟩
 ·rw[e];exact I.funs
 ·rw[e]
  obtain⟨m,hn,_⟩:=I.loc
  refine .cons (by rw[I.ok.kind];decide) h hn ?_ I.funs
  exact Heap.get?_none_of_le (am I.ok.bsz I.ok.above)
theorem Inv.stkSub (I:Inv X pins σ H s):∀ b∈frs X.stack,b∈X.env.locals::X.fs:=λ b hb=>by
 rcases I.ok.stk with e|⟨e,h⟩
 ·rw[e]at hb;exact az _ hb
 ·rw[e]at hb
  unfold frs at hb
  rw[bU,h]at hb
  exact hb
theorem Inv.stkFree (I:Inv X pins σ H s):∀ b∈frs X.stack,H b=none:=λ b hb=>by
 rcases aE.mp (I.stkSub b hb)with e|hb
 ·rw[e];exact I.free
 ·obtain⟨_,o,ho,_⟩:=I.ok.funs.mem hb
  exact I.base.free b o ho (I.ok.frf b hb) λ z=>I.ok.exfs b z hb
theorem Inv.step {g':Array GenState}{t':Nat}{d':Drawn}{ch:List Addr}(I:Inv X pins σ H s)
  (C:∀ b∈ch,(b∈X.ex\/X.s₀.heap.objs.size<=b)/\b≠X.env.locals/\(∀ x c,X.env.cells.lookup x=some c->c≠b)/\∀ p∈X.pn++pins,p.1≠b)
  (keep:∀ b o,b≠X.env.locals->b ∉ X.fs->b ∉ ch->s.heap.get? b=some o->H b=none->h'.get? b=some o)
  (slot:∀ b o,b≠X.env.locals->b∈X.fs->b ∉ ch->s.heap.get? b=some o->H b=none->∃ sl,h'.get? b=some { o with slots:=sl }) (free:∀ b o,b ∉ ch->s.heap.get? b=some o->H b=none->H' b=none)
  (there:∀ b o,b ∉ ch->s.heap.get? b=some o->∃ Z,h'.get? b=some Z)
  (tups:∀ b G,H b=some (.tup G)->H' b=some (.tup G)) (frzs:∀ b o u,H b=some (.frz o u)->H' b=some (.frz o u)) (tbls:∀ b ps,H b=some (.tbl ps)->∃ J,H' b=some (.tbl (ps++J)))
  (ns:∀ m,s.heap.Ns X.env.locals m->h'.Ns X.env.locals m) (hok:HOk X.prog X.w H' h') (hg:fQ g') :
  Inv X pins σ H' { s with heap:=h',gens:=g',drawn:=d',toks:=t' }:=by
 have Y:∀ b o,X.s₀.heap.get? b=some o->b≠X.env.locals:=λ b o e=>av (ao (ay e) I.ok.above)
 have F:∀ b o,X.s₀.heap.get? b=some o->b ∉ X.ex->b ∉ ch:=λ b o e hx hb=>by
  rcases(C b hb).1 with z|z
  ·exact hx z
  ·exact absurd (ao (ay e) z) (bw _)
 have h:∀ x c,X.env.cells.lookup x=some c->∀ v,s.heap.IsCell c v->h'.IsCell c v:=λ x c e v ⟨o,ho,hd⟩=>by
  have y:c ∉ ch:=λ z=>(C c z).2.2.1 x c e rfl
  by_cases hc:c∈X.fs
  ·obtain⟨sl,q⟩:=slot c o (I.cne x c e) hc y ho (I.freeC x c e)
   exact⟨_,q,hd⟩
  ·exact⟨o,keep c o (I.cne x c e) hc y ho (I.freeC x c e),hd⟩
 refine⟨I.ok,I.os,hg,⟨λ b o e n hb hx=>?_,λ b o e n hb hx=>?_,λ b o e n hx=>?_,λ b o e hx=>?_,λ b G e=>tups b G (I.base.tups b G e),λ b o G e=>frzs b o G (I.base.frzs b o G e),λ b ps e=>?_⟩,?_,λ x c e=>?_,?_,λ x c e=>?_,λ p hp=>?_,hok,I.len⟩
 ·exact keep b o (Y b o e) hb (F b o e hx) (I.base.keep b o e n hb hx) (I.base.free b o e n hx)
 ·obtain⟨sl,e1⟩:=I.base.slot b o e n hb hx
  obtain⟨a1,e2⟩:=slot b _ (Y b o e) hb (F b o e hx) e1 (I.base.free b o e n hx)
  exact⟨a1,e2⟩
 ·obtain⟨Z,e1⟩:=I.base.there b o e hx
  exact free b Z (F b o e hx) e1 (I.base.free b o e n hx)
 ·obtain⟨Z,e1⟩:=I.base.there b o e hx
  exact there b Z (F b o e hx) e1
 ·obtain⟨m1,e1⟩:=I.base.tbls b ps e
  obtain⟨m2,e2⟩:=tbls b _ e1
  exact⟨m1++m2,by rw[e2,i7]⟩
 ·obtain⟨m,hn,hl⟩:=I.loc
  refine⟨m,ns m hn,λ i x v e1 e2 e3=>?_⟩
  obtain⟨u,r,l⟩:=hl i x v e1 e2 e3
  refine⟨u,r,?_⟩
  rcases l with l|⟨k,c,e,z⟩
  ·exact .inl l
  ·exact .inr ⟨k,c,e,h x c e _ z⟩
 ·obtain⟨v,z⟩:=I.cell x c e
  exact⟨v,h x c e v z⟩
 ·obtain⟨m,⟨o,_,_,ho,_⟩,_⟩:=I.loc
  exact free _ o (λ z=>(C _ z).2.1 rfl) ho I.free
 ·obtain⟨v,o,ho,hd⟩:=I.cell x c e
  exact free c o (λ z=>(C c z).2.2.1 x c e rfl) ho (I.freeC x c e)
 ·obtain⟨e,n,ne,nf,d⟩:=I.pin p hp
  have y:p.1 ∉ ch:=λ z=>(C p.1 z).2.2.2 p hp rfl
  exact⟨keep p.1 p.2 ne nf y e n,free p.1 p.2 y e n,ne,nf,d⟩
theorem Inv.un {t':Nat}(I:Inv X pins σ H s)(u:Un X.fs [] H H' s.heap h')(hok:HOk X.prog X.w H' h'):Inv X pins σ H' { s with heap:=h',toks:=t' }:=by
 obtain⟨m,⟨o,es,Z,ho,r⟩,_⟩:=id I.loc
 obtain⟨sl,G⟩:=u.any ho I.free (by simp)
 exact I.step (g':=s.gens) (d':=s.drawn) (ch:=[]) (λ _ z=>nomatch z) (λ b o _ hb _ e n=>u.keep b o e n hb (by simp)) (λ b o _ hb _ e n=>u.slot b o e n hb (by simp)) (λ b o _ e n=>u.free b o e n (by simp)) (λ b o _ e=>u.there b o e (by simp)) u.tups u.frzs u.tbls (λ m' J=>by
  obtain⟨Y,y,C,h,F⟩:=J
  rw[ho]at h;cases h
  exact⟨_,y,C,G,F⟩) hok I.bare
theorem Inv.call {g':Array GenState}{t':Nat}{d':Drawn}{ch:List Addr}(I:Inv X pins σ H s)(u:Un (frs X.stack) ch H H' s.heap h')(hok:HOk X.prog X.w H' h')(hg:fQ g')
  (y:∀ b∈ch,(b∈X.ex\/X.s₀.heap.objs.size<=b)/\b≠X.env.locals/\(∀ x c,X.env.cells.lookup x=some c->c≠b)/\∀ p∈X.pn++pins,p.1≠b) :
  Inv X pins σ H' { s with heap:=h',gens:=g',drawn:=d',toks:=t' }:=by
 obtain⟨m,⟨o,es,ep,ho,r⟩,_⟩:=id I.loc
 obtain⟨sl,G⟩:=u.any ho I.free λ z=>(y _ z).2.1 rfl
 exact I.step (ch:=ch) y (λ b o G hb hc e n=>u.keep b o e n (λ z=>(aE.mp (I.stkSub b z)).elim G hb) hc) (λ b o _ _ hc e n=>u.any e n hc) (λ b o hc e n=>u.free b o e n hc) (λ b o hc e=>u.there b o e hc) u.tups u.frzs u.tbls (λ m' Y=>by
  obtain⟨Z,F,C,h,J⟩:=Y
  rw[ho]at h;cases h
  exact⟨_,F,C,G,J⟩) hok hg
theorem Inv.turned {t':Nat}{it:Addr}(I:Inv X pins σ H s)(k:∀ b o,b≠it->s.heap.get? b=some o->h'.get? b=some o)(hn:H it=none)(y:it≠X.env.locals)
  (C:it∈X.ex\/X.s₀.heap.objs.size<=it) (F:∀ x c,X.env.cells.lookup x=some c->c≠it) (h3:∀ p∈X.pn++pins,p.1≠it):Inv X pins σ H { s with heap:=h',toks:=t' }:=by
 have h:∀ b u,H b=some u->b≠it:=λ b u e z=>by rw[z,hn]at e;cases e
 refine I.step (g':=s.gens) (d':=s.drawn) (ch:=[it]) (λ b hb=>?_) (λ b o _ _ hc e _=>k b o (λ z=>hc (by simp[z])) e) (λ b o _ _ hc e _=>⟨o.slots,k b o (λ z=>hc (by simp[z])) e⟩) (λ _ _ _ _ n=>n)
  (λ b o hc e=>⟨o,k b o (λ z=>hc (by simp[z])) e⟩) (λ _ _ e=>e) (λ _ _ _ e=>e) (λ b ps e=>⟨#[],by rw[e];simp⟩) (λ m J=>?_) (λ b u e=>?_) I.bare
 ·have e:b=it:=by simpa using hb
  subst e
  exact⟨C,y,F,h3⟩
 ·obtain⟨o,es,G,ho,r⟩:=J
  exact⟨o,es,G,k _ o (bL y) ho,r⟩
 ·refine(I.hok b u e).stay (λ c v hc q=>k c v ?_ q) (λ _ q=>q) λ _ _ q=>q
  rcases hc with z|z
  ·rw[z];exact h b u e
  ·exact h c _ z
theorem Inv.tok (I:Inv X pins σ H s)(t:Nat):Inv X pins σ H { s with toks:=t }:=I.un (h':=s.heap) (t':=t) Un.refl I.hok
theorem Inv.kept {t':Nat}(I:Inv X pins σ H s)(k:∀ b u,s.heap.get? b=some u->h'.get? b=some u):Inv X pins σ H { s with heap:=h',toks:=t' }:=I.un (Un.kept k) (I.hok.kept k)
theorem Inv.laid {a:Addr}{o:HO}{t':Nat}(I:Inv X pins σ H s)(k:∀ b u,s.heap.get? b=some u->h'.get? b=some u)(h:s.heap.objs.size<=a)(new:ab2 X.prog X.w (upd H a o) h' a o) :
  Inv X pins σ (upd H a o) { s with heap:=h',toks:=t' }:=I.un (Un.laid k h (I.hok.fresh h)) (I.hok.laid k h new)
theorem Inv.write {x e:Addr}{o:HO}{t':Nat}(I:Inv X pins σ H s)(mu:Mut (H x))(y:e=x\/H e=some (.own x))(k:∀ b u,b≠e->s.heap.get? b=some u->h'.get? b=some u)(h:∃ u,h'.get? e=some u)
  (new:ab2 X.prog X.w (upd H x o) h' x o):Inv X pins σ (upd H x o) { s with heap:=h',toks:=t' }:=I.un (Un.write mu y k h) (I.hok.write mu y k h new)
theorem Inv.pins_of {y:List (Addr×Obj)}(I:Inv X pins σ H s)(h:∀ p∈y,s.heap.get? p.1=some p.2/\H p.1=none/\p.1≠X.env.locals/\p.1 ∉ X.fs/\∀ v,p.2.data≠.cell v):Inv X y σ H s :=
 ⟨I.ok,I.os,I.bare,I.base,I.loc,I.cell,I.free,I.freeC,λ p C=>(aQ.mp C).elim (λ z=>I.pin p (bE _ z)) (h p),I.hok,I.len⟩
theorem aF5 {N:List Str}(hN:N.Nodup){i j:Nat}{x:Str}(a:N[i]?=some x)(b:N[j]?=some x):i=j:=by
 obtain⟨h,e1⟩:=ac.mp a
 obtain⟨y,e2⟩:=ac.mp b
 exact(List.getElem_inj hN).mp (e1.trans e2.symm)
theorem ay8 {M:Model}{A:aZ}{E:Value->af->Prop}{i:Nat}{x:Str}{v:V}{u:Value}{Q:Unit->af->Prop}(I:Inv X pins σ H s)(hN:X.N.Nodup)(Y:X.N[i]?=some x)(hx:Loc X.env.scope x)(r:RelV v u)
  (h:∀ s',Inv X pins (σ.set i (some v)) H s'->(∃ a,cg a s.heap s'.heap/\(a=X.env.locals\/X.env.cells.lookup x=some a))->Q () s') (hf:X.fn x=true\/X.env.scope.names.lookup x=some .local:=by first|exact .inl rfl|exact .inr rfl|assumption):wpAny M A (gm X.env x u) Q E s:=by
 obtain⟨m,hn,hl⟩:=id I.loc
 have J:(X.env.scope.kind==.class||(X.env.scope.kind==.module&&X.env.locals != X.env.globals))=false:=by rw[I.ok.kind];rfl
 have a3:i < σ.length:=by rw[I.len];exact(ac.mp Y).1
 have cne:=I.cne
 have C:∀ {a:Addr} {h':Heap},(∃ o,s.heap.get? a=some o/\H a=none)->cg a s.heap h'->HOk X.prog X.w H h':=λ {a h'} ha hs b ob e=>by
  obtain⟨_,_,F⟩:=ha
  refine(I.hok b ob e).stay (λ c w' hc q=>(hs.2 c ?_).trans q) (λ _ q=>q) λ _ _ q=>q
  rintro rfl
  rcases hc with rfl|hc
  ·rw[F]at e;cases e
  ·rw[F]at hc;cases hc
 rcases hx with hk|hk
 ·refine hU hk hn (λ h' a4 hs=>?_) J
  obtain⟨oL,_,_,a5,_⟩:=id hn
  refine h _ ⟨I.ok,I.os,I.bare,⟨λ b o e n hb hx=>?_,λ b o e n hb hx=>?_,I.base.free,λ b o e hx=>?_,I.base.tups,I.base.frzs,I.base.tbls⟩,⟨_,a4,λ j y v' e1 e2 e3=>?_⟩,λ y c e=>?_,I.free,I.freeC,λ p hp=>?_,C ⟨oL,a5,I.free⟩ hs,by simpa using I.len⟩ ⟨_,hs,.inl rfl⟩
  ·exact(hs.2 b (av (ao (ay e) I.ok.above))).trans (I.base.keep b o e n hb hx)
  ·obtain⟨sl,e1⟩:=I.base.slot b o e n hb hx
   exact⟨sl,(hs.2 b (av (ao (ay e) I.ok.above))).trans e1⟩
  ·obtain⟨o',e1⟩:=I.base.there b o e hx
   exact⟨o',(hs.2 b (av (ao (ay e) I.ok.above))).trans e1⟩
  ·by_cases hj:j=i
   ·subst hj
    rw[Y]at e1;cases e1
    rw[aV a3]at e2
    cases e2
    exact⟨u,r,.inl ⟨hk,by simp⟩⟩
   ·rw[aR (bL hj)]at e2
    obtain⟨u',r',q⟩:=hl j y v' e1 e2 e3
    refine⟨u',r',?_⟩
    rcases q with⟨k,e⟩|⟨k,c,e,z⟩
    ·refine .inl ⟨k,?_⟩
     have:y≠x:=λ e=>hj (aF5 hN e1 (e▸Y))
     simp[this,e]
    ·exact .inr ⟨k,c,e,z.sameBut hs (cne y c e)⟩
  ·obtain⟨w',z⟩:=I.cell y c e
   exact⟨w',z.sameBut hs (cne y c e)⟩
  ·obtain⟨e,n,ne,nf,d⟩:=I.pin p hp
   exact⟨(hs.2 p.1 ne).trans e,n,ne,nf,d⟩
 ·have G:X.fn x=true:=by
   rcases hf with z|z
   ·exact z
   ·rw[z]at hk;cases hk
  obtain⟨c,hc⟩:=I.ok.has x (.inl hk)
  obtain⟨w',z⟩:=I.cell x c hc
  refine ig I.ok.kind hk hc z (λ h' a2 hs=>?_)
  obtain⟨oc,a1,Z⟩:=id z
  refine h { s with heap:=h' } ⟨I.ok,I.os,I.bare,⟨λ b o e n hb hx=>?_,λ b o e n hb hx=>?_,I.base.free,λ b o e hx=>?_,I.base.tups,I.base.frzs,I.base.tbls⟩,⟨m,hn.sameBut hs (bL (cne x c hc)),λ j y v' e1 e2 e3=>?_⟩,λ y c' e=>?_,I.free,I.freeC,λ p hp=>?_,C ⟨oc,a1,I.freeC x c hc⟩ hs,by simpa using I.len⟩ ⟨c,hs,.inr hc⟩
  ·exact(hs.2 b (av (ao (ay e) (I.ok.cab x c G hc)))).trans (I.base.keep b o e n hb hx)
  ·obtain⟨sl,e1⟩:=I.base.slot b o e n hb hx
   exact⟨sl,(hs.2 b (av (ao (ay e) (I.ok.cab x c G hc)))).trans e1⟩
  ·obtain⟨o',e1⟩:=I.base.there b o e hx
   exact⟨o',(hs.2 b (av (ao (ay e) (I.ok.cab x c G hc)))).trans e1⟩
  ·by_cases hj:j=i
   ·subst hj
    rw[Y]at e1;cases e1
    rw[aV a3]at e2
    cases e2
    exact⟨u,r,.inr ⟨.inl hk,c,hc,a2⟩⟩
   ·rw[aR (bL hj)]at e2
    obtain⟨u',r',q⟩:=hl j y v' e1 e2 e3
    refine⟨u',r',?_⟩
    rcases q with q|⟨k,c',e,z'⟩
    ·exact .inl q
    ·refine .inr ⟨k,c',e,z'.sameBut hs ?_⟩
     rintro rfl
     exact hj (aF5 hN e1 (I.ok.inj _ _ _ e hc▸Y))
  ·by_cases hcc:c'=c
   ·subst hcc;exact⟨_,a2⟩
   ·obtain⟨w2,z2⟩:=I.cell y c' e
    exact⟨w2,z2.sameBut hs hcc⟩
  ·obtain⟨e,n,ne,nf,d⟩:=I.pin p hp
   refine⟨(hs.2 p.1 ?_).trans e,n,ne,nf,d⟩
   intro q
   rw[q,a1]at e
   have q':oc=p.2:=aw e
   exact d w' (by rw[<-q'];exact Z)
theorem ar0 {M:Model}{A:aZ}{E:Value->af->Prop}{i:Nat}{x:Str}{v:V}{u:Value}{Q:Unit->af->Prop}(I:Inv X pins σ H s)(hN:X.N.Nodup)(z:X.N[i]?=some x)(hx:Loc X.env.scope x)(r:RelV v u)
  (h:∀ s',Inv X pins (σ.set i (some v)) H s'->Q () s') (C:X.fn x=true\/X.env.scope.names.lookup x=some .local:=by first|exact .inl rfl|exact .inr rfl|assumption):wpAny M A (gm X.env x u) Q E s :=
 ay8 I hN z hx r (λ s' y _=>h s' y) C
theorem Inv.call' {s':af}{ch:List Addr}(I:Inv X pins σ H s)(ho:s'.os=s.os)(u:Un (frs X.stack) ch H H' s.heap s'.heap)(hok:HOk X.prog X.w H' s'.heap)(hg:fQ s'.gens)
  (h:∀ b∈ch,(b∈X.ex\/X.s₀.heap.objs.size<=b)/\b≠X.env.locals/\(∀ x c,X.env.cells.lookup x=some c->c≠b)/\∀ p∈X.pn++pins,p.1≠b):Inv X pins σ H' s':=by
 obtain⟨h',g',d',t',y⟩:=s'
 have e:y=s.os:=ho
 subst e
 exact I.call (g':=g') (t':=t') (d':=d') u hok hg h
end
abbrev XK:=Value->Option Addr->Hp->Prop
noncomputable abbrev St:=List (Option V)
abbrev VK:=V->Hp->Prop
abbrev TE:=St->Hp->VK->Prop
abbrev TT:=St->Hp->(Bool->Hp->Prop)->Prop
abbrev TA:=St->Hp->(List V->Hp->Prop)->Prop
structure Ends where
 nx:St->Hp->Prop
 rt:VK
 bk:St->Hp->Prop:=λ _ _=>False
 ct:St->Hp->Prop:=λ _ _=>False
abbrev TS:=Ends->St->Hp->Prop
def EP (X:Cx)(pins:List (Addr×Obj))(σ:St)(Q:VK)(u:Value)(s':af):Prop:=∃ v H',Inv X pins σ H' s'/\RelV v u/\Q v H'
def TP (X:Cx)(pins:List (Addr×Obj))(σ:St)(Q:Bool->Hp->Prop)(b:Bool)(s':af):Prop:=∃ H',Inv X pins σ H' s'/\Q b H'
def AP (X:Cx)(pins:List (Addr×Obj))(σ:St)(Q:List V->Hp->Prop)(us:List Value)(s':af):Prop:=∃ vs H',Inv X pins σ H' s'/\Vals vs us/\Q vs H'
def SP (X:Cx)(pins:List (Addr×Obj))(D:Ends)(f:Flow)(s':af):Prop :=
 match f with
 | .next=>∃ σ' H',Inv X pins σ' H' s'/\D.nx σ' H'
 | .brk=>∃ σ' H',Inv X pins σ' H' s'/\D.bk σ' H'
 | .cont=>∃ σ' H',Inv X pins σ' H' s'/\D.ct σ' H'
 | .ret u=>∃ v σ' H',Inv X pins σ' H' s'/\RelV v u/\D.rt v H'
def PE (X:Cx)(e:Expr)(t:TE):Prop :=
 ∀(pins:List (Addr×Obj)) (s:af) (σ:St) (H:Hp) (Q:VK),Inv X pins σ H s->t σ H Q->wpAny (model X.prog X.w) X.A (eval e X.env) (EP X pins σ Q) X.xe s
def PT (X:Cx)(e:Expr)(t:TT):Prop :=
 ∀(pins:List (Addr×Obj)) (s:af) (σ:St) (H:Hp) (Q:Bool->Hp->Prop),Inv X pins σ H s->t σ H Q->wpAny (model X.prog X.w) X.A (dY e X.env (eval e X.env)) (TP X pins σ Q) X.xe s
def PW (X:Cx)(e:Expr)(t:TT):Prop :=
 ∀(whole:Sem Value) (pins:List (Addr×Obj)) (s:af) (σ:St) (H:Hp) (Q:Bool->Hp->Prop),Inv X pins σ H s->t σ H Q->wpAny (model X.prog X.w) X.A (dY e X.env whole) (TP X pins σ Q) X.xe s
theorem PW.pt {X:Cx}{e:Expr}{t:TT}(h:PW X e t):PT X e t:=h _
def PA (X:Cx)(es:List Expr)(t:TA):Prop :=
 ∀(pos:Pos) (pins:List (Addr×Obj)) (s:af) (σ:St) (H:Hp) (Q:List V->Hp->Prop),Inv X pins σ H s->t σ H Q->wpAny (model X.prog X.w) X.A (spliced (dL pos (bn es X.env))) (AP X pins σ Q) X.xe s
def PS (X:Cx)(st:Stmt)(t:TS):Prop :=
 ∀(pins:List (Addr×Obj)) (s:af) (σ:St) (H:Hp) (D:Ends),Inv X pins σ H s->t D σ H->wpAny (model X.prog X.w) X.A (exec st X.env) (SP X pins D) X.xe s
def PSs (X:Cx)(st:List Stmt)(t:TS):Prop :=
 ∀(pins:List (Addr×Obj)) (s:af) (σ:St) (H:Hp) (D:Ends),Inv X pins σ H s->t D σ H->wpAny (model X.prog X.w) X.A (execs st X.env) (SP X pins D) X.xe s
theorem thn {α:Type}{t:Sem α}{Q y:α->af->Prop}{M:Model}{A:aZ}{E:Value->af->Prop}{s:af}(h:wpAny M A t Q E s)(z:∀ a s,Q a s->y a s):wpAny M A t y E s:=cy h z λ _ _ x=>x
section
variable {X:Cx}
theorem bin {a b:Expr}{F tb:TE}(ha:PE X a F)(hb:PE X b tb){z:List (Addr×Obj)}{s:af}{σ:St}{H:Hp}{R:V->V->Hp->Prop}(I:Inv X z σ H s)(h:F σ H λ x C=>tb σ C λ y H2=>R x y H2)
  {α:Type} {Q:α->af->Prop} {f:Value->Value->Sem α}
  (J:∀ v u s2 x y H2,Inv X z σ H2 s2->RelV x v->RelV y u->R x y H2->wpAny (model X.prog X.w) X.A (f v u) Q X.xe s2) :
  wpAny (model X.prog X.w) X.A (eval a X.env) (λ v Z=>wpAny (model X.prog X.w) X.A (eval b X.env) (λ u G=>wpAny (model X.prog X.w) X.A (f v u) Q X.xe G) X.xe Z) X.xe s:=by
 refine thn (ha z s σ H _ I h) λ v s1 ⟨x,C,I1,r1,q1⟩=>?_
 refine thn (hb z s1 σ C _ I1 q1) λ u s2 ⟨y,H2,I2,Y,q2⟩=>?_
 exact J v u s2 x y H2 I2 r1 Y q2
def aX4 (i:Nat):TE:=λ σ H Q=>∃ v,σ[i]?=some (some v)/\Q v H
def tC (v:V):TE:=λ _ H Q=>Q v H
theorem ax7 {i:Nat}{x:Str}{pos:Pos}(hN:X.N[i]?=some x)(hv:Vis X.env.scope x)(hd:(x==("__debug__":Str))=false:=by decide)(z:(x==("__classdict__":Str))=false:=by decide):PE X (.Name x pos) (aX4 i):=by
 intro y s σ H Q I h
 obtain⟨v,e,h⟩:=h
 obtain⟨m,hn,hl⟩:=I.loc
 obtain⟨u,r,l⟩:=hl i x v hN e hv
 have fin:EP X y σ Q u s:=⟨v,H,I,r,h⟩
 rcases l with⟨hk,C⟩|⟨hk,c,hc,hcell⟩
 ·exact j0 (wpAny_loadName_local I.ok.kind hk hn C fin) hd
 ·rcases hk with hk|hk
  ·exact j0 (wpAny_loadName_cell I.ok.kind hk hc hcell fin) hd
  ·exact j0 (wpAny_loadName_free I.ok.kind hk hc hcell fin z) hd
theorem bL0 {i j pos}:PE X (.Constant (.int i) j pos) (tC (.int i)):=λ _ _ _ H _ I h=>wpAny_Constant_int ⟨.int i,H,I.tok _,⟨_,rfl⟩,h⟩
theorem bR1 {b j pos}:PE X (.Constant (.bool b) j pos) (tC (.bl b)):=λ _ _ _ H _ I h=>Constant_bool ⟨.bl b,H,I,rfl,h⟩
theorem bL7 {j pos}:PE X (.Constant .none j pos) (tC .non):=λ _ _ _ H _ I h=>iQ ⟨.non,H,I,rfl,h⟩
theorem bC5 {x j pos}:PE X (.Constant (.str x) j pos) (tC (.str x)):=λ _ _ _ H _ I h=>Calls.Constant_str ⟨.str x,H,I.tok _,⟨_,rfl⟩,h⟩
def Gl (X:Cx)(x:Str):Prop:=X.env.kindOf x=some .globalImplicit
theorem ar6 {E:Value->af->Prop}{y:List (Addr×Obj)}{s:af}{σ:St}{H:Hp}{x:Str}{u:Value}{pos:Pos}{Q:Value->af->Prop}(I:Inv X y σ H s)(hg:Gl X x)(z:X.mg x=some u)(h:Q u s)
  (hd:(x==("__debug__":Str))=false:=by decide):wpAny (model X.prog X.w) X.A (eval (.Name x pos) X.env) Q E s :=
 fC I.ok.kind hg (Calls.loadGlobal_global (by rw[I.ok.glob];exact I.mod.glob.keeps I.bk) z h) hd
theorem au2 {E:Value->af->Prop}{y:List (Addr×Obj)}{s:af}{σ:St}{H:Hp}{x:Str}{u:Value}{pos:Pos}{Q:Value->af->Prop}(I:Inv X y σ H s)(hg:Gl X x)(F:X.mg x=none)(hv:bo x=some u)(h:Q u s)
  (hn:x ≠ "__name__":=by decide) (hd:(x==("__debug__":Str))=false:=by decide):wpAny (model X.prog X.w) X.A (eval (.Name x pos) X.env) Q E s:=by
 obtain⟨G,z,C⟩:=I.mod.blt
 exact fC I.ok.kind hg (Calls.loadGlobal_builtin (by rw[I.ok.glob];exact I.mod.glob.keeps I.bk) F (by rw[I.ok.blt];exact z.keeps I.bk) ((C x hn).trans hv) h) hd
theorem br1 {x:Str}{v:V}{u:Value}{pos:Pos}(hg:Gl X x)(y:X.mg x=some u)(r:RelV v u)(hd:(x==("__debug__":Str))=false:=by decide):PE X (.Name x pos) (tC v) :=
 λ _ _ _ H _ I h=>ar6 I hg y ⟨v,H,I,r,h⟩ hd
theorem br4 {x:Str}{v:V}{u:Value}{pos:Pos}(hg:Gl X x)(y:X.mg x=none)(hv:bo x=some u)(r:RelV v u)(hn:x ≠ "__name__":=by decide)(hd:(x==("__debug__":Str))=false:=by decide):PE X (.Name x pos) (tC v) :=
 λ _ _ _ H _ I h=>au2 I hg y hv ⟨v,H,I,r,h⟩ hn hd
variable {a b:Expr} {ta tb:TE} {pos:Pos}
def PC (X:Cx)(op:CmpOp)(a b:Expr)(t:TE):Prop :=
 ∀(pins:List (Addr×Obj)) (s:af) (σ:St) (H:Hp) (Q:VK),Inv X pins σ H s->t σ H Q ->
  wpAny (model X.prog X.w) X.A (eval a X.env) (λ v s₁=>wpAny (model X.prog X.w) X.A (eval b X.env) (λ u s₂=>wpAny (model X.prog X.w) X.A (cw op v u) (EP X pins σ Q) X.xe s₂) X.xe s₁) X.xe s
theorem aF2 (b:Expr){op:CmpOp}(h:op≠.In)(y:op≠.NotIn):cR op b=false:=by
 have e1:(op==CmpOp.In)=false:=by cases op<;>first|rfl|exact absurd rfl h
 have e2:(op==CmpOp.NotIn)=false:=by cases op<;>first|rfl|exact absurd rfl y
 cases b<;>simp[cR,e1,e2]
def bW7 (ta:TE):TE:=λ σ H Q=>ta σ H λ x H1=>Q (.bl (decide (x=.non))) H1
def bI8 (ta:TE):TE:=λ σ H Q=>ta σ H λ x H1=>Q (.bl (!decide (x=.non))) H1
theorem RelV.none_iff {x:V}{v:Value}(r:RelV x v):(v==Value.none)=decide (x=.non):=by
 cases x with
 | non=>cases r;rfl
 | bl _=>cases r;rfl
 | int _=>obtain⟨t,rfl⟩:=r;rfl
 | str _=>obtain⟨t,rfl⟩:=r;rfl
 | byt _=>obtain⟨t,rfl⟩:=r;rfl
 | flt _=>obtain⟨t,rfl⟩:=r;rfl
 | ref _=>cases r;rfl
 | ty _=>cases r;rfl
theorem bj5 {j pos'}(ha:PE X a ta):PC X .Is a (.Constant .none j pos') (bW7 ta):=by
 intro y s σ H Q I h
 refine thn (ha y s σ H _ I h) λ v s1 ⟨x,z,C,r1,F⟩=>?_
 exact iQ (is_none_gen ⟨.bl _,z,C,by rw[r1.none_iff];rfl,F⟩)
theorem aR9 {j pos'}(ha:PE X a ta):PC X .IsNot a (.Constant .none j pos') (bI8 ta):=by
 intro y s σ H Q I h
 refine thn (ha y s σ H _ I h) λ v s1 ⟨x,z,C,r1,F⟩=>?_
 exact iQ (isnot_none_gen ⟨.bl _,z,C,by rw[r1.none_iff];rfl,F⟩)
def tB (t:TE):TT:=λ σ H Q=>t σ H λ x H1=>∃ c,x=.bl c/\Q c H1
theorem bi7 {op:CmpOp}{t:TE}(h:PC X op a b t)(z:cR op b=false:=by first|exact aF2 _ (by decide) (by decide)|rfl):PE X (.Compare a [op] [b] pos) t:=λ y s σ H Q I hw=>wpAny_Compare1 (h y s σ H Q I hw) z
theorem bl1 {op:CmpOp}{t:TE}(h:PC X op a b t)(z:cR op b=false:=by first|exact aF2 _ (by decide) (by decide)|rfl):PT X (.Compare a [op] [b] pos) (tB t):=by
 intro y s σ H Q I hw
 refine hV (thn (h y s σ H _ I hw) λ v s1 z=>thn z λ u s2 G=>thn G λ c s3 ⟨x,C,F,r1,J⟩=>?_) z
 obtain⟨d,rfl,q⟩:=J
 cases r1
 exact bC ⟨C,F,q⟩
theorem bH3 {e:Expr}{t:TE}(h:PE X e t)(J:∀ y,dY e X.env y=(do let v <- y;standAt e.pos;jj [v] (truthy v)):=by intro _;rfl):PT X e (tB t):=by
 intro z s σ H Q I hw
 refine isTrue_plain (thn (h z s σ H _ I hw) λ v s1 ⟨x,C,G,r1,F⟩=>?_) (J _)
 obtain⟨d,rfl,q⟩:=F
 cases r1
 exact bC ⟨C,G,q⟩
variable {tA tB':TT} {rest:List Expr}
def bW8 (t u:TT):TT:=λ σ H Q=>t σ H λ c H1=>if c=true then u σ H1 Q else Q false H1
def tOr (t u:TT):TT:=λ σ H Q=>t σ H λ c H1=>if c=true then Q true H1 else u σ H1 Q
def bV7 (t:TT):TT:=λ σ H Q=>t σ H λ c H1=>Q (!c) H1
theorem br9 (ha:PT X a tA):PW X (.BoolOp .And [a] pos) tA:=by
 intro z y s σ H Q I h
 refine isTrue_and (thn (ha y s σ H Q I h) λ c s1 e=>?_)
 cases c with
 | true=>exact isTrue_and_nil e
 | false=>exact e
theorem bH6 (ha:PT X a tA):PW X (.BoolOp .Or [a] pos) tA:=by
 intro z y s σ H Q I h
 refine isTrue_or (thn (ha y s σ H Q I h) λ c s1 e=>?_)
 cases c with
 | false=>exact isTrue_or_nil e
 | true=>exact e
theorem bh4 (ha:PT X a tA)(hb:PW X (.BoolOp .And (b::rest) pos) tB'):PW X (.BoolOp .And (a::b::rest) pos) (bW8 tA tB'):=by
 intro G y s σ H Q I h
 refine isTrue_and (thn (ha y s σ H _ I h) λ c s1 ⟨z,C,F⟩=>?_)
 cases c with
 | true=>exact hb G y s1 σ z Q C F
 | false=>exact⟨z,C,F⟩
theorem bK9 (ha:PT X a tA)(hb:PW X (.BoolOp .Or (b::rest) pos) tB'):PW X (.BoolOp .Or (a::b::rest) pos) (tOr tA tB'):=by
 intro G y s σ H Q I h
 refine isTrue_or (thn (ha y s σ H _ I h) λ c s1 ⟨z,C,F⟩=>?_)
 cases c with
 | true=>exact⟨z,C,F⟩
 | false=>exact hb G y s1 σ z Q C F
theorem bG1 (ha:PT X a tA):PT X (.UnaryOp .Not a pos) (bV7 tA):=by
 intro y s σ H Q I h
 exact isTrue_not (ha y s σ H (λ c z=>Q (!c) z) I h)
def bJ5 (ta tb:TE):TE:=λ σ H Q=>ta σ H λ x H1=>∃ c,x=.bl c/\if c=true then tb σ H1 Q else Q (.bl false) H1
def bW2 (ta tb:TE):TE:=λ σ H Q=>ta σ H λ x H1=>∃ c,x=.bl c/\if c=true then Q (.bl true) H1 else tb σ H1 Q
def bD6 (ta:TE):TE:=λ σ H Q=>ta σ H λ x H1=>∃ c,x=.bl c/\Q (.bl (!c)) H1
theorem bk7 {op}{t:TE}(h:PE X a t):PE X (.BoolOp op [a] pos) t:=λ y s σ H Q I hw=>BoolOp_one (h y s σ H Q I hw)
theorem bj9 (ha:PE X a ta)(hb:PE X (.BoolOp .And (b::rest) pos) tb):PE X (.BoolOp .And (a::b::rest) pos) (bJ5 ta tb):=by
 intro y s σ H Q I h
 refine BoolOp_and (thn (ha y s σ H _ I h) λ v s1 ⟨x,C,F,r1,z⟩=>?_)
 obtain⟨c,rfl,z⟩:=z
 cases r1
 refine bC ?_
 cases c with
 | true=>exact hb y s1 σ C Q F z
 | false=>exact⟨.bl false,C,F,rfl,z⟩
theorem bE4 (ha:PE X a ta)(hb:PE X (.BoolOp .Or (b::rest) pos) tb):PE X (.BoolOp .Or (a::b::rest) pos) (bW2 ta tb):=by
 intro y s σ H Q I h
 refine BoolOp_or (thn (ha y s σ H _ I h) λ v s1 ⟨x,C,F,r1,z⟩=>?_)
 obtain⟨c,rfl,z⟩:=z
 cases r1
 refine bC ?_
 cases c with
 | false=>exact hb y s1 σ C Q F z
 | true=>exact⟨.bl true,C,F,rfl,z⟩
theorem bJ7 (ha:PE X a ta):PE X (.UnaryOp .Not a pos) (bD6 ta):=by
 intro y s σ H Q I h
 refine UnaryOp_ (thn (ha y s σ H _ I h) λ v s1 ⟨x,C,F,r1,z⟩=>?_)
 obtain⟨c,rfl,z⟩:=z
 cases r1
 exact not_of (bC ⟨.bl (!c),C,F,rfl,z⟩)
def tIf (t:TT)(ta tb:TE):TE:=λ σ H Q=>t σ H λ c H1=>if c=true then ta σ H1 Q else tb σ H1 Q
theorem aY2 {c:Expr}(hc:PT X c tA)(ha:PE X a ta)(hb:PE X b tb):PE X (.IfExp c a b pos) (tIf tA ta tb):=by
 intro y s σ H Q I h
 refine wpAny_IfExp (thn (hc y s σ H _ I h) λ d s1 ⟨z,C,F⟩=>?_)
 cases d with
 | true=>exact ha y s1 σ z Q C F
 | false=>exact hb y s1 σ z Q C F
end
def SqL (K:ae)(H:Hp)(a:Addr)(xs:List V):Prop :=
 Rd H a (.lst xs) \/
  ∃(o:Obj) (its:Array Value) (n:Nat),K.lookup a=some o/\o.cls=.type "list"/\o.dict=none/\o.data=.seq its n/\its.size<=aF/\Vals xs its.toList
def SqT (K:ae)(H:Hp)(a:Addr)(xs:List V):Prop :=
 Rd H a (.tup xs) \/
  ∃(o:Obj) (its:Array Value) (n:Nat),K.lookup a=some o/\o.cls=.type "tuple"/\o.data=.seq its n/\its.size<=aF/\Vals xs its.toList
noncomputable def bX1:Value->Option V
 | .none=>some .non
 | .bool b=>some (.bl b)
 | .int i _=>some (.int i)
 | .str x _=>some (.str x)
 | .bytes b _=>some (.byt b)
 | .float b _=>some (.flt b)
 | .ref a=>some (.ref a)
 | .type n=>some (.ty n)
 | _=>none
theorem RelV.abs {x:V}{u:Value}(r:RelV x u):bX1 u=some x:=by
 cases x with
 | non=>cases r;rfl
 | bl _=>cases r;rfl
 | int _=>obtain⟨t,rfl⟩:=r;rfl
 | str _=>obtain⟨t,rfl⟩:=r;rfl
 | byt _=>obtain⟨t,rfl⟩:=r;rfl
 | flt _=>obtain⟨t,rfl⟩:=r;rfl
 | ref _=>cases r;rfl
 | ty _=>cases r;rfl
theorem RelV.inj {x y:V}{u:Value}(r:RelV x u)(q:RelV y u):x=y:=aw (r.abs.symm.trans q.abs)
theorem Vals.inj:∀ {h ys:List V} {us:List Value},Vals h us->Vals ys us->h=ys
 | _,_,_,.nil,.nil=>rfl
 | _,_,_,.cons r t,.cons r' t'=>by rw[r.inj r',Vals.inj t t']
section
variable {X:Cx} {pins:List (Addr×Obj)} {σ:St} {H:Hp} {s:af} {a:Addr} {xs ys:List V}
theorem SqL.of {K:ae}(h:H a=some (.lst xs)):SqL K H a xs:=.inl (.inl h)
theorem SqT.of {K:ae}(h:H a=some (.tup xs)):SqT K H a xs:=.inl (.inl h)
theorem Inv.list (I:Inv X pins σ H s)(h:SqL X.K H a xs):∃ its:List Value,Vals xs its/\PlainL s.heap a its.toArray/\xs.length<=aF:=by
 rcases h with h|⟨o,its,n,hk,hc,hd,hs,hz,r⟩
 ·obtain⟨z,its,n,r,e⟩:=h.ok I.hok
  exact⟨its,r,⟨_,n,e,rfl,rfl,rfl⟩,z⟩
 ·refine⟨its.toList,r,⟨o,n,I.kIn a o hk,hc,hd,by simpa using hs⟩,?_⟩
  have e:=r.length
  simp only[cV]at e
  omega
theorem Inv.tuple (I:Inv X pins σ H s)(h:SqT X.K H a xs):∃ its:List Value,Vals xs its/\IsTup s.heap a its.toArray/\xs.length<=aF:=by
 rcases h with h|⟨o,its,n,hk,hc,hs,hz,r⟩
 ·obtain⟨z,its,r,p⟩:=h.ok I.hok
  exact⟨its,r,p,z⟩
 ·refine⟨its.toList,r,⟨o,I.kIn a o hk,hc,n,by simpa using hs⟩,?_⟩
  have e:=r.length
  simp only[cV]at e
  omega
theorem Inv.list_inj (I:Inv X pins σ H s)(h:SqL X.K H a xs)(h':SqL X.K H a ys):xs=ys:=by
 obtain⟨its,r,⟨o,n,e,_,_,d⟩,_⟩:=I.list h
 obtain⟨its',y,⟨z,C,e',_,_,d'⟩,_⟩:=I.list h'
 rw[e]at e';cases e'
 rw[d]at d'
 injection d' with d1 _
 have:its=its':=by simpa using congrArg jk d1
 subst this
 exact r.inj y
theorem Inv.tuple_inj (I:Inv X pins σ H s)(h:SqT X.K H a xs)(h':SqT X.K H a ys):xs=ys:=by
 obtain⟨its,r,⟨o,e,_,n,d⟩,_⟩:=I.tuple h
 obtain⟨its',y,⟨z,e',_,C,d'⟩,_⟩:=I.tuple h'
 rw[e]at e';cases e'
 rw[d]at d'
 injection d' with d1 _
 have:its=its':=by simpa using congrArg jk d1
 subst this
 exact r.inj y
end
noncomputable abbrev Cx.wish (X:Cx)(E:Value->af->Prop):Cx:={ X with xe:=E }
noncomputable abbrev Cx.nox (X:Cx):Cx:=X.wish λ _ _=>False
theorem Cx.Ok.wish {X:Cx}(ok:X.Ok)(E:Value->af->Prop):(X.wish E).Ok :=
 ⟨ok.mod,ok.kind,ok.glob,ok.blt,ok.above,ok.inj,ok.has,ok.cab,ok.hd,ok.frames,ok.stk,ok.exf,ok.bs,ok.bsz,ok.noex,ok.exfs,ok.funs,ok.frf⟩
theorem Cx.Ok.unwish {X:Cx}{E:Value->af->Prop}(ok:(X.wish E).Ok):X.Ok :=
 ⟨ok.mod,ok.kind,ok.glob,ok.blt,ok.above,ok.inj,ok.has,ok.cab,ok.hd,ok.frames,ok.stk,ok.exf,ok.bs,ok.bsz,ok.noex,ok.exfs,ok.funs,ok.frf⟩
section
variable {X:Cx} {pins:List (Addr×Obj)} {σ:St} {H:Hp} {s:af} {E:Value->af->Prop}
theorem Inv.wish (I:Inv X pins σ H s)(E:Value->af->Prop):Inv (X.wish E) pins σ H s:=⟨I.ok.wish E,I.os,I.bare,I.base,I.loc,I.cell,I.free,I.freeC,I.pin,I.hok,I.len⟩
theorem Inv.unwish (I:Inv (X.wish E) pins σ H s):Inv X pins σ H s:=⟨I.ok.unwish,I.os,I.bare,I.base,I.loc,I.cell,I.free,I.freeC,I.pin,I.hok,I.len⟩
theorem SP.unwish {D:Ends}{f:Flow}{s':af}(h:SP (X.wish E) pins D f s'):SP X pins D f s':=by
 cases f with
 | next=>obtain⟨σ',H',I,q⟩:=h;exact⟨σ',H',I.unwish,q⟩
 | brk=>obtain⟨σ',H',I,q⟩:=h;exact⟨σ',H',I.unwish,q⟩
 | cont=>obtain⟨σ',H',I,q⟩:=h;exact⟨σ',H',I.unwish,q⟩
 | ret u=>obtain⟨v,σ',H',I,r,q⟩:=h;exact⟨v,σ',H',I.unwish,r,q⟩
theorem PSs.nox {st:List Stmt}{t:TS}(h:PSs X.nox st t):PSs X st t:=λ y s σ H D I hw =>
 cy (h y s σ H D (I.wish _) hw) (λ _ _ q=>q.unwish) λ _ _ z=>bB z
end
section
variable {X:Cx} {st:Stmt} {rest:List Stmt} {t u:TS} {e:Expr} {te:TE} {pos:Pos}
def bI0:TS:=λ D σ H=>D.nx σ H
noncomputable def bU1 (t u:TS):TS:=λ D σ H=>t { D with nx:=u D } σ H
theorem aC9:PSs X [] bI0:=λ _ _ σ H _ I h=>gZ ⟨σ,H,I,h⟩
theorem aj1 (C:PS X st t)(F:PSs X rest u):PSs X (st::rest) (bU1 t u):=by
 intro y s σ H D I h
 refine wpAny_execs_cons (thn (C y s σ H { D with nx:=u D } I h) λ f s1 q=>?_)
 cases f with
 | next =>
  obtain⟨σ',H',z,q⟩:=q
  exact F y s1 σ' H' D z q
 | ret v=>exact q
 | brk=>exact q
 | cont=>exact q
theorem Inv.quiet {h:List (Addr×Obj)}{σ:St}{H:Hp}{s:af}(I:Inv X h σ H s):interactive X.env=false:=by simp[interactive,I.ok.kind]
def bB2 (te:TE):TS:=λ D σ H=>te σ H λ _ H1=>D.nx σ H1
theorem bo6 (F:PE X e te)(hs:fA e none pos.line X.env=pure false:=by rfl):PS X (.Expr e pos) (bB2 te):=by
 intro y s σ H D I h
 exact wpAny_Expr_any (thn (F y s σ H _ I h) λ v s1 ⟨x,z,C,r1,G⟩=>⟨σ,z,C,G⟩) I.quiet hs
def bV0 (te:TE):TS:=λ D σ H=>te σ H D.rt
theorem aS9 (F:PE X e te):PS X (.Return (some e) pos) (bV0 te):=by
 intro y s σ H D I h
 exact wpAny_Return_some (thn (F y s σ H _ I h) λ v s1 ⟨x,z,C,r1,G⟩=>⟨x,σ,z,C,r1,G⟩)
def bW9 (c:TT)(t u:TS):TS:=λ D σ H=>c σ H λ b H1=>if b=true then t D σ H1 else u D σ H1
theorem bR5 {c:Expr}{a b:List Stmt}{tc:TT}(hc:PT X c tc)(ha:PSs X a t)(hb:PSs X b u):PS X (.If c a b pos) (bW9 tc t u):=by
 intro y s σ H D I h
 refine wpAny_If (thn (hc y s σ H _ I h) λ d s1 ⟨z,C,F⟩=>?_)
 cases d with
 | true=>exact ha y s1 σ z D C F
 | false=>exact hb y s1 σ z D C F
def bE5:TS:=λ _ _ _=>False
theorem be5:PS X st bE5:=λ _ _ _ _ _ _ h=>h.elim
end
abbrev TG:=V->St->Hp->(St->Hp->Prop)->Prop
abbrev TGs:=List V->St->Hp->(St->Hp->Prop)->Prop
def PG (X:Cx)(target:Expr)(t:TG):Prop :=
 ∀(pins:List (Addr×Obj)) (s:af) (σ:St) (H:Hp) (v:V) (u:Value) (Q:St->Hp->Prop),Inv X pins σ H s->RelV v u->t v σ H Q ->
  wpAny (model X.prog X.w) X.A (gE target X.env u) (λ _ s'=>∃ σ' H',Inv X pins σ' H' s'/\Q σ' H') X.xe s
def PGs (X:Cx)(ts:List Expr)(t:TGs):Prop :=
 ∀(pins:List (Addr×Obj)) (s:af) (σ:St) (H:Hp) (vs:List V) (us:List Value) (Q:St->Hp->Prop),Inv X pins σ H s->Vals vs us->t vs σ H Q ->
  wpAny (model X.prog X.w) X.A (assignInOrder ((cC ts X.env).map (·.2)) us) (λ _ s'=>∃ σ' H',Inv X pins σ' H' s'/\Q σ' H') X.xe s
abbrev bN5:=V->V->V->Hp->(Hp->Prop)->Prop
def bQ4 (X:Cx)(t:bN5):Prop :=
 ∀(pins:List (Addr×Obj)) (s:af) (σ:St) (H:Hp) (o i v:V) (ov iv u:Value) (Q:Hp->Prop),Inv X pins σ H s->RelV o ov->RelV i iv->RelV v u->t o i v H Q ->
  wpAny (model X.prog X.w) X.A (setItem ov iv u) (λ _ s'=>∃ H',Inv X pins σ H' s'/\Q H') X.xe s
section
variable {X:Cx} {pos:Pos}
def am8 (i:Nat):TG:=λ v σ H Q=>Q (σ.set i (some v)) H
theorem as5 {i:Nat}{x:Str}(hN:X.N.Nodup)(C:X.N[i]?=some x)(hx:Loc X.env.scope x)(F:X.fn x=true\/X.env.scope.names.lookup x=some .local:=by first|exact .inl rfl|exact .inr rfl|assumption):PG X (.Name x pos) (am8 i):=by
 intro y s σ H v u Q I r h
 exact jl (ar0 I hN C hx r (λ s' z=>⟨_,H,z,h⟩) F)
def bQ8:TGs:=λ vs σ H Q=>vs=[]/\Q σ H
def bb7 (t:TG)(u:TGs):TGs:=λ vs σ H Q=>∃ v r,vs=v::r/\t v σ H λ σ' H'=>u r σ' H' Q
theorem aV6:PGs X [] bQ8:=by
 intro y s σ H vs us Q I r h
 obtain⟨e,h⟩:=h
 subst e
 cases r
 exact assignInOrder_nil ⟨σ,H,I,h⟩
theorem at5 {e:Expr}{es:List Expr}{t:TG}{u:TGs}(z:PG X e t)(C:PGs X es u)
  (hs:(cC (e::es) X.env).map (·.2)=gE e X.env::(cC es X.env).map (·.2):=by rfl):PGs X (e::es) (bb7 t u):=by
 intro y s σ H vs us Q I r h
 obtain⟨v,Y,e1,h⟩:=h
 subst e1
 cases r with
 | cons r rr =>
  rw[hs]
  refine assignInOrder_cons (thn (z y s σ H _ _ _ I r h) λ _ s1 ⟨σ1,F,G,J⟩=>?_)
  exact C y s1 σ1 F _ _ Q G rr J
def bM9 (K:ae)(n:Nat)(t:TGs):TG:=λ v σ H Q=>∃ a xs,v=.ref a/\SqT K H a xs/\xs.length=n/\t xs σ H Q
theorem bj2 {es:List Expr}{k:Nat}{t:TGs}{n:Nat}(hc:X.calm=true)(h:PGs X es t)
  (hn:(cC es X.env).length=n:=by rfl) (z:(cC es X.env).findIdx? (·.1)=none:=by rfl):PG X (.Tuple es k pos) (bM9 X.K n t):=by
 intro y s σ H v u Q I r hw
 obtain⟨a,F,e1,hq,hl,hw⟩:=hw
 subst e1
 cases r
 obtain⟨its,C,G,hz⟩:=I.tuple hq
 refine assign_Tuple_tuple (I.ok.hd hc) G (by simp[hn,<-hl,C.length]) z λ h' hx=>?_
 have J:Inv X y σ H { s with heap:=h' }:=I.kept (t':=s.toks) λ b o e=>hx b o (av (ay e)) e
 exact h y _ σ H F _ Q J (by simpa using C) hw
def bU5 (to ti:TE)(t:bN5):TG:=λ v σ H Q=>to σ H λ o H1=>ti σ H1 λ i H2=>t o i v H2 λ H3=>Q σ H3
theorem bD1 {o i:Expr}{F G:TE}{t:bN5}(ho:PE X o F)(J:PE X i G)(hs:bQ4 X t)
  (ha:∀ v,gE (.Subscript o i pos) X.env v=(do
   let C <- jj [v] (eval o X.env)
   let iv <- jj [v,C] (eval i X.env)
   standAt pos
   jj [v,C,iv] (setItem C iv v)
   release [v,C,iv] []):=by intro _;rfl):PG X (.Subscript o i pos) (bU5 F G t):=by
 intro z s σ H v u Q I r h
 rw[ha]
 refine ab (cS (thn (ho z s σ H _ I h) λ C s1 ⟨x,H1,I1,r1,q1⟩=>?_))
 refine ab (cS (thn (J z s1 σ H1 _ I1 q1) λ iv s2 ⟨y,H2,I2,Z,q2⟩=>?_))
 refine ab (iR (ab (cS (thn (hs z s2 σ H2 x y v C iv u _ I2 r1 Z r q2) λ _ s3 ⟨Y,I3,q3⟩=>?_))))
 exact wpAny_release ⟨σ,Y,I3,q3⟩
def aZ6 (te:TE)(g:TG):TS:=λ D σ H=>te σ H λ x H1=>g x σ H1 D.nx
theorem bk4 {tg e:Expr}{te:TE}{g:TG}(G:PE X e te)(hg:PG X tg g)(hs:swapsWithSole [tg] e pos.line X.env=pure false:=by rfl)(hw:iU [tg] e X.env=pure none:=by rfl)
  (F:(cC [tg] X.env).map (·.2)=[gE tg X.env]:=by rfl):PS X (.Assign [tg] e pos) (aZ6 te g):=by
 intro y s σ H D I h
 refine wpAny_Assign_stores (thn (G y s σ H _ I h) λ v s1 ⟨x,z,C,r1,J⟩=>?_) hs hw
 rw[F]
 exact thn (hg y s1 σ z x v _ C r1 J) λ _ s2 q=>q
theorem bi5 {i:Nat}{x:Str}{e:Expr}{te:TE}{z:Pos}(hN:X.N.Nodup)(F:X.N[i]?=some x)(hx:Loc X.env.scope x)(G:PE X e te)(hs:fA e (some (.Name x z)) pos.line X.env=pure false:=by rfl)(J:X.fn x=true\/X.env.scope.names.lookup x=some .local:=by first|exact .inl rfl|exact .inr rfl|assumption) :
  PS X (.Assign [.Name x z] e pos) (aZ6 te (am8 i)):=by
 intro C s σ H D I h
 refine wpAny_Assign_Name (thn (G C s σ H _ I h) λ v s1 ⟨y,Y,Z,r1,q1⟩=>?_) hs
 exact ar0 Z hN F hx r1 (λ s2 I2=>⟨_,Y,I2,q1⟩) J
end
section
variable {X:Cx} {pos:Pos}
def bi0 (c:TT)(tb:TS):TS:=λ D σ H=>∃ W:Nat->St->Hp->Prop,(∃ m,W m σ H)/\∀ m σ H,W m σ H ->
 c σ H λ b H1=>if b=true then ∃ N:St->Hp->Prop,(∀ σ' H',N σ' H'->∃ m',m'<m/\W m' σ' H')/\tb { D with nx:=N,ct:=N,bk:=D.nx } σ H1 else D.nx σ H1
theorem bf2 {c:Expr}{body:List Stmt}{tc:TT}{tb:TS}(Y:PassesOwn (model X.prog X.w) X.A X.env X.xe)(hc:PT X c tc)(hb:PSs X body tb):PS X (.While c body [] pos) (bi0 tc tb):=by
 intro y s σ H D I h
 obtain⟨W,⟨m0,w0⟩,turn⟩:=h
 refine wpAny_While (codeAny_whileLoop (λ n s'=>∃ σ' H',Inv X y σ' H' s'/\W n σ' H') ?_ m0 ⟨σ,H,I,w0⟩)
 rintro n s1 ⟨σ1,Z,I1,w1⟩
 refine cL Y (thn (hc y s1 σ1 Z _ I1 (turn n σ1 Z w1)) λ b s2 ⟨H2,I2,q2⟩=>?_)
 cases b with
 | true =>
  obtain⟨N,hN,q2⟩:=q2
  rw[if_pos rfl]
  refine cL Y (thn (hb y s2 σ1 H2 _ I2 q2) λ f s3 q3=>?_)
  cases f with
  | next =>
   obtain⟨σ3,z,G,C⟩:=q3
   obtain⟨m',J,F⟩:=hN σ3 z C
   exact⟨m',J,σ3,z,G,F⟩
  | cont =>
   obtain⟨σ3,z,G,C⟩:=q3
   obtain⟨m',J,F⟩:=hN σ3 z C
   exact⟨m',J,σ3,z,G,F⟩
  | brk=>exact q3
  | ret v=>exact q3
 | false =>
  rw[if_neg aJ]
  exact gZ ⟨σ1,H2,I2,q2⟩
end
structure It where
 go:Nat->Hp->Prop
 yld:Nat->Hp->V->Hp->Prop
 stop:Nat->Hp->Prop
def FpOk (X:Cx)(pins:List (Addr×Obj))(H:Hp)(b:Addr):Prop :=
 H b=none/\b≠X.env.locals/\b ∉ X.fs/\(b∈X.ex\/X.s₀.heap.objs.size<=b)/\(∀ x c,X.env.cells.lookup x=some c->c≠b)/\∀ p∈X.pn++pins,p.1≠b
theorem Inv.fpOk {X:Cx}{h:List (Addr×Obj)}{σ:St}{H H':Hp}{s:af}{b:Addr}(I:Inv X h σ H s)(hb:s.heap.objs.size<=b)(hn:H' b=none):FpOk X h H' b:=by
 refine⟨hn,cN (ao I.lt hb),I.nofs hb,.inr (am I.sz hb),λ x c e z=>?_,λ p y z=>?_⟩
 ·obtain⟨v,q⟩:=I.cell x c e
  exact absurd (ao q.lt (by rw[z];exact hb)) (bw _)
 ·exact absurd (ao (ay (I.pin p y).1) (by rw[z];exact hb)) (bw _)
structure Turn (P:aI)(w:World)(K:ae)(tg:Expr)(J:It)(fp:List Addr)(it:Addr)(tn:Nat->Heap->Prop):Prop where
 mem:it∈fp
 obj:∀ i h,tn i h->∀ b∈fp,∃ o,h.get? b=some o/\∀ v,o.data≠.cell v
 keep:∀ i h h',tn i h->(∀ b∈fp,∀ o,h.get? b=some o->h'.get? b=some o)->tn i h'
 item:∀(X:Cx),X.prog=P->X.w=w->X.K=K->X.calm=true->∀(i:Nat) (pins:List (Addr×Obj)) (s:af) (σ:St) (H:Hp) (E:Value->af->Prop),Inv X pins σ H s->(∀ b∈fp,FpOk X pins H b)->tn i s.heap->J.go i H ->
  wpAny (model P w) X.A (f8 (.ref it)) (λ r s1=>∃ u,r=some u /\
   wpAny (model P w) X.A (e9 tg (.ref it) u) (λ _ s2=>∃ x H',Inv X pins σ H' s2/\RelV x u/\J.yld i H x H'/\tn (i+1) s2.heap/\∀ b∈fp,H' b=none) E s1) E s
 done:∀(X:Cx),X.prog=P->X.w=w->X.K=K->X.calm=true->∀(i:Nat) (pins:List (Addr×Obj)) (s:af) (σ:St) (H:Hp) (E:Value->af->Prop),Inv X pins σ H s->(∀ b∈fp,FpOk X pins H b)->tn i s.heap->J.stop i H ->
  wpAny (model P w) X.A (f8 (.ref it)) (λ r s1=>r=none/\Inv X pins σ H s1) E s
 self:∀(A:aZ) (i:Nat) (s:af) (Q:Value->af->Prop) (E:Value->af->Prop),tn i s.heap->Q (.ref it) s->wpAny (model P w) A (j1 (.ref it)) Q E s
abbrev TI:=St->Hp->(It->Hp->Prop)->Prop
def PIE (X:Cx)(pins:List (Addr×Obj))(σ:St)(tg:Expr)(R:It->Hp->Prop)(itv:Value)(s2:af):Prop :=
 ∃(it:Addr) (fp:List Addr) (tn:Nat->Heap->Prop) (J:It) (H':Hp),itv=.ref it/\Inv X pins σ H' s2/\Turn X.prog X.w X.K tg J fp it tn/\tn 0 s2.heap/\(∀ b∈fp,FpOk X pins H' b)/\R J H'
def PI (X:Cx)(tg iter:Expr)(wi:TI):Prop :=
 ∀(pins:List (Addr×Obj)) (s:af) (σ:St) (H:Hp) (R:It->Hp->Prop),Inv X pins σ H s->wi σ H R ->
  wpAny (model X.prog X.w) X.A (eval iter X.env) (λ v s1=>wpAny (model X.prog X.w) X.A (j1 v) (PIE X pins σ tg R) X.xe s1) X.xe s
theorem bc1 {M : Model} {A : Around} {E : Value -> Shared -> Prop} {s : Shared} {tg : Expr} {it : Addr} {u : Value} {o : Obj} {n : String} {vs : Array Value} {Q : Unit -> Shared -> Prop} (ho : s.heap.get? it = some o) (hc : o.cls = .type n) (hd : o.data = .fields vs)
    (hn : ["enumerate", "zip", "dict_itemiterator", "dict_reverseitemiterator", "odict_iterator", "itertools.zip_longest", "itertools.pairwise"].contains n = false) (hQ : Q () s) : wpAny M A (e9 tg (.ref it) u) Q E s := by
  unfold e9
  cases tg <;> first
    | exact aq hQ
    | (cases u <;> first
        | exact aq hQ
        | (refine ab (wpAny_load ho ?_)
           rw[hc, hd]
           show wpAny M A (if(["enumerate", "zip", "dict_itemiterator", "dict_reverseitemiterator", "odict_iterator", "itertools.zip_longest", "itertools.pairwise"].contains n && vs[0]? == some (cD _)) = true then _ else _) Q E s
           rw[if_neg (by intro h; rw[hn, Bool.false_and]at h; cases h)]
           exact aq hQ))
noncomputable def Itl (K:ae)(a:Addr):It :=
 ⟨λ i H=>∃ xs x,SqL K H a xs/\xs[i]?=some x,λ i H x H'=>H'=H/\∀ xs,SqL K H a xs->xs[i]?=some x,λ i H=>∃ xs,SqL K H a xs/\xs.length<=i⟩
noncomputable def Itt (K:ae)(a:Addr):It :=
 ⟨λ i H=>∃ xs x,SqT K H a xs/\xs[i]?=some x,λ i H x H'=>H'=H/\∀ xs,SqT K H a xs->xs[i]?=some x,λ i H=>∃ xs,SqT K H a xs/\xs.length<=i⟩
noncomputable def Itr (lo:Int)(n:Nat):It:=⟨λ i _=>i<n,λ i H x H'=>H'=H/\x=.int (lo+i),λ i _=>n<=i⟩
theorem aQ0 {P:aI}{w:World}{K:ae}{tg:Expr}(a it:Addr):Turn P w K tg (Itl K a) [it] it (λ i h=>h.IsListIter it a i) where
 mem:=by simp
 obj:=λ i h st b hb=>by
  have e:b=it:=by simpa using hb
  subst e
  obtain⟨o,e,c,d⟩:=st
  exact⟨o,e,λ v z=>by rw[d]at z;cases z⟩
 keep:=λ i h h' st k=>st.at λ o e=>k it (by simp) o e
 item:=by
  intro X G hw hK hc i y s σ H E I F st hg
  subst G hw hK
  obtain⟨xs,x,hq,hx⟩:=hg
  obtain⟨its,J,p,hz⟩:=I.list hq
  obtain⟨u,hu,ru⟩:=J.get hx
  obtain⟨Y,f1,f2,Z,f4,f5⟩:=F it (by simp)
  refine wpAny_pyNext_list_item st p.isList (x:=u) (by simpa using hu) λ h' C sb=>?_
  have I1:Inv X y σ H { s with heap:=h' }:=I.turned (t':=s.toks) (λ b o hb e=>(sb.2 b hb).trans e) Y f1 Z f4 f5
  obtain⟨o,e,c,d⟩:=id C
  exact⟨u,rfl,bc1 (s:={ s with heap:=h' }) e c d (by decide) ⟨x,H,I1,ru,⟨rfl,λ ys hy=>by rw[I.list_inj hy hq];exact hx⟩,C,λ b hb=>(F b hb).1⟩⟩
 done:=by
  intro X G hw hK hc i y s σ H E I F st hg
  subst G hw hK
  obtain⟨xs,hq,hx⟩:=hg
  obtain⟨its,J,p,hz⟩:=I.list hq
  obtain⟨Y,f1,f2,Z,f4,f5⟩:=F it (by simp)
  have hl:=J.length
  exact wpAny_pyNext_list_end (I.ok.hd hc) st p.isList (by simp;omega) λ h' eb=>⟨rfl,I.turned (t':=s.toks) (λ b o hb e=>eb b o hb e) Y f1 Z f4 f5⟩
 self:=λ _ _ _ _ _ st h=>wpAny_pyIter_listiter st h
theorem aM7 {P:aI}{w:World}{K:ae}{tg:Expr}(a it:Addr):Turn P w K tg (Itt K a) [it] it (λ i h=>h.IsTupleIter it a i) where
 mem:=by simp
 obj:=λ i h st b hb=>by
  have e:b=it:=by simpa using hb
  subst e
  obtain⟨o,e,c,d⟩:=st
  exact⟨o,e,λ v z=>by rw[d]at z;cases z⟩
 keep:=λ i h h' st k=>st.at λ o e=>k it (by simp) o e
 item:=by
  intro X G hw hK hc i y s σ H E I F st hg
  subst G hw hK
  obtain⟨xs,x,hq,hx⟩:=hg
  obtain⟨its,J,p,hz⟩:=I.tuple hq
  obtain⟨u,hu,ru⟩:=J.get hx
  obtain⟨Y,f1,f2,Z,f4,f5⟩:=F it (by simp)
  refine wpAny_pyNext_tuple_item st (show s.heap.IsTuple a its.toArray from p) (x:=u) (by simpa using hu) λ h' C sb=>?_
  have I1:Inv X y σ H { s with heap:=h' }:=I.turned (t':=s.toks) (λ b o hb e=>(sb.2 b hb).trans e) Y f1 Z f4 f5
  obtain⟨o,e,c,d⟩:=id C
  exact⟨u,rfl,bc1 (s:={ s with heap:=h' }) e c d (by decide) ⟨x,H,I1,ru,⟨rfl,λ ys hy=>by rw[I.tuple_inj hy hq];exact hx⟩,C,λ b hb=>(F b hb).1⟩⟩
 done:=by
  intro X G hw hK hc i y s σ H E I F st hg
  subst G hw hK
  obtain⟨xs,hq,hx⟩:=hg
  obtain⟨its,J,p,hz⟩:=I.tuple hq
  obtain⟨Y,f1,f2,Z,f4,f5⟩:=F it (by simp)
  have hl:=J.length
  exact wpAny_pyNext_tuple_end (I.ok.hd hc) st (show s.heap.IsTuple a its.toArray from p) (by simp;omega) λ h' eb=>⟨rfl,I.turned (t':=s.toks) (λ b o hb e=>eb b o hb e) Y f1 Z f4 f5⟩
 self:=λ _ _ _ _ _ st h=>wpAny_pyIter_tupleiter st h
theorem aK5 {P:aI}{w:World}{K:ae}{tg:Expr}(it:Addr)(G:Int)(n:Nat):Turn P w K tg (Itr G n) [it] it (λ i h=>IsRangeIter h it (G+(i:Nat)*1) ((n:Int) - (i:Nat)) 1) where
 mem:=by simp
 obj:=λ i h st b hb=>by
  have e:b=it:=by simpa using hb
  subst e
  exact⟨_,st,λ v z=>by
   have z':Data.fields _=Data.cell v:=z
   cases z'⟩
 keep:=λ i h h' st k=>k it (by simp) _ st
 item:=by
  intro X J hw hK hc i y s σ H E I F st hg
  subst J hw hK
  obtain⟨Z,f1,f2,Y,f4,f5⟩:=F it (by simp)
  have W:=Walks.range (prog:=X.prog) (w:=X.w) (I.ok.hd hc) it G 1 n
  refine W.item i s _ _ hg st λ v h' tk hv C kk=>?_
  obtain⟨t,rfl⟩:=hv
  have I1:Inv X y σ H { s with heap:=h',toks:=tk }:=I.turned (λ b o hb e=>kk b o (by simpa using hb) e) Z f1 Y f4 f5
  refine⟨_,rfl,bc1 (s:={ s with heap:=h',toks:=tk }) (n := "range_iterator") C rfl rfl (by decide) ⟨.int (G+i),H,I1,⟨t,?_⟩,⟨rfl,rfl⟩,C,λ b hb=>(F b hb).1⟩⟩
  rw[Int.mul_one]
 done:=by
  intro X J hw hK hc i y s σ H E I F st hg
  subst J hw hK
  obtain⟨Z,f1,f2,Y,f4,f5⟩:=F it (by simp)
  exact wpAny_pyNext_range_end (I.ok.hd hc) st (by have:n<=i:=hg;omega) λ h' eb=>⟨rfl,I.turned (t':=s.toks) (λ b o hb e=>eb b o hb e) Z f1 Y f4 f5⟩
 self:=λ _ _ _ _ _ st h=>wpAny_pyIter_rangeiter st h
section
variable {X:Cx} {tg:Expr}
def bq2 (K:ae)(tl:TE):TI:=λ σ H R=>tl σ H λ x H1=>∃ a,x=.ref a/\(∃ xs,SqL K H1 a xs)/\R (Itl K a) H1
def bP6 (K:ae)(tl:TE):TI:=λ σ H R=>tl σ H λ x H1=>∃ a,x=.ref a/\(∃ xs,SqT K H1 a xs)/\R (Itt K a) H1
theorem bl8 {l:Expr}{C:TE}(hl:PE X l C):PI X tg l (bq2 X.K C):=by
 intro y s σ H R I h
 refine thn (hl y s σ H _ I h) λ v s1 ⟨x,F,z,r1,G⟩=>?_
 obtain⟨a,e,⟨Y,hq⟩,q⟩:=G
 subst e
 cases r1
 obtain⟨its,J,p,hz⟩:=z.list hq
 refine dw p.isList ?_
 refine⟨s1.heap.objs.size,[s1.heap.objs.size],_,_,F,rfl,z.kept (t':=s1.toks) λ b o e=>ai _ e,aQ0 a _,⟨_,aA _ rfl,rfl,rfl⟩,λ b hb=>?_,q⟩
 have e:b=s1.heap.objs.size:=by simpa using hb
 subst e
 exact z.fpOk (ak _) (z.hok.fresh (ak _))
theorem bL5 {l:Expr}{C:TE}(hl:PE X l C):PI X tg l (bP6 X.K C):=by
 intro y s σ H R I h
 refine thn (hl y s σ H _ I h) λ v s1 ⟨x,F,z,r1,G⟩=>?_
 obtain⟨a,e,⟨Y,hq⟩,q⟩:=G
 subst e
 cases r1
 obtain⟨its,J,p,hz⟩:=z.tuple hq
 refine i8 (show s1.heap.IsTuple a its.toArray from p) ?_
 refine⟨s1.heap.objs.size,[s1.heap.objs.size],_,_,F,rfl,z.kept (t':=s1.toks) λ b o e=>ai _ e,aM7 a _,⟨_,aA _ rfl,rfl,rfl⟩,λ b hb=>?_,q⟩
 have e:b=s1.heap.objs.size:=by simpa using hb
 subst e
 exact z.fpOk (ak _) (z.hok.fresh (ak _))
theorem aY6 {z:List (Addr×Obj)}{σ:St}{H:Hp}{s:af}{R:It->Hp->Prop}{E:Value->af->Prop}{h y:Int}{t u v:Tok}{tk:Nat}(I:Inv X z σ H s)(F:-(2^62)<=h)(G:h<2^62)(h3:-(2^62)<=y)(J:y<2^62)
  (q:R (Itr h (y - h).toNat) H):wpAny (model X.prog X.w) X.A (j1 (.ref s.heap.objs.size)) (PIE X z σ tg R) E { s with heap:=s.heap.push { cls:=.type "range",data:=.fields #[.int h t,.int y u,.int 1 v] },toks:=tk }:=by
 refine wpAny_pyIter_range (IsRange.new ..) (small_one F G h3 J) ?_
 have C:Inv X z σ H { s with heap:=s.heap.push { cls:=.type "range",data:=.fields #[.int h t,.int y u,.int 1 v] },toks:=tk }:=I.kept λ b o e=>ai _ e
 refine⟨(s.heap.push { cls:=.type "range",data:=.fields #[.int h t,.int y u,.int 1 v] }).objs.size,[(s.heap.push { cls:=.type "range",data:=.fields #[.int h t,.int y u,.int 1 v] }).objs.size],_,_,H,rfl,
  C.kept (t':=tk) λ b o e=>ai _ e,aK5 _ h (y - h).toNat,?_,λ b hb=>?_,q⟩
 ·have e1:h+((0:Nat):Int)*1=h:=by simp
  have e2:(((y - h).toNat:Nat):Int) - ((0:Nat):Int)=kx h y 1:=by rw[rangeSize_one];split<;>omega
  show IsRangeIter _ _ (h+((0:Nat):Int)*1) ((((y - h).toNat:Nat):Int) - ((0:Nat):Int)) 1
  rw[e1,e2]
  exact aA _ rfl
 ·have e:b=(s.heap.push { cls:=.type "range",data:=.fields #[.int h t,.int y u,.int 1 v] }).objs.size:=by simpa using hb
  subst e
  exact C.fpOk (ak _) (C.hok.fresh (ak _))
def bH1 (ta:TA):TI:=λ σ H R=>ta σ H λ vs H1=>∃ j:Int,vs=[.int j]/\-(2^62)<=j/\j<2^62/\R (Itr 0 j.toNat) H1
theorem aR5 {a:Expr}{C:TA}{p pos:Pos}(hg:Gl X "range")(G:X.mg "range"=none)(ha:PA X [a] C)(hs:bn [a] X.env=[(false,eval a X.env)]:=by rfl):PI X tg (.Call (.Name "range" p) [a] [] pos) (bH1 C):=by
 intro y s σ H R I h
 refine Call_ (au2 I hg G boot_range (fq (thn (ha pos y s σ H _ I h) λ us s1 ⟨vs,J,F,r1,z⟩=>?_) hs rfl))
 obtain⟨j,e,z,q2,q⟩:=z
 subst e
 cases r1 with
 | cons r rr =>
  cases rr
  obtain⟨t,rfl⟩:=r
  exact call_range_1 (aY6 F (by omega) (by omega) z q2 (by simpa using q))
def bU2 (wi:TI)(g:TG)(tb:TS):TS:=λ D σ H=>wi σ H λ J H1=>∃ W:Nat->Nat->St->Hp->Prop,(∃ m,W 0 m σ H1)/\∀ i m σ H,W i m σ H ->
 (J.stop i H/\D.nx σ H)\/(J.go i H/\∃ N:St->Hp->Prop,(∀ σ' H',N σ' H'->∃ m',m'<m/\W (i+1) m' σ' H')/\∀ x H',J.yld i H x H'->g x σ H' λ σ2 H2=>tb { D with nx:=N,ct:=N,bk:=D.nx } σ2 H2)
noncomputable def aw8 (fp:List Addr)(h:Heap):List (Addr×Obj):=fp.filterMap λ b=>(h.get? b).map λ o=>(b,o)
theorem qy {y:List Addr}{h:Heap}{b:Addr}{o:Obj}(hb:b∈y)(e:h.get? b=some o):(b,o)∈aw8 y h:=c5.mpr ⟨b,hb,by rw[e];rfl⟩
theorem aU7 {y:List Addr}{h:Heap}{p:Addr×Obj}(z:p∈aw8 y h):p.1∈y/\h.get? p.1=some p.2:=by
 obtain⟨b,hb,e⟩:=c5.mp z
 cases q:h.get? b with
 | none=>rw[q]at e;cases e
 | some o =>
  rw[q]at e
  have e':(b,o)=p:=aw e
  subst e'
  exact⟨hb,q⟩
theorem Inv.pinned {h:List (Addr×Obj)}{σ:St}{H:Hp}{s:af}{y:List Addr}(I:Inv X h σ H s)(J:∀ b∈y,FpOk X h H b)(ho:∀ b∈y,∃ o,s.heap.get? b=some o/\∀ v,o.data≠.cell v):Inv X (h++aw8 y s.heap) σ H s :=
 I.pins_of λ p C=>(aQ.mp C).elim (λ z=>I.pin p (aS _ z)) λ z=>by
  obtain⟨hb,e⟩:=aU7 z
  obtain⟨G,Y,F,_⟩:=J p.1 hb
  obtain⟨o,e',d⟩:=ho p.1 hb
  rw[e]at e';cases e'
  exact⟨e,G,Y,F,d⟩
theorem Inv.unpinned {h z:List (Addr×Obj)}{σ:St}{H:Hp}{s:af}(I:Inv X (h++z) σ H s):Inv X h σ H s:=I.pins_of λ p y=>I.pin p (aS _ (bE _ y))
theorem bI1 {iter:Expr}{body:List Stmt}{wi:TI}{g:TG}{tb:TS}{pos:Pos}(hp:PassesOwn (model X.prog X.w) X.A X.env X.xe)(hc:X.calm=true)(hi:PI X tg iter wi)(hg:PG X tg g)(hb:PSs X body tb)
  (hs:∀ x,dz iter X.env x=pure x:=by intro _;rfl):PS X (.For tg iter body [] pos) (bU2 wi g tb):=by
 intro y s σ H D I h
 refine wpAny_For (thn (hi y s σ H _ I h) λ v s1 h1=>thn h1 λ a6 s2 h2=>?_) hs
 obtain⟨it,fp,tn,J,H2,e,I2,T,a4,f2,W,⟨m0,w0⟩,turn⟩:=h2
 subst e
 have z:∀ {H':Hp},(∀ b∈fp,H' b=none)->∀ b∈fp,FpOk X y H' b:=λ hn b hb=>⟨hn b hb,(f2 b hb).2⟩
 refine codeAny_forLoop_any (λ n s'=>∃ i σ' H',Inv X y σ' H' s'/\tn i s'.heap/\(∀ b∈fp,H' b=none)/\W i n σ' H') ?_ m0 ⟨0,σ,H2,I2,a4,λ b hb=>(f2 b hb).1,w0⟩
 rintro n s3 ⟨i,σ3,H3,I3,a1,a2,w3⟩
 rcases turn i n σ3 H3 w3 with⟨stop,qn⟩|⟨go,N,hN,step⟩
 ·refine cL hp (thn (T.done X rfl rfl rfl hc i y s3 σ3 H3 X.xe I3 (z a2) a1 stop) λ r s4 ⟨hr,I4⟩=>?_)
  subst hr
  exact gZ ⟨σ3,H3,I4,qn⟩
 ·refine cL hp (thn (T.item X rfl rfl rfl hc i y s3 σ3 H3 X.xe I3 (z a2) a1 go) λ r s4 ⟨u,hr,h4⟩=>?_)
  subst hr
  refine cL hp (thn h4 λ _ s5 ⟨x,H5,I5,r5,y5,Z,a5⟩=>?_)
  have a3:=I5.pinned (z a5) (T.obj _ _ Z)
  refine cL hp (thn (hg _ s5 σ3 H5 x u _ a3 r5 (step x H5 y5)) λ _ s6 ⟨σ6,H6,I6,q6⟩=>?_)
  refine cL hp (thn (hb _ s6 σ6 H6 _ I6 q6) λ f s7 Y=>?_)
  have G:∀ {σ7:St} {C:Hp},Inv X (y++aw8 fp s5.heap) σ7 C s7->N σ7 C->∃ m,m<n/\∃ i σ' H',Inv X y σ' H' s7/\tn i s7.heap/\(∀ b∈fp,H' b=none)/\W i m σ' H':=λ {σ7 C} F n7=>by
   obtain⟨m',hm,w7⟩:=hN σ7 C n7
   refine⟨m',hm,i+1,σ7,C,F.unpinned,T.keep _ _ _ Z λ b hb o e=>(F.pin (b,o) (aS _ (aS _ (qy hb e)))).1,λ b hb=>?_,w7⟩
   obtain⟨o,e,d⟩:=T.obj _ _ Z b hb
   exact(F.pin (b,o) (aS _ (aS _ (qy hb e)))).2.1
  cases f with
  | next=>obtain⟨σ7,C,F,n7⟩:=Y;exact G F n7
  | cont=>obtain⟨σ7,C,F,n7⟩:=Y;exact G F n7
  | brk=>obtain⟨σ7,C,F,Y⟩:=Y;exact⟨σ7,C,F.unpinned,Y⟩
  | ret v=>obtain⟨x7,σ7,C,F,r7,Y⟩:=Y;exact⟨x7,σ7,C,F.unpinned,r7,Y⟩
end
abbrev R2:=V->V->Hp->VK->Prop
def OpR (X:Cx)(f:Value->Value->Sem Value)(r:R2):Prop :=
 ∀(pins:List (Addr×Obj)) (s:af) (σ:St) (H:Hp) (x y:V) (v u:Value) (Q:VK),Inv X pins σ H s->RelV x v->RelV y u->r x y H Q ->
  wpAny (model X.prog X.w) X.A (f v u) (EP X pins σ Q) X.xe s
def UnR (X:Cx)(f:Value->Sem Value)(r:V->Hp->VK->Prop):Prop :=
 ∀(pins:List (Addr×Obj)) (s:af) (σ:St) (H:Hp) (x:V) (v:Value) (Q:VK),Inv X pins σ H s->RelV x v->r x H Q ->
  wpAny (model X.prog X.w) X.A (f v) (EP X pins σ Q) X.xe s
def ab9 (X:Cx)(f:Value)(r:List V->Hp->VK->Prop):Prop :=
 ∀(pins:List (Addr×Obj)) (s:af) (σ:St) (H:Hp) (xs:List V) (us:List Value) (Q:VK),Inv X pins σ H s->Vals xs us->r xs H Q ->
  wpAny (model X.prog X.w) X.A (call f us) (EP X pins σ Q) X.xe s
def tOp (r:R2)(ta tb:TE):TE:=λ σ H Q=>ta σ H λ x H1=>tb σ H1 λ y H2=>r x y H2 Q
def tUn (r:V->Hp->VK->Prop)(ta:TE):TE:=λ σ H Q=>ta σ H λ x H1=>r x H1 Q
def rI (C:Int->Int->Prop)(g:Int->Int->V):R2:=λ x y H Q=>∃ i j,x=.int i/\y=.int j/\C i j/\Q (g i j) H
def rI0 (g:Int->Int->V):R2:=λ x y H Q=>∃ i j,x=.int i/\y=.int j/\Q (g i j) H
def rU (g:Int->V):V->Hp->VK->Prop:=λ x H Q=>∃ i,x=.int i/\Q (g i) H
section
variable {X:Cx} {a b c:Expr} {ta tb tc:TE} {pos:Pos}
theorem bT0 (ha:PE X a ta)(hb:PE X b tb){z:List (Addr×Obj)}{s:af}{σ:St}{H:Hp}{R:V->V->Hp->Prop}(I:Inv X z σ H s)
  (h:ta σ H λ x C=>tb σ C λ y H2=>R x y H2) {Q:Value->af->Prop} {f:Value->Value->Sem Value}
  (G:∀ v u s2 x y H2,Inv X z σ H2 s2->RelV x v->RelV y u->R x y H2->wpAny (model X.prog X.w) X.A (f v u) Q X.xe s2) :
  wpAny (model X.prog X.w) X.A (eval a X.env) (λ v Y=>wpAny (model X.prog X.w) X.A (eval b X.env) (λ u F=>wpAny (model X.prog X.w) X.A (f v u) Q X.xe F) X.xe Y) X.xe s:=by
 refine thn (ha z s σ H _ I h) λ v s1 ⟨x,C,Z,r1,q1⟩=>?_
 refine thn (hb z s1 σ C _ Z q1) λ u s2 ⟨y,H2,I2,J,q2⟩=>?_
 exact G v u s2 x y H2 I2 r1 J q2
theorem bB3 {op:Operator}{r:R2}(ho:OpR X (cj op) r)(ha:PE X a ta)(hb:PE X b tb):PE X (.BinOp a op b pos) (tOp r ta tb):=by
 intro z s σ H Q I h
 exact wpAny_BinOp (bT0 ha hb I h λ v u s2 x y H2 I2 C F q=>ho z s2 σ H2 x y v u Q I2 C F q)
theorem bO8 {op:UnaryOp}{r:V->Hp->VK->Prop}(ho:UnR X (unaryOp op) r)(ha:PE X a ta):PE X (.UnaryOp op a pos) (tUn r ta):=by
 intro y s σ H Q I h
 exact UnaryOp_ (thn (ha y s σ H _ I h) λ v s1 ⟨x,z,C,r1,F⟩=>ho y s1 σ z x v Q C r1 F)
theorem opI {f:Value->Value->Sem Value}{C:Int->Int->Prop}{g:Int->Int->Int}
  (rule:∀(i j:Int) (t u:Tok) (s:af) (Q:Value->af->Prop) (E:Value->af->Prop),C i j->Q (.int (g i j) s.toks) { s with toks:=s.toks+1 }->wpAny (model X.prog X.w) X.A (f (.int i t) (.int j u)) Q E s) :
  OpR X f (rI C λ i j=>.int (g i j)):=by
 intro z s σ H x y v u Q I F G h
 obtain⟨i,j,rfl,rfl,hc,q⟩:=h
 obtain⟨t,rfl⟩:=F
 obtain⟨t',rfl⟩:=G
 exact rule i j t t' s _ _ hc ⟨.int (g i j),H,I.tok _,⟨_,rfl⟩,q⟩
theorem bU6 {f:Value->Value->Sem Value}{g:Int->Int->Int}
  (rule:∀(i j:Int) (t u:Tok) (s:af) (Q:Value->af->Prop) (E:Value->af->Prop),Q (.int (g i j) s.toks) { s with toks:=s.toks+1 }->wpAny (model X.prog X.w) X.A (f (.int i t) (.int j u)) Q E s) :
  OpR X f (rI0 λ i j=>.int (g i j)):=by
 intro z s σ H x y v u Q I C F h
 obtain⟨i,j,rfl,rfl,q⟩:=h
 obtain⟨t,rfl⟩:=C
 obtain⟨t',rfl⟩:=F
 exact rule i j t t' s _ _ ⟨.int (g i j),H,I.tok _,⟨_,rfl⟩,q⟩
theorem bM5 {f:Value->Value->Sem Value}{g:Int->Int->Bool}
  (rule:∀(i j:Int) (t u:Tok) (s:af) (Q:Value->af->Prop) (E:Value->af->Prop),Q (.bool (g i j)) s->wpAny (model X.prog X.w) X.A (f (.int i t) (.int j u)) Q E s) :
  OpR X f (rI0 λ i j=>.bl (g i j)):=by
 intro z s σ H x y v u Q I C F h
 obtain⟨i,j,rfl,rfl,q⟩:=h
 obtain⟨t,rfl⟩:=C
 obtain⟨t',rfl⟩:=F
 exact rule i j t t' s _ _ ⟨.bl (g i j),H,I,rfl,q⟩
def bU8 (i j:Int):Prop:=0<=j/\j<=1000000/\i.natAbs<2^64
def bM2 (i j:Int):Prop:=(-(2^64)<i/\i<2^64)\/(-(2^64)<j/\j<2^64)
theorem bM2.ok {i j:Int}(h:bM2 i j):IntMulOk i j:=by
 rcases h with⟨y,z⟩|⟨y,z⟩
 ·exact .of_left (intBits_le_64 y z)
 ·exact .of_right (intBits_le_64 y z)
theorem aL9 (k:Nat):(0:Int)<=2^k:=by
 rw[two_pow_cast]
 exact Int.natCast_nonneg _
theorem bD2:OpR X (cj .Add) (rI0 λ i j=>.int (i+j)):=bU6 λ _ _ _ _ _ _ _ q=>add_int q
theorem bK2:OpR X (cj .Sub) (rI0 λ i j=>.int (i - j)):=bU6 λ _ _ _ _ _ _ _ q=>sub_int q
theorem bA8:OpR X (cj .Mod) (rI (λ _ j=>0<j) λ i j=>.int (i % j)):=opI λ i j _ _ _ _ _ hc q=>by
 have h:(0:Int)<j:=hc
 exact mod_int' (by omega) (by rw[Int.fmod_eq_emod_of_nonneg i (by omega)];exact q)
theorem bF3:OpR X (cj .Pow) (rI bU8 λ i j=>.int (i^j.toNat)):=opI λ _ _ _ _ _ _ _ hc q=>pow_int_small hc.1 hc.2.1 hc.2.2 q
theorem bB6:OpR X (cj .LShift) (rI bU8 λ i j=>.int (i*2^j.toNat)):=opI λ _ _ _ _ _ _ _ hc q=>lshift_int_small hc.1 hc.2.1 hc.2.2 q
theorem bH8:OpR X (cj .RShift) (rI (λ _ j=>0<=j) λ i j=>.int (i / 2^j.toNat)):=opI λ i j _ _ _ _ _ hc q =>
 rshift_int hc (by rw[fD i (aL9 _)];exact q)
theorem unI {f:Value->Sem Value}{g:Int->Int}
  (rule:∀(i:Int) (t:Tok) (s:af) (Q:Value->af->Prop) (E:Value->af->Prop),Q (.int (g i) s.toks) { s with toks:=s.toks+1 }->wpAny (model X.prog X.w) X.A (f (.int i t)) Q E s) :
  UnR X f (rU λ i=>.int (g i)):=by
 intro y s σ H x v Q I z h
 obtain⟨i,rfl,q⟩:=h
 obtain⟨t,rfl⟩:=z
 exact rule i t s _ _ ⟨.int (g i),H,I.tok _,⟨_,rfl⟩,q⟩
theorem bF8:UnR X (unaryOp .USub) (rU λ i=>.int (-i)):=unI λ _ _ _ _ _ q=>neg_int q
end
section
variable {X:Cx} {a b c:Expr} {ta tb tc:TE} {pos:Pos}
theorem bT6:OpR X (cw .Lt) (rI0 λ i j=>.bl (decide (i<j))):=bM5 λ _ _ _ _ _ _ _ q=>lt_int q
theorem bT1:OpR X (cw .LtE) (rI0 λ i j=>.bl (decide (i<=j))):=bM5 λ _ _ _ _ _ _ _ q=>le_int q
theorem bP2:OpR X (cw .Gt) (rI0 λ i j=>.bl (decide (j<i))):=bM5 λ _ _ _ _ _ _ _ q=>gt_int q
theorem bO1:OpR X (cw .GtE) (rI0 λ i j=>.bl (decide (j<=i))):=bM5 λ _ _ _ _ _ _ _ q=>ge_int q
theorem bw1 {op:CmpOp}{r:R2}(ho:OpR X (cw op) r)(ha:PE X a ta)(hb:PE X b tb)(G:cR op b=false):PE X (.Compare a [op] [b] pos) (tOp r ta tb):=by
 intro z s σ H Q I h
 exact wpAny_Compare1 (bT0 ha hb I h λ v u s2 x y H2 I2 C F q=>ho z s2 σ H2 x y v u Q I2 C F q) G
def bx2 (t:TE):TT:=λ σ H Q=>t σ H λ x H'=>∃ k,x=.bl k/\Q k H'
theorem bl6 {op:CmpOp}{r:R2}(ho:OpR X (cw op) r)(ha:PE X a ta)(hb:PE X b tb)(Y:cR op b=false):PT X (.Compare a [op] [b] pos) (bx2 (tOp r ta tb)):=by
 intro C s σ H Q I h
 refine hV (thn (ha C s σ H _ I h) λ v s1 ⟨x,Z,I1,r1,q1⟩=>thn (hb C s1 σ Z _ I1 q1) λ u s2 ⟨y,H2,I2,G,q2⟩ =>
  thn (ho C s2 σ H2 x y v u _ I2 r1 G q2) λ c s3 ⟨z,F,J,r3,k,e,q3⟩=>?_) Y
 subst e
 cases r3
 exact bC ⟨F,J,q3⟩
def aW5 (r r':R2)(ta tb tc:TE):TE:=λ σ H Q=>ta σ H λ x H1=>tb σ H1 λ y H2=>r x y H2 λ z H3=>∃ k,z=.bl k /\
 (if k=true then tc σ H3 λ w' H4=>r' y w' H4 Q else Q (.bl false) H3)
theorem aX7 {op F:CmpOp}{r Z:R2}(ho:OpR X (cw op) r)(G:OpR X (cw F) Z)(ha:PE X a ta)(hb:PE X b tb)(hc:PE X c tc)
  (hm:kz [op,F] [b,c]=false:=by with_unfolding_all rfl):PE X (.Compare a [op,F] [b,c] pos) (aW5 r Z ta tb tc):=by
 intro C s σ H Q I h
 refine Compare_chain (thn (ha C s σ H _ I h) λ v s1 ⟨x,H1,I1,r1,q1⟩=>chain_link (thn (hb C s1 σ H1 _ I1 q1) λ u s2 ⟨y,H2,I2,Y,q2⟩ =>
  thn (ho C s2 σ H2 x y v u _ I2 r1 Y q2) λ d s3 ⟨z,J,I3,r3,k,e,q3⟩=>?_)) hm
 subst e
 cases r3
 refine bC ?_
 cases k with
 | false=>exact ite_ff ⟨.bl false,J,I3,rfl,q3⟩
 | true=>exact ite_tt (chain_last (thn (hc C s3 σ J _ I3 q3) λ w' s4 ⟨z',H4,I4,r4,q4⟩=>G C s4 σ H4 y z' u w' Q I4 Y r4 q4))
theorem aY8 {op F:CmpOp}{r Z:R2}(ho:OpR X (cw op) r)(G:OpR X (cw F) Z)(ha:PE X a ta)(hb:PE X b tb)(hc:PE X c tc)
  (hm:kz [op,F] [b,c]=false:=by with_unfolding_all rfl):PT X (.Compare a [op,F] [b,c] pos) (bx2 (aW5 r Z ta tb tc)):=by
 intro C s σ H Q I h
 refine isTrue_chain (thn (ha C s σ H _ I h) λ v s1 ⟨x,H1,I1,r1,q1⟩=>test_link (thn (hb C s1 σ H1 _ I1 q1) λ u s2 ⟨y,H2,I2,Y,q2⟩ =>
  thn (ho C s2 σ H2 x y v u _ I2 r1 Y q2) λ d s3 ⟨z,J,I3,r3,k,e,q3⟩=>?_)) hm
 subst e
 cases r3
 refine bC ?_
 cases k with
 | false =>
  obtain⟨k',e',q'⟩:=q3
  cases e'
  exact ite_ff ⟨J,I3,q'⟩
 | true =>
  refine ite_tt (test_last (thn (hc C s3 σ J _ I3 q3) λ w' s4 ⟨z',H4,I4,r4,q4⟩=>thn (G C s4 σ H4 y z' u w' _ I4 Y r4 q4) λ d' s5 ⟨z2,H5,I5,r5,k2,e2,q5⟩=>?_))
  subst e2
  cases r5
  exact bC ⟨H5,I5,q5⟩
theorem ak9:(aF:Nat)<2^63:=by rw[cZ];decide
theorem aK9:OpR X (cj .Add) (λ x y H Q=>∃ i j,x=.str i/\y=.str j/\i.length+j.length<=aF/\Q (.str (i++j)) H):=by
 intro z s σ H x y v u Q I C F h
 obtain⟨i,j,rfl,rfl,hz,q⟩:=h
 obtain⟨t,rfl⟩:=C
 obtain⟨t',rfl⟩:=F
 exact add_str (λ t' tk=>⟨.str (i++j),H,I.tok _,⟨_,rfl⟩,q⟩) hz
theorem ai4 {x:V}{us:List Value}(r:Vals [x] us):∃ u,us=[u]/\RelV x u:=by
 cases r with
 | cons r1 r2=>cases r2;exact⟨_,rfl,r1⟩
theorem bv9 {x y:V}{us:List Value}(r:Vals [x,y] us):∃ u w',us=[u,w']/\RelV x u/\RelV y w':=by
 cases r with
 | cons r1 r2 =>
  cases r2 with
  | cons r3 r4=>cases r4;exact⟨_,_,rfl,r1,r3⟩
theorem bb3:ab9 X (.builtin "abs") (λ y H Q=>∃ i,y=[.int i]/\Q (.int (if i<0 then -i else i)) H):=by
 intro z s σ H y us Q I r h
 obtain⟨i,rfl,q⟩:=h
 obtain⟨u,rfl,t,rfl⟩:=ai4 r
 exact call_abs_int λ u tk=>⟨.int (if i<0 then -i else i),H,I.tok _,⟨_,rfl⟩,q⟩
theorem aQ7 (hc:X.calm=true):ab9 X (.builtin "max") (λ y H Q=>∃ i j,y=[.int i,.int j]/\Q (.int (if j > i then j else i)) H):=by
 intro z s σ H y us Q I r h
 obtain⟨i,j,rfl,q⟩:=h
 obtain⟨u,w',rfl,⟨t,rfl⟩,⟨t',rfl⟩⟩:=bv9 r
 refine max_two_ints (I.ok.hd hc) λ h' tk k=>⟨_,H,I.kept k,?_,q⟩
 by_cases hj:j > i
 ·rw[if_pos hj,if_pos hj];exact⟨_,rfl⟩
 ·rw[if_neg hj,if_neg hj];exact⟨_,rfl⟩
theorem aU5 (hc:X.calm=true):ab9 X (.builtin "min") (λ y H Q=>∃ i j,y=[.int i,.int j]/\Q (.int (if j<i then j else i)) H):=by
 intro z s σ H y us Q I r h
 obtain⟨i,j,rfl,q⟩:=h
 obtain⟨u,w',rfl,⟨t,rfl⟩,⟨t',rfl⟩⟩:=bv9 r
 refine min_two_ints (I.ok.hd hc) λ h' tk k=>⟨_,H,I.kept k,?_,q⟩
 by_cases hj:j<i
 ·rw[if_pos hj,if_pos hj];exact⟨_,rfl⟩
 ·rw[if_neg hj,if_neg hj];exact⟨_,rfl⟩
theorem aP8:ab9 X (.type "int") (λ y H Q=>(∃ i,y=[.int i]/\Q (.int i) H)\/∃ k,y=[.bl k]/\Q (.int (if k then 1 else 0)) H):=by
 intro z s σ H y us Q I r h
 rcases h with⟨i,rfl,q⟩|⟨k,rfl,q⟩
 ·obtain⟨u,rfl,t,rfl⟩:=ai4 r
  exact call_int_int ⟨.int i,H,I,⟨_,rfl⟩,q⟩
 ·obtain⟨u,rfl,r1⟩:=ai4 r
  cases r1
  exact call_int_bool ⟨.int (if k then 1 else 0),H,I.tok _,⟨_,rfl⟩,q⟩
end
structure ObjM (h:Heap)(x dx C:Addr)(mA:Str->Option Value):Prop where
 obj:h.get? x=some (gX C dx)
 ns:h.Ns1 dx mA
 ne:dx≠x
theorem aN5 {h:Heap}{F:Addr}{G:Str->Option Value}(n:h.Ns1 F G):∃ od,h.get? F=some od/\∀ name,ii name od=some (G name):=by
 obtain⟨o,es,Z,ho,hd,hk,_,Y⟩:=n
 refine⟨o,ho,λ name=>?_⟩
 have e:=Y name
 unfold nsFind findBy at e
 rw[<-Array.find?_toList]at e
 unfold ii
 rw[hd]
 dsimp only
 split
 ·rename_i y q
  rw[q]at e
  exact congrArg some e
 ·rename_i q
  rw[q]at e
  have a:es.toList.any (·.refKey)=false:=by
   rw[List.any_eq_false]
   intro y hy
   obtain⟨z,t,C⟩:=hk y (Array.mem_toList_iff.mp hy)
   simp[DictEntry.refKey,C]
  have J:¬ es.toList.any (·.refKey)=true:=by rw[a];exact aJ
  rw[if_neg J]
  exact congrArg some e
theorem ObjM.look {h:Heap}{x y C:Addr}{z:Str->Option Value}(I:ObjM h x y C z):∃ od,PySem.W.InstAt h x (gX C y) C (some od)/\∀ name,ii name od=some (z name) :=
 let⟨od,ho,hl⟩:=aN5 I.ns
 ⟨od,⟨I.obj,rfl,rfl,ho⟩,hl⟩
section
variable {prog:aI} {w:World} {A:aZ} {E:Value->af->Prop} {s:af} {K:ae} {x dx C f:Addr} {mA:Str->Option Value} {name:Str} {v:Value}
end
theorem aJ7.some_of {v:V}{o:Option Value}(r:aJ7 (some v) o):∃ u,o=some u/\RelV v u:=by
 cases o with
 | none=>exact(show False from r).elim
 | some u=>exact⟨u,rfl,r⟩
section
variable {P:aI} {w:World} {H H':Hp} {h h':Heap} {a C dx:Addr} {fs fs':List (Str×V)}
theorem bw9 (hok:HOk P w H h)(e:H a=some (.ins C dx fs)):∃ y,ObjM h a dx C y/\(∀ f,aJ7 (fs.lookup f) (y f))/\kC y (fs.map (·.1))/\fs.length<=1000/\H dx=some (.own a):=by
 obtain⟨d,z,ne,ob,y,n,r,q⟩:=(show ab2 P w H h a (.ins C dx fs)from hok a _ e)
 exact⟨y,⟨ob,n,ne⟩,r,q,z,d⟩
end
structure Cls (K:ae)(C:Addr):Prop where
 pg:jC K C Str.empty=true
 hd:PySem.W.hasDictIn K C=true
 po:PySem.W.plainOver K C=true
 sa:ik K (.ref C) "__setattr__"=some (some (.builtin "object.__setattr__"))
theorem Cls.get {K:ae}{C:Addr}(c:Cls K C)(f:Str):jC K C f=true:=c.pg
section
variable {X:Cx} {pins:List (Addr×Obj)} {σ:St} {H:Hp} {s:af} {a C dx:Addr} {fs:List (Str×V)} {f:Str} {v:V} {A:aZ} {E:Value->af->Prop}
end
section
variable {X:Cx} {o e value:Expr} {f:Str} {pos pos' tpos:Pos} {ta tv:TE}
end
section
variable {X:Cx} {pins:List (Addr×Obj)} {σ:St} {H:Hp} {s:af} {A:aZ} {E:Value->af->Prop} {Q:Value->af->Prop} {c:Value} {b:Bool}
inductive TyOf (K:ae)(H:Hp):V->Value->Prop where
 | non:TyOf K H .non (.type "NoneType")
 | bl (x:Bool):TyOf K H (.bl x) (.type "bool")
 | int (i:Int):TyOf K H (.int i) (.type "int")
 | str (x:Str):TyOf K H (.str x) (.type "str")
 | flt (x:UInt64):TyOf K H (.flt x) (.type "float")
 | lst {a:Addr} {xs:List V} (e:H a=some (.lst xs)):TyOf K H (.ref a) (.type "list")
 | frz {a:Addr} {o:Obj} {xs:List V} (e:H a=some (.frz o (.lst xs))):TyOf K H (.ref a) (.type "list")
 | tup {a:Addr} {xs:List V} (e:H a=some (.tup xs)):TyOf K H (.ref a) (.type "tuple")
 | dK {a:Addr} {kvs:List (Key×V)} (e:H a=some (.dK kvs)):TyOf K H (.ref a) (.type "dict")
 | dT {a:Addr} {kvs:List (List Key×V)} (e:H a=some (.dT kvs)):TyOf K H (.ref a) (.type "dict")
 | ins {a C dx:Addr} {fs:List (Str×V)} (e:H a=some (.ins C dx fs)) (cl:Cls K C) (ha:ik K (.ref C) "__class__"=some (some (.builtin "object.__class__")))
   (hn:PySem.W.specialIn K (.builtin "object.__class__") "__get__"=some (some (.builtin "getset_descriptor.__get__"))) (htk:PySem.W.takesIn K (.builtin "object.__class__")=some true)
   (hm:PySem.W.mroIn K C (.type "object")=some true):TyOf K H (.ref a) (.ref C)
theorem qr {x:V}{u t:Value}(I:Inv X pins σ H s)(F:RelV x u)(ty:TyOf X.K H x t)(e:cE X.K t c=some b)(h:∀ tk,Q (.bool b) { s with toks:=tk }) :
  wpAny (model X.prog X.w) A (call (.builtin "isinstance") [u,c]) Q E s:=by
 cases ty with
 | non=>cases(show u=Value.none from F);exact bH PySem.W.kitx_none I.kIn True.intro e (λ z=>nomatch z) h
 | bl y=>cases(show u=Value.bool y from F);exact bH PySem.W.kitx_bool I.kIn True.intro e (λ z=>nomatch z) h
 | int i=>obtain⟨t,q⟩:=(show ∃ t,u=Value.int i t from F);cases q;exact bH PySem.W.kitx_int I.kIn True.intro e (λ z=>nomatch z) h
 | str y=>obtain⟨t,q⟩:=(show ∃ t,u=Value.str y t from F);cases q;exact bH PySem.W.kitx_str I.kIn True.intro e (λ z=>nomatch z) h
 | flt y=>obtain⟨t,q⟩:=(show ∃ t,u=Value.float y t from F);cases q;exact bH PySem.W.kitx_float I.kIn True.intro e (λ z=>nomatch z) h
 | @lst a Y ea =>
  cases(show u=Value.ref a from F)
  obtain⟨_,_,n,_,G⟩:=(show ab2 X.prog X.w H s.heap a (.lst Y)from I.hok a _ ea)
  exact bH jm I.kIn ⟨_,G,rfl⟩ e (λ z=>nomatch z) h
 | @frz a ob Y ea =>
  cases(show u=Value.ref a from F)
  obtain⟨_,_,_,n,_,G⟩:=(show ab2 X.prog X.w H s.heap a (.frz ob (.lst Y))from I.hok a _ ea)
  exact bH jm I.kIn ⟨_,G,rfl⟩ e (λ z=>nomatch z) h
 | @tup a Y ea =>
  cases(show u=Value.ref a from F)
  obtain⟨_,_,_,p⟩:=(show ab2 X.prog X.w H s.heap a (.tup Y)from I.hok a _ ea)
  obtain⟨o,G,Z,_⟩:=p
  exact bH i9 I.kIn ⟨o,G,Z⟩ e (λ z=>nomatch z) h
 | @dK a kvs ea =>
  cases(show u=Value.ref a from F)
  obtain⟨_,_,vs,_,p⟩:=(show ab2 X.prog X.w H s.heap a (.dK kvs)from I.hok a _ ea)
  obtain⟨o,es,ep,G,Z,_⟩:=p
  exact bH jn I.kIn ⟨o,G,Z.1⟩ e (λ z=>nomatch z) h
 | @dT a kvs ea =>
  cases(show u=Value.ref a from F)
  obtain⟨_,_,Y,_,o,es,ep,G,Z,_⟩:=(show ab2 X.prog X.w H s.heap a (.dT kvs)from I.hok a _ ea)
  exact bH jn I.kIn ⟨o,G,Z.1⟩ e (λ z=>nomatch z) h
 | @ins a C dx fs ea cl ha hn htk hm =>
  cases(show u=Value.ref a from F)
  obtain⟨mA,O,_⟩:=bw9 I.hok ea
  obtain⟨od,J,_⟩:=O.look
  exact bH (PySem.W.kitx_own (cl.get _) cl.hd ha hn htk hm) I.kIn J e (λ z=>nomatch z) h
end
structure Room (k:Nat)(A:aZ):Prop where
 hd:A.handled=none
 dp:A.depth+3*k+5<recursionLimit
 un:A.units+16*k+200<cLine
theorem Room.mono {j k:Nat}{A:aZ}(r:Room k A)(h:j<=k):Room j A:=⟨r.hd,by have:=r.dp;omega,by have:=r.un;omega⟩
theorem Room.deeper {k:Nat}{A:aZ}(r:Room (k+1) A)(env:Env):Room k (A.deeper env) :=
 ⟨r.hd,by have:=r.dp;show A.depth+1+3*k+5<_;omega,by have:=r.un;show A.units+3+16*k+200<_;omega⟩
theorem Room.in1 {k:Nat}{A:aZ}(r:Room (k+1) A):Room k A.in1 :=
 ⟨r.hd,by have:=r.dp;show A.depth+3*k+5<_;omega,by have:=r.un;show A.units+1+16*k+200<_;omega⟩
theorem Room.depth {k:Nat}{A:aZ}(r:Room k A):A.depth<recursionLimit:=by have:=r.dp;omega
theorem Room.units {k:Nat}{A:aZ}(r:Room k A):A.units+64<cLine:=by have:=r.un;omega
theorem Room.units0 {k:Nat}{A:aZ}(r:Room k A):A.units<cLine:=by have:=r.un;omega
def aX1:TA:=λ _ H Q=>Q [] H
def an1 (ta:TE)(tr:TA):TA:=λ σ H Q=>ta σ H λ x H1=>tr σ H1 λ xs H2=>Q (x::xs) H2
section
variable {X:Cx} {e:Expr} {es:List Expr} {te:TE} {t:TA} {pos:Pos}
theorem ad0:PA X [] aX1:=λ _ _ _ _ H Q I h=>jo ⟨[],H,I,.nil,h⟩
theorem zD (ha:PE X e te)(hr:PA X es t)(hs:bn (e::es) X.env=(false,eval e X.env)::bn es X.env:=by rfl):PA X (e::es) (an1 te t):=by
 intro pos y s σ H Q I h
 rw[hs]
 show wpAny _ _ (spliced ((false,eval e X.env)::dL pos (bn es X.env))) _ _ s
 refine fF (thn (ha y s σ H _ I h) λ u s1 ⟨x,z,G,r1,F⟩=>?_)
 exact thn (hr pos y s1 σ z _ G F) λ us s2 ⟨C,H2,I2,J,q2⟩=>⟨x::C,H2,I2,.cons r1 J,q2⟩
def bT3 (t:TA):TE:=λ σ H Q=>t σ H λ xs H1=>xs.length<=aF/\∀ p,H1 p=none->Q (.ref p) (upd H1 p (.tup xs))
def bX5 (t:TA):TE:=λ σ H Q=>t σ H λ xs H1=>xs.length<=aF/\∀ p,H1 p=none->Q (.ref p) (upd H1 p (.lst xs))
theorem bj3 {x1}(h:PA X es t):PE X (.Tuple es x1 pos) (bT3 t):=by
 intro y s σ H Q I hq
 refine wpAny_Tuple_spliced (thn (h pos y s σ H _ I hq) λ us s1 ⟨G,C,F,r,z,q⟩=>⟨by rw[<-r.length];exact z,?_⟩)
 have J:C s1.heap.objs.size=none:=F.hok.fresh (ak _)
 refine⟨.ref s1.heap.objs.size,upd C s1.heap.objs.size (.tup G),F.laid (t':=s1.toks) (λ b u e=>ai _ e) (ak _) ?_,rfl,q _ J⟩
 exact⟨z,us,r,⟨_,aA _ rfl,rfl,_,rfl⟩⟩
theorem bi6 (h:PA X es t):PE X (.List es pos) (bX5 t):=by
 intro y s σ H Q I hq
 refine wpAny_List_spliced (thn (h pos y s σ H _ I hq) λ us s1 ⟨G,C,F,r,z,q⟩=>⟨by rw[<-r.length];exact z,?_⟩)
 have J:C s1.heap.objs.size=none:=F.hok.fresh (ak _)
 refine⟨.ref s1.heap.objs.size,upd C s1.heap.objs.size (.lst G),F.laid (t':=s1.toks) (λ b u e=>ai _ e) (ak _) ?_,rfl,q _ J⟩
 exact⟨z,us,0,r,aA _ rfl⟩
end
abbrev Sp:=List V->Hp->VK->XK->Prop
abbrev CXT:=List Env->Hp->af->XK->Value->af->Prop
structure Env0 (P:aI)(w:World)(K:ae)(mg:Str->Option Value)(base:Heap)(A:aZ)(outer:List Env)(s:af)(H:Hp):Prop where
 frames:A.frames=some outer
 mod:Mod K mg base
 bs:∀ b o,base.get? b=some o->s.heap.get? b=some o/\H b=none
 bsz:base.objs.size<=s.heap.objs.size
 funs:s.heap.FunFrames base outer
 frf:∀ b∈frs outer,H b=none
 hok:HOk P w H s.heap
 bare:fQ s.gens
def CE (outer:List Env)(P:aI)(w:World)(H:Hp)(s:af)(Q:VK)(u:Value)(s':af):Prop :=
 ∃ v H',s'.os=s.os/\fQ s'.gens/\Un (frs outer) [] H H' s.heap s'.heap/\HOk P w H' s'.heap/\RelV v u/\Q v H'
def CR (CX:CXT)(outer:List Env)(P:aI)(w:World)(H:Hp)(s:af)(Q:VK)(E:XK)(r:Result)(s':af):Prop :=
 match r with
 | .ok (.ret u)=>CE outer P w H s Q u s'
 | .ok _=>False
 | .error e=>CX outer H s E e s'
structure FnOk (P:aI)(w:World)(K:ae)(mg:Str->Option Value)(base:Heap)(CX:CXT)(k:Nat)(f:Addr)(fd:bJ)(ps:List Str)(sp:Sp):Prop where
 len:∀ vs H Q E,sp vs H Q E->vs.length=ps.length
 run:∀(A:aZ) (outer:List Env) (s:af) (H:Hp) (args:Args) (us:List Value) (vs:List V) (Q:VK) (E:XK),Room k A->Env0 P w K mg base A outer s H->jW s fd args (ps.zip us)->Vals vs us->sp vs H Q E ->
  fR (model P w) A (.call (.ref f) args) (CR CX outer P w H s Q E) s
theorem FnOk.imp {P:aI}{w:World}{K:ae}{mg:Str->Option Value}{y:Heap}{C:CXT}{k:Nat}{f:Addr}{G:bJ}{ps:List Str}{sp z:Sp}(F:FnOk P w K mg y C k f G ps sp)
  (h:∀ vs H Q E,z vs H Q E->sp vs H Q E):FnOk P w K mg y C k f G ps z :=
 ⟨λ vs H Q E q=>F.len vs H Q E (h _ _ _ _ q),λ A outer s H args us vs Q E hr J hb hv hs=>F.run A outer s H args us vs Q E hr J hb hv (h _ _ _ _ hs)⟩
section
variable {X:Cx} {pins:List (Addr×Obj)} {σ:St} {H:Hp} {s s':af}
theorem Inv.env0 (I:Inv X pins σ H s):Env0 X.prog X.w X.K X.mg X.base X.A X.stack s H :=
 ⟨I.ok.frames,I.ok.mod,I.bs,am I.ok.bsz I.sz,I.stack,I.stkFree,I.hok,I.bare⟩
theorem Inv.after {Q:VK}{u:Value}(I:Inv X pins σ H s)(h:CE X.stack X.prog X.w H s Q u s'):EP X pins σ Q u s':=by
 obtain⟨v,H',os,bare,un,hok,r,q⟩:=h
 obtain⟨C,g,d,t,y⟩:=s'
 obtain rfl:y=s.os:=os
 exact⟨v,H',I.call (h':=C) (g':=g) (d':=d) (t':=t) (ch:=[]) un hok bare (λ b z=>absurd z (by simp)),r,q⟩
end
def aM6 (sp:Sp)(dvs:List V)(E:XK)(t:TA):TE:=λ σ H Q=>t σ H λ vs H1=>sp (vs++dvs) H1 Q E
def Binds (K:ae)(fd:bJ)(ps:List Str)(ds:List Value):Prop :=
 ∀(s:af) (us:List Value),K.In s.heap->(us++ds).length=ps.length->jW s fd ⟨us,[]⟩ (ps.zip (us++ds))
theorem Binds.all {K:ae}{y:bJ}{ps:List Str}(h:∀ us:List Value,us.length=ps.length->eT y ⟨us,[]⟩=pure (ps.zip us)):Binds K y ps []:=λ s us _ hl=>by
 rw[bq]at hl ⊢
 exact .of_eq (h us hl)
def aE5 (CX:CXT)(X:Cx)(E:XK):Prop:=∀(pins:List (Addr×Obj)) (σ:St) (H:Hp) (s:af) (e:Value) (s':af),Inv X pins σ H s->CX X.stack H s E e s'->X.xe e s'
section
variable {X:Cx} {CX:CXT} {k:Nat} {f C:Addr} {fd:bJ} {ps:List Str} {sp:Sp} {dvs:List V} {ds:List Value} {E:XK} {x m:Str} {p pos apos:Pos} {e o:Expr} {es:List Expr} {ta:TE} {t:TA}
theorem bh0 {y:List (Addr×Obj)}{σ:St}{H:Hp}{s:af}{Q:VK}{us:List Value}{vs:List V}(F:FnOk X.prog X.w X.K X.mg X.base CX k f fd ps sp)(hr:Room k X.A)(hb:Binds X.K fd ps ds)(hd:Vals dvs ds)(hx:aE5 CX X E)
  (I:Inv X y σ H s) (r:Vals vs us) (h:sp (vs++dvs) H Q E):wpAny (model X.prog X.w) X.A (call (.ref f) us) (EP X y σ Q) X.xe s:=by
 have z:Vals (vs++dvs) (us++ds):=r.append hd
 have hl:(us++ds).length=ps.length:=by rw[<-z.length];exact F.len _ _ _ _ h
 refine j2 (ft (F.run X.A X.stack s H ⟨us,[]⟩ (us++ds) (vs++dvs) Q E hr I.env0 (hb s us I.kIn hl) z h) λ r s' hq=>?_)
 cases r with
 | error e=>exact hx y σ H s e s' I hq
 | ok fl =>
  cases fl with
  | ret u=>exact I.after hq
  | next=>exact bB hq
  | brk=>exact bB hq
  | cont=>exact bB hq
theorem bn2 (F:FnOk X.prog X.w X.K X.mg X.base CX k f fd ps sp)(hr:Room k X.A)(hg:Gl X x)(Y:X.mg x=some (.ref f))(hk:cu X.K (.ref f)=true)(hb:Binds X.K fd ps ds)(hd:Vals dvs ds)(hx:aE5 CX X E)
  (ha:PA X (e::es) t) (z:(x==("__debug__":Str))=false:=by decide) (J:bn (e::es) X.env=(false,eval e X.env)::bn es X.env:=by rfl) (C:(dL pos (bn es X.env)).any (·.1)=false:=by rfl) :
  PE X (.Call (.Name x p) (e::es) [] pos) (aM6 sp dvs E t):=by
 intro y s σ H Q I h
 refine cn (ar6 I hg Y ?_ z)
 refine ja (h₀:=X.base) I.ok.mod.kin hk (thn (ha pos y s σ H _ I h) λ us s1 ⟨vs,Z,G,r,q⟩=>⟨G.kIn,?_⟩) J C
 exact bh0 F hr hb hd hx G r q
theorem bb9 (F:FnOk X.prog X.w X.K X.mg X.base CX k f fd ps sp)(hr:Room k X.A)(hg:Gl X x)(C:X.mg x=some (.ref f))(hk:cu X.K (.ref f)=true)(hb:Binds X.K fd ps ds)(hd:Vals dvs ds)(hx:aE5 CX X E)
  (y:(x==("__debug__":Str))=false:=by decide):PE X (.Call (.Name x p) [] [] pos) (aM6 sp dvs E aX1):=by
 intro z s σ H Q I h
 refine cn (ar6 I hg C ?_ y)
 exact PySem.W.callWith_K0 I.kIn hk (bh0 (us:=[]) F hr hb hd hx I .nil h)
structure Mk (K:ae)(C f:Addr):Prop where
 makes:PySem.W.makesIn K C=true
 init:ik K (.ref C) "__init__"=some (some (.ref f))
 fn:PySem.W.isFn K (.ref f)=true
 kp:cu K (.ref C)=true
end
section
variable {X:Cx} {CX:CXT} {k:Nat} {f C:Addr} {fd:bJ} {ps ks:List Str} {sp:Sp} {E:XK} {x m:Str} {p pos apos kpos:Pos} {e o:Expr} {es:List Expr} {kws:List iG} {te ta:TE} {t tk:TA} {nm:Option Str}
variable {g:List Value->List Value->List Value} {gV:List V->List V->List V}
end
structure FnScope (N P:List Str)(sc:Scope):Prop where
 kind:sc.kind=.function
 co:sc.isCoroutine=false
 gen:sc.isGenerator=false
 nd:N.Nodup
 pre:N.take P.length=P
 par:∀ x∈P,sc.names.lookup x=some .local\/sc.names.lookup x=some .cell
 nofree:∀ y∈sc.names,y.2≠.free
theorem av8 {eM:Str->Option bM}{x:Str}:∀ {binds:List (Str×Value)} {m:Str->Option Value},(∀ v,(x,v) ∉ binds)->bindL eM binds m x=m x
 | [],_,_=>rfl
 | (n,v)::r,m,h=>by
  unfold bindL
  rw[av8 λ w hw=>h w (az _ hw)]
  split
  ·have:x≠n:=by rintro rfl;exact h v aG
   simp[this]
  ·rfl
theorem ay6 {eM:Str->Option bM}{x:Str}:∀ {binds:List (Str×Value)} {m:Str->Option Value},(∀ v,(x,v) ∉ binds)->bindC eM binds m x=m x
 | [],_,_=>rfl
 | (n,v)::r,m,h=>by
  unfold bindC
  rw[ay6 λ w hw=>h w (az _ hw)]
  split
  ·rfl
  ·have:x≠n:=by rintro rfl;exact h v aG
   simp[this]
theorem ak6 {eM:Str->Option bM}{x:Str}{v:Value}:∀ {P:List Str} {vs:List Value} {i:Nat} {m:Str->Option Value},P.Nodup->P[i]?=some x->vs[i]?=some v->eM x=some .local ->
  bindL eM (P.zip vs) m x=some v
 | [],_,_,_,_,h,_,_=>by simp at h
 | _::_,[],_,_,_,_,h,_=>by simp at h
 | p::P,w::vs,0,m,nd,h1,h2,hk=>by
  simp at h1 h2;subst h1;subst h2
  show bindL eM ((p,w)::P.zip vs) m p=_
  unfold bindL
  rw[av8 λ v hv=>(dh.mp nd).1 (dW hv).1,if_pos hk]
  simp
 | p::P,w::vs,i+1,m,nd,h1,h2,hk=>by
  show bindL eM ((p,w)::P.zip vs) m x=_
  unfold bindL
  exact ak6 (i:=i) (dh.mp nd).2 (by simpa using h1) (by simpa using h2) hk
theorem aj6 {eM:Str->Option bM}{x:Str}{v:Value}:∀ {P:List Str} {vs:List Value} {i:Nat} {m:Str->Option Value},P.Nodup->P[i]?=some x->vs[i]?=some v->eM x≠some .local ->
  bindC eM (P.zip vs) m x=some v
 | [],_,_,_,_,h,_,_=>by simp at h
 | _::_,[],_,_,_,_,h,_=>by simp at h
 | p::P,w::vs,0,m,nd,h1,h2,hk=>by
  simp at h1 h2;subst h1;subst h2
  show bindC eM ((p,w)::P.zip vs) m p=_
  unfold bindC
  rw[ay6 λ v hv=>(dh.mp nd).1 (dW hv).1,if_neg hk]
  simp
 | p::P,w::vs,i+1,m,nd,h1,h2,hk=>by
  show bindC eM ((p,w)::P.zip vs) m x=_
  unfold bindC
  exact aj6 (i:=i) (dh.mp nd).2 (by simpa using h1) (by simpa using h2) hk
noncomputable def ag2 (N:List Str)(vs:List V):St:=vs.map some++aH (N.length - vs.length) none
noncomputable def bb2 (CX:CXT)(P:aI)(w:World)(K:ae)(mg:Str->Option Value)(base:Heap)(N:List Str)(qual:Str)(scope:Scope)(f:Addr)(cd:Value)(A:aZ)(outer:List Env)(s:af)(H:Hp)(E:XK):Cx where
 prog:=P
 w:=w
 K:=K
 mg:=mg
 base:=base
 A:=A.deeper (f9 qual scope s.heap.objs.size f cd)
 N:=N
 s₀:=s
 H₀:=H
 env:=f9 qual scope s.heap.objs.size f cd
 outer:=outer
 stack:=f9 qual scope s.heap.objs.size f cd::outer
 ex:=[]
 calm:=true
 fn:=λ _=>true
 pn:=[]
 xe:=λ e s'=>wpAny (model P w) (A.deeper (f9 qual scope s.heap.objs.size f cd)) (leaving (f9 qual scope s.heap.objs.size f cd) e) (λ _ s''=>CX outer H s E e s'') (λ e' s''=>CX outer H s E e' s'') s'
theorem zN {sc:Scope}{n:Nat}{x:Str}(h:sc.names.lookup x=some .cell):∃ c,(aL n sc.names []).lookup x=some c:=by
 have q:=gF sc.names n [] (.inl h)
 exact ga.mp q
theorem aQ8 {CX:CXT}{P:aI}{w:World}{K:ae}{mg:Str->Option Value}{F:Heap}{N ps:List Str}{qual:Str}{scope:Scope}{f:Addr}{cd:Value}{A:aZ}{outer:List Env}{s s1:af}{H:Hp}{E:XK}{us:List Value}{vs:List V}
  (S:FnScope N ps scope) (hd:A.handled=none) (G:Env0 P w K mg F A outer s H) (hl:vs.length=ps.length) (r:Vals vs us)
  (x:fS s s.heap.objs.size (bindL (f9 qual scope s.heap.objs.size f cd).kindOf (ps.zip us) λ _=>none) (aL (s.heap.objs.size+1) scope.names []) (bindC (f9 qual scope s.heap.objs.size f cd).kindOf (ps.zip us) λ _=>none) s1) :
  Inv (bb2 CX P w K mg F N qual scope f cd A outer s H E) [] (ag2 N vs) H s1:=by
 have a1:ps.length<=N.length:=by have:=congrArg io S.pre;rw[bQ]at this;omega
 obtain⟨h1,tk,rfl,hk⟩:=x.done
 have J:∀ b:Addr,b ∉ (bb2 CX P w K mg F N qual scope f cd A outer s H E).ex:=λ b z=>absurd (show b∈([]:List Addr)from z) (by simp)
 refine⟨⟨G.mod,S.kind,rfl,rfl,ak _,λ y z c h1 C=>?_,λ y hy=>?_,λ y c _ h=>?_,λ _=>hd,ip G.frames,.inr ⟨rfl,rfl⟩,λ b z=>absurd z (J b),G.bs,G.bsz,λ b _ _=>J b,λ b z=>absurd z (J b),G.funs,G.frf⟩,
  rfl,G.bare,Un.kept hk,⟨_,x.toInCall.ns,λ i y v h1 C h3=>?_⟩,λ y c h=>⟨_,x.cell y c h⟩,G.hok.fresh (ak _),λ y c h=>?_,λ p Y=>absurd (show p∈([]:List (Addr×Obj))from Y) (by simp),G.hok.kept hk,?_⟩
 ·exact gG x.apart (ax h1) (ax C)
 ·have hy:scope.names.lookup y=some .cell\/scope.names.lookup y=some .free:=hy
  rcases hy with hy|hy
  ·exact zN hy
  ·exact absurd rfl (S.nofree _ (ax hy))
 ·exact dF (x.above y c (ax h))
 ·have hi:i<vs.length:=by
   unfold ag2 at C
   by_cases hi:i<vs.length
   ·exact hi
   ·rw[aY (by simpa using hi)]at C
    rw[gq]at C
    split at C<;>cases C
  have ha:vs[i]?=some v:=by
   unfold ag2 at C
   rw[aK (by simpa using hi),aC]at C
   cases e:vs[i]? with
   | none=>rw[e]at C;cases C
   | some a=>rw[e]at C;cases C;rfl
  obtain⟨u,hu,rv⟩:=r.get ha
  have Y:ps[i]?=some y:=by
   rw[<-S.pre,List.getElem?_take_of_lt (by omega)];exact h1
  have Z:ps.Nodup:=by rw[<-S.pre];exact S.nd.sublist (List.take_sublist _ _)
  refine⟨u,rv,?_⟩
  rcases S.par y (aM Y)with k|k
  ·exact .inl ⟨k,ak6 Z Y hu k⟩
  ·obtain⟨c,e⟩:=zN (n:=s.heap.objs.size+1) k
   refine .inr ⟨.inl k,c,e,?_⟩
   have q:=x.cell y c e
   rw[aj6 Z Y hu (by show scope.names.lookup y≠_;rw[k];decide)]at q
   exact q
 ·exact G.hok.fresh (dF (x.above y c (ax h)))
 ·unfold ag2
  show _=N.length
  rw[aB,au,List.length_replicate]
  omega
theorem bE7 {Z:CXT}{P:aI}{w:World}{K:ae}{mg:Str->Option Value}{base:Heap}{k:Nat}{f:Addr}{name qual:Str}{params:bj}{body:List Stmt}{scope:Scope}{dV kV G pm h ct oc:Value}{an od:Option Addr}
  {a2:Array (Option Value)} {N ps:List Str} {sp:Sp} (lk:K.lookup f=some ⟨oc,od,.func (c6 name qual params body scope dV kV G pm an h ct),a2⟩) (a3:fG K h qual=true) (S:FnScope N ps scope)
  (len:∀ vs H Q E,sp vs H Q E->vs.length=ps.length)
  (z:∀(A:aZ) (outer:List Env) (s:af) (H:Hp) (vs:List V) (Q:VK) (E:XK),Room k (A.deeper (f9 qual scope s.heap.objs.size f h))->sp vs H Q E ->
   ∃ t,PSs (bb2 Z P w K mg base N qual scope f h A outer s H E) body t/\t { nx:=λ _ H'=>Q .non H',rt:=Q } (ag2 N vs) H) :
  FnOk P w K mg base Z (k+1) f (c6 name qual params body scope dV kV G pm an h ct) ps sp:=by
 refine⟨len,λ A outer s H args us vs Q E hr F hb r Y=>?_⟩
 have hl:=len _ _ _ _ Y
 have KX:K.In s.heap:=F.mod.kin.keeps λ b o e=>(F.bs b o e).1
 have a1:s.heap.NoLimit:=F.mod.nolimit.keeps λ b o e=>(F.bs b o e).1
 have C:∀ y∈ps.zip us,scope.names.lookup y.1=some .local\/(scope.names.lookup y.1=some .cell/\((aL (s.heap.objs.size+1) scope.names []).lookup y.1).isSome=true):=λ⟨n,v⟩ hy=>by
  rcases S.par n (dW hy).1 with q|q
  ·exact .inl q
  ·exact .inr ⟨q,gF _ _ _ (.inl q)⟩
 refine hW hr.depth (KX _ _ lk) rfl S.co S.gen rfl (PySem.W.codeRec_of KX a3) (hb _ _ _ _ ?_)
 refine wpAny_newFunctionEnv_cells S.kind C λ env he s1 x=>?_
 subst he
 refine⟨a1.keeps x.toInCall.keep,codeAny_func ?_⟩
 obtain⟨t,ht,hq⟩:=z A outer s H vs Q E (hr.deeper _) Y
 have I:Inv (bb2 Z P w K mg base N qual scope f h A outer s H E) [] (ag2 N vs) H s1:=aQ8 S hr.hd F hl r x
 refine cy (ht [] s1 (ag2 N vs) H _ I hq) (λ fl s' hs=>?_) λ e s' hs=>hs
 have fin:∀ {σ':St} {H':Hp} {v:V} {u:Value},Inv (bb2 Z P w K mg base N qual scope f h A outer s H E) [] σ' H' s'->RelV v u->Q v H'->CE outer P w H s Q u s' :=
  λ {σ' H' v u} J rv q=>⟨v,H',J.os,J.bare,J.base,J.hok,rv,q⟩
 cases fl with
 | ret u =>
  obtain⟨v,σ',H',J,rv,q⟩:=hs
  exact fin J rv q
 | next =>
  obtain⟨σ',H',J,q⟩:=hs
  exact fin (v:=V.non) (u:=Value.none) J rfl q
 | brk =>
  obtain⟨_,_,_,q⟩:=hs
  exact bB q
 | cont =>
  obtain⟨_,_,_,q⟩:=hs
  exact bB q
section
variable {X:Cx} {x:Str} {p pos:Pos} {e:Expr} {es:List Expr} {t:TA} {id T:String} {r:List V->Hp->VK->Prop}
def tCB (r:List V->Hp->VK->Prop)(t:TA):TE:=λ σ H Q=>t σ H λ vs H1=>r vs H1 Q
theorem ap8 (hc:ab9 X (.builtin id) r)(hg:Gl X x)(Z:X.mg x=none)(hv:bo x=some (.builtin id))(ha:PA X (e::es) t)(hn:x ≠ "__name__":=by decide)(z:(x==("__debug__":Str))=false:=by decide)
  (Y:bn (e::es) X.env=(false,eval e X.env)::bn es X.env:=by rfl) (C:(dL pos (bn es X.env)).any (·.1)=false:=by rfl):PE X (.Call (.Name x p) (e::es) [] pos) (tCB r t):=by
 intro y s σ H Q I h
 refine cn (au2 I hg Z hv ?_ hn z)
 exact PyProof.Rows.callWith_builtin1 (thn (ha pos y s σ H _ I h) λ us s1 ⟨vs,F,J,r1,G⟩=>hc y s1 σ F vs us Q J r1 G) Y C
theorem al7 (hc:ab9 X (.type T) r)(hg:Gl X x)(Z:X.mg x=none)(hv:bo x=some (.type T))(ha:PA X (e::es) t)(hn:x ≠ "__name__":=by decide)(z:(x==("__debug__":Str))=false:=by decide)
  (Y:bn (e::es) X.env=(false,eval e X.env)::bn es X.env:=by rfl) (C:(dL pos (bn es X.env)).any (·.1)=false:=by rfl):PE X (.Call (.Name x p) (e::es) [] pos) (tCB r t):=by
 intro y s σ H Q I h
 refine cn (au2 I hg Z hv ?_ hn z)
 exact fq (thn (ha pos y s σ H _ I h) λ us s1 ⟨vs,F,J,r1,G⟩=>hc y s1 σ F vs us Q J r1 G) Y C
end
end L2
end
noncomputable section
namespace HT
open PySem PyProof.Rows
section
open PySem.SeqAt
open PySem.AutoSeq1 (wpAny_loadPart')
open PySem.MeetsSeq PySem.MeetsSeq2 PySem.MeetsSeq3
end
section
variable {prog:aI} {w:World} {A:aZ} {E:Value->af->Prop} {s:af}
theorem cat_tup {t b:Addr}{vs ws:List Value}{Q:Value->af->Prop}(ht:IsTup s.heap t vs.toArray)(hb:IsTup s.heap b ws.toArray)(hv:vs≠[])
  (h1:ws=[]->Q (.ref t) s) (h2:ws≠[]->Q (.ref s.heap.objs.size) { s with heap:=s.heap.push { cls:=.type "tuple",data:=.seq (vs++ws).toArray } })
  (hsz:vs.length+ws.length<=aF):wpAny (model prog w) A (cj .Add (.ref t) (.ref b)) Q E s:=by
 obtain⟨⟨cls,Z,data,sl⟩,ho,hc,n,hd⟩:=id ht
 obtain⟨⟨J,F,G,z⟩,h,C,Y,y⟩:=id hb
 simp only at hc hd C y
 subst hc hd C y
 have e:vs.toArray++ws.toArray=(vs++ws).toArray:=by simp
 by_cases hw:ws=[]
 ·exact jp ⟨_,ho,rfl⟩ ⟨_,h,rfl⟩ gr iV d7 d5 (dP _ _)
   (tuple_addW1 t b vs.toArray ws.toArray n Y Z F sl z (by simpa using hv) (by simp[hw])) ⟨ho,h,h1 hw⟩
 ·refine jp ⟨_,ho,rfl⟩ ⟨_,h,rfl⟩ gr iV d7 d5 (dP _ _)
   (tuple_addW2 t b vs.toArray ws.toArray n Y Z F sl z (by simpa using hv) (by simpa using hw) (by rw[ar,ar];exact hsz)) ⟨ho,h,?_⟩
  rw[e]
  exact h2 hw
noncomputable def sIx (n d:Nat):Option Int->Nat
 | none=>d
 | some v=>if v<0 then(v+(n:Int)).toNat else min v.toNat n
theorem sIx_le (n d:Nat)(hd:d<=n)(o:Option Int):sIx n d o<=n:=by
 cases o with
 | none=>exact hd
 | some v =>
  show(if v<0 then(v+(n:Int)).toNat else min v.toNat n)<=n
  by_cases hv:v<0
  ·rw[if_pos hv];omega
  ·rw[if_neg hv];exact Nat.min_le_right _ _
theorem clip_eq (v:Int)(n d:Nat):(if v<0 then max (v+(n:Int)) 0 else min v (n:Int))=((sIx n d (some v):Nat):Int):=by
 show(if v<0 then max (v+(n:Int)) 0 else min v (n:Int))=(((if v<0 then(v+(n:Int)).toNat else min v.toNat n):Nat):Int)
 by_cases hv:v<0
 ·simp only[if_pos hv];omega
 ·simp only[if_neg hv];omega
theorem adjust_gen (h y:Option Int)(n:Nat):dI h y 1 (n:Int)=(((sIx n 0 h:Nat):Int),((sIx n n y:Nat):Int)):=by
 have z:¬((1:Int)<0):=by omega
 unfold dI
 simp only[z,if_false]
 refine Prod.ext ?_ ?_
 ·cases h with
  | none=>rfl
  | some v=>exact clip_eq v n 0
 ·cases y with
  | none=>rfl
  | some v=>exact clip_eq v n n
theorem places_gen (i j:Nat):cJ (i:Int) (j:Int) 1=j - i:=by
 unfold cJ
 have h:(1:Int) > 0:=by omega
 simp only[h,if_true,Int.ediv_one]
 split<;>omega
theorem slicePart_ {v:Value}{o:Option Int}{Q:Option Int->af->Prop}(p:gb v o)(h:Q o s):wpAny (model prog w) A (jQ v) Q E s:=by
 cases p with
 | none=>exact slicePart_none h
 | int i t=>exact slicePart_int h
theorem sliceApplied_gen {sl:Addr}{vl vu:Value}{y z:Option Int}{n:Nat}{Q:Int×Int×Nat->af->Prop}(hs:s.heap.IsSliceOf sl vl vu .none)(J:gb vl y)(pu:gb vu z)
  (h:Q (((sIx n 0 y:Nat):Int),1,sIx n n z - sIx n 0 y) s):wpAny (model prog w) A (fH (.ref sl) (pure (n:Int))) Q E s:=by
 obtain⟨os,F,G,C⟩:=id hs
 unfold fH ki
 refine ab (ab (cz F C (x:=vl) rfl (ab (cz F C (x:=vu) rfl (ab (cz F C (x:=.none) rfl (aq ?_)))))))
 refine ab (slicePart_none ?_)
 show wpAny _ _ (if((1:Int)==0)=true then _ else _) _ _ s
 rw[if_neg (by decide)]
 refine ab (slicePart_ J (ab (slicePart_ pu (ab (aq ?_)))))
 show wpAny _ _ (match dI y z 1 (n:Int)with|(y,z)=>pure (y,(1:Int),cJ y z 1)) _ _ s
 rw[adjust_gen y z n]
 show wpAny _ _ (pure (((sIx n 0 y:Nat):Int),(1:Int),cJ ((sIx n 0 y:Nat):Int) ((sIx n n z:Nat):Int) 1)) _ _ s
 rw[places_gen]
 exact aq h
theorem pick_gen (h:Array Value)(i k:Nat):((bz k).filterMap λ(m:Nat)=>h[((i:Int)+(m:Int)*1).toNat]?).toArray=((h.toList.drop i).take k).toArray:=by
 have e:(λ(m:Nat)=>h[((i:Int)+(m:Int)*1).toNat]?)=λ m=>h[i+m]?:=by
  funext m
  have:((i:Int)+(m:Int)*1).toNat=i+m:=by omega
  rw[this]
 rw[e]
 have:=pick_run h i k
 rw[bN]at this
 have e2:((λ x=>h[x]?) ∘ λ x=>i+x)=λ m=>h[i+m]?:=rfl
 rw[e2]at this
 rw[this]
theorem getItem_tuple_cut {t sl:Addr}{y:Array Value}{vl vu:Value}{C F:Option Int}{Q:Value->af->Prop}(G:IsTup s.heap t y)(hs:s.heap.IsSliceOf sl vl vu .none)(pl:gb vl C)(pu:gb vu F)
  (hw:¬(sIx y.size 0 C=0/\sIx y.size y.size F=y.size))
  (h:Q (.ref s.heap.objs.size) { s with heap:=s.heap.push { cls:=.type "tuple",data:=.seq ((y.toList.drop (sIx y.size 0 C)).take (sIx y.size y.size F - sIx y.size 0 C)).toArray } })
  (hsz:y.size<=aF):wpAny (model prog w) A (gH (.ref t) (.ref sl)) Q E s:=by
 have z:sizeOk (.seq ((y.toList.drop (sIx y.size 0 C)).take (sIx y.size y.size F - sIx y.size 0 C)).toArray):=by
  show((y.toList.drop (sIx y.size 0 C)).take (sIx y.size y.size F - sIx y.size 0 C)).toArray.size<=aF
  rw[ar,bQ,eN,cV]
  omega
 have hj:sIx y.size y.size F<=y.size:=sIx_le _ _ (ak _) F
 obtain⟨os,Z,J,a2⟩:=id hs
 have a1:s.TypeIs (.ref sl) "slice":=⟨os,Z,J⟩
 unfold gH
 try with_reducible refine cS ?_
 first|refine ab (aq ?_)|skip
 refine ab (jq G.typeIs (by decide) ?_)
 refine ab (b9 (name:=cr "__getitem__") G.typeIs bu
  (cb bu G.typeIs iL ?_ (jb _ _)))
 show wpAny _ _ (dC (.ref t) >>= _) _ _ s
 refine ab (iW G ?_)
 refine ab (gJ a1 ?_)
 rw[if_pos (by decide)]
 refine ab (sliceApplied_gen hs pl pu ?_)
 have Y:¬((((sIx y.size 0 C:Nat):Int)==0&&(1:Int)==1&&(sIx y.size y.size F - sIx y.size 0 C)==y.size)=true):=by
  intro q
  rw[aj,aj]at q
  have q1:((sIx y.size 0 C:Nat):Int)=0:=eq_of_beq q.1.1
  have q2:sIx y.size y.size F - sIx y.size 0 C=y.size:=eq_of_beq q.2
  exact hw ⟨by omega,by omega⟩
 show wpAny _ _ (if(((sIx y.size 0 C:Nat):Int)==0&&(1:Int)==1&&(sIx y.size y.size F - sIx y.size 0 C)==y.size)=true then _ else _) _ _ s
 rw[if_neg Y,pick_gen]
 first
  | exact ab (m:=cT _) (bf (aq ⟨_,rfl,aq h⟩) z)
  | exact ab (m:=cT _) (bf (ab (aq (aq ⟨_,rfl,aq h⟩))) z)
  | exact ab (ab (m:=cT _) (bf (aq (aq ⟨_,rfl,aq h⟩)) z))
  | exact ab (ab (m:=cT _) (bf (aq ⟨_,rfl,aq h⟩) z))
end
end HT
noncomputable section
namespace L2
open PySem PySem.Spec PyProof.Rows
abbrev TO:=St->Hp->(Option Int->Hp->Prop)->Prop
def PO (X:Cx)(e:Option Expr)(t:TO):Prop :=
 ∀(pins:List (Addr×Obj)) (s:af) (σ:St) (H:Hp) (Q:Option Int->Hp->Prop),Inv X pins σ H s->t σ H Q ->
  wpAny (model X.prog X.w) X.A (evalPart e X.env) (λ u s'=>∃ o H',Inv X pins σ H' s'/\gb u o/\Q o H') X.xe s
noncomputable def aD2:TO:=λ _ H Q=>Q none H
noncomputable def aO2 (t:TE):TO:=λ σ H Q=>t σ H λ x H1=>∃ i,x=.int i/\Q (some i) H1
section
variable {X:Cx} {e:Expr} {te:TE} {lo hi:Option Expr} {tl th:TO} {pos p2:Pos}
theorem aS0:PO X none aD2:=by
 intro y s σ H Q I h
 rw[evalPart_none]
 exact aq ⟨none,H,I,.none,h⟩
theorem aV8 (h:PE X e te):PO X (some e) (aO2 te):=by
 intro y s σ H Q I hw
 rw[evalPart_some]
 refine thn (h y s σ H _ I hw) λ u s1 ⟨x,z,C,r1,F⟩=>?_
 obtain⟨i,rfl,q⟩:=F
 obtain⟨t,rfl⟩:=r1
 exact⟨some i,z,C,.int i t,q⟩
def SlR (X:Cx)(r:V->Option Int->Option Int->Hp->VK->Prop):Prop :=
 ∀(pins:List (Addr×Obj)) (s:af) (σ:St) (H:Hp) (x:V) (v vl vu:Value) (lo hi:Option Int) (sl:Addr) (Q:VK),Inv X pins σ H s->RelV x v->s.heap.IsSliceOf sl vl vu .none->gb vl lo->gb vu hi->r x lo hi H Q ->
  ∃ T id,typeLookup (.type T) "__getitem__"=pure (some (.builtin id))/\s.TypeIs v T/\wpAny (model X.prog X.w) X.A (gH v (.ref sl)) (EP X pins σ Q) X.xe s
def tSl (r:V->Option Int->Option Int->Hp->VK->Prop)(te:TE)(tl th:TO):TE:=λ σ H Q=>te σ H λ x H1=>tl σ H1 λ l H2=>th σ H2 λ u H3=>r x l u H3 Q
theorem aJ1 {r:V->Option Int->Option Int->Hp->VK->Prop}(hr:SlR X r)(C:PE X e te)(hl:PO X lo tl)(hu:PO X hi th):PE X (.Subscript e (.Slice lo hi none p2) pos) (tSl r te tl th):=by
 intro y s σ H Q I h
 refine Subscript_ (thn (C y s σ H _ I h) λ v s1 ⟨x,J,Z,r1,q1⟩=>?_)
 refine wpAny_Slice (thn (hl y s1 σ J _ Z q1) λ vl s2 ⟨l,H2,I2,pl,q2⟩=>thn (hu y s2 σ H2 _ I2 q2) λ vu s3 ⟨u,z,G,pu,q3⟩=>?_)
 rw[evalPart_none]
 refine aq ?_
 have Y:Inv X y σ z { s3 with heap:=s3.heap.push { cls:=.type "slice",data:=.fields #[vl,vu,.none] } }:=G.kept (t':=s3.toks) λ b ob q=>ai _ q
 obtain⟨T,id,hT,F,hg⟩:=hr y { s3 with heap:=s3.heap.push { cls:=.type "slice",data:=.fields #[vl,vu,.none] } } σ z x v vl vu l u s3.heap.objs.size Q Y r1 (kO ..) pl pu q3
 show wpAny (model X.prog X.w) X.A (subscriptTail e (.Slice lo hi none p2) v (.ref s3.heap.objs.size)) (EP X y σ Q) X.xe { s3 with heap:=s3.heap.push { cls:=.type "slice",data:=.fields #[vl,vu,.none] } }
 exact j3 (ops:=[.ref s3.heap.objs.size,v]) F hT hg (by with_unfolding_all rfl)
noncomputable def aM2 (xs:List V)(lo hi:Option Int):List V:=(xs.drop (HT.sIx xs.length 0 lo)).take (HT.sIx xs.length xs.length hi - HT.sIx xs.length 0 lo)
theorem ak2 (h:List V)(z y:Option Int):(aM2 h z y).length<=h.length:=by
 unfold aM2
 rw[bQ,eN]
 omega
def bX6 (K:ae):V->Option Int->Option Int->Hp->VK->Prop:=λ x lo hi H Q=>∃ a xs,x=.ref a/\SqT K H a xs /\
 ¬(HT.sIx xs.length 0 lo=0/\HT.sIx xs.length xs.length hi=xs.length)/\∀ p,H p=none->Q (.ref p) (upd H p (.tup (aM2 xs lo hi)))
theorem bF4:SlR X (bX6 X.K):=by
 intro J s σ H x v vl vu C F sl Q I Y hs Z pu h
 obtain⟨a,z,rfl,hx,hw,q⟩:=h
 cases Y
 obtain⟨its,r,G,hz⟩:=I.tuple hx
 have y:its.toArray.size=z.length:=by rw[ar];exact r.length.symm
 refine⟨"tuple",_,bu.lookup,G.typeIs,?_⟩
 refine HT.getItem_tuple_cut G hs Z pu (by rw[y];exact hw) ?_ (by rw[y];exact hz)
 rw[y]
 refine⟨.ref s.heap.objs.size,_,I.laid (t':=s.toks) (o:=.tup (aM2 z C F)) (λ b ob q=>ai _ q) (ak _) ?_,rfl,q _ (I.hok.fresh (ak _))⟩
 exact⟨am (ak2 z C F) hz,_,(r.drop (HT.sIx z.length 0 C)).take (HT.sIx z.length z.length F - HT.sIx z.length 0 C),jD _ _⟩
def bQ9 (K:ae):R2:=λ x y H Q=>∃ a b xs ys,x=.ref a/\y=.ref b/\SqT K H a xs/\SqT K H b ys/\xs≠[]/\xs.length+ys.length<=aF /\
 (ys=[]->Q (.ref a) H)/\(ys≠[]->∀ p,H p=none->Q (.ref p) (upd H p (.tup (xs++ys))))
theorem Vals.nil_iff {h:List V}{us:List Value}(r:Vals h us):us=[]↔h=[]:=by
 cases r with
 | nil=>simp
 | cons _ _=>simp
theorem bt1:OpR X (cj .Add) (bQ9 X.K):=by
 intro G s σ H x y v u Q I Z ry h
 obtain⟨a,b,J,ys,rfl,rfl,ha,hb,hx,hz,q1,q2⟩:=h
 cases Z
 cases ry
 obtain⟨its,r1,p1,_⟩:=I.tuple ha
 obtain⟨F,C,Y,_⟩:=I.tuple hb
 refine HT.cat_tup p1 Y (λ z=>hx (r1.nil_iff.mp z)) (λ z=>⟨.ref a,H,I,rfl,q1 (C.nil_iff.mp z)⟩) (λ z=>?_) (by rw[<-r1.length,<-C.length];exact hz)
 refine⟨.ref s.heap.objs.size,_,I.laid (t':=s.toks) (o:=.tup (J++ys)) (λ b ob q=>ai _ q) (ak _) ?_,rfl,q2 (λ w=>z (C.nil_iff.mpr w)) _ (I.hok.fresh (ak _))⟩
 exact⟨by rw[aB];exact hz,_,r1.append C,jD _ _⟩
end
noncomputable def ixN (n:Nat)(i:Int):Option Nat:=if 0<=i then(if i<n then some i.toNat else none)else if -(n:Int)<=i then some (i+n).toNat else none
noncomputable def atI {α:Type}(xs:List α)(i:Int):Option α:=(ixN xs.length i).bind λ j=>xs[j]?
theorem aN8 {n:Nat}{i:Int}{j:Nat}(h:ixN n i=some j):seqIndex? i n=some j/\j<n/\-(n:Int)<=i/\i<n:=by
 unfold ixN at h
 by_cases h0:0<=i
 ·rw[if_pos h0]at h
  by_cases h1:i<n
  ·rw[if_pos h1]at h
   have e:i.toNat=j:=aw h
   exact⟨by rw[jM h0 h1,e],by omega,by omega,h1⟩
  ·rw[if_neg h1]at h;cases h
 ·rw[if_neg h0]at h
  by_cases h1:-(n:Int)<=i
  ·rw[if_pos h1]at h
   have e:(i+n).toNat=j:=aw h
   exact⟨by rw[jr (by omega) h1,e],by omega,h1,by omega⟩
  ·rw[if_neg h1]at h;cases h
theorem aA7 {α:Type}{y:List α}{i:Int}{v:α}(h:atI y i=some v):∃ j,seqIndex? i y.length=some j/\y[j]?=some v/\j<y.length/\-(y.length:Int)<=i/\i<y.length:=by
 unfold atI at h
 cases e:ixN y.length i with
 | none=>rw[e]at h;cases h
 | some j =>
  rw[e]at h
  obtain⟨z,C,h3,F⟩:=aN8 e
  exact⟨j,z,h,C,h3,F⟩
def aU6 (b:Expr):Prop:=∀ o i,subscripted b false o i=operate [o,i] (gH o i)
def IxR (X:Cx)(r:R2):Prop :=
 ∀(value slice:Expr) (pins:List (Addr×Obj)) (s:af) (σ:St) (H:Hp) (x y:V) (v u:Value) (Q:VK),Inv X pins σ H s->RelV x v->RelV y u->r x y H Q ->
  subscripted slice false v u=operate [v,u] (gH v u)->wpAny (model X.prog X.w) X.A (subscriptTail value slice v u) (EP X pins σ Q) X.xe s
def MtR (X:Cx)(id:String)(r:V->List V->Hp->VK->Prop):Prop :=
 ∀(pins:List (Addr×Obj)) (s:af) (σ:St) (H:Hp) (x:V) (xs:List V) (v:Value) (us:List Value) (Q:VK),Inv X pins σ H s->RelV x v->Vals xs us->r x xs H Q ->
  wpAny (model X.prog X.w) X.A (call (.builtin id) (v::us)) (EP X pins σ Q) X.xe s
section
variable {X:Cx} {a b:Expr} {ta tb:TE} {pos:Pos}
theorem bP0 {r:R2}(hr:IxR X r)(ha:PE X a ta)(hb:PE X b tb)(hs:aU6 b):PE X (.Subscript a b pos) (tOp r ta tb):=by
 intro z s σ H Q I h
 exact Subscript_ (bT0 ha hb I h λ v u s2 x y H2 I2 C F q=>hr a b z s2 σ H2 x y v u Q I2 C F q (hs _ _))
def bW6 (K:ae):R2:=λ x y H Q=>∃ p xs i v,x=.ref p/\y=.int i/\SqL K H p xs/\atI xs i=some v/\Q v H
def bU9 (K:ae):R2:=λ x y H Q=>∃ p xs i v,x=.ref p/\y=.int i/\SqT K H p xs/\atI xs i=some v/\Q v H
def bX3:R2:=λ x y H Q=>∃ z i c,x=.str z/\y=.int i/\z.length<=aF/\atI z.cps.toList i=some c/\Q (.str ⟨#[c]⟩) H
theorem bv8:IxR X (bW6 X.K):=by
 intro J Y C s σ H x y v u Q I rx ry h hs
 obtain⟨p,xs,i,z,rfl,rfl,hq,he,q⟩:=h
 cases rx
 obtain⟨t,rfl⟩:=ry
 obtain⟨its,r,Z,hz⟩:=I.list hq
 obtain⟨j,F,h2,h3,h4,h5⟩:=aA7 he
 obtain⟨w,ew,G⟩:=r.get h2
 have hl:=r.length
 have hn:=ak9
 have fin:EP X C σ Q w s:=⟨z,H,I,G,q⟩
 by_cases h0:0<=i
 ·have hj:i.toNat=j:=by
   rw[jM h0 h5]at F
   exact aw F
  exact item_listR Z.isList h0 (by omega) (by rw[hj];simpa using ew) fin hs
 ·have hj:(i+(its.toArray.size:Int)).toNat=j:=by
   rw[jr (by omega) h4]at F
   rw[ar,<-hl]
   exact aw F
  exact gK (x:=w) Z.isList.typeIs js.lookup
   (wpAny_getItem_list_neg (Q:=λ r s'=>r=w/\EP X C σ Q r s') Z.isList (by omega) (by rw[ar]<;>omega) (by omega) (by rw[hj];simpa using ew) ⟨rfl,fin⟩) hs
theorem ix_tup:IxR X (bU9 X.K):=by
 intro G J C s σ H x y v u Q I rx ry h hs
 obtain⟨p,xs,i,z,rfl,rfl,hq,Z,q⟩:=h
 cases rx
 obtain⟨t,rfl⟩:=ry
 obtain⟨its,r,Y,hz⟩:=I.tuple hq
 obtain⟨j,h1,h2,h3,h4,h5⟩:=aA7 Z
 obtain⟨w,ew,F⟩:=r.get h2
 have hl:=r.length
 have hn:=ak9
 have fin:EP X C σ Q w s:=⟨z,H,I,F,q⟩
 exact gK (x:=w) Y.typeIs bu.lookup
  (getItem_tuple (j:=j) (Q:=λ r s'=>r=w/\EP X C σ Q r s') Y (by omega) (by omega) (by rw[ar,<-hl];exact h1) (by simpa using ew) ⟨rfl,fin⟩) hs
theorem bC6:IxR X bX3:=by
 intro C F J s σ H x y v u Q I rx ry h hs
 obtain⟨z,i,c,rfl,rfl,hz,Z,q⟩:=h
 obtain⟨t,rfl⟩:=rx
 obtain⟨t',rfl⟩:=ry
 obtain⟨j,G,h2,h3,h4,Y⟩:=aA7 Z
 have hl:z.cps.toList.length=z.length:=by simp[Str.length]
 rw[hl]at G h4 Y
 have hn:=ak9
 exact j3 (j4 s z t) slot_str_getitem.lookup (getItem_str (c:=c) (by
  have e1:decide (i < -(2^63:Int))=false:=decide_eq_false (by omega)
  have e2:decide (i ≥ 2^63)=false:=decide_eq_false (by omega)
  rw[e1,e2,Bool.or_false]) (by rw[G];simpa using h2) ⟨.str ⟨#[c]⟩,H,I.tok _,⟨_,rfl⟩,q⟩) hs
theorem aK2 (its:List Value)(n j:Nat)(u:Value):gL (·.setIfInBounds j u) { cls:=.type "list",data:=.seq its.toArray n }={ cls:=.type "list",data:=.seq (its.set j u).toArray n }:=by
 simp[gL]
theorem Inv.lst {y:List (Addr×Obj)}{σ:St}{H:Hp}{s:af}{p:Addr}{C:List V}(I:Inv X y σ H s)(h:H p=some (.lst C)) :
  ∃(its:List Value) (n:Nat),Vals C its/\s.heap.get? p=some { cls:=.type "list",data:=.seq its.toArray n }/\C.length<=aF:=by
 obtain⟨z,its,n,r,e⟩:=I.hok p _ h
 exact⟨its,n,r,e,z⟩
theorem Inv.lstUpd {y:List (Addr×Obj)}{σ:St}{H:Hp}{s:af}{p:Addr}{F ys:List V}{its its':List Value}{n z:Nat}{f:Obj->Obj}(I:Inv X y σ H s)(h:H p=some (.lst F))
  (ho:s.heap.get? p=some { cls:=.type "list",data:=.seq its.toArray n }) (C:f { cls:=.type "list",data:=.seq its.toArray n }={ cls:=.type "list",data:=.seq its'.toArray z }) (r:Vals ys its') (hz:ys.length<=aF) (t:Nat) :
  Inv X y σ (upd H p (.lst ys)) { s with heap:=s.heap.update p f,toks:=t }:=by
 have e:(s.heap.update p f).get? p=some { cls:=.type "list",data:=.seq its'.toArray z }:=by
  rw[du f ho (by rw[C]<;>rfl),C]
 refine I.write (x:=p) (e:=p) (by rw[h];trivial) (.inl rfl) (λ b u hb q=>(bR _ _ (bL hb)).trans q) ⟨_,e⟩ ?_
 exact⟨hz,its',z,r,e⟩
def bS7:V->V->V->Hp->(Hp->Prop)->Prop:=λ o i v H Q=>∃ p xs k j,o=.ref p/\i=.int k/\H p=some (.lst xs)/\ixN xs.length k=some j/\Q (upd H p (.lst (xs.set j v)))
theorem bc7:bQ4 X bS7:=by
 intro y s σ H o i v ov iv u Q I J ri Y h
 obtain⟨p,Z,k,j,rfl,rfl,C,hj,q⟩:=h
 cases J
 obtain⟨t,rfl⟩:=ri
 obtain⟨its,n,r,ho,hz⟩:=I.lst C
 obtain⟨z,h2,h3,F⟩:=aN8 hj
 have hl:=r.length
 have hn:=ak9
 have G:Inv X y σ (upd H p (.lst (Z.set j v))) { s with heap:=s.heap.update p (gL (·.setIfInBounds j u)) } :=
  I.lstUpd C ho (aK2 its n j u) (r.set Y j) (by rw[a0];exact hz) s.toks
 by_cases h0:0<=k
 ·have hk:k.toNat=j:=by
   rw[jM h0 F]at z
   exact aw z
  exact PySem.W.ki_setAt ho h0 (by omega) (by rw[ar,<-hl];exact F) (by rw[hk];exact⟨_,G,q⟩)
 ·have hk:(k+(its.toArray.size:Int)).toNat=j:=by
   rw[jr (by omega) h3]at z
   rw[ar,<-hl]
   exact aw z
  exact PySem.W.ki_setBack ho (by omega) (by rw[ar,<-hl];exact h3) (by omega) (by rw[hk];exact⟨_,G,q⟩)
theorem ax9 (y z:Option Int)(n:Nat):(d6 y z none n).1=((HT.sIx n 0 y:Nat):Int)/\(d6 y z none n).2.1=((HT.sIx n n z:Nat):Int)/\(d6 y z none n).2.2=1:=by
 refine⟨?_,?_,rfl⟩
 ·cases y with
  | none=>simp[d6,HT.sIx]
  | some i =>
   simp only[d6,HT.sIx,jE,show(1:Int) > 0 by decide,if_true]
   by_cases h:i<0
   ·simp only[h,if_true]<;>omega
   ·simp only[h,if_false]<;>omega
 ·cases z with
  | none=>simp[d6,HT.sIx]
  | some i =>
   simp only[d6,HT.sIx,jE,show(1:Int) > 0 by decide,if_true]
   by_cases h:i<0
   ·simp only[h,if_true]<;>omega
   ·simp only[h,if_false]<;>omega
theorem at4 (its:List Value)(h y:Option Int):slicePick its.toArray h y none=((its.drop (HT.sIx its.length 0 h)).take (HT.sIx its.length its.length y - HT.sIx its.length 0 h)).toArray:=by
 obtain⟨z,C,h3⟩:=ax9 h y its.toArray.size
 unfold slicePick
 rw[z,C,h3]
 simp only[sliceRange_one,pick_run,ar]<;>rfl
def bU7 (K:ae):V->Option Int->Option Int->Hp->VK->Prop:=λ x lo hi H Q=>∃ a xs,x=.ref a/\SqL K H a xs/\∀ p,H p=none->Q (.ref p) (upd H p (.lst (aM2 xs lo hi)))
theorem bv5:SlR X (bU7 X.K):=by
 intro J s σ H x v vl vu C F sl Q I Y hs Z pu h
 obtain⟨a,y,rfl,hx,q⟩:=h
 cases Y
 obtain⟨its,r,G,hz⟩:=I.list hx
 have z:=r.length
 refine⟨"list",_,js.lookup,G.isList.typeIs,?_⟩
 refine wpAny_getItem_list_slice G.isList hs Z pu .none (by simp) ?_ (by rw[ar]<;>omega)
 rw[at4,<-z]
 refine⟨.ref s.heap.objs.size,_,I.laid (t':=s.toks) (o:=.lst (aM2 y C F)) (λ b ob q=>ai _ q) (ak _) ?_,rfl,q _ (I.hok.fresh (ak _))⟩
 exact⟨am (ak2 y C F) hz,_,0,(r.drop (HT.sIx y.length 0 C)).take (HT.sIx y.length y.length F - HT.sIx y.length 0 C),aA _ rfl⟩
theorem aw7:ab9 X (.builtin "len") (λ F H Q=>∃ p ys,F=[.ref p]/\(SqL X.K H p ys\/SqT X.K H p ys)/\Q (.int ys.length) H):=by
 intro G s σ H F us Q I r h
 obtain⟨p,ys,rfl,hq,q⟩:=h
 obtain⟨u,rfl,J⟩:=ai4 r
 cases J
 have hn:=ak9
 rcases hq with hq|hq
 ·obtain⟨its,C,z,hz⟩:=I.list hq
  have y:=C.length
  exact Calls.call_len_list z.isList (by simp only[ar]<;>omega) ⟨.int ys.length,H,I.tok _,⟨s.toks+1,by rw[ar,y]⟩,q⟩
 ·obtain⟨its,C,z,hz⟩:=I.tuple hq
  have y:=C.length
  exact len_tuple z (by simp only[ar]<;>omega) ⟨.int ys.length,H,I.tok _,⟨s.toks+1,by rw[ar,y]⟩,q⟩
theorem az0:ab9 X (.builtin "len") (λ y H Q=>∃ z,y=[.str z]/\z.length<=aF/\Q (.int z.length) H):=by
 intro C s σ H y us Q I r h
 obtain⟨z,rfl,hz,q⟩:=h
 obtain⟨u,rfl,t,rfl⟩:=ai4 r
 have hn:=ak9
 exact len_str (by omega) ⟨.int z.length,H,I.tok _,⟨_,rfl⟩,q⟩
theorem ab9.or {f:Value}{r C:List V->Hp->VK->Prop}(h:ab9 X f r)(h':ab9 X f C):ab9 X f (λ z H Q=>r z H Q\/C z H Q):=by
 intro y s σ H z us Q I F q
 rcases q with q|q
 ·exact h y s σ H z us Q I F q
 ·exact h' y s σ H z us Q I F q
theorem ay2:ab9 X (.type "list") (λ J H Q=>∃ p ys,J=[.ref p]/\(SqL X.K H p ys\/SqT X.K H p ys)/\∀ l,H l=none->Q (.ref l) (upd H l (.lst ys))):=by
 intro C s σ H J us Q I r h
 obtain⟨p,ys,rfl,hq,q⟩:=h
 obtain⟨u,rfl,Z⟩:=ai4 r
 cases Z
 have fin:∀(its:List Value),Vals ys its->ys.length<=aF->∀(h':Heap) (y:Nat),(∀ b Y,s.heap.get? b=some Y->h'.get? b=some Y) ->
   h'.get? s.heap.objs.size=some { cls:=.type "list",dict:=none,data:=.seq its.toArray y,slots:=#[] }->EP X C σ Q (.ref s.heap.objs.size) { s with heap:=h' }:=λ its z hz h' y kp e =>
  ⟨.ref s.heap.objs.size,_,I.laid (t':=s.toks) kp (ak _) (show ab2 X.prog X.w _ h' _ (.lst ys)from⟨hz,its,y,z,e⟩),rfl,q _ (I.hok.fresh (ak _))⟩
 rcases hq with hq|hq
 ·obtain⟨its,z,G,hz⟩:=I.list hq
  have F:=z.length
  obtain⟨o,ho,hc,n,hd⟩:=G.isList
  exact call_list_seq p (.inl rfl) ho hc hd (λ h' y kp e=>fin its z hz h' y kp e) (by simp only[ar]<;>omega)
 ·obtain⟨its,z,G,hz⟩:=I.tuple hq
  have F:=z.length
  obtain⟨o,ho,hc,n,hd⟩:=G
  exact call_list_seq p (.inr rfl) ho hc hd (λ h' y kp e=>fin its z hz h' y kp e) (by simp only[ar]<;>omega)
theorem aq9:ab9 X (.type "tuple") (λ F H Q=>∃ p ys,F=[.ref p]/\((SqL X.K H p ys/\∀ l,H l=none->Q (.ref l) (upd H l (.tup ys)))\/(SqT X.K H p ys/\Q (.ref p) H))):=by
 intro y s σ H F us Q I r h
 obtain⟨p,ys,rfl,h⟩:=h
 obtain⟨u,rfl,Y⟩:=ai4 r
 cases Y
 rcases h with⟨hq,q⟩|⟨hq,q⟩
 ·obtain⟨its,z,C,hz⟩:=I.list hq
  have G:=z.length
  refine call_tuple_list C.isList (λ h' kp=>?_) (by simp only[ar]<;>omega)
  have J:Inv X y σ H { s with heap:=h' }:=I.kept (t':=s.toks) kp
  have I2:Inv X y σ (upd H h'.objs.size (.tup ys)) { s with heap:=h'.push { cls:=.type "tuple",data:=.seq its.toArray } } :=
   J.laid (t':=s.toks) (λ b o e=>ai _ e) (ak _) (show ab2 X.prog X.w _ _ _ (.tup ys)from⟨hz,its,z,jD _ _⟩)
  exact⟨.ref h'.objs.size,_,I2,rfl,q _ (J.hok.fresh (ak _))⟩
 ·obtain⟨its,z,C,hz⟩:=I.tuple hq
  exact call_tuple_same C ⟨.ref p,H,I,rfl,q⟩
def tyV (K:ae)(T:String)(x:V)(H:Hp):Prop:=match x with
 | .str _=>T = "str"
 | .int _=>T = "int"
 | .ref p=>(T = "list"/\∃ xs,SqL K H p xs)\/(T = "tuple"/\∃ o,K.lookup p=some o/\o.cls=.type "tuple"/\o.dict=none) \/
   (T = "dict"/\((∃ kvs,H p=some (.dK kvs))\/∃ kvs,H p=some (.dT kvs)))\/(T = "set"/\∃ S n,H p=some (.set S n))
 | _=>False
theorem bk2 {h:List (Addr×Obj)}{σ:St}{H:Hp}{s:af}{T:String}{x:V}{v:Value}(I:Inv X h σ H s)(r:RelV x v)(y:tyV X.K T x H) :
  s.TypeIs v T/\∀ a,v=.ref a->∃ ob,s.heap.get? a=some ob/\ob.dict=none:=by
 cases x with
 | str z =>
  obtain⟨t,rfl⟩:=r
  cases(show T = "str" from y)
  exact⟨j4 s z t,λ _ e=>nomatch e⟩
 | int i =>
  obtain⟨t,rfl⟩:=r
  cases(show T = "int" from y)
  exact⟨gM s i t,λ _ e=>nomatch e⟩
 | ref p =>
  cases r
  rcases y with⟨rfl,G,hq⟩|⟨rfl,o,hk,hc,hd⟩|⟨rfl,hk⟩|⟨rfl,S,n,hk⟩
  ·obtain⟨its,_,F,_⟩:=I.list hq
   refine⟨F.isList.typeIs,λ a e=>?_⟩
   cases e
   obtain⟨o,n,e,c,hd,_⟩:=F
   exact⟨o,e,hd⟩
  ·refine⟨⟨o,I.kIn p o hk,hc⟩,λ a e=>?_⟩
   cases e
   exact⟨o,I.kIn _ o hk,hd⟩
  ·have z:∃ o,s.heap.get? p=some o/\o.ExactDict:=by
    rcases hk with⟨C,hk⟩|⟨C,hk⟩
    ·obtain⟨_,_,_,_,o,_,_,e,ex,_⟩:=I.hok p _ hk
     exact⟨o,e,ex⟩
    ·obtain⟨_,_,_,_,o,_,_,e,ex,_⟩:=I.hok p _ hk
     exact⟨o,e,ex⟩
   obtain⟨o,e,ex⟩:=z
   refine⟨⟨o,e,ex.1⟩,λ a e2=>?_⟩
   cases e2
   exact⟨o,e,ex.2.1⟩
  ·obtain⟨o,_,_,_,e,ex,_⟩:=I.hok p _ hk
   refine⟨⟨o,e,ex.1⟩,λ a e2=>?_⟩
   cases e2
   exact⟨o,e,ex.2.1⟩
 | _=>exact bB y
def bT4 (K:ae)(T:String)(r:V->List V->Hp->VK->Prop)(to:TE):TE:=λ σ H Q=>to σ H λ x H1=>tyV K T x H1/\r x [] H1 Q
def tBM (K:ae)(T:String)(r:V->List V->Hp->VK->Prop)(to:TE)(t:TA):TE:=λ σ H Q=>to σ H λ x H1=>tyV K T x H1/\t σ H1 λ xs H2=>r x xs H2 Q
variable {o e:Expr} {es:List Expr} {to:TE} {t:TA} {name:Str} {apos cpos:Pos} {T id:String} {r:V->List V->Hp->VK->Prop}
theorem bi2 (Y:j5 T)(slot:Slot T name id)(F:typeOf (.builtin id)=pure (.type "method_descriptor"))(hm:MtR X id r)(ho:PE X o to)
  (z:dq o name X.env (eval o X.env)=eval o X.env:=by rfl) (C:(apos.endLine==cpos.line)=true:=by rfl):PE X (.Call (.Attribute o name apos) [] [] cpos) (bT4 X.K T r to):=by
 intro y s σ H Q I h
 refine wpAny_Call_method0_late z C (thn (ho y s σ H _ I h) λ v s1 ⟨x,H1,G,r1,J,q1⟩=>?_)
 obtain⟨Z,h2⟩:=bk2 G r1 J
 exact⟨T,id,Y,slot,F,Z,h2,d8 rfl (PySem.evalArgs_none (hm y s1 σ H1 x [] v [] Q G r1 .nil q1))⟩
theorem bS1 (pa:j5 T)(slot:Slot T name id)(J:typeOf (.builtin id)=pure (.type "method_descriptor"))(hm:MtR X id r)(ho:PE X o to)(ha:PA X (e::es) t)
  (C:dq o name X.env (eval o X.env)=eval o X.env:=by rfl)
  (G:((dL cpos (bn (e::es) X.env)).all (λ x=>!x.1)&&(backToKw cpos (jN [] X.env)).all (λ x=>x.1.isSome)
   && decide ((e::es).length+([]:List iG).length+(if([]:List iG).isEmpty then 0 else 1)<30))=true:=by rfl)
  (F:(apos.endLine==cpos.line)=true:=by rfl) (hs:bn (e::es) X.env=(false,eval e X.env)::bn es X.env:=by rfl) (z:(dL cpos (bn es X.env)).any (·.1)=false:=by rfl) :
  PE X (.Call (.Attribute o name apos) (e::es) [] cpos) (tBM X.K T r to t):=by
 intro y s σ H Q I h
 refine wpAny_Call_method_late C G F rfl (thn (ho y s σ H _ I h) λ v s1 ⟨x,H1,Z,r1,ty,q1⟩=>?_)
 obtain⟨h1,h2⟩:=bk2 Z r1 ty
 refine⟨T,id,pa,slot,J,h1,h2,?_⟩
 have Y:=ha cpos y s1 σ H1 _ Z q1
 rw[hs]at Y ⊢
 refine d8 (by show(false||(dL cpos (bn es X.env)).any (·.1))=false;rw[z]<;>rfl) (iq ?_)
 exact thn Y λ us s2 ⟨vs,H2,I2,r2,q2⟩=>hm y s2 σ H2 x vs v us Q I2 r1 r2 q2
end
def MtM (X:Cx)(id:String)(r:V->List V->Hp->VK->Prop):Prop :=
 ∀(pins:List (Addr×Obj)) (s:af) (σ:St) (H:Hp) (x:V) (xs:List V) (v:Value) (us:List Value) (Q:VK),Inv X pins σ H s->RelV x v->Vals xs us->r x xs H Q ->
  wpAny (model X.prog X.w) X.A (call (.builtin id) (v::us)) (EP X pins σ Q) X.xe s
theorem Vals.one:∀ {x:V} {us:List Value},Vals [x] us->∃ u,us=[u]/\RelV x u
 | _,_,.cons r .nil=>⟨_,rfl,r⟩
theorem Vals.zero:∀ {us:List Value},Vals [] us->us=[]
 | _,.nil=>rfl
theorem Vals.dropLast {y:List V}{us:List Value}(h:Vals y us):Vals y.dropLast us.dropLast:=by
 induction h with
 | nil=>exact .nil
 | cons r t ih =>
  cases t with
  | nil=>exact .nil
  | cons q t'=>exact .cons r ih
theorem Vals.reverse {y:List V}{us:List Value}(h:Vals y us):Vals y.reverse us.reverse:=by
 induction h with
 | nil=>exact .nil
 | cons r t ih=>rw[d9,d9];exact Vals.append ih (.cons r .nil)
theorem Vals.rep {y:List V}{us:List Value}(h:Vals y us):∀ k:Nat,Vals (aH k y).flatten (aH k us).flatten
 | 0=>.nil
 | k+1=>by
  rw[bI,bI,dA,dA]
  exact Vals.append h (Vals.rep h k)
theorem av2 (its:List Value):∀(k:Nat) (h:List Value),
  j6 (λ x1 y=>x1++y) h.toArray (aH k its.toArray)=(h++(aH k its).flatten).toArray
 | 0,h=>by simp
 | k+1,h=>by
  have e:h.toArray++its.toArray=(h++its).toArray:=by simp
  have e2:(h++its)++(aH k its).flatten=h++(aH (k+1) its).flatten:=by
   rw[bI,dA,bV]
  rw[<-e2,<-av2 its k (h++its),<-e,bI,di]
section
variable {X:Cx} {pins:List (Addr×Obj)} {σ:St} {H:Hp} {s:af} {l b:Addr} {xs ys zs:List V}
theorem Inv.lset {its its':List Value}{n:Nat}{f:Array Value->Array Value}{t':Nat}(I:Inv X pins σ H s)(z:H l=some (.lst xs))
  (e:s.heap.get? l=some { cls:=.type "list",data:=.seq its.toArray n }) (h:f its.toArray=its'.toArray) (hv:Vals ys its') (hz:ys.length<=aF) :
  Inv X pins σ (upd H l (.lst ys)) { s with heap:=s.heap.update l (gL f),toks:=t' }:=by
 have q:=PySem.IsL.update e f
 rw[h]at q
 refine I.write (x:=l) (e:=l) (by rw[z];exact trivial) (.inl rfl) (λ C u hb y=>(bR s.heap (gL f) (bL hb)).trans y) ⟨_,q⟩ ?_
 exact⟨hz,its',_,hv,q⟩
theorem Inv.lnew {its:List Value}{t':Nat}(I:Inv X pins σ H s)(hv:Vals ys its)(hz:ys.length<=aF) :
  Inv X pins σ (upd H s.heap.objs.size (.lst ys)) { s with heap:=s.heap.push { cls:=.type "list",data:=.seq its.toArray },toks:=t' } :=
 I.laid (λ _ _ q=>ai _ q) (ak _) ⟨hz,its,0,hv,aA _ rfl⟩
theorem Inv.fresh (I:Inv X pins σ H s):H s.heap.objs.size=none:=I.hok.fresh (ak _)
theorem Inv.lstM (I:Inv X pins σ H s)(h:H l=some (.lst xs)):xs.length<=aF/\∃(its:List Value) (n:Nat),Vals xs its/\xs.length=its.length/\s.heap.get? l=some { cls:=.type "list",data:=.seq its.toArray n }:=by
 obtain⟨z,its,n,r,e⟩:=I.hok l _ h
 exact⟨z,its,n,r,r.length,e⟩
theorem aI9 {n:Nat}(h:n<=aF):cU n=false:=by
 unfold cU
 exact decide_eq_false (by omega)
end
section
variable {X:Cx}
def bx6:V->List V->Hp->VK->Prop:=λ x vs H Q=>∃ l xs y,x=.ref l/\vs=[y]/\H l=some (.lst xs)/\xs.length<aF/\Q .non (upd H l (.lst (xs++[y])))
theorem aw4:MtM X "list.append" bx6:=by
 intro C s σ H x vs v us Q I Z J h
 obtain⟨l,xs,y,rfl,rfl,G,hz,q⟩:=h
 cases Z
 obtain⟨u,rfl,Y⟩:=J.one
 obtain⟨z,its,n,r,hl,e⟩:=I.lstM G
 refine gN hX ⟨_,e,rfl⟩ F.entry_list_append (F.args_list_append_2 _ _) (PySem.list_append l its.toArray n u (by rw[ar];omega)) ⟨e,?_⟩
 refine⟨.non,_,I.lset (its':=its++[u]) G e (by simp) (r.append (.cons Y .nil)) ?_,rfl,q⟩
 rw[aB,dv]
 omega
def bs7:V->List V->Hp->VK->Prop:=λ x vs H Q=>∃ l b xs zs,x=.ref l/\vs=[.ref b]/\H l=some (.lst xs)/\H b=some (.lst zs)/\xs.length+zs.length<=aF/\Q .non (upd H l (.lst (xs++zs)))
theorem ay1:MtM X "list.extend" bs7:=by
 intro G s σ H x vs v us Q I rx Z h
 obtain⟨l,b,xs,zs,rfl,rfl,J,hB,hz,q⟩:=h
 cases rx
 obtain⟨u,rfl,ru⟩:=Z.one
 cases ru
 obtain⟨z,its,n,r,hl,e⟩:=I.lstM J
 obtain⟨z2,y,Y,r2,a1,e2⟩:=I.lstM hB
 have hsz:its.toArray.size+y.toArray.size<=aF:=by rw[ar,ar];omega
 have C:¬(!its.toArray.isEmpty&&cU (its.toArray.size+y.toArray.size))=true:=by
  rw[aI9 hsz,Bool.and_false]
  exact aJ
 refine gN ed ⟨_,e,rfl⟩ F.entry_list_extend (F.args_list_extend_2 _ _)
  (AutoSeq1.list_extend_list_list_0 l its.toArray n b y.toArray Y C (by rw[ar];omega) (by omega)) ⟨e,e2,?_⟩
 refine⟨.non,_,I.lset (its':=its++y) J e (by simp) (r.append r2) ?_,rfl,q⟩
 rw[aB]
 omega
def bY6:R2:=λ x y H Q=>∃ l b xs zs,x=.ref l/\y=.ref b/\H l=some (.lst xs)/\H b=some (.lst zs)/\xs.length+zs.length<=aF/\∀ p,H p=none->Q (.ref p) (upd H p (.lst (xs++zs)))
theorem bJ8:OpR X (cj .Add) bY6:=by
 intro F s σ H x y v u Q I Z ry h
 obtain⟨l,b,xs,zs,rfl,rfl,hH,hB,hz,q⟩:=h
 cases Z
 cases ry
 obtain⟨z,its,n,r,hl,e⟩:=I.lstM hH
 obtain⟨z2,C,n2,Y,J,e2⟩:=I.lstM hB
 refine PySem.P.add_list e e2 ?_ (by rw[ar,ar];omega)
 have G:its.toArray++C.toArray=(its++C).toArray:=by simp
 rw[G]
 exact⟨.ref _,_,I.lnew (t':=s.toks) (r.append Y) (by rw[aB];omega),rfl,q _ I.fresh⟩
def bX9:R2:=λ x y H Q=>∃ l k xs,x=.ref l/\y=.int k/\H l=some (.lst xs)/\-(2^63)<=k/\k<2^63/\xs.length*k.toNat<=aF /\
 ∀ p,H p=none->Q (.ref p) (upd H p (.lst (aH k.toNat xs).flatten))
theorem bm5 {α:Type}(h:List α)(k:Nat):(aH k h).flatten.length=k*h.length:=by
 induction k with
 | zero=>simp
 | succ k ih=>rw[bI,dA,aB,ih,Nat.succ_mul,gO]
theorem bC2:OpR X (cj .Mult) bX9:=by
 intro a1 s σ H x y v u Q I rx ry h
 obtain⟨l,k,xs,rfl,rfl,hH,h1,h2,hz,q⟩:=h
 cases rx
 obtain⟨t,rfl⟩:=ry
 obtain⟨z,its,n,r,hl,e⟩:=I.lstM hH
 have Y:its.toArray.size*k.toNat<=aF:=by rw[ar,<-hl];exact hz
 have G:¬ its.toArray.size*k.toNat > (2^63 - 1) / 8:=by
  have:(aF:Nat)<=(2^63 - 1) / 8:=by decide
  omega
 have J:¬(!Builtin.List.listFitsIndex k)=true:=by
  rw[fitsIndex_both h1 h2]
  exact aJ
 have C:¬ cU (its.toArray.size*k.toNat)=true:=by
  rw[aI9 Y]
  exact aJ
 have Z:j6 (λ x1 x2=>x1++x2) #[] (aH (if its.toArray.isEmpty=true then 0 else k.toNat) its.toArray)=(aH k.toNat its).flatten.toArray:=by
  have f0:∀ m:Nat,j6 (λ x1 x2=>x1++x2) #[] (aH m its.toArray)=(aH m its).flatten.toArray:=λ m=>by
   have:=av2 its m []
   rw[bO]at this
   exact this
  rw[f0]
  cases its with
  | nil=>simp
  | cons a r'=>rw[if_neg (by simp)]
 refine fM (T := "list") (U := "int") (by decide) ⟨_,e,rfl⟩ (λ s'=>gM s' k t) noFill_list_mul jc dZ repeat_list iM.lookup
  (gN dZ (gM s k t) iO (ir _ _) (int___rmul___int_list k t l its.toArray n)
   ⟨e,rfl,⟨_,e,rfl⟩,gN F.slot_list_mul ⟨_,e,rfl⟩ F.entry_list_mul (F.args_list_mul_2 _ _) (AutoListH.list___mul___list_int_3 l its.toArray n k t J G C) ⟨e,?_⟩⟩)
 rw[Z]
 exact⟨.ref _,_,I.lnew (t':=s.toks) (r.rep k.toNat) (by rw[bm5,kD];exact hz),rfl,q _ I.fresh⟩
end
section
variable {prog:aI} {w:World} {A:aZ} {E:Value->af->Prop} {s:af}
end
section
variable {X:Cx}
end
end L2
end
noncomputable section
namespace Att
open PySem PySem.W PySem.Calls PyProof.Rows
theorem ints_of_wellAll {P:Params}{h:Heap}:∀(ns:List Int) (vs:List Value),WellAll P h vs (ns.map WData.int)->jX vs ns:=by
 intro ns
 induction ns with
 | nil =>
  intro vs w
  rw[bZ]at w
  cases w
  exact .nil
 | cons n ns ih =>
  intro vs w
  rw[aO]at w
  cases w with
  | cons a b =>
   cases a
   exact .cons _ _ (ih _ b)
theorem script_of {l:OpenLaw}{n:Nat}(hn:l.most=some n){P:Params}{h:Heap}{args:List WData}{z:List Value}
  (y:l.row.toRowW.claim.pre args=true) (Y:WellAll P h z args) :
  ∃ a vs ns,z=[Value.ref a]/\args=[WData.list (ns.map WData.int)]/\h.get? a=some { cls:=.type "list",data:=.seq vs.toArray }/\jX vs ns/\ns.length<=n:=by
 have J:WShape.hasAll [] args [.list .int]=true:=(pre_splitW y).1
 have hc:l.pre.holds [] { args:=args }=true:=(pre_splitW y).2
 obtain⟨d,r,rfl,h1,h2⟩:=hasAllW_cons J
 obtain rfl:=hasAllW_nil h2
 obtain⟨xs,rfl,h3⟩:=hasW_list h1
 obtain⟨ns,rfl⟩:=items_int h3
 have C:ns.length<=n:=by
  unfold OpenLaw.pre at hc
  have G:(WTm.not (.lt (.lit (.int (n:Int))) (.len (.arg 0)))).holds [] { args:=[.list (ns.map .int)] }=true:=by
   have G:=(holds_andW hc).1
   rw[hn]at G
   exact G
  have F:=condW_of G (w_not (w_lt w_lit (w_len_list (w_arg rfl))))
  rw[au]at F
  refine jF λ q=>?_
  have Z:(n:Int)<((ns.length:Nat):Int):=by omega
  first
   | (rw[decide_eq_true Z]at F;exact absurd F (by decide))
   | (simp at F;omega)
 cases Y with
 | cons w1 w2 =>
  cases w2
  cases w1 with
  | list ho hall=>exact⟨_,_,ns,rfl,rfl,ho,ints_of_wellAll ns _ hall,C⟩
theorem post_true (l:OpenLaw)(args:List WData):l.row.toRowW.claim.post args (.bool true) args=true :=
 postW_of (r:=l.row.toRowW) (X:=(true==true))
  (show WShape.has [] (.bool true) .bool=true by first|rfl|decide|simp[WShape.has,WShape.arms,WShape.armsAll])
  (show(WTm.eq .res (.lit (.bool true))).value [] { args:=args,res:=some (.bool true),after:=args }=some (.bool (true==true))from w_eq_bool (w_res rfl) w_lit) rfl
theorem attach_call {l:OpenLaw}{n:Nat}{q:aI}{loose:List Str}{XP:(Str->Option Value)->Heap->Prop}{YP:World->Heap->Prop}{d:DefRec}
  (hn:l.most=some n) (a1:d.params.defaults=[])
  (call:∀(w:World) (s₀ h:af) (mg mb:Str->Option Value) (fa:Addr) (o:Obj) (Z cd z:Value) (a:Addr) (vs:List Value) (ns:List Int),
   Ground q loose [] XP w s₀ mg mb h.heap->YP w h.heap ->
   h.heap.get? fa=some o->o.data=.func (docDef d.name d.params d.body d.scope Z cd z)->h.heap.CodeRec cd d.name->mg d.name=some (.ref fa) ->
   h.heap.get? a=some { cls:=.type "list",data:=.seq vs.toArray }->jX vs ns->ns.length<=n->h.gens=#[] ->
   fR (model l.prog w) iH (.call (.ref fa) ⟨[.ref a],[]⟩) (λ r s'=>r=.ok (.ret (.bool true))/\OldK h.heap s'.heap/\s'.os=h.os/\fQ s'.gens) h) :
  WalkO q loose XP YP l.row.toRowW d [] (λ f vs=>jZ f vs):=by
 intro w s₀ h mg mb G Y fa o Z cd z dV kV ho hd a3 hD a4 hg args a6 as C a5 a7 a2 a8
 obtain rfl:dV=.none:=Dflts.none hD a1
 obtain rfl:kV=.none:=Dflts.noKw hD
 obtain⟨a,vs,ns,rfl,rfl,F,y,J⟩:=script_of hn C a2
 refine enter_call (ft (call w s₀ h mg mb fa o Z cd z a vs ns G Y ho (fd_plain hd) a3 a4 F y J hg) λ r s' hq=>?_)
 obtain⟨rfl,h2,h3,h4⟩:=hq
 exact⟨.inl ⟨.bool true,.bool true,[],rfl,λ _=>rfl,.bool true,post_true l _,λ _=>⟨List.Pairwise.nil,λ _ hm=>(nomatch hm)⟩⟩,h2,h3,h4⟩
section
variable {prog:aI} {w:World} {A:aZ} {E:Value->af->Prop} {s:af} {K:Frag}
end
end Att
noncomputable section
namespace L2
open PySem PySem.Spec PyProof.Rows
theorem ax4:∀ {vs:List Value} {ns:List Int},jX vs ns->Vals (ns.map V.int) vs
 | _,_,.nil=>.nil
 | _,_,.cons n t h=>.cons ⟨t,rfl⟩ (ax4 h)
noncomputable def defArgs (s:Stmt):bj:=match s with
 | .FunctionDef _ a _ _ _ _ _ _ _ _=>a
 | _=>{ posonlyargs:=[],args:=[],vararg:=none,kwonlyargs:=[],kw_defaults:=[],kwarg:=none,defaults:=[] }
noncomputable def zE (s:Stmt):List Stmt:=match s with
 | .FunctionDef _ _ b _ _ _ _ _ _ _=>b
 | _=>[]
noncomputable def defScope (s:Stmt):Scope:=match s with
 | .FunctionDef _ _ _ _ _ _ sc _ _ _=>sc
 | _=>{ kind:=.function,names:=[],isGenerator:=false,isCoroutine:=false }
noncomputable abbrev CX0:CXT:=λ _ _ _ _ _ _=>False
abbrev E0:XK:=λ _ _ _=>False
theorem bF9 {X:Cx}:aE5 CX0 X E0:=λ _ _ _ _ _ _ _ h=>h.elim
structure Fun (K:ae)(x qual:Str)(st:Stmt)(f:Addr)(fd:bJ):Prop where
 ex:∃(oc:Value) (od:Option Addr) (kV doc pm:Value) (an:Option Addr) (cdv ct:Value) (osl:Array (Option Value)),
  fd=c6 x qual (defArgs st) (zE st) (defScope st) .none kV doc pm an cdv ct/\K.lookup f=some ⟨oc,od,.func fd,osl⟩/\fG K cdv qual=true
 kp:cu K (.ref f)=true
section
variable {P:aI} {w:World} {K:ae} {mg:Str->Option Value} {base:Heap}
theorem Fun.ok {x qual:Str}{st:Stmt}{f:Addr}{J:bJ}{N ps:List Str}{k:Nat}{sp:Sp}(F:Fun K x qual st f J)(S:FnScope N ps (defScope st))(len:∀ vs H Q E,sp vs H Q E->vs.length=ps.length)
  (z:∀(y:Value) (A:aZ) (outer:List Env) (s:af) (H:Hp) (vs:List V) (Q:VK) (E:XK),Room k (A.deeper (f9 qual (defScope st) s.heap.objs.size f y))->sp vs H Q E ->
   ∃ t,PSs (bb2 CX0 P w K mg base N qual (defScope st) f y A outer s H E).nox (zE st) t/\t { nx:=λ _ H'=>Q .non H',rt:=Q } (ag2 N vs) H):FnOk P w K mg base CX0 (k+1) f J ps sp:=by
 obtain⟨oc,od,kV,Y,pm,an,y,ct,Z,rfl,lk,C⟩:=F.ex
 refine bE7 lk C S len λ A outer s H vs Q E hr G=>?_
 obtain⟨t,h,q⟩:=z y A outer s H vs Q E hr G
 exact⟨t,h.nox,q⟩
theorem Fun.binds {x qual:Str}{st:Stmt}{f:Addr}{J:bJ}{ps:List Str}(F:Fun K x qual st f J)
  (h:∀(kV z G:Value) (C:Option Addr) (y ct:Value) (us:List Value),us.length=ps.length->eT (c6 x qual (defArgs st) (zE st) (defScope st) .none kV z G C y ct) ⟨us,[]⟩=pure (ps.zip us)):Binds K J ps []:=by
 obtain⟨oc,od,kV,z,G,C,y,ct,Z,rfl,lk,Y⟩:=F.ex
 exact .all (h kV z G C y ct)
theorem bk6 {x qual:Str}{st:Stmt}{f:Addr}{oc:Value}{od C:Option Addr}{z:Array (Option Value)}{kV y F h ct:Value}(l:K.lookup f=some ⟨oc,od,.func (c6 x qual (defArgs st) (zE st) (defScope st) .none kV y F C h ct),z⟩)
  (c:fG K h qual=true) (k:cu K (.ref f)=true):Fun K x qual st f (c6 x qual (defArgs st) (zE st) (defScope st) .none kV y F C h ct):=⟨⟨oc,od,kV,y,F,C,h,ct,z,rfl,l,c⟩,k⟩
end
theorem aB1 {A:aZ}{k:Nat}(hr:Room k A):A.units+1<cLine:=Nat.lt_of_le_of_lt (Nat.add_le_add_left (by decide:1<=64) _) hr.units
section
variable {X:Cx}
theorem pv (i:Nat){x:Str}{pos:Pos}(hN:X.N[i]?=some x:=by rfl)(hv:Vis X.env.scope x:=by first|exact Or.inl rfl|exact Or.inr (Or.inl rfl)|exact Or.inr (Or.inr rfl))(hd:(x==("__debug__":Str))=false:=by decide)
  (h:(x==("__classdict__":Str))=false:=by decide):PE X (.Name x pos) (aX4 i):=ax7 hN hv hd h
end
theorem bY3 {A B:Prop}(h:B):if false=true then A else B:=by
 rw[if_neg aJ]
 exact h
theorem bY1 {A B:Prop}(h:A):if true=true then A else B:=by
 rw[if_pos rfl]
 exact h
def ad8 (H H':Hp):Prop:=∀ b o,H b=some o->H' b=some o
theorem ad8.refl (H:Hp):ad8 H H:=λ _ _ h=>h
theorem aW4 {prog:aI}{w:World}{A:aZ}{R:Result->af->Prop}{s:af}{elt y iter:Expr}{ifs:List Expr}{scope:Scope}{pos:Pos}{it z:Value}{env:Env}(I:Nat->af->Prop)
  (turn:∀ n s,I n s->wpAny (model prog w) A (f8 it) (λ r J=>match r with
   | none=>R (.ok .next) J
   | some v=>wpAny (model prog w) A (e9 y it v) (λ _ C=>wpAny (model prog w) A (gE y env v) (λ _ Y =>
     wpAny (model prog w) A (forIn ifs true λ c r=>if r=true then do let ok <- dY c env (eval c env);pure (ForInStep.yield ok)else pure (ForInStep.yield r)) (λ ok F =>
      if ok=true then wpAny (model prog w) A (eval elt env) (λ x Z =>
       wpAny (model prog w) A (call (.builtin "list.append") [z,x]) (λ _ s₅=>∃ m,m<n/\I m s₅) (jt (model prog w) A env λ e s'=>R (.error e) s') Z) (jt (model prog w) A env λ e s'=>R (.error e) s') F
      else ∃ m,m<n/\I m F) (jt (model prog w) A env λ e s'=>R (.error e) s') Y) (jt (model prog w) A env λ e s'=>R (.error e) s') C) (jt (model prog w) A env λ e s'=>R (.error e) s') J) (jt (model prog w) A env λ e s'=>R (.error e) s') s)
  (n:Nat) (h:I n s) :
  fR (model prog w) A (.compLoop (.ListComp elt [⟨y,iter,ifs,0⟩] scope pos) 0 it z env) R s:=by
 refine codeAny_loop rfl I (λ n s hI=>?_) n h
 show wpAny _ A ((compTurn (.ListComp elt [⟨y,iter,ifs,0⟩] scope pos) 0 it z env).onRaise (λ x=>do noteFrame x env;theTreesLotGoes x)) _ _ s
 refine wpAny_noted ?_
 rw[compTurn_list]
 refine ab (iR (ab (cy (turn n s hI) (λ r J h₁=>?_) λ _ _ h'=>h')))
 cases r with
 | none=>exact aq h₁
 | some v =>
  refine ab (cy h₁ (λ _ C G=>?_) λ _ _ h'=>h')
  refine ab (cy G (λ _ Y h₂=>ab (cy h₂ (λ ok F h₃=>?_) λ _ _ h'=>h')) λ _ _ h'=>h')
  cases ok with
  | false=>exact aq ⟨rfl,h₃⟩
  | true =>
   exact ab (ab (cy h₃ (λ x Z h₄=>ab (cy h₄ (λ _ s₅ h₅=>aq (aq ⟨rfl,h₅⟩)) λ _ _ h'=>h')) λ _ _ h'=>h'))
noncomputable def ad1 (cells:List (Str×Addr)):List (Str×bM)->List (Str×Addr)->List (Str×Addr)
 | [],acc=>acc
 | (n,k)::r,acc=>ad1 cells r (if k==.free then(match cells.lookup n with|some c=>(n,c)::acc|none=>acc)else acc)
theorem af4 {env:Env}:∀(names:List (Str×bM)) (z:List (Str×Addr)),(∀ y∈names,y.2=.free->∃ c,env.cells.lookup y.1=some c) ->
  (forIn names z λ(x:Str×bM) (cs:List (Str×Addr))=>(if x.2==.free then do let c <- cellOf env x.1;pure (ForInStep.yield ((x.1,c)::cs))else pure (ForInStep.yield cs):Sem (ForInStep (List (Str×Addr)))))=pure (ad1 env.cells names z)
 | [],z,_=>by rw[iu];rfl
 | (n,k)::r,z,h=>by
  have C:=λ a=>af4 r a λ y hy=>h y (az _ hy)
  rw[jR]
  unfold ad1
  cases e:(k==NameKind.free)with
  | false =>
   simp only[bG,if_false]
   exact C z
  | true =>
   have hk:k=.free:=by simpa using e
   obtain⟨c,hc⟩:=h (n,k) aG hk
   have e1:cellOf env n=pure c:=by unfold cellOf;rw[hc]
   simp only[if_true,e1,hc]
   exact C _
theorem zS {scope:Scope}{env:Env}(h:∀ y∈scope.names,y.2=.free->∃ c,env.cells.lookup y.1=some c):closureFor scope env=pure (ad1 env.cells scope.names []):=by
 have:=af4 (env:=env) scope.names [] h
 show(forIn scope.names [] (λ(x:Str×bM) (cs:List (Str×Addr))=>(if x.2==.free then do let c <- cellOf env x.1;pure (ForInStep.yield ((x.1,c)::cs))else pure (ForInStep.yield cs):Sem (ForInStep (List (Str×Addr))))) >>= λ cs=>pure cs)=_
 rw[this]
 rfl
theorem clOf_mem {cells:List (Str×Addr)}{n:Str}{c:Addr}:∀ {names:List (Str×bM)} {C:List (Str×Addr)},(n,c)∈ad1 cells names C->cells.lookup n=some c\/(n,c)∈C
 | [],_,h=>.inr h
 | (m,k)::r,C,h=>by
  unfold ad1 at h
  rcases clOf_mem h with z|z
  ·exact .inl z
  ·cases e:(k==NameKind.free)with
   | false=>simp only[e,bG,if_false]at z;exact .inr z
   | true =>
    simp only[e,if_true]at z
    cases q:cells.lookup m with
    | none=>rw[q]at z;exact .inr z
    | some d =>
     rw[q]at z
     rcases aE.mp z with y|y
     ·cases y;exact .inl q
     ·exact .inr y
theorem aH9 {cells:List (Str×Addr)}{n:Str}{c:Addr}(hc:cells.lookup n=some c):∀ {names:List (Str×bM)} {y:List (Str×Addr)},((n,NameKind.free)∈names\/(n,c)∈y)->(n,c)∈ad1 cells names y
 | [],_,h=>by rcases h with h|h;(exact absurd h (by simp));exact h
 | (m,k)::r,y,h=>by
  unfold ad1
  refine aH9 hc ?_
  rcases h with h|h
  ·rcases aE.mp h with e|h
   ·cases e
    right
    simp[hc]
   ·exact .inl h
  ·right
   cases e:(k==NameKind.free)with
   | false=>simpa using h
   | true =>
    simp only[if_true]
    cases q:cells.lookup m with
    | none=>exact h
    | some d=>exact az _ h
theorem af5 {α:Type}{n:Str}{c:α}:∀ {l:List (Str×α)},(n,c)∈l->(∀ d,(n,d)∈l->d=c)->l.lookup n=some c
 | (m,d)::r,h,u=>by
  rw[bh]
  cases e:n==m with
  | true =>
   have e':=beq_iff_eq.mp e
   subst e'
   rw[u d aG]
  | false =>
   rcases aE.mp h with z|z
   ·cases z;simp at e
   ·exact af5 z λ d' h'=>u d' (az _ h')
theorem zZ {cells:List (Str×Addr)}{n:Str}{c:Addr}{names:List (Str×bM)}(hc:cells.lookup n=some c)(h:(n,NameKind.free)∈names):(ad1 cells names []).lookup n=some c:=by
 refine af5 (aH9 hc (.inl h)) λ d hd=>?_
 rcases clOf_mem hd with z|z
 ·rw[hc]at z;exact(aw z).symm
 ·exact absurd z (by simp)
theorem zl:∀(names:List (Str×bM)) (n:Nat) (h:List (Str×Addr)),aL n names h=aL n names []++h
 | [],_,h=>by simp[aL]
 | (x,k)::r,n,h=>by
  unfold aL
  split
  ·rw[zl r (n+1) ((x,n)::h),zl r (n+1) [(x,n)]]
   simp
  ·exact zl r n h
theorem zw:∀ {names:List (Str×bM)} {n:Nat} {C:List (Str×Addr)} {x:Str} {c:Addr},(x,c)∈aL n names C->(x,NameKind.cell)∈names\/(x,c)∈C
 | [],_,_,_,_,h=>.inr h
 | (y,k)::r,n,C,x,c,h=>by
  unfold aL at h
  split at h
  ·rename_i hk
   rcases zw h with z|z
   ·exact .inl (az _ z)
   ·rcases aE.mp z with e|z
    ·cases e
     have:k=.cell:=by simpa using hk
     subst this
     exact .inl aG
    ·exact .inr z
  ·rcases zw h with z|z
   ·exact .inl (az _ z)
   ·exact .inr z
theorem zA {α:Type}(x:Str):∀(l r:List (Str×α)),(l++r).lookup x=(l.lookup x).or (r.lookup x)
 | [],r=>by simp
 | (y,v)::l,r=>by
  rw[bS,bh,bh]
  cases x==y with
  | true=>rfl
  | false=>exact zA x l r
noncomputable def zG (N':List Str)(src:List (Option Nat))(scope:Scope)(XN:List Str)(xs:Scope):Bool :=
 (scope.kind==.function) &&
 (scope.names.all λ y=>!(y.2==.free)||(xs.names.lookup y.1==some .cell||xs.names.lookup y.1==some .free)) &&
 (scope.names.all λ y=>!(y.2==.local)||scope.names.lookup y.1==some .local) &&
 (scope.names.all λ y=>!(y.2==.cell)||(scope.names.all λ z=>!(z.1==y.1)||z.2==.cell)) &&
 (src.length==N'.length) &&
 ((N'.zip src).all λ y=>match y.2 with|none=>true|some j=>XN[j]?==some y.1&&scope.names.lookup y.1==some .free)
structure CompCk (N':List Str)(src:List (Option Nat))(scope:Scope)(XN:List Str)(xs:Scope):Prop where
 kind:scope.kind=.function
 fr:∀ y∈scope.names,y.2=.free->xs.names.lookup y.1=some .cell\/xs.names.lookup y.1=some .free
 loc:∀ y∈scope.names,y.2=.local->scope.names.lookup y.1=some .local
 cel:∀ y∈scope.names,y.2=.cell->∀ z∈scope.names,z.1=y.1->z.2=.cell
 len:src.length=N'.length
 sr:∀(i j:Nat) (x:Str),src[i]?=some (some j)->N'[i]?=some x->XN[j]?=some x/\scope.names.lookup x=some .free
theorem bi4 {C:List Str}{src:List (Option Nat)}{scope:Scope}{G:List Str}{F:Scope}(h:zG C src scope G F=true):CompCk C src scope G F:=by
 unfold zG at h
 simp only[aj]at h
 obtain⟨⟨⟨⟨⟨h1,h2⟩,h3⟩,h4⟩,Y⟩,h6⟩:=h
 refine⟨by simpa using h1,λ y hy e=>?_,λ y hy e=>?_,λ y hy e z hz Z=>?_,by simpa using Y,λ i j x e1 e2=>?_⟩
 ·have:=aX.mp h2 y hy
  simpa [e]using this
 ·have:=aX.mp h3 y hy
  simpa [e]using this
 ·have:=aX.mp h4 y hy
  simp only[e,beq_self_eq_true,iX,kq]at this
  have:=aX.mp this z hz
  simpa [Z]using this
 ·have J:(x,some j)∈C.zip src:=by
   refine aM (i:=i) ?_
   rw[List.getElem?_zip_eq_some]
   exact⟨e2,e1⟩
  have:=aX.mp h6 _ J
  simpa using this
noncomputable abbrev zC (X:Cx)(N':List Str)(scope:Scope)(C:Addr)(cells:List (Str×Addr))(s:af)(H:Hp)(ex:List Addr):Cx where
 prog:=X.prog
 w:=X.w
 K:=X.K
 mg:=X.mg
 base:=X.base
 A:=X.A
 N:=N'
 s₀:=s
 H₀:=H
 env:={ scope:=dB scope X.env,locals:=C,globals:=X.env.globals,cells:=cells,qual:=X.env.qual,func:=none,code:=X.env.code,frame:=X.env.frame,builtins:=X.env.builtins }
 outer:=X.stack
 stack:=X.stack
 ex:=ex
 fn:=λ x=>scope.names.lookup x==some .cell
 calm:=X.calm
 pn:=[]
 xe:=λ _ _=>False
def PIf (X:Cx)(ifs:List Expr)(t:TT):Prop :=
 ∀(pins:List (Addr×Obj)) (s:af) (σ:St) (H:Hp) (Q:Bool->Hp->Prop),Inv X pins σ H s->t σ H Q ->
  wpAny (model X.prog X.w) X.A (forIn ifs true λ c r=>if r=true then do let ok <- dY c X.env (eval c X.env);pure (ForInStep.yield ok)else pure (ForInStep.yield r)) (TP X pins σ Q) X.xe s
def bN8:TT:=λ _ H Q=>Q true H
theorem aQ9 {X:Cx}:PIf X [] bN8:=λ _ _ _ H _ I h=>wpAny_tests_nil ⟨H,I,h⟩
theorem bq9 {X:Cx}{c:Expr}{t:TT}(h:PT X c t):PIf X [c] t:=λ y s σ H Q I hw=>wpAny_tests_one (h y s σ H Q I hw)
noncomputable def ax3 (src:List (Option Nat))(σ:St):St:=src.map λ o=>match o with|none=>none|some j=>(σ[j]?).join
def tComp (src:List (Option Nat))(wi:TI)(g:TG)(tc:TT)(te:TE):TE:=λ σ H Q=>wi σ H λ J H1=>∀ D,H1 D=none ->
 ∃ W:Nat->Nat->St->Hp->Prop,(∃ m,W 0 m (ax3 src σ) (upd H1 D (.lst [])))/\∀ i m σ' H',W i m σ' H' ->
  (J.stop i H'/\Q (.ref D) H')\/(J.go i H'/\∃ N:St->Hp->Prop,(∀ σ2 H2,N σ2 H2->∃ m',m'<m/\W (i+1) m' σ2 H2) /\
   ∀ x H2,J.yld i H' x H2->g x σ' H2 λ σ3 H3=>tc σ3 H3 λ b H4=>if b=true then te σ3 H4 λ v H5=>∃ ys,H5 D=some (.lst ys)/\ys.length<aF/\N σ3 (upd H5 D (.lst (ys++[v])))else N σ3 H4)
theorem zL {env:Env}:∀ {names:List (Str×bM)} {x:Str} {k:bM},names.lookup x=some k ->
  (names.map λ(n,k)=>if(k==NameKind.free&&env.scope.kind==.function&&env.kindOf n==some .cell)then(n,NameKind.cell)else(n,k)).lookup x =
   some (if(k==NameKind.free&&env.scope.kind==.function&&env.kindOf x==some .cell)then NameKind.cell else k)
 | [],_,_,h=>by simp at h
 | (n,k)::r,x,k',h=>by
  have y:=@zL env r x k'
  show kK x ((if(k==NameKind.free&&env.scope.kind==.function&&env.kindOf n==some .cell)=true then(n,NameKind.cell)else(n,k))::_)=_
  cases hx:x==n with
  | true =>
   have e:=beq_iff_eq.mp hx
   subst e
   simp only[bh,hx]at h
   cases h
   by_cases hc:(k==NameKind.free&&env.scope.kind==.function&&env.kindOf x==some .cell)=true
   ·rw[if_pos hc,if_pos hc];simp only[bh,hx]
   ·rw[if_neg hc,if_neg hc];simp only[bh,hx]
  | false =>
   simp only[bh,hx]at h
   by_cases hc:(k==NameKind.free&&env.scope.kind==.function&&env.kindOf n==some .cell)=true
   ·rw[if_pos hc];simp only[bh,hx];exact y h
   ·rw[if_neg hc];simp only[bh,hx];exact y h
theorem zW {env:Env}:∀ {names:List (Str×bM)} {x:Str},names.lookup x=none ->
  (names.map λ(n,k)=>if(k==NameKind.free&&env.scope.kind==.function&&env.kindOf n==some .cell)then(n,NameKind.cell)else(n,k)).lookup x=none
 | [],_,_=>rfl
 | (n,k)::r,x,h=>by
  have y:=@zW env r x
  show kK x ((if(k==NameKind.free&&env.scope.kind==.function&&env.kindOf n==some .cell)=true then(n,NameKind.cell)else(n,k))::_)=_
  cases hx:x==n with
  | true=>simp only[bh,hx]at h;cases h
  | false =>
   simp only[bh,hx]at h
   by_cases hc:(k==NameKind.free&&env.scope.kind==.function&&env.kindOf n==some .cell)=true
   ·rw[if_pos hc];simp only[bh,hx];exact y h
   ·rw[if_neg hc];simp only[bh,hx];exact y h
theorem an7 {X:Cx}{N':List Str}{src:List (Option Nat)}{scope:Scope}{a5:List (Addr×Obj)}{σ:St}{H:Hp}{s s4:af}{fp:List Addr}
  (G:CompCk N' src scope X.N X.env.scope) (I:Inv X a5 σ H s) (hf:∀ b∈fp,FpOk X a5 H b) (a9:∀ b∈fp,b<s.heap.objs.size)
  (e4:∃ tk,s4={ s with heap:=eO (s.heap.push { cls:=.type "dict",data:=.dict #[] }) scope.names,toks:=tk }) :
  Inv (zC X N' scope s.heap.objs.size (aL (s.heap.objs.size+1) scope.names (ad1 X.env.cells scope.names [])) s H fp) [] (ax3 src σ) H s4:=by
 obtain⟨tk,rfl⟩:=e4
 have hk:∀ b o,s.heap.get? b=some o->(eO (s.heap.push { cls:=.type "dict",data:=.dict #[] }) scope.names).get? b=some o:=λ b o e=>dj _ _ b o (ai _ e)
 have ok:=cellsFrom_ok scope.names (s.heap.push { cls:=.type "dict",data:=.dict #[] }) (s.heap.objs.size+1) [] ⟨λ _ _ hm=>(nomatch hm),List.Pairwise.nil⟩ (by rw[ci];exact ak _)
 rw[ci]at ok
 have Y:=zl scope.names (s.heap.objs.size+1) (ad1 X.env.cells scope.names [])
 have lk:∀ x c,(aL (s.heap.objs.size+1) scope.names (ad1 X.env.cells scope.names [])).lookup x=some c ->
   ((x,c)∈aL (s.heap.objs.size+1) scope.names []/\(x,NameKind.cell)∈scope.names)\/(X.env.cells.lookup x=some c/\(aL (s.heap.objs.size+1) scope.names []).lookup x=none):=λ x c e=>by
  rw[Y,zA]at e
  cases q:(aL (s.heap.objs.size+1) scope.names []).lookup x with
  | some d =>
   rw[q]at e
   have e':d=c:=aw e
   subst e'
   have hm:=ax q
   refine .inl ⟨hm,?_⟩
   rcases zw hm with z|z
   ·exact z
   ·exact absurd z (by simp)
  | none =>
   rw[q]at e
   have e':(ad1 X.env.cells scope.names []).lookup x=some c:=e
   rcases clOf_mem (ax e')with z|z
   ·exact .inr ⟨z,rfl⟩
   ·exact absurd z (by simp)
 have up:∀ x c,(x,c)∈aL (s.heap.objs.size+1) scope.names []->s.heap.objs.size+1<=c:=λ x c h=>(ok.empty x c h).2
 have a7:∀ x c,X.env.cells.lookup x=some c->c<s.heap.objs.size:=λ x c h=>by
  obtain⟨v,q⟩:=I.cell x c h
  exact q.lt
 have a3:∀ b,b<s.heap.objs.size->b≠s.heap.objs.size:=λ b h=>av h
 have b0:∀ b∈fp,H b=none/\b≠X.env.locals/\b ∉ X.fs:=λ b hb=>⟨(hf b hb).1,(hf b hb).2.1,(hf b hb).2.2.1⟩
 have b2:(eO (s.heap.push { cls:=.type "dict",data:=.dict #[] }) scope.names).Ns s.heap.objs.size (λ _=>none):=(kL s.heap (.type "dict")).keeps (dj _ _)
 have Z:∀ x k,scope.names.lookup x=some k->(dB scope X.env).names.lookup x=some (if(k==NameKind.free&&X.env.scope.kind==.function&&X.env.kindOf x==some .cell)then NameKind.cell else k):=λ x k e=>zL (env:=X.env) e
 have a4:∀ x,scope.names.lookup x=none->(dB scope X.env).names.lookup x=none:=λ x e=>zW (env:=X.env) e
 have b1:∀ x c,(x,NameKind.free)∈scope.names->X.env.cells.lookup x=some c->(aL (s.heap.objs.size+1) scope.names (ad1 X.env.cells scope.names [])).lookup x=some c:=λ x c hx hc=>by
  rw[Y,zA]
  cases q:(aL (s.heap.objs.size+1) scope.names []).lookup x with
  | some d =>
   rcases zw (ax q)with z|z
   ·have:=G.cel _ z rfl _ hx rfl
    cases this
   ·exact absurd z (by simp)
  | none=>exact zZ hc hx
 have a6:∀ x,(x,NameKind.free)∈scope.names->∃ c,X.env.cells.lookup x=some c:=λ x hx=>I.ok.has x (G.fr _ hx rfl)
 refine⟨⟨I.ok.mod,G.kind,I.ok.glob,I.ok.blt,ak _,λ x y c e1 e2=>?_,λ x hx=>?_,λ x c hx e=>?_,I.ok.hd,I.ok.frames,.inl rfl,λ b hb=>⟨a3 b (a9 b hb),λ x c e z=>?_⟩,I.bs,am I.ok.bsz I.sz,λ b o e hb=>?_,λ b hb z=>?_,I.stack,I.stkFree⟩,
  rfl,I.bare,Un.kept hk,⟨_,b2,λ i x v e1 e2 e3=>?_⟩,λ x c e=>?_,I.hok.fresh (ak _),λ x c e=>?_,λ p hp=>absurd (show p∈([]:List (Addr×Obj))from hp) (by simp),I.hok.kept hk,by unfold ax3;rw[au];exact G.len⟩
 ·rcases lk x c e1 with⟨a1,_⟩|⟨a1,_⟩<;>rcases lk y c e2 with⟨a2,_⟩|⟨a2,_⟩
  ·exact gG ok.apart a1 a2
  ·exact absurd (ao (a7 _ _ a2) (fT (up _ _ a1))) (bw _)
  ·exact absurd (ao (a7 _ _ a1) (fT (up _ _ a2))) (bw _)
  ·exact I.ok.inj x y c a1 a2
 ·cases q:scope.names.lookup x with
  | none =>
   have F:(dB scope X.env).names.lookup x=some .cell\/(dB scope X.env).names.lookup x=some .free:=hx
   rw[a4 x q]at F
   rcases F with z|z<;>cases z
  | some k =>
   have F:(dB scope X.env).names.lookup x=some .cell\/(dB scope X.env).names.lookup x=some .free:=hx
   rw[Z x k q]at F
   cases k with
   | free =>
    obtain⟨c,hc⟩:=a6 x (ax q)
    exact⟨c,b1 x c (ax q) hc⟩
   | cell =>
    obtain⟨c,hc⟩:=zN (n:=s.heap.objs.size+1) q
    exact⟨c,by show(aL _ _ _).lookup x=_;rw[Y,zA,hc];rfl⟩
   | _=>rcases F with z|z<;>cases z
 ·have F:(scope.names.lookup x==some .cell)=true:=hx
  have q:scope.names.lookup x=some .cell:=by simpa using F
  rcases lk x c e with⟨a,_⟩|⟨a,b⟩
  ·have:=up _ _ a;show s.heap.objs.size<=c;omega
  ·obtain⟨d,hd⟩:=zN (n:=s.heap.objs.size+1) q
   rw[hd]at b;cases b
 ·subst z
  rcases lk x c e with⟨a,_⟩|⟨a,_⟩
  ·exact absurd (ao (a9 c hb) (fT (up _ _ a))) (bw _)
  ·exact(hf c hb).2.2.2.2.1 x c a rfl
 ·rcases(hf b hb).2.2.2.1 with z|z
  ·exact I.ok.noex b o e z
  ·exact absurd (ao (ay e) (am I.ok.bsz z)) (bw _)
 ·rcases aE.mp (I.stkSub b z)with y|y
  ·exact(b0 b hb).2.1 y
  ·exact(b0 b hb).2.2 y
 ·have C:(ax3 src σ)[i]?=some (some v):=e2
  unfold ax3 at C
  rw[aC]at C
  cases q:src[i]? with
  | none=>rw[q]at C;cases C
  | some o =>
   rw[q]at C
   cases o with
   | none=>cases C
   | some j =>
    have J:(σ[j]?).join=some v:=aw C
    have ej:σ[j]?=some (some v):=by
     cases q2:σ[j]? with
     | none=>rw[q2]at J;cases J
     | some o2=>rw[q2]at J;exact congrArg some J
    obtain⟨h1,h2⟩:=G.sr i j x q e1
    have hm:=ax h2
    obtain⟨mX,b4,b3⟩:=I.loc
    have a8:Vis X.env.scope x:=by
     rcases G.fr _ hm rfl with z|z
     ·exact .inr (.inl z)
     ·exact .inr (.inr z)
    obtain⟨u,ru,look⟩:=b3 j x v h1 ej a8
    refine⟨u,ru,.inr ?_⟩
    have hcell:∃ c,X.env.cells.lookup x=some c/\s.heap.IsCell c (some u):=by
     rcases look with⟨z,_⟩|⟨_,c,z1,z2⟩
     ·have z':X.env.scope.names.lookup x=some .local:=z
      rcases G.fr _ hm rfl with y|y<;>(rw[z']at y;cases y)
     ·exact⟨c,z1,z2⟩
    obtain⟨c,c1,c2⟩:=hcell
    refine⟨?_,c,b1 x c hm c1,c2.keeps hk⟩
    show(dB scope X.env).names.lookup x=some .cell\/(dB scope X.env).names.lookup x=some .free
    rw[Z x _ h2]
    by_cases hc:(NameKind.free==NameKind.free&&X.env.scope.kind==.function&&X.env.kindOf x==some .cell)=true
    ·rw[if_pos hc];exact .inl rfl
    ·rw[if_neg hc];exact .inr rfl
 ·rcases lk x c e with⟨a,_⟩|⟨a,_⟩
  ·exact⟨_,(ok.empty x c a).1⟩
  ·obtain⟨v,q⟩:=I.cell x c a
   exact⟨v,q.keeps hk⟩
 ·rcases lk x c e with⟨a,_⟩|⟨a,_⟩
  ·exact I.hok.fresh (by have:=up _ _ a;omega)
  ·exact I.freeC x c a
theorem aG7 {X:Cx}{Y:List Str}{scope:Scope}{h:List (Addr×Obj)}{σ σ':St}{H G:Hp}{s s5:af}{C:List Addr}{cells:List (Str×Addr)}{h':Heap}
  (I:Inv X h σ H s) (F:∀ b∈C,FpOk X h H b) (J:Inv (zC X Y scope s.heap.objs.size cells s H C) [] σ' G s5) (hs:cg s.heap.objs.size s5.heap h') :
  Inv X h σ G { s5 with heap:=h' }:=by
 have y:∀ b o,s.heap.get? b=some o->b≠s.heap.objs.size:=λ b o e=>av (ay e)
 have u:Un (frs X.stack) C H G s.heap s5.heap:=J.base
 refine I.call' (s':={ s5 with heap:=h' }) (ch:=C) J.os ⟨λ b o e n hb hx=>?_,λ b o e n hb hx=>?_,λ b o e n hx=>u.free b o e n hx,λ b o e hx=>?_,u.tups,u.frzs,u.tbls⟩ (λ b o e=>?_) J.bare λ b hb=>⟨(F b hb).2.2.2.1,(F b hb).2.1,(F b hb).2.2.2.2.1,(F b hb).2.2.2.2.2⟩
 ·exact(hs.2 b (y b o e)).trans (u.keep b o e n hb hx)
 ·obtain⟨sl,q⟩:=u.slot b o e n hb hx
  exact⟨sl,(hs.2 b (y b o e)).trans q⟩
 ·obtain⟨Z,q⟩:=u.there b o e hx
  exact⟨Z,(hs.2 b (y b o e)).trans q⟩
 ·have fr:G s.heap.objs.size=none:=J.free
  refine(J.hok b o e).stay (λ c w' hc q=>(hs.2 c ?_).trans q) (λ _ q=>q) λ _ _ q=>q
  rintro rfl
  rcases hc with z|hc
  ·rw[<-z,fr]at e;cases e
  ·rw[fr]at hc;cases hc
theorem af9 {M:Model}{A:aZ}{E:Value->af->Prop}{s:af}{scope:Scope}{globals:Addr}{y:List (Str×Addr)}{qual:Str}{outer:Env}{Q:Env->af->Prop}
  (h:Q { scope:=scope,locals:=s.heap.objs.size,globals:=globals,cells:=aL (s.heap.objs.size+1) scope.names y,qual:=qual,func:=none,code:=outer.code,frame:=outer.frame,builtins:=outer.builtins }
   { s with heap:=eO (s.heap.push { cls:=.type "dict",data:=.dict #[] }) scope.names }) :
  wpAny M A (fI scope globals y [] qual none .none (some outer)) Q E s:=by
 simp only[fI,fJ,if_true]
 refine ab (wpAny_alloc ?_)
 refine ab (wpAny_layCells _ (λ name kind cells=>by cases hkc:kind==NameKind.cell<;>simp[hkc]) _ _ _ _ ?_)
 rw[show({ s with heap:=s.heap.push { cls:=.type "dict",data:=.dict #[] } }:af).heap.objs.size=s.heap.objs.size+1 from ci ..]
 refine ab ?_
 rw[iu]
 exact aq (aq h)
theorem ax6 {X':Cx}{R:Result->af->Prop}{elt tg iter:Expr}{ifs:List Expr}{scope:Scope}{pos:Pos}{g:TG}{tc:TT}{te:TE}{J:It}{Z:List Addr}{it D:Addr}{tn:Nat->Heap->Prop}{W:Nat->Nat->St->Hp->Prop}
  {QD:Hp->Prop} {σ0:St} {H0:Hp} {s4:af} {m0:Nat} (hx:X'.xe=λ _ _=>False) (F:X'.calm=true) (I4:Inv X' [] σ0 H0 s4) (T:Turn X'.prog X'.w X'.K tg J Z it tn) (a7:tn 0 s4.heap)
  (G:∀ H':Hp,(∀ b∈Z,H' b=none)->∀ b∈Z,FpOk X' [] H' b) (a6:∀ b∈Z,H0 b=none) (w0:W 0 m0 σ0 H0)
  (turn:∀ i m σ' H',W i m σ' H'->(J.stop i H'/\QD H')\/(J.go i H'/\∃ N:St->Hp->Prop,(∀ σ2 H2,N σ2 H2->∃ m',m'<m/\W (i+1) m' σ2 H2) /\
   ∀ x H2,J.yld i H' x H2->g x σ' H2 λ σ3 Y=>tc σ3 Y λ b H4=>if b=true then te σ3 H4 λ v H5=>∃ ys,H5 D=some (.lst ys)/\ys.length<aF/\N σ3 (upd H5 D (.lst (ys++[v])))else N σ3 H4))
  (hg:PG X' tg g) (hif:PIf X' ifs tc) (he:PE X' elt te) (a2:∀ σ' H' s',Inv X' [] σ' H' s'->QD H'->R (.ok .next) s') :
  fR (model X'.prog X'.w) X'.A (.compLoop (.ListComp elt [⟨tg,iter,ifs,0⟩] scope pos) 0 (.ref it) (.ref D) X'.env) R s4:=by
 have nox:∀ {α:Type} {t:Sem α} {Q Q':α->af->Prop} {E:Value->af->Prop} {s:af},wpAny (model X'.prog X'.w) X'.A t Q X'.xe s->(∀ a s,Q a s->Q' a s)->wpAny (model X'.prog X'.w) X'.A t Q' E s :=
  λ h hQ=>cy h hQ λ _ _ z=>by rw[hx]at z;exact z.elim
 refine aW4 (λ n s'=>∃ i σ' H',Inv X' [] σ' H' s'/\tn i s'.heap/\(∀ b∈Z,H' b=none)/\W i n σ' H') ?_ m0 ⟨0,σ0,H0,I4,a7,a6,w0⟩
 rintro n s3 ⟨i,σ3,Y,I3,a4,a3,w3⟩
 rcases turn i n σ3 Y w3 with⟨stop,qn⟩|⟨go,N,hN,step⟩
 ·refine nox (T.done X' rfl rfl rfl F i [] s3 σ3 Y X'.xe I3 (G Y a3) a4 stop) λ r s4 ⟨hr,I4⟩=>?_
  subst hr
  exact a2 σ3 Y s4 I4 qn
 ·refine nox (T.item X' rfl rfl rfl F i [] s3 σ3 Y X'.xe I3 (G Y a3) a4 go) λ r s4 ⟨u,hr,h4⟩=>?_
  subst hr
  refine nox h4 λ _ s5 ⟨x,H5,I5,r5,y5,a1,a5⟩=>?_
  have a8:=I5.pinned (G H5 a5) (T.obj _ _ a1)
  refine nox (hg _ s5 σ3 H5 x u _ a8 r5 (step x H5 y5)) λ _ s6 ⟨σ6,H6,I6,q6⟩=>?_
  have C:∀ {σ7:St} {H7:Hp} {s7:af},Inv X' ([]++aw8 Z s5.heap) σ7 H7 s7->N σ7 H7->∃ m,m<n/\∃ i σ' H',Inv X' [] σ' H' s7/\tn i s7.heap/\(∀ b∈Z,H' b=none)/\W i m σ' H':=λ {σ7 H7 s7} I7 n7=>by
   obtain⟨m',hm,w7⟩:=hN σ7 H7 n7
   refine⟨m',hm,i+1,σ7,H7,I7.unpinned,T.keep _ _ _ a1 λ b hb o e=>(I7.pin (b,o) (aS _ (aS _ (qy hb e)))).1,λ b hb=>?_,w7⟩
   obtain⟨o,e,d⟩:=T.obj _ _ a1 b hb
   exact(I7.pin (b,o) (aS _ (aS _ (qy hb e)))).2.1
  refine nox (hif _ s6 σ6 H6 _ I6 q6) λ b s7 ⟨H7,I7,q7⟩=>?_
  cases b with
  | false =>
   rw[if_neg aJ]at q7 ⊢
   exact C I7 q7
  | true =>
   rw[if_pos rfl]at q7 ⊢
   refine nox (he _ s7 σ6 H7 _ I7 q7) λ v s8 ⟨y,H8,I8,r8,ys,hy,hz,q8⟩=>?_
   refine nox (aw4 _ s8 σ6 H8 (.ref D) [y] (.ref D) [v] (λ _ H9=>N σ6 H9) I8 rfl (.cons r8 .nil) ⟨D,ys,y,rfl,rfl,hy,hz,q8⟩) λ v9 s9 ⟨_,H9,I9,_,q9⟩=>?_
   exact C I9 q9
theorem aC4 {X:Cx}{elt tg iter:Expr}{ifs:List Expr}{scope:Scope}{pos:Pos}{wi:TI}{g:TG}{tc:TT}{te:TE}(Z:List Str)(src:List (Option Nat))
  (b0:zG Z src scope X.N X.env.scope=true) (hi:PI X tg iter wi) (G:X.calm=true)
  (a5:∀(C:Addr) (cells:List (Str×Addr)) (s:af) (H:Hp) (ex:List Addr),PG (zC X Z scope C cells s H ex) tg g/\PIf (zC X Z scope C cells s H ex) ifs tc/\PE (zC X Z scope C cells s H ex) elt te)
  (hs:∀ x,dz iter X.env x=pure x:=by intro _;rfl):PE X (.ListComp elt [⟨tg,iter,ifs,0⟩] scope pos) (tComp src wi g tc te):=by
 intro z s σ H Q I h
 have ck:=bi4 b0
 rw[eval_ListComp]
 have a9:=zS (scope:=scope) (env:=X.env) λ y hy e=>I.ok.has y.1 (ck.fr y hy e)
 refine gd (use:=none) rfl hs a9 ck.kind ck.loc (thn (hi z s σ H _ I h) λ v s1 h1=>thn h1 λ b2 s2 h2=>?_)
 obtain⟨it,F,tn,J,H2,e,I2,T,a3,f2,W⟩:=h2
 subst e
 have hD:=I2.fresh
 obtain⟨W,⟨m0,w0⟩,turn⟩:=W _ hD
 have I3:=I2.lnew (its:=[]) (ys:=[]) (t':=s2.toks) .nil (cO _)
 have a1:∀ b∈F,b<s2.heap.objs.size:=λ b hb=>by obtain⟨o,q,_⟩:=T.obj _ _ a3 b hb;exact ay q
 have f3:∀ b∈F,FpOk X z (upd H2 s2.heap.objs.size (.lst [])) b:=λ b hb=>⟨by rw[za (av (a1 b hb))];exact(f2 b hb).1,(f2 b hb).2⟩
 refine bf (af9 ?_)
 generalize Y:({ s2 with heap:=s2.heap.push { cls:=.type "list",data:=.seq ([]:List Value).toArray },toks:=s2.toks }:af)=s3 at I3
 have b1:({ s2 with heap:=s2.heap.push { cls:=.type "list",data:=.seq ([]:List Value).toArray } }:af)=s3:=Y
 have a8:∀ b∈F,b<s3.heap.objs.size:=λ b hb=>by
  rw[<-Y]
  show b<(s2.heap.push _).objs.size
  rw[ci]
  exact fU (a1 b hb)
 have I4:=an7 (s4:={ s3 with heap:=eO (s3.heap.push { cls:=.type "dict",data:=.dict #[] }) scope.names }) ck I3 f3 a8 ⟨_,rfl⟩
 have a4:tn 0 (eO (s3.heap.push { cls:=.type "dict",data:=.dict #[] }) scope.names):=T.keep _ _ _ a3 λ b hb o e=>dj _ _ b o (ai _ (by rw[<-Y];exact ai _ e))
 obtain⟨hg,hif,he⟩:=a5 s3.heap.objs.size (aL (s3.heap.objs.size+1) scope.names (ad1 X.env.cells scope.names [])) s3 (upd H2 s2.heap.objs.size (.lst [])) F
 have a2:∀ H':Hp,(∀ b∈F,H' b=none)->∀ b∈F,FpOk (zC X Z scope s3.heap.objs.size (aL (s3.heap.objs.size+1) scope.names (ad1 X.env.cells scope.names [])) s3 (upd H2 s2.heap.objs.size (.lst [])) F) [] H' b:=λ H' hn b hb =>
  ⟨hn b hb,(I4.ok.exf b hb).1,I4.ok.exfs b hb,.inl hb,λ x c e=>(I4.ok.exf b hb).2 x c e,λ p hp=>absurd (show p∈([]:List (Addr×Obj))from hp) (by simp)⟩
 have T':Turn X.prog X.w X.K tg J F it tn:=T
 have a7:∀ b∈F,upd H2 s2.heap.objs.size (.lst []) b=none:=λ b hb=>(f3 b hb).1
 have L:=ax6 (X':=zC X Z scope s3.heap.objs.size (aL (s3.heap.objs.size+1) scope.names (ad1 X.env.cells scope.names [])) s3 (upd H2 s2.heap.objs.size (.lst [])) F) (R:=compPost (model X.prog X.w) X.A X.xe none (EP X z σ Q) (Value.ref s2.heap.objs.size) s3.heap.objs.size) (iter:=iter) (scope:=scope) (pos:=pos) (QD:=λ H'=>Q (.ref s2.heap.objs.size) H') rfl G I4 T' a4 a2 a7 w0 turn hg hif he
  (λ σ' H' s' J' q=>by
   obtain⟨mm,hn,_⟩:=J'.loc
   exact⟨mm,hn,λ h' a6=>⟨.ref s2.heap.objs.size,H',aG7 I3 f3 J' a6,rfl,q⟩⟩)
 exact gP L (T.self _ _ _ _ _ a4 L)
section
variable {X:Cx}
theorem bS4:bo "abs"=some (.builtin "abs"):=by decide +kernel
theorem bP1:bo "len"=some (.builtin "len"):=by decide +kernel
theorem bp7:bo "min"=some (.builtin "min"):=by decide +kernel
theorem bO5:bo "max"=some (.builtin "max"):=by decide +kernel
theorem bT5:bo "all"=some (.builtin "all"):=by decide +kernel
theorem au1:bo "isinstance"=some (.builtin "isinstance"):=by decide +kernel
theorem bz0:bo "int"=some (.type "int"):=by decide +kernel
theorem bI2:bo "bool"=some (.type "bool"):=by decide +kernel
theorem bQ0:bo "str"=some (.type "str"):=by decide +kernel
theorem aS2:bo "tuple"=some (.type "tuple"):=by decide +kernel
theorem bj4:bo "list"=some (.type "list"):=by decide +kernel
def bS2 (i j:Int):Prop:=0<j/\j<2^4096
theorem aM4 {y:Int}(h0:0<y)(h:y<2^4096):y.natAbs.log2<9000:=by
 have hn:y.natAbs<2^4096:=by
  have:(y.natAbs:Int)=y:=by omega
  have z:(y.natAbs:Int)<((2^4096:Nat):Int):=by rw[this];simpa using h
  exact ju.mp z
 have:=(Nat.log2_lt (by omega)).mpr hn
 omega
theorem bc2:OpR X (cj .FloorDiv) (rI bS2 λ i j=>.int (i / j)):=opI λ i j _ _ _ _ _ hc q=>by
 refine floordiv_int (by have:=hc.1;omega) ?_ (.inl (PyProof.noPylong_of_log2 (aM4 hc.1 hc.2)))
 rw[fD i (by have:=hc.1;omega)]
 exact q
theorem aJ0 {K:ae}(h:X.K=K):IxR X (bW6 K):=by subst h;exact bv8
theorem bs3 {K:ae}(h:X.K=K):IxR X (bU9 K):=by subst h;exact ix_tup
theorem al2 {K:ae}(y:X.K=K):ab9 X (.builtin "len") (λ h H Q=>∃ p ys,h=[.ref p]/\(SqL K H p ys\/SqT K H p ys)/\Q (.int ys.length) H):=by subst y;exact aw7
theorem aB2 {K:ae}(y:X.K=K):ab9 X (.type "tuple") (λ h H Q=>∃ p ys,h=[.ref p]/\((SqL K H p ys/\∀ l,H l=none->Q (.ref l) (upd H l (.tup ys)))\/(SqT K H p ys/\Q (.ref p) H))):=by subst y;exact aq9
theorem aK8 {K:ae}(y:X.K=K):ab9 X (.type "list") (λ h H Q=>∃ p ys,h=[.ref p]/\(SqL K H p ys\/SqT K H p ys)/\∀ l,H l=none->Q (.ref l) (upd H l (.lst ys))):=by subst y;exact ay2
theorem be6 {K:ae}{tg l:Expr}{h:TE}(y:X.K=K)(hl:PE X l h):PI X tg l (bq2 K h):=by subst y;exact bl8 hl
theorem bp0 {K:ae}{tg l:Expr}{h:TE}(y:X.K=K)(hl:PE X l h):PI X tg l (bP6 K h):=by subst y;exact bL5 hl
theorem bm1 {K:ae}{pos:Pos}{es:List Expr}{k:Nat}{t:TGs}{n:Nat}(z:X.K=K)(hc:X.calm=true)(h:PGs X es t)
  (hn:(cC es X.env).length=n:=by rfl) (y:(cC es X.env).findIdx? (·.1)=none:=by rfl):PG X (.Tuple es k pos) (bM9 K n t):=by subst z;exact bj2 hc h hn y
end
structure DefAt (K:ae)(mg:Str->Option Value)(x:Str)(st:Stmt)(ps:List Str)(f:Addr)(fd:bJ):Prop where
 fn:Fun K x x st f fd
 mg:mg x=some (.ref f)
 bi:Binds K fd ps []
@[irreducible] noncomputable def bY8 (p:Prop):Prop:=p
theorem ad8.new {p:Addr}{H y:Hp}{o:HO}(h:ad8 H y)(z:y p=none):ad8 H (L2.upd y p o):=λ x o e=>by
 have e1:=h x o e
 rw[za (zn e1 z)]
 exact e1
section
variable {prog:aI} {w:World} {A:aZ} {R:Result->af->Prop} {I:Addr} {fp wr:List Addr} {n:Nat} {P:Nat->Value->Prop} {St:Nat->Heap->Prop} {kw:List (Str×Value)}
theorem aP6 (W:Walks prog w A.in1 I fp wr n P St)(bt:Nat->Nat->Bool)(a5:CmpOf prog w A.in1 .Lt P bt)(S:Addr)(a8:S ∉ fp) :
  ∀(k j:Nat) (s:af) (vb:Value) (c:Nat),n - (j+1)=k->j+1<=n->St (j+1) s.heap->P (dG bt j) vb ->
  s.heap.get? S=some { cls:=.type "list",dict:=none,data:=.seq #[vb,vb] c,slots:=#[] } ->
  (∀ v h' tk,P (dG bt (n - 1)) v->(∀ b o,b ∉ wr->b≠S->s.heap.get? b=some o->h'.get? b=some o)->R (.ok (.ret v)) { s with heap:=h',toks:=tk }) ->
  fR (model prog w) A (.builtin "min.loop" ⟨[.ref I,.none,.ref S],kw⟩) R s:=by
 have a7:S ∉ wr:=λ h=>a8 (W.sub _ h)
 have Y:(toString "min"++toString ".loop":String) = "min.loop":=by decide
 intro k
 induction k with
 | zero =>
  intro j s vb c hk hj a4 Z hS hR
  have a6:j+1=n:=by omega
  refine g6 gu ?_
  rw[eU cB _]
  show wpAny _ A.in1 (iI (.ref S) >>= _) _ _ s
  refine ab (ee hS rfl ?_)
  show wpAny _ A.in1 (tryCatch (f8 (.ref I)) _ >>= _) _ _ s
  refine ab (ef (W.done s _ _ (a6▸a4) λ h' tk z=>?_))
  have J:=z S _ a7 hS
  show wpAny _ A.in1 (updateSeq S (λ _=>#[]) >>= _) _ _ _
  refine ab ?_
  refine g8 J rfl (ab (fV (aq ?_)))
  refine hR vb _ tk (by rw[<-a6];exact Z) λ b o y C e=>(bR _ _ (bL C)).trans (z b o y e)
 | succ k ih =>
  intro j s vb c hk hj a4 Z hS hR
  have hlt:j+1<n:=by omega
  refine g6 gu ?_
  rw[eU cB _]
  show wpAny _ A.in1 (iI (.ref S) >>= _) _ _ s
  refine ab (ee hS rfl ?_)
  show wpAny _ A.in1 (tryCatch (f8 (.ref I)) _ >>= _) _ _ s
  refine ab (ef (W.item (j+1) s _ _ hlt a4 λ v h' tk hP a1 z=>?_))
  have J:=z S _ a7 hS
  show wpAny _ A.in1 (tryCatch (jj [v,v] (richCompare .Lt v vb >>= _)) _ >>= _) _ _ _
  refine ab (ef (cS (ab (a5 (j+1) (dG bt j) v vb _ _ _ hP Z ?_))))
  refine ab (cS (bC ?_))
  refine ab (fV (aq ?_))
  cases hb:bt (j+1) (dG bt j)with
  | true =>
   simp only[if_true]
   refine ab ?_
   refine g8 J rfl (ab (fV ?_))
   rw[Y]
   refine aq ⟨gf cB _,ih (j+1) _ v _ (by omega) hlt (W.frame _ _ _ a1 λ b a9 o e=>?_) (by simp only[dG,hb,if_true];exact hP) (du _ J rfl)
    λ v' a2 G a3 F=>?_⟩
   ·exact(bR _ _ (λ h:S=b=>a8 (by rw[h];exact a9))).trans e
   ·exact hR v' a2 G a3 λ b o y C e=>F b o y C ((bR _ _ (bL C)).trans (z b o y e))
  | false =>
   simp only[bG,if_false]
   refine ab (fV ?_)
   rw[Y]
   refine aq ⟨gf cB _,ih (j+1) _ vb c (by omega) hlt a1 (by simp only[dG,hb,bG,if_false];exact Z) J λ v' a2 G a3 F=>?_⟩
   exact hR v' a2 G a3 λ b o y C e=>F b o y C (z b o y e)
theorem aL4 (W:Walks prog w A.in1 I fp wr n P St)(bt:Nat->Nat->Bool)(G:CmpOf prog w A.in1 .Lt P bt)(S:Addr)(C:S ∉ fp){s:af}{c:Nat}{d:Value}(Z:St 0 s.heap)
  (hS:s.heap.get? S=some { cls:=.type "list",dict:=none,data:=.seq #[] c,slots:=#[] })
  (h0:n=0->∀ h' tk,(∀ b o,b ∉ wr->b≠S->s.heap.get? b=some o->h'.get? b=some o)->R (.ok (.ret d)) { s with heap:=h',toks:=tk })
  (hR:0<n->∀ v h' tk,P (dG bt (n - 1)) v->(∀ b o,b ∉ wr->b≠S->s.heap.get? b=some o->h'.get? b=some o)->R (.ok (.ret v)) { s with heap:=h',toks:=tk }) :
  fR (model prog w) A (.builtin "min.loop" ⟨[.ref I,.none,.ref S],[(cr "default",d)]⟩) R s:=by
 have a7:S ∉ wr:=λ h=>C (W.sub _ h)
 have F:(toString "min"++toString ".loop":String) = "min.loop":=by decide
 refine g6 gu ?_
 rw[eU cB _]
 show wpAny _ A.in1 (iI (.ref S) >>= _) _ _ s
 refine ab (ee hS rfl ?_)
 show wpAny _ A.in1 (tryCatch (f8 (.ref I)) _ >>= _) _ _ s
 rcases Nat.eq_zero_or_pos n with hn|hn
 ·refine ab (ef (W.done s _ _ (hn▸Z) λ h' tk z=>?_))
  show wpAny _ A.in1 (rule _ >>= _) _ _ _
  refine ab (jd (aq ?_))
  exact h0 hn h' tk λ b o y _ e=>z b o y e
 ·refine ab (ef (W.item 0 s _ _ hn Z λ v h' tk hP J z=>?_))
  have a3:=z S _ a7 hS
  show wpAny _ A.in1 (updateSeq S (λ _=>#[v,v]) >>= _) _ _ _
  refine ab ?_
  refine g8 a3 rfl ?_
  rw[F]
  refine aq ⟨gf cB _,aP6 W bt G S C _ 0 _ v _ rfl hn (W.frame _ _ _ J λ b a4 o e=>?_) hP (du _ a3 rfl) λ v' a5 a2 a6 Y=>?_⟩
  ·exact(bR _ _ (λ h:S=b=>C (by rw[h];exact a4))).trans e
  ·exact hR hn v' a5 a2 a6 λ b o y a1 e=>Y b o y a1 ((bR _ _ (bL a1)).trans (z b o y e))
end
theorem aS3 (a d:Value):argsOk "min" ⟨[a],[(cr "default",d)]⟩:=by unfold argsOk;kernel_rfl
theorem qD (val : Nat -> Int) : ∀ k j, j <= k -> val (dG (λ i j => decide (val i < val j)) k) <= val j
  | 0, j, h => by have : j = 0 := by omega
                  subst this; exact eV _
  | k + 1, j, h => by
    have ih := qD val k
    unfold dG
    by_cases hb : val (k + 1) < val (dG (λ i j => decide (val i < val j)) k)
    · rw[if_pos (by simpa using hb)]
      by_cases hj : j = k + 1
      · subst hj; exact eV _
      · have := ih j (by omega); omega
    · rw[if_neg (by simpa using hb)]
      by_cases hj : j = k + 1
      · subst hj; omega
      · exact ih j (by omega)
def bu1 (K:ae):V->V->Hp->VK->Prop:=λ x d H Q=>∃ a ns,x=.ref a/\SqL K H a (ns.map V.int)/\(ns=[]->Q d H)/\∀ m∈ns,(∀ y∈ns,m<=y)->Q (.int m) H
theorem as7 {ns:List Int}{its:List Value}(r:Vals (ns.map V.int) its){i:Nat}{v:Value}(h:its[i]?=some v):∃ z t,ns[i]?=some z/\v=Value.int z t:=by
 have hl:=r.length
 rw[au]at hl
 have y:i<its.length:=(ac.mp h).1
 obtain⟨u,e1,q⟩:=r.get (i:=i) (x:=.int ns[i]) (by rw[aC,ag (by omega)];rfl)
 rw[h]at e1;cases e1
 obtain⟨t,rfl⟩:=q
 exact⟨_,t,ag (by omega),rfl⟩
theorem bb0 {X:Cx}{C:List (Addr×Obj)}{σ:St}{H:Hp}{s:af}{x d:V}{u w':Value}{Q:VK}(hc:X.calm=true)(I:Inv X C σ H s)(rx:RelV x u)(rd:RelV d w')(h:bu1 X.K x d H Q) :
  wpAny (model X.prog X.w) X.A (call (.builtin "min") [u] [(cr "default",w')]) (EP X C σ Q) X.xe s:=by
 obtain⟨a,ns,rfl,hS,q0,qm⟩:=h
 cases rx
 obtain⟨its,rv,pl,hz⟩:=I.list hS
 have hl:=rv.length
 rw[au]at hl
 have Y:(toString "min"++toString ".loop":String) = "min.loop":=by decide
 refine kmb_tree F.kind_min F.plain_min F.entry_min (aS3 _ _) ?_
 show wpAny _ X.A.in1 (fw "min" ["key", "default"] 0 ⟨[],[(cr "default",w')]⟩ >>= _) _ _ s
 refine ab (jO (show fw "min" ["key", "default"] 0 ⟨[],[(cr "default",w')]⟩=pure [none,some w']from rfl) ?_)
 refine ab (aq ?_)
 refine ab (dw pl.isList ?_)
 have a1:a<s.heap.objs.size:=by obtain⟨o,_,e,_⟩:=pl;exact ay e
 have W:=j7 (prog:=X.prog) (w:=X.w) (A:=X.A.in1) (I.ok.hd hc) s.heap.objs.size a (av a1) its.toArray
 refine ab (bf ?_)
 generalize J:s.heap.push _=h2
 have G:h2.objs.size=s.heap.objs.size+1:=by rw[<-J,ci]
 have a2:∀ b o,s.heap.get? b=some o->h2.get? b=some o:=λ b o e=>by rw[<-J];exact ai _ e
 have a4:h2.objs.size ∉ [s.heap.objs.size,a]:=by
  rw[G]
  intro z
  rcases aE.mp z with z|z
  ·exact absurd z (Nat.succ_ne_self _)
  ·have z':s.heap.objs.size+1=a:=by simpa using z
   exact absurd (ao a1 (by rw[<-z'];exact dD _)) (bw _)
 have a3:(h2.push { cls:=.type "list",data:=.seq ([]:List Value).toArray }).IsListIter s.heap.objs.size a 0/\(h2.push { cls:=.type "list",data:=.seq ([]:List Value).toArray }).IsList a its.toArray:=by
  refine⟨⟨_,ai _ (by rw[<-J];exact aA _ rfl),rfl,rfl⟩,?_⟩
  obtain⟨o,e,r⟩:=pl.isList
  exact⟨o,ai _ (a2 _ _ e),r⟩
 let val:Nat->Int:=λ i=>ns.getD i 0
 have Z:∀ i v,its.toArray[i]?=some v->∃ t,v=Value.int (val i) t:=λ i v e=>by
  obtain⟨z,t,e1,e2⟩:=as7 rv (i:=i) (v:=v) (by rw[cG]at e;exact e)
  refine⟨t,?_⟩
  rw[e2]
  show Value.int z t=Value.int (ns.getD i 0) t
  rw[be,e1]
  rfl
 rw[Y]
 have nx:∀(h':Heap) (tk:Nat),(∀ b o,b ∉ [s.heap.objs.size]->b≠h2.objs.size->(h2.push { cls:=.type "list",data:=.seq ([]:List Value).toArray }).get? b=some o->h'.get? b=some o)->Inv X C σ H { s with heap:=h',toks:=tk }:=λ h' tk k=>I.kept λ b o e=>by
  refine k b o ?_ ?_ (ai _ (a2 b o e))
  ·intro z
   have z':b=s.heap.objs.size:=by simpa using z
   exact absurd (ay e) (by rw[z'];exact bw _)
  ·intro z
   exact absurd (ay e) (by rw[z,G];exact Nat.not_lt.mpr (dD _))
 refine aq ⟨gf cB _,aL4 (d:=w') W _ (kr val Z) h2.objs.size a4 a3 (aA _ rfl) (λ hn h' tk k=>?_) λ hn v h' tk hP k=>?_⟩
 ·have e:ns=[]:=by
   have:its.toArray.size=0:=hn
   have:its.length=0:=by simpa using this
   exact bK.mp (by omega)
  exact⟨d,H,nx h' tk k,rd,q0 e⟩
 ·obtain⟨z,t,e1,e2⟩:=as7 rv (i:=dG (λ i j=>decide (val i<val j)) (its.toArray.size - 1)) (v:=v) (by rw[cG]at hP;exact hP)
  subst e2
  have hv:val (dG (λ i j=>decide (val i<val j)) (its.toArray.size - 1))=z:=by
   show ns.getD _ 0=z
   rw[be,e1]
   rfl
  refine⟨.int z,H,nx h' tk k,⟨t,rfl⟩,qm z (aM e1) λ y hy=>?_⟩
  obtain⟨j,hj,e3⟩:=cQ.mp hy
  have:=qD val (its.toArray.size - 1) j (by simp only[ar];omega)
  rw[hv]at this
  have e4:val j=y:=by
   show ns.getD j 0=y
   rw[be,ag hj]
   exact e3
  omega
def bR4 (K:ae)(ta td:TE):TE:=λ σ H Q=>ta σ H λ x H1=>td σ H1 λ d H2=>bu1 K x d H2 Q
theorem bq4 {X:Cx}{K:ae}{e J:Expr}{C z:TE}{p pos kp:Pos}(hK:X.K=K)(hc:X.calm=true)(hg:Gl X "min")(hm:X.mg "min"=none)(ha:PE X e C)(hd:PE X J z)
  (hs:bn [e] X.env=[(false,eval e X.env)]:=by rfl) :
  PE X (.Call (.Name "min" p) [e] [⟨some "default",J,kp⟩] pos) (bR4 K C z):=by
 subst hK
 intro y s σ H Q I h
 refine cn (au2 I hg hm bp7 ?_)
 have h':an1 C aX1 σ H (λ vs G=>match vs with|[x]=>z σ G λ d H2=>bu1 X.K x d H2 Q|_=>False):=h
 refine callWith_kw (env:=X.env) (thn ((zD ha ad0 hs) pos y s σ H _ I h') λ us s1 ⟨vs,G,I1,r1,F⟩=>?_) (by rw[hs];rfl) (by rw[hs];rfl)
 match vs,F,r1 with
 | [x],F,r1 =>
  obtain⟨u,rfl,Z⟩:=ai4 r1
  refine kws_cons (thn (hd y s1 σ G _ I1 F) λ v s2 ⟨d,H2,I2,Y,q2⟩=>kws_nil ?_)
  exact bb0 hc I2 Z Y q2
inductive D where
 | non|bl (b:Bool)|int (i:Int)|str (x:Str)|tup (l:List D)|lst (l:List D)
mutual
noncomputable def D.deep:D->Nat
 | .tup l=>D.deepL l+1
 | .lst l=>D.deepL l+1
 | _=>0
noncomputable def D.deepL:List D->Nat
 | []=>0
 | d::l=>max (D.deep d) (D.deepL l)
end
section
variable {X:Cx}
end
section
variable {X:Cx}
def bK6 (K:ae):R2:=λ x y H Q=>∃ a b xs ys,x=.ref a/\y=.ref b/\SqT K H a xs/\SqT K H b ys/\xs.length+ys.length<=aF/\∀ p H',ad8 H H'->SqT K H' p (xs++ys)->(H' p=some (.tup (xs++ys))\/(p=a/\ys=[])\/(p=b/\xs=[]))->Q (.ref p) H'
theorem bu8 {prog:aI}{w:World}{A:aZ}{E:Value->af->Prop}{s:af}{t b:Addr}{ws:List Value}{Q:Value->af->Prop}(ht:IsTup s.heap t ([]:List Value).toArray)(hb:IsTup s.heap b ws.toArray)(h1:Q (.ref b) s) :
  wpAny (model prog w) A (cj .Add (.ref t) (.ref b)) Q E s:=by
 obtain⟨⟨cls,Z,data,sl⟩,ho,hc,n,hd⟩:=id ht
 obtain⟨⟨J,G,C,F⟩,z,y,Y,h⟩:=id hb
 simp only at hc hd y h
 subst hc hd y h
 exact jp ⟨_,ho,rfl⟩ ⟨_,z,rfl⟩ gr iV d7 d5 (dP _ _)
   (tuple_addW0 t b _ ws.toArray n Y Z G sl F rfl) ⟨ho,z,h1⟩
theorem aW1 {K:ae}(hK:X.K=K):OpR X (cj .Add) (bK6 K):=by
 subst hK
 intro C s σ H x y v u Q I J Y h
 obtain⟨a,b,F,ys,e1,e2,ha,hb,hz,q⟩:=h
 by_cases hx:F=[]
 ·subst e1;subst e2;subst hx
  cases J;cases Y
  obtain⟨its,r1,p1,_⟩:=I.tuple ha
  obtain⟨G,r2,Z,_⟩:=I.tuple hb
  obtain rfl:its=[]:=r1.nil_iff.mpr rfl
  exact bu8 p1 Z ⟨.ref b,H,I,rfl,q b H (ad8.refl H) hb (.inr (.inr ⟨rfl,rfl⟩))⟩
 ·refine bt1 C s σ H x y v u Q I J Y ⟨a,b,F,ys,e1,e2,ha,hb,hx,hz,λ z=>?_,λ z p hp=>?_⟩
  ·subst z
   exact q a H (ad8.refl H) (by rw[bq];exact ha) (.inr (.inl ⟨rfl,rfl⟩))
  ·exact q p _ ((ad8.refl H).new hp) (SqT.of zb) (.inl zb)
def bY4 (K:ae):V->Option Int->Option Int->Hp->VK->Prop:=λ x lo hi H Q=>∃ a xs,x=.ref a/\SqT K H a xs/\∀ p H',ad8 H H'->SqT K H' p (aM2 xs lo hi)->(H' p=some (.tup (aM2 xs lo hi))\/(p=a/\aM2 xs lo hi=xs))->Q (.ref p) H'
theorem aq3 {prog:aI}{w:World}{A:aZ}{E:Value->af->Prop}{s:af}{t sl:Addr}{y:Array Value}{vl vu:Value}{z G:Option Int}{Q:Value->af->Prop}(C:IsTup s.heap t y)(hs:s.heap.IsSliceOf sl vl vu .none)(pl:gb vl z)(pu:gb vu G)
  (hw:HT.sIx y.size 0 z=0/\HT.sIx y.size y.size G=y.size) (h:Q (.ref t) s):wpAny (model prog w) A (gH (.ref t) (.ref sl)) Q E s:=by
 obtain⟨os,Y,J,a1⟩:=id hs
 have Z:s.TypeIs (.ref sl) "slice":=⟨os,Y,J⟩
 unfold gH
 try with_reducible refine cS ?_
 first|refine ab (aq ?_)|skip
 refine ab (jq C.typeIs (by decide) ?_)
 refine ab (b9 (name:=cr "__getitem__") C.typeIs bu
  (cb bu C.typeIs iL ?_ (jb _ _)))
 show wpAny _ _ (dC (.ref t) >>= _) _ _ s
 refine ab (iW C ?_)
 refine ab (gJ Z ?_)
 rw[if_pos (by decide)]
 refine ab (HT.sliceApplied_gen hs pl pu ?_)
 have F:((((HT.sIx y.size 0 z:Nat):Int)==0&&(1:Int)==1&&(HT.sIx y.size y.size G - HT.sIx y.size 0 z)==y.size)=true):=by
  rw[hw.1,hw.2]
  simp
 show wpAny _ _ (if(((HT.sIx y.size 0 z:Nat):Int)==0&&(1:Int)==1&&(HT.sIx y.size y.size G - HT.sIx y.size 0 z)==y.size)=true then _ else _) _ _ s
 rw[if_pos F]
 refine ab (ab (gJ C.typeIs (aq ?_)))
 rw[if_pos (by decide)]
 exact ab (jd (aq ⟨_,rfl,aq h⟩))
theorem ao9 {y:List V}{C z:Option Int}(h:HT.sIx y.length 0 C=0/\HT.sIx y.length y.length z=y.length):aM2 y C z=y:=by
 unfold aM2
 rw[h.1,h.2]
 simp
theorem bx0 {K:ae}(hK:X.K=K):SlR X (bY4 K):=by
 subst hK
 intro z s σ H x v vl vu G F sl Q I Y hs Z pu h
 obtain⟨a,y,e1,hx,q⟩:=h
 by_cases hw:HT.sIx y.length 0 G=0/\HT.sIx y.length y.length F=y.length
 ·subst e1
  cases Y
  obtain⟨its,r,J,hz⟩:=I.tuple hx
  have C:its.toArray.size=y.length:=by rw[ar];exact r.length.symm
  refine⟨"tuple",_,bu.lookup,J.typeIs,?_⟩
  exact aq3 J hs Z pu (by rw[C];exact hw) ⟨.ref a,H,I,rfl,q a H (ad8.refl H) (by rw[ao9 hw];exact hx) (.inr ⟨rfl,ao9 hw⟩)⟩
 ·exact bF4 z s σ H x v vl vu G F sl Q I Y hs Z pu ⟨a,y,e1,hx,hw,λ p hp=>q p _ ((ad8.refl H).new hp) (SqT.of zb) (.inl zb)⟩
theorem aZ1 {K:ae}(h:X.K=K):SlR X (bU7 K):=by subst h;exact bv5
end
noncomputable def Its (x:Str):It:=⟨λ i _=>i<x.cps.size,λ i H v H'=>H'=H/\∃ c,x.cps[i]?=some c/\v=.str ⟨#[c]⟩,λ i _=>x.cps.size<=i⟩
theorem aI1 {P:aI}{w:World}{K:ae}{tg:Expr}{F:String}{x:Str}{t:Tok}(it:Addr)(hn:["enumerate", "zip", "dict_itemiterator", "dict_reverseitemiterator", "odict_iterator", "itertools.zip_longest", "itertools.pairwise"].contains F=false)
  (W:∀ A:aZ,A.handled=none->Walks P w A it [it] [it] x.cps.size (SignAt x) (λ i h=>h.IsStrIter it F x t i))
  (G:∀(A:aZ) (s:af) (i:Nat) (Q:Option Value->af->Prop) (E:Value->af->Prop),A.handled=none->s.heap.IsStrIter it F x t i->x.cps[i]?=none->(∀ h',iw it s.heap h'->Q none { s with heap:=h' })->wpAny (model P w) A (f8 (.ref it)) Q E s)
  (C:∀(A:aZ) (i:Nat) (s:af) (Q:Value->af->Prop) (E:Value->af->Prop),s.heap.IsStrIter it F x t i->Q (.ref it) s->wpAny (model P w) A (j1 (.ref it)) Q E s):Turn P w K tg (Its x) [it] it (λ i h=>h.IsStrIter it F x t i) where
 mem:=by simp
 obj:=λ i h st b hb=>by
  have e:b=it:=by simpa using hb
  subst e
  obtain⟨o,ho,hc,hd⟩:=st
  exact⟨o,ho,λ v z=>by rw[hd]at z;cases z⟩
 keep:=λ i h h' st k=>by
  obtain⟨o,ho,r⟩:=st
  exact⟨o,k it (by simp) _ ho,r⟩
 item:=by
  intro X Z hw hK hc i y s σ H E I Y st hg
  subst Z hw hK
  obtain⟨f0,f1,f2,f3,f4,f5⟩:=Y it (by simp)
  refine(W X.A (I.ok.hd hc)).item i s _ _ hg st λ v h' tk hv J kk=>?_
  obtain⟨c,u,a1,rfl⟩:=hv
  have I1:Inv X y σ H { s with heap:=h',toks:=tk }:=I.turned (λ b o hb e=>kk b o (by simpa using hb) e) f0 f1 f3 f4 f5
  obtain⟨o,ho,a2,hd⟩:=id J
  exact⟨_,rfl,bc1 (s:={ s with heap:=h',toks:=tk }) (n:=F) ho a2 hd hn ⟨.str ⟨#[c]⟩,H,I1,⟨u,rfl⟩,⟨rfl,c,a1,rfl⟩,J,λ b hb=>(Y b hb).1⟩⟩
 done:=by
  intro X Z hw hK hc i y s σ H E I Y st hg
  subst Z hw hK
  obtain⟨f0,f1,f2,f3,f4,f5⟩:=Y it (by simp)
  have a3:x.cps.size<=i:=hg
  exact G X.A s i _ E (I.ok.hd hc) st (by simp;omega) λ h' eb=>⟨rfl,I.turned (t':=s.toks) (λ b o hb e=>eb b o hb e) f0 f1 f3 f4 f5⟩
 self:=λ A i s Q E st h=>C A i s Q E st h
def bV9 (tl:TE):TI:=λ σ H R=>tl σ H λ v H1=>∃ x,v=.str x/\R (Its x) H1
theorem bA2 {X:Cx}{tg l:Expr}{J:TE}(hl:PE X l J):PI X tg l (bV9 J):=by
 intro y s σ H R I h
 refine thn (hl y s σ H _ I h) λ v s1 ⟨v0,Y,G,r1,q1⟩=>?_
 obtain⟨x,e,q⟩:=q1
 subst e
 obtain⟨t,rfl⟩:=r1
 have fin:∀(C:String) (o:Obj),o={ cls:=.type C,data:=.fields #[.str x t,.int 0 0] }->Turn X.prog X.w X.K tg (Its x) [s1.heap.objs.size] s1.heap.objs.size (λ i h=>h.IsStrIter s1.heap.objs.size C x t i)->PIE X y σ tg R (.ref s1.heap.objs.size) { s1 with heap:=s1.heap.push o }:=λ C o Z T=>by
  subst Z
  refine⟨s1.heap.objs.size,[s1.heap.objs.size],_,_,Y,rfl,G.kept (t':=s1.toks) λ b o e=>ai _ e,T,⟨_,aA _ rfl,rfl,rfl⟩,λ b hb=>?_,q⟩
  have e:b=s1.heap.objs.size:=by simpa using hb
  subst e
  exact G.fpOk (ak _) (G.hok.fresh (ak _))
 cases ha:x.cps.all (·<128)
 ·exact wpAny_pyIter_wide ha (fin "str_iterator" _ rfl (aI1 _ (by decide) (λ A z=>Walks.strWide z _ x t) (λ A s i Q E z st hx F=>wpAny_pyNext_wide_end z st hx F) λ A i s Q E st h=>wpAny_pyIter_striter_wide st h))
 ·exact wpAny_pyIter_ascii ha (fin "str_ascii_iterator" _ rfl (aI1 _ (by decide) (λ A z=>Walks.strAscii z _ x t) (λ A s i Q E z st hx F=>wpAny_pyNext_ascii_end z st hx F) λ A i s Q E st h=>wpAny_pyIter_striter_ascii st h))
section
variable {X:Cx} {K:ae} {T id:String} {name:Str} {o e:Expr} {es:List Expr} {to:TE} {t:TA} {r:V->List V->Hp->VK->Prop} {apos cpos:Pos}
theorem aW8 (J:X.K=K)(G:j5 T)(slot:Slot T name id)(F:typeOf (.builtin id)=pure (.type "method_descriptor"))(Y:MtR X id r)(ho:PE X o to)(ha:PA X (e::es) t)
  (z:dq o name X.env (eval o X.env)=eval o X.env:=by rfl)
  (C:((dL cpos (bn (e::es) X.env)).all (λ x=>!x.1)&&(backToKw cpos (jN [] X.env)).all (λ x=>x.1.isSome)
   && decide ((e::es).length+([]:List iG).length+(if([]:List iG).isEmpty then 0 else 1)<30))=true:=by rfl)
  (y:(apos.endLine==cpos.line)=true:=by rfl) (hs:bn (e::es) X.env=(false,eval e X.env)::bn es X.env:=by rfl) (h:(dL cpos (bn es X.env)).any (·.1)=false:=by rfl) :
  PE X (.Call (.Attribute o name apos) (e::es) [] cpos) (tBM K T r to t):=by
 subst J
 exact bS1 G slot F Y ho ha z C y hs h
end
structure Mach where
 letters:Int
 rooms:Int
 begins:List Int
 ends:List Int
 doors:List (Int×Str×Int×Int)
noncomputable def bP9 (q:Int×Str×Int×Int):D:=.tup [.int q.1,.str q.2.1,.int q.2.2.1,.int q.2.2.2]
noncomputable def Mach.D (M:Mach):D:=.tup [.int M.letters,.int M.rooms,.tup (M.begins.map .int),.tup (M.ends.map .int),.tup (M.doors.map bP9)]
noncomputable def ltr (i:Nat):Str:=⟨#[97+i]⟩
structure DoorOk (letters rooms:Int)(q:Int×Str×Int×Int):Prop where
 s0:0<=q.1
 s1:q.1<rooms
 l:∃ i:Nat,(i:Int)<letters/\q.2.1=ltr i
 g0:0<=q.2.2.1
 g1:q.2.2.1<rooms
 t0:0<=q.2.2.2
 t1:q.2.2.2<=3
structure RoomsOk (rooms:Int)(l:List Int):Prop where
 mem:∀ r∈l,0<=r/\r<rooms
 up:l.Pairwise (· < ·)
structure Mach.Ok (most:Nat)(M:Mach):Prop where
 l0:1<=M.letters
 l1:M.letters<=3
 r0:1<=M.rooms
 r1:M.rooms<=5
 b:RoomsOk M.rooms M.begins
 e:RoomsOk M.rooms M.ends
 d:∀ q∈M.doors,DoorOk M.letters M.rooms q
 m:M.doors.length<=most
mutual
noncomputable def D.tups:D->Bool
 | .lst _=>false
 | .tup l=>D.tupsL l
 | _=>true
noncomputable def D.tupsL:List D->Bool
 | []=>true
 | d::l=>D.tups d&&D.tupsL l
end
end L2
end
noncomputable section
namespace L2
end L2
end
noncomputable section
namespace L2
open PySem PySem.Spec PyProof.Rows
noncomputable def minO:List Int->Option Int
 | []=>none
 | a::l=>some (match minO l with|none=>a|some b=>if b<a then b else a)
theorem aL5 {X:Cx}{elt tg iter:Expr}{ifs:List Expr}{scope:Scope}{pos Y py:Pos}{y:Str}{i:Nat}{wi:TI}{g:TG}{tc:TT}{te:TE}(N':List Str)(src:List (Option Nat))
  (hN:X.N.Nodup) (b3:X.N[i]?=some y) (a4:X.env.scope.names.lookup y=some .local)
  (a9:zG N' src scope X.N X.env.scope=true) (hi:PI X tg iter wi) (a1:X.calm=true)
  (b1:∀(C:Addr) (cells:List (Str×Addr)) (s:af) (H:Hp) (ex:List Addr),PG (zC X N' scope C cells s H ex) tg g/\PIf (zC X N' scope C cells s H ex) ifs tc/\PE (zC X N' scope C cells s H ex) elt te)
  (hs:∀ x,dz iter X.env x=pure x:=by intro _;rfl)
  (a8:fA (.ListComp elt [⟨tg,iter,ifs,0⟩] scope pos) (some (.Name y py)) Y.line X.env=pure true:=by rfl) :
  PS X (.Assign [.Name y py] (.ListComp elt [⟨tg,iter,ifs,0⟩] scope pos) Y) (aZ6 (tComp src wi g tc te) (am8 i)):=by
 intro F s σ H D0 I h
 have ck:=bi4 a9
 rw[exec_Assign_Name_used _ _ _ _ a8]
 refine ab (iR (ab ?_))
 show wpAny _ X.A (do let _ <- comprehension (.ListComp elt [⟨tg,iter,ifs,0⟩] scope pos) scope X.env _ (newList []) false (eval iter X.env) (some (gE (.Name y py) X.env))) _ _ s
 have b2:=zS (scope:=scope) (env:=X.env) λ y hy e=>I.ok.has y.1 (ck.fr y hy e)
 refine ab (cy (gd (use:=some (gE (.Name y py) X.env)) (Q:=λ _ s'=>SP X F D0 .next s') rfl hs b2 ck.kind ck.loc (thn (hi F s σ H _ I h) λ v s1 h1=>thn h1 λ b7 s2 h2=>?_)) (λ _ s' hq=>aq (aq hq)) λ _ _ e=>e)
 obtain⟨it,G,tn,J,H2,e,I2,T,a5,f2,W⟩:=h2
 subst e
 have hD:=I2.fresh
 obtain⟨W,⟨m0,w0⟩,turn⟩:=W _ hD
 have Z:=I2.lnew (its:=[]) (ys:=[]) (t':=s2.toks) .nil (cO _)
 have a3:∀ b∈G,b<s2.heap.objs.size:=λ b hb=>by obtain⟨o,q,_⟩:=T.obj _ _ a5 b hb;exact ay q
 have f3:∀ b∈G,FpOk X F (upd H2 s2.heap.objs.size (.lst [])) b:=λ b hb=>⟨by rw[za (av (a3 b hb))];exact(f2 b hb).1,(f2 b hb).2⟩
 refine bf (af9 ?_)
 generalize a2:({ s2 with heap:=s2.heap.push { cls:=.type "list",data:=.seq ([]:List Value).toArray },toks:=s2.toks }:af)=s3 at Z
 have b6:({ s2 with heap:=s2.heap.push { cls:=.type "list",data:=.seq ([]:List Value).toArray } }:af)=s3:=a2
 have b5:∀ b∈G,b<s3.heap.objs.size:=λ b hb=>by
  rw[<-a2]
  show b<(s2.heap.push _).objs.size
  rw[ci]
  exact fU (a3 b hb)
 have I4:=an7 (s4:={ s3 with heap:=eO (s3.heap.push { cls:=.type "dict",data:=.dict #[] }) scope.names }) ck Z f3 b5 ⟨_,rfl⟩
 have a6:tn 0 (eO (s3.heap.push { cls:=.type "dict",data:=.dict #[] }) scope.names):=T.keep _ _ _ a5 λ b hb o e=>dj _ _ b o (ai _ (by rw[<-a2];exact ai _ e))
 obtain⟨hg,hif,he⟩:=b1 s3.heap.objs.size (aL (s3.heap.objs.size+1) scope.names (ad1 X.env.cells scope.names [])) s3 (upd H2 s2.heap.objs.size (.lst [])) G
 have a7:∀ H':Hp,(∀ b∈G,H' b=none)->∀ b∈G,FpOk (zC X N' scope s3.heap.objs.size (aL (s3.heap.objs.size+1) scope.names (ad1 X.env.cells scope.names [])) s3 (upd H2 s2.heap.objs.size (.lst [])) G) [] H' b:=λ H' hn b hb =>
  ⟨hn b hb,(I4.ok.exf b hb).1,I4.ok.exfs b hb,.inl hb,λ x c e=>(I4.ok.exf b hb).2 x c e,λ p hp=>absurd (show p∈([]:List (Addr×Obj))from hp) (by simp)⟩
 have T':Turn X.prog X.w X.K tg J G it tn:=T
 have b4:∀ b∈G,upd H2 s2.heap.objs.size (.lst []) b=none:=λ b hb=>(f3 b hb).1
 have L:=ax6 (X':=zC X N' scope s3.heap.objs.size (aL (s3.heap.objs.size+1) scope.names (ad1 X.env.cells scope.names [])) s3 (upd H2 s2.heap.objs.size (.lst [])) G) (R:=compPost (model X.prog X.w) X.A X.xe (some (gE (.Name y py) X.env)) (λ _ s'=>SP X F D0 .next s') (Value.ref s2.heap.objs.size) s3.heap.objs.size) (iter:=iter) (scope:=scope) (pos:=pos) (QD:=λ H'=>D0.nx (σ.set i (some (.ref s2.heap.objs.size))) H') rfl a1 I4 T' a6 a7 b4 w0 turn hg hif he
  (λ σ' H' s' J' q=>by
   have J2:=aG7 Z f3 J' (Heap.SameBut.refl _ _)
   obtain⟨mm,hn,_⟩:=J'.loc
   have nL:s3.heap.objs.size≠X.env.locals:=cN Z.lt
   have nC:∀ x c,X.env.cells.lookup x=some c->c≠s3.heap.objs.size:=λ x c e=>by
    obtain⟨v,z⟩:=Z.cell x c e
    exact av z.lt
   show wpAny _ X.A (gE (.Name y py) X.env (.ref s2.heap.objs.size)) _ _ _
   refine jl (ay8 (v:=.ref s2.heap.objs.size) J2 hN b3 (.inl a4) rfl (λ s5 I5 sb=>?_) (.inr a4))
   obtain⟨aa,sb,ha⟩:=sb
   have na:s3.heap.objs.size≠aa:=by
    rcases ha with z|z
    ·rw[z];exact nL
    ·exact λ e=>nC _ _ z e.symm
   refine⟨mm,hn.sameBut sb na,λ h' b0=>⟨_,H',I5.turned (t':=s5.toks) (λ b o hb e=>(b0.2 b hb).trans e) J'.free nL (.inr Z.sz) nC λ p hp z=>?_,q⟩⟩
   exact absurd (ay (Z.pin p hp).1) (by rw[z];exact bw _))
 exact gP L (T.self _ _ _ _ _ a6 L)
def bY5:V->Option Int->Option Int->Hp->VK->Prop:=λ x lo hi H Q=>∃ z,x=.str z/\z.length<=aF/\Q (.str (fc z lo hi)) H
theorem az2 {v:Value}{o:Option Int}(p:gb v o):∃ q:Option (Int×Tok),v=partValue q/\q.map (·.1)=o:=by
 cases p with
 | none=>exact⟨none,rfl,rfl⟩
 | int i t=>exact⟨some (i,t),rfl,rfl⟩
theorem bD8 {X:Cx}:SlR X bY5:=by
 intro Y s σ H x v vl vu G C sl Q I rx hs pl pu h
 obtain⟨z,rfl,hz,q⟩:=h
 obtain⟨t,rfl⟩:=rx
 obtain⟨l,rfl,Z⟩:=az2 pl
 obtain⟨u,rfl,eu⟩:=az2 pu
 refine⟨"str",_,F.slot_str_getitem.lookup,j4 s z t,?_⟩
 refine wpAny_getItem_str_slice (l:=l) (u:=u) (st:=none) hs rfl ?_
 unfold sliceMade
 have e:slicePicked z l u none=bA G C 1 z.length:=by
  unfold slicePicked
  rw[Z,eu]
  rfl
 rw[e]
 unfold fc at q
 split
 ·rename_i hc
  have y:((1:Int)==1&&(bA G C 1 z.length).length==z.length)=true:=hc
  rw[if_pos y]at q
  exact⟨.str z,H,I,⟨t,rfl⟩,q⟩
 ·rename_i hc
  have y:¬((1:Int)==1&&(bA G C 1 z.length).length==z.length)=true:=hc
  rw[if_neg y]at q
  have J:(Str.mk (iy (λ x=>z.cps[x]?) (bA G C 1 z.length)).toArray).length<=aF:=by
   show(iy (λ x=>z.cps[x]?) (bA G C 1 z.length)).toArray.size<=aF
   rw[ar]
   exact am (List.length_filterMap_le _ _) (am (sliceIndices_le G C z.length) hz)
  exact⟨J,.str _,H,I.tok _,⟨_,rfl⟩,q⟩
section
variable {M:Model} {A:aZ} {E:Value->af->Prop} {s₀ s:af} {m cm:Str->Option Value} {env:Env} {cs:List (Str×Addr)}
theorem bs0 {n:Str}{v:Value}{Q:Unit->af->Prop}(z:fS s₀ env.locals m cs cm s)(C:env.scope.kind=.function)(kl:env.kindOf n=some .local)
  (go:∀ s',fS s₀ env.locals (λ y=>if y=n then some v else m y) cs cm s'->Q () s'):wpAny M A (gm env n v) Q E s:=by
 refine hU kl z.toInCall.ns (λ g F h=>go _ ⟨⟨?a,F,λ b o e=>?b,z.toInCall.fresh⟩,λ k c e=>?c,z.apart,z.above⟩) (by rw[C];rfl)
 case a=>obtain⟨G,tk,e⟩:=z.toInCall.same;subst e;exact⟨g,_,rfl⟩
 case b=>exact h.extBut b o (av (ao (ay e) z.toInCall.fresh)) (z.toInCall.keep b o e)
 case c=>exact(z.cell k c e).sameBut h (cN (z.above k c (ax e)))
theorem bo2 {n:Str}{c:Addr}{v:Value}{Q:Unit->af->Prop}(z:fS s₀ env.locals m cs cm s)(F:env.scope.kind=.function)(J:env.kindOf n=some .cell)
  (e1:env.cells.lookup n=some c) (e2:cs.lookup n=some c) (go:∀ s',fS s₀ env.locals m cs (λ y=>if y=n then some v else cm y) s'->Q () s'):wpAny M A (gm env n v) Q E s:=by
 have up:=z.above n c (ax e2)
 refine ig F J e1 (z.cell n c e2) λ g G h=>go _ ⟨⟨?a,z.toInCall.ns.sameBut h (av up),λ b o e=>?b,z.toInCall.fresh⟩,λ k C e=>?c,z.apart,z.above⟩
 case a=>obtain⟨Y,tk,e⟩:=z.toInCall.same;subst e;exact⟨g,_,rfl⟩
 case b=>exact h.extBut b o (av (eh (ao (ay e) z.toInCall.fresh) up)) (z.toInCall.keep b o e)
 case c =>
  by_cases q:k=n
  ·subst q
   rw[e2]at e;cases e
   simpa using G
  ·rw[if_neg q]
   exact(z.cell k C e).sameBut h λ y=>q (gG z.apart (ax e) (y▸ax e2))
theorem aC1 (f:Str×Value->PUnit->Sem (ForInStep PUnit))(Y:∀ n v u,f (n,v) u=(do gm env n v;pure (.yield ⟨⟩)))(G:env.scope.kind=.function)(sub:∀ n c,cs.lookup n=some c->env.cells.lookup n=some c) :
  ∀(bs:List (Str×Value)) (m F:Str->Option Value) (s:af) (Q:PUnit->af->Prop),fS s₀ env.locals m cs F s ->
   (∀ y∈bs,env.kindOf y.1=some .local\/(env.kindOf y.1=some .cell/\∃ c,cs.lookup y.1=some c)) ->
   (∀ s',fS s₀ env.locals (bindL env.kindOf bs m) cs (bindC env.kindOf bs F) s'->Q ⟨⟩ s')->wpAny M A (forIn bs ⟨⟩ f) Q E s
 | [],m,F,s,Q,z,_,go=>by rw[iu];exact aq (go s z)
 | (n,v)::r,m,F,s,Q,z,hy,go=>by
  rw[jR,Y]
  have hr:=λ y (q:y∈r)=>hy y (az _ q)
  rcases hy (n,v) aG with kl|⟨kc,c,e2⟩
  ·refine ab (ab (bs0 z G kl λ s' J=>aq (aC1 f Y G sub r _ _ s' Q J hr λ h C=>go h ?_)))
   unfold bindL bindC;rw[if_pos kl,if_pos kl];exact C
  ·have Z:¬ env.kindOf n=some .local:=by rw[kc];decide
   refine ab (ab (bo2 z G kc (sub n c e2) e2 λ s' J=>aq (aC1 f Y G sub r _ _ s' Q J hr λ h C=>go h ?_)))
   unfold bindL bindC;rw[if_neg Z,if_neg Z];exact C
end
theorem ao3 {M:Model}{A:aZ}{E:Value->af->Prop}{s:af}{scope:Scope}{globals:Addr}{h:List (Str×Addr)}{binds:List (Str×Value)}{qual:Str}{func:Option Addr}{code:Value}{builtins:Addr}{Q:Env->af->Prop}
  (C:scope.kind=.function) (hy:∀ y∈binds,scope.names.lookup y.1=some .local\/(scope.names.lookup y.1=some .cell/\∃ c,(aL (s.heap.objs.size+1) scope.names []).lookup y.1=some c))
  (go:∀ env,env=newEnv scope s.heap.objs.size globals (aL (s.heap.objs.size+1) scope.names h) qual func code none builtins ->
   ∀ s',fS s env.locals (bindL env.kindOf binds λ _=>none) (aL (s.heap.objs.size+1) scope.names []) (bindC env.kindOf binds λ _=>none) s'->Q env s') :
  wpAny M A (fI scope globals h binds qual func code none builtins) Q E s:=by
 simp only[fI,je,bG,if_false]
 refine ab (wpAny_alloc (ab (wpAny_layCells _ (λ G kd J=>by cases q:kd==NameKind.cell<;>simp[q]) _ _ _ _ ?_)))
 have ok:=cellsFrom_ok scope.names (s.heap.push { cls:=.type "frame",data:=.dict #[] }) (s.heap.objs.size+1) [] ⟨λ _ _ F=>(nomatch F),List.Pairwise.nil⟩ (by rw[ci];exact ak _)
 have z:({ s with heap:=s.heap.push { cls:=.type "frame",data:=.dict #[] } }:af).heap.objs.size=s.heap.objs.size+1:=ci ..
 rw[ci]at ok
 rw[z]
 refine ab (aC1 (s₀:=s) (cs:=aL (s.heap.objs.size+1) scope.names []) (env:=newEnv scope s.heap.objs.size globals (aL (s.heap.objs.size+1) scope.names h) qual func code none builtins)
  _ (λ _ _ _=>rfl) C (λ n c e=>?sub) binds (λ _=>none) (λ _=>none) _ _ ⟨⟨⟨_,_,rfl⟩,?ns,λ b o e=>?k,ak _⟩,λ n c e=>(ok.empty n c (ax e)).1,ok.apart,λ n c e=>(ok.empty n c e).2⟩ hy λ s' x=>aq (go _ rfl s' x))
 case sub =>
  show(aL _ _ _).lookup n=some c
  rw[zl,zA,e];rfl
 case ns=>exact(kL s.heap (.type "frame")).keeps (dj _ _)
 case k=>exact dj _ _ b o (ai _ e)
noncomputable def z0 (c:Addr)(qual:Str):HO:=.ext λ h=>h.CodeRec (.ref c) qual
noncomputable def ar5 (f:Addr)(fd:bJ):HO:=.ext λ h=>h.get? f=some { cls:=.type "function",data:=.func fd }
theorem aF9 {P:aI}{w:World}{H:Hp}{h:Heap}{c:Addr}{q:Str}(r:h.CodeRec (.ref c) q):ab2 P w H h c (z0 c q):=by
 refine⟨r,?_,λ C F z k=>?_⟩
 ·obtain⟨y,o,vs,t,e,g,_⟩:=r
  cases e
  exact⟨o,g⟩
 ·obtain⟨y,o,vs,t,e,g,d⟩:=z
  cases e
  exact⟨c,o,vs,t,rfl,k o g,d⟩
theorem at9 {P:aI}{w:World}{H:Hp}{h:Heap}{c:Addr}{q:Str}(x:HOk P w H h)(e:H c=some (z0 c q)):h.CodeRec (.ref c) q:=(x c _ e).1
theorem as6 {P:aI}{w:World}{H:Hp}{h:Heap}{f:Addr}{y:bJ}(r:h.get? f=some { cls:=.type "function",data:=.func y }):ab2 P w H h f (ar5 f y) :=
 ⟨r,⟨_,r⟩,λ _ _ z k=>k _ z⟩
theorem ar4 {P:aI}{w:World}{H:Hp}{h:Heap}{f:Addr}{y:bJ}(x:HOk P w H h)(e:H f=some (ar5 f y)):h.get? f=some { cls:=.type "function",data:=.func y }:=(x f _ e).1
noncomputable def isC (cells:List (Str×Addr))(b:Addr):Bool:=cells.any λ p=>cells.lookup p.1==some b
theorem ae0 {cells:List (Str×Addr)}{b:Addr}:isC cells b=true↔∃ x,cells.lookup x=some b:=by
 unfold isC
 rw[jG]
 constructor
 ·rintro⟨p,_,e⟩;exact⟨p.1,by simpa using e⟩
 ·rintro⟨x,e⟩;exact⟨(x,b),ax e,by simpa using e⟩
noncomputable def ab1 (cells:List (Str×Addr))(H:Hp):Hp:=λ b=>if isC cells b=true then none else H b
noncomputable def Put (cells:List (Str×Addr))(H H':Hp):Hp:=λ b=>if isC cells b=true then H b else H' b
theorem ab1.cell {cells:List (Str×Addr)}{H:Hp}{b:Addr}(h:isC cells b=true):ab1 cells H b=none:=if_pos h
theorem ab1.ne {cells:List (Str×Addr)}{H:Hp}{b:Addr}(h:isC cells b≠true):ab1 cells H b=H b:=if_neg h
theorem ab1.some {cells:List (Str×Addr)}{H:Hp}{b:Addr}{o:HO}(h:ab1 cells H b=some o):isC cells b≠true/\H b=some o:=by
 unfold ab1 at h
 split at h
 ·cases h
 ·rename_i z;exact⟨z,h⟩
theorem ab1.none {cells:List (Str×Addr)}{H:Hp}{b:Addr}(h:H b=none):ab1 cells H b=none:=by
 unfold ab1
 split
 ·rfl
 ·exact h
theorem Put.cell {cells:List (Str×Addr)}{H H':Hp}{b:Addr}(h:isC cells b=true):Put cells H H' b=H b:=if_pos h
theorem Put.ne {cells:List (Str×Addr)}{H H':Hp}{b:Addr}(h:isC cells b≠true):Put cells H H' b=H' b:=if_neg h
def Cells (clos:List (Str×Addr))(H:Hp):Prop:=∀ x c,clos.lookup x=some c->∃ o v,H c=some (.frz o (.own c))/\o.data=.cell v
theorem Cells.at {y:List (Str×Addr)}{H:Hp}(z:Cells y H){b:Addr}(h:isC y b=true):∃ o v,H b=some (.frz o (.own b))/\o.data=.cell v:=by
 obtain⟨x,e⟩:=ae0.mp h
 exact z x b e
def Cap (clos:List (Str×Addr))(H:Hp)(fr:List Str)(cap:List V):Prop:=∀(i:Nat) (x:Str) (v:V),fr[i]?=some x->cap[i]?=some v->∃ c o u,clos.lookup x=some c/\H c=some (.frz o (.own c))/\o.data=.cell (some u)/\RelV v u
structure LamScope (N ps fr:List Str)(sc:Scope):Prop where
 kind:sc.kind=.function
 co:sc.isCoroutine=false
 gen:sc.isGenerator=false
 nd:N.Nodup
 app:N=ps++fr
 par:∀ x∈ps,sc.names.lookup x=some .local\/sc.names.lookup x=some .cell
 frs:∀ x∈fr,sc.names.lookup x=some .free
 cel:∀ y∈sc.names,y.2=.cell->sc.names.lookup y.1=some .cell
noncomputable def aD0 (P:aI)(w:World)(K:ae)(mg:Str->Option Value)(base:Heap)(N:List Str)(qual:Str)(scope:Scope)(f:Addr)(cd:Value)(clos:List (Str×Addr))(A:aZ)(outer:List Env)(s:af)(H:Hp):Cx where
 prog:=P
 w:=w
 K:=K
 mg:=mg
 base:=base
 A:=A.deeper (c7 qual scope s.heap.objs.size f cd (aL (s.heap.objs.size+1) scope.names clos))
 N:=N
 s₀:=s
 H₀:=ab1 clos H
 env:=c7 qual scope s.heap.objs.size f cd (aL (s.heap.objs.size+1) scope.names clos)
 outer:=outer
 stack:=c7 qual scope s.heap.objs.size f cd (aL (s.heap.objs.size+1) scope.names clos)::outer
 ex:=[]
 fn:=λ x=>scope.names.lookup x==some .cell
 calm:=true
 pn:=[]
 xe:=λ _ _=>False
theorem HOk.drop {P:aI}{w:World}{H:Hp}{h:Heap}{C:List (Str×Addr)}(x:HOk P w H h)(z:Cells C H):HOk P w (ab1 C H) h:=λ b o e=>by
 obtain⟨_,e'⟩:=ab1.some e
 have G:∀ c u,H c=some u->(∀ o v,u≠.frz o v)->isC C c≠true:=λ c u q d y=>by
  obtain⟨o,v,F,_⟩:=z.at y
  rw[q]at F;cases F
  exact d _ _ rfl
 exact(x b o e').stay (λ _ _ _ q=>q) (λ c q=>by rw[ab1.ne (G c _ q λ _ _=>by nofun)];exact q) λ c J q=>by rw[ab1.ne (G c _ q λ _ _=>by nofun)];exact q
theorem aN2 {P:aI}{w:World}{K:ae}{mg:Str->Option Value}{G:Heap}{N ps fr:List Str}{qual:Str}{scope:Scope}{f:Addr}{cd:Value}{h:List (Str×Addr)}{A:aZ}{outer:List Env}{s s1:af}{H:Hp}{us:List Value}{vs cap:List V}
  (S:LamScope N ps fr scope) (hd:A.handled=none) (C:Env0 P w K mg G A outer s H) (hl:vs.length=ps.length) (a5:cap.length=fr.length) (r:Vals vs us)
  (hc:Cells h H) (inj:∀ x y c,h.lookup x=some c->h.lookup y=some c->x=y) (a4:∀ x,scope.names.lookup x=some .free->∃ c,h.lookup x=some c) (a1:Cap h H fr cap)
  (x:fS s s.heap.objs.size (bindL (c7 qual scope s.heap.objs.size f cd (aL (s.heap.objs.size+1) scope.names h)).kindOf (ps.zip us) λ _=>none) (aL (s.heap.objs.size+1) scope.names [])
   (bindC (c7 qual scope s.heap.objs.size f cd (aL (s.heap.objs.size+1) scope.names h)).kindOf (ps.zip us) λ _=>none) s1) :
  Inv (aD0 P w K mg G N qual scope f cd h A outer s H) [] (vs.map some++cap.map some) (ab1 h H) s1:=by
 obtain⟨h1,tk,rfl,hk⟩:=x.done
 have J:∀ b:Addr,b ∉ (aD0 P w K mg G N qual scope f cd h A outer s H).ex:=λ b z=>absurd (show b∈([]:List Addr)from z) (by simp)
 have lk:∀ y c,(aL (s.heap.objs.size+1) scope.names h).lookup y=some c->(aL (s.heap.objs.size+1) scope.names []).lookup y=some c\/((aL (s.heap.objs.size+1) scope.names []).lookup y=none/\h.lookup y=some c):=λ y c e=>by
  rw[zl,zA]at e
  cases q:(aL (s.heap.objs.size+1) scope.names []).lookup y with
  | some d=>rw[q]at e;left;simpa using e
  | none=>rw[q]at e;right;exact⟨rfl,by simpa using e⟩
 have own:∀ y c,(aL (s.heap.objs.size+1) scope.names []).lookup y=some c->s.heap.objs.size<c:=λ y c e=>x.above y c (ax e)
 have Y:∀ y c,h.lookup y=some c->c<s.heap.objs.size:=λ y c e=>by
  obtain⟨o,v,q,_⟩:=hc y c e
  exact C.hok.lt q
 have hx:∀ y c,h.lookup y=some c->scope.names.lookup y=some .free->(aL (s.heap.objs.size+1) scope.names h).lookup y=some c:=λ y c e k=>by
  rw[zl,zA]
  cases q:(aL (s.heap.objs.size+1) scope.names []).lookup y with
  | none=>exact e
  | some d =>
   rcases zw (ax q)with z|z
   ·rw[S.cel _ z rfl]at k;cases k
   ·exact absurd z (by simp)
 have dn:∀ b,H b=none->ab1 h H b=none:=λ b e=>ab1.none e
 refine⟨⟨C.mod,S.kind,rfl,rfl,ak _,λ y z c a b=>?inj,λ y hy=>?has,λ y c hy e=>?cab,λ _=>hd,ip C.frames,.inr ⟨rfl,rfl⟩,λ b z=>absurd z (J b),λ b o e=>⟨(C.bs b o e).1,dn b (C.bs b o e).2⟩,C.bsz,λ b _ _=>J b,λ b z=>absurd z (J b),C.funs,λ b hb=>dn b (C.frf b hb)⟩,
  rfl,C.bare,Un.kept hk,⟨_,x.toInCall.ns,λ i y v q1 q2 q3=>?loc⟩,λ y c e=>?cell,dn _ (C.hok.fresh (ak _)),λ y c e=>?freeC,λ p Z=>absurd (show p∈([]:List (Addr×Obj))from Z) (by simp),(C.hok.drop hc).kept hk,?len⟩
 case inj =>
  rcases lk y c a with a|⟨_,a⟩<;>rcases lk z c b with b|⟨_,b⟩
  ·exact gG x.apart (ax a) (ax b)
  ·exact absurd (eh (own _ _ a) (Y _ _ b)) (bw _)
  ·exact absurd (eh (own _ _ b) (Y _ _ a)) (bw _)
  ·exact inj y z c a b
 case has =>
  have hy:scope.names.lookup y=some .cell\/scope.names.lookup y=some .free:=hy
  rcases hy with hy|hy
  ·obtain⟨c,e⟩:=zN (n:=s.heap.objs.size+1) hy
   refine⟨c,?_⟩
   show(aL (s.heap.objs.size+1) scope.names h).lookup y=some c
   rw[zl,zA,e];rfl
  ·obtain⟨c,e⟩:=a4 y hy
   exact⟨c,hx y c e hy⟩
 case cab =>
  have hy:(scope.names.lookup y==some .cell)=true:=hy
  have a3:scope.names.lookup y=some .cell:=by simpa using hy
  rcases lk y c e with a|⟨a,_⟩
  ·exact dF (own y c a)
  ·obtain⟨d,q⟩:=zN (n:=s.heap.objs.size+1) a3
   rw[q]at a;cases a
 case loc =>
  have a2:ps.Nodup:=by have:=S.nd;rw[S.app]at this;exact(List.nodup_append.mp this).1
  by_cases hi:i<vs.length
  ·have ha:vs[i]?=some v:=by
    rw[aK (by simpa using hi),aC]at q2
    cases e:vs[i]? with
    | none=>rw[e]at q2;cases q2
    | some a=>rw[e]at q2;cases q2;rfl
   obtain⟨u,hu,rv⟩:=r.get ha
   have Z:ps[i]?=some y:=by
    have F:N[i]?=some y:=q1
    rw[S.app,aK (by omega)]at F;exact F
   refine⟨u,rv,?_⟩
   rcases S.par y (aM Z)with k|k
   ·exact .inl ⟨k,ak6 a2 Z hu k⟩
   ·obtain⟨c,e⟩:=zN (n:=s.heap.objs.size+1) k
    refine .inr ⟨.inl k,c,?_,?_⟩
    ·show(aL (s.heap.objs.size+1) scope.names h).lookup y=some c
     rw[zl,zA,e];rfl
    ·have q:=x.cell y c e
     rw[aj6 a2 Z hu (by show scope.names.lookup y≠_;rw[k];decide)]at q
     exact q
  ·have hf:fr[i - vs.length]?=some y:=by
    have F:N[i]?=some y:=q1
    rw[S.app,aY (by omega)]at F;rw[hl];exact F
   have hv:cap[i - vs.length]?=some v:=by
    rw[aY (by simpa using hi),aC,au]at q2
    cases e:cap[i - vs.length]? with
    | none=>rw[e]at q2;cases q2
    | some a=>rw[e]at q2;cases q2;rfl
   obtain⟨c,o,u,e1,e2,e3,e4⟩:=a1 _ y v hf hv
   have kf:=S.frs y (aM hf)
   refine⟨u,e4,.inr ⟨.inr kf,c,hx y c e1 kf,?_⟩⟩
   exact⟨o,hk c o (C.hok c _ e2).1,e3⟩
 case cell =>
  rcases lk y c e with a|⟨_,a⟩
  ·exact⟨_,x.cell y c a⟩
  ·obtain⟨o,v,q,d⟩:=hc y c a
   exact⟨v,o,hk c o (C.hok c _ q).1,d⟩
 case freeC =>
  rcases lk y c e with a|⟨_,a⟩
  ·exact dn c (C.hok.fresh (dF (own y c a)))
  ·exact ab1.cell (ae0.mpr ⟨y,a⟩)
 case len =>
  show _=N.length
  rw[S.app]
  simp[hl,a5]
theorem aP9 {P:aI}{w:World}{outer:List Env}{H H':Hp}{s s':af}{h:List (Str×Addr)}(hok:HOk P w H s.heap)(hc:Cells h H)(frf:∀ b∈frs outer,H b=none)
  (un:Un (frs outer) [] (ab1 h H) H' s.heap s'.heap) (G:HOk P w H' s'.heap):Un (frs outer) [] H (Put h H H') s.heap s'.heap/\HOk P w (Put h H H') s'.heap:=by
 have nc:∀ b,H b=none->isC h b≠true:=λ b e y=>by
  obtain⟨o,v,q,_⟩:=hc.at y
  rw[e]at q;cases q
 have F:∀ c u,H c=some u->(∀ o v,u≠.frz o v)->isC h c≠true:=λ c u q d y=>by
  obtain⟨o,v,J,_⟩:=hc.at y
  rw[q]at J;cases J
  exact d _ _ rfl
 have C:∀ b,isC h b=true->H' b=none:=λ b y=>by
  obtain⟨o,v,q,_⟩:=hc.at y
  exact un.free b o (hok b _ q).1 (ab1.cell y) (by simp)
 refine⟨⟨λ b o e n hb hx=>un.keep b o e (ab1.none n) hb hx,λ b o e n hb hx=>un.slot b o e (ab1.none n) hb hx,λ b o e n hx=>?_,λ b o e hx=>un.there b o e hx,λ b Z e=>?_,λ b o u e=>?_,λ b ps e=>?_⟩,λ b o e=>?_⟩
 ·rw[Put.ne (nc b n)];exact un.free b o e (ab1.none n) hx
 ·have z:=F b _ e λ _ _=>by nofun
  rw[Put.ne z];exact un.tups b Z (by rw[ab1.ne z];exact e)
 ·by_cases z:isC h b=true
  ·rw[Put.cell z];exact e
  ·rw[Put.ne z];exact un.frzs b o u (by rw[ab1.ne z];exact e)
 ·have z:=F b _ e λ _ _=>by nofun
  rw[Put.ne z];exact un.tbls b ps (by rw[ab1.ne z];exact e)
 ·by_cases z:isC h b=true
  ·rw[Put.cell z]at e
   obtain⟨ob,v,q,d⟩:=hc.at z
   rw[q]at e;cases e
   have g:=(hok b _ q).1
   have g':=un.keep b ob g (ab1.cell z) (λ y=>by rw[frf b y]at q;cases q) (by simp)
   exact⟨g',ob,g'⟩
  ·rw[Put.ne z]at e
   have Y:∀ c u,H' c=some u->Put h H H' c=some u:=λ c u q=>by
    rw[Put.ne λ y=>by rw[C c y]at q;cases q];exact q
   exact(G b o e).stay (λ _ _ _ q=>q) (λ c q=>Y c _ q) λ c Z q=>Y c _ q
structure ClOk (P:aI)(w:World)(K:ae)(mg:Str->Option Value)(base:Heap)(k:Nat)(R:Hp->Prop)(f:Addr)(sp:Sp):Prop where
 run:∀(A:aZ) (outer:List Env) (s:af) (H:Hp) (us:List Value) (vs:List V) (Q:VK),Room k A->Env0 P w K mg base A outer s H->R H->Vals vs us->sp vs H Q E0 ->
  fR (model P w) A (.call (.ref f) ⟨us,[]⟩) (CR CX0 outer P w H s Q E0) s
theorem ClOk.ofFn {P:aI}{w:World}{K:ae}{mg:Str->Option Value}{y:Heap}{k:Nat}{f:Addr}{C:bJ}{ps:List Str}{sp:Sp}(F:FnOk P w K mg y CX0 k f C ps sp)(hb:Binds K C ps []):ClOk P w K mg y k (λ _=>True) f sp :=
 ⟨λ A outer s H us vs Q hr z _ r h=>by
  have hl:=F.len _ _ _ _ h
  have:=hb s us (z.mod.kin.keeps λ b o e=>(z.bs b o e).1) (by rw[bq,<-r.length];exact hl)
  rw[bq]at this
  exact F.run A outer s H ⟨us,[]⟩ us vs Q E0 hr z this r h⟩
def ay4 (H:Hp)(f:Addr)(qual:Str)(params:bj)(body:Expr)(scope:Scope)(fr:List Str)(cap:List V)(clos:List (Str×Addr)):Prop :=
 ∃ pm c' ctv,H f=some (ar5 f (bW "<lambda>" qual params body scope clos pm (.ref c') ctv))/\H c'=some (z0 c' qual)/\Cells clos H /\
  (∀ x y c,clos.lookup x=some c->clos.lookup y=some c->x=y)/\(∀ x,scope.names.lookup x=some .free->∃ c,clos.lookup x=some c)/\Cap clos H fr cap
def BM (mg:Str->Option Value)(base:Heap):Prop:=∃ bm ob,mg "__builtins__"=some (.ref bm)/\bm≠gD/\base.get? bm=some ob/\ob.cls=.type "module"/\ob.dict=some gD/\ob.data=.plain
def bV4 (cells:List (Str×Addr))(P:Addr)(qual:Str)(params:bj)(body:Expr)(scope:Scope)(pos:Pos):TE:=λ _ H Q =>
 ∃ ps:Array Value,H P=some (.tbl ps)/\iJ ps.toList /\
  (cW pos ps.toList=none->∀ c' f pm ctv,H c'=none->H f=none->c'≠f ->
   Q (.ref f) (upd (upd (upd H P (.tbl (ps++#[cD pos.line,cD pos.col,.ref c']))) c' (z0 c' qual)) f (ar5 f (bW "<lambda>" qual params body scope (ad1 cells scope.names []) pm (.ref c') ctv)))) /\
  (∀ cv,cW pos ps.toList=some cv->∃ c',cv=.ref c'/\∀ f pm ctv,H f=none->Q (.ref f) (upd H f (ar5 f (bW "<lambda>" qual params body scope (ad1 cells scope.names []) pm (.ref c') ctv))))
noncomputable def lamCheck (scope xs:Scope):Bool:=scope.names.all λ y=>!(y.2==.free)||(xs.names.lookup y.1==some .cell||xs.names.lookup y.1==some .free)
theorem aV4 {X:Cx}{c P:Addr}{params:bj}{body:Expr}{scope:Scope}{pos:Pos}(Y:X.env.code=.ref c)(C:bX X.base c P)(hB:BM X.mg X.base)
  (c4:lamCheck scope X.env.scope=true) (b0:j8 params X.env=([],[]):=by rfl) :
  PE X (.Lambda params body scope pos) (bV4 X.env.cells P (X.env.qual ++ "<lambda>") params body scope pos):=by
 intro d0 s σ H Q I h
 have b8:∀ y∈scope.names,y.2=.free->X.env.kindOf y.1=some .cell\/X.env.kindOf y.1=some .free:=λ y hy e=>by
  have z:=aX.mp c4 y hy
  have z':X.env.scope.names.lookup y.1=some .cell\/X.env.scope.names.lookup y.1=some .free:=by simpa [e]using z
  exact z'
 obtain⟨ps,Z,ht,a8,a6⟩:=h
 refine PySem.W.kla_eval b0 ?_
 have a9:=zS (scope:=scope) (env:=X.env) λ y hy e=>I.ok.has y.1 (b8 y hy e)
 have oP:s.heap.get? P=some (em ps):=I.hok P _ Z
 have a1:s.heap.Ns bv X.mg:=I.mod.glob.keeps I.bk
 have hC:bX s.heap c P:=C.keeps I.bk
 have c1:bv≠P:=λ q=>by
  obtain⟨o,es,ep,e,d,_⟩:=a1
  rw[q,oP]at e;cases e;cases d
 have hb:s.heap.BuiltinsAt X.mg P:=by
  obtain⟨bm,ob,b1,b2,b3,b4,b5,b6⟩:=hB
  refine⟨bm,ob,b1,b2,λ q=>?_,λ q=>?_,I.bk _ _ b3,b4,b5,b6⟩
  ·obtain⟨o,es,ep,e,d,_⟩:=I.mod.glob
   rw[q,e]at b3;cases b3;rw[d]at b6;cases b6
  ·have e:=I.bk _ _ b3
   rw[q,oP]at e;cases e;cases b4
 cases q:cW pos ps.toList with
 | none =>
  refine PySem.W.kla_makeFunction (mg:=X.mg) a9 I.ok.glob a1 Y hC oP ht q c1 hb λ F G h' tk hx hge hlt a7 a3=>?_
  have a4:P<s.heap.objs.size:=ay oP
  have c3:F≠P:=cN (ao a4 hge)
  have c0:h'.objs.size≠P:=cN (eh (ao a4 hge) hlt)
  have b7:F≠h'.objs.size:=av hlt
  have hsz:s.heap.objs.size<=h'.objs.size:=am hge (dF hlt)
  have nP:∀ b,H b=none->b≠P:=λ b n z=>by rw[z,Z]at n;cases n
  have lt:∀ b o,H b=some o->b≠F/\b≠h'.objs.size:=λ b o e=>⟨av (ao (I.hok.lt e) hge),av (ao (I.hok.lt e) hsz)⟩
  have a5:∀ b o,s.heap.get? b=some o->b≠F/\b≠h'.objs.size:=λ b o e=>⟨av (ao (ay e) hge),av (ao (ay e) hsz)⟩
  have keep:∀ b o,b≠P->s.heap.get? b=some o->(h'.push (PySem.W.kla_obj "<lambda>" (X.env.qual ++ "<lambda>") params body scope (ad1 X.env.cells scope.names []) ((X.mg "__name__").getD .none) F G)).get? b=some o:=λ b o n e=>ai _ (hx b o n e)
  have J:∀ b,b≠P->b≠F->b≠h'.objs.size->∀ o1 o2 o3,upd (upd (upd H P o1) F o2) h'.objs.size o3 b=H b:=λ b n1 n2 n3 o1 o2 o3=>by rw[za n3,za n2,za n1]
  refine⟨.ref h'.objs.size,upd (upd (upd H P (.tbl (ps++#[cD pos.line,cD pos.col,.ref F]))) F (z0 F (X.env.qual ++ "<lambda>"))) h'.objs.size (ar5 h'.objs.size (bW "<lambda>" (X.env.qual ++ "<lambda>") params body scope (ad1 X.env.cells scope.names []) ((X.mg "__name__").getD .none) (.ref F) G)),I.un (t':=tk) ⟨λ b o e n _ _=>keep b o (nP b n) e,λ b o e n _ _=>⟨o.slots,keep b o (nP b n) e⟩,λ b o e n _=>?fr,λ b o e _=>?th,λ b xs e=>?tu,λ b o u e=>?fz,λ b qs e=>?tb⟩ ?ok,rfl,a8 q F h'.objs.size _ G (I.hok.fresh hge) (I.hok.fresh hsz) b7⟩
  case fr=>rw[J b (nP b n) (a5 b o e).1 (a5 b o e).2];exact n
  case th =>
   by_cases z:b=P
   ·subst z;exact⟨_,ai _ a3⟩
   ·exact⟨o,keep b o z e⟩
  case tu=>rw[J b (λ z=>by rw[z,Z]at e;cases e) (lt b _ e).1 (lt b _ e).2];exact e
  case fz=>rw[J b (λ z=>by rw[z,Z]at e;cases e) (lt b _ e).1 (lt b _ e).2];exact e
  case tb =>
   by_cases z:b=P
   ·subst z
    rw[Z]at e;cases e
    exact⟨#[cD pos.line,cD pos.col,.ref F],by rw[za (bL c0),za (bL c3),zb]⟩
   ·exact⟨#[],by rw[J b z (lt b _ e).1 (lt b _ e).2,e];simp⟩
  case ok =>
   intro b o e
   by_cases zf:b=h'.objs.size
   ·subst zf
    rw[zb]at e;cases e
    exact as6 (aA _ rfl)
   ·rw[za zf]at e
    by_cases zc:b=F
    ·subst zc
     rw[zb]at e;cases e
     obtain⟨c2,oc,vs,t,e1,e2,e3⟩:=a7
     exact aF9 ⟨c2,oc,vs,t,e1,ai _ e2,e3⟩
    ·rw[za zc]at e
     by_cases zp:b=P
     ·subst zp
      rw[zb]at e;cases e
      exact ai _ a3
     ·rw[za zp]at e
      have a2:∀ d u,H d=some u->(∀ ps,u≠.tbl ps)->upd (upd (upd H P (.tbl (ps++#[cD pos.line,cD pos.col,.ref F]))) F (z0 F (X.env.qual ++ "<lambda>"))) h'.objs.size (ar5 h'.objs.size (bW "<lambda>" (X.env.qual ++ "<lambda>") params body scope (ad1 X.env.cells scope.names []) ((X.mg "__name__").getD .none) (.ref F) G)) d=some u:=λ d u e nt=>by
       rw[J d (λ z=>by rw[z,Z]at e;cases e;exact nt _ rfl) (lt d _ e).1 (lt d _ e).2];exact e
      refine(I.hok b o e).stay (λ d u hd q=>keep d u ?_ q) (λ d q=>a2 d _ q λ _=>by nofun) λ d xs q=>a2 d _ q λ _=>by nofun
      rintro rfl
      rcases hd with hd|hd
      ·exact zp hd.symm
      ·rw[Z]at hd;cases hd
 | some cv =>
  obtain⟨F,rfl,hq⟩:=a6 cv q
  refine PySem.W.kla_makeFunctionHit (mg:=X.mg) a9 I.ok.glob a1 Y hC oP ht q hb λ G h' tk hk hsz=>?_
  refine⟨.ref h'.objs.size,_,I.laid (t':=tk) (λ b o e=>ai _ (hk b o e)) hsz (as6 (aA _ rfl)),rfl,hq h'.objs.size _ G (I.hok.fresh hsz)⟩
structure Caught (cl:List (Str×Addr))(N:List Str)(kd:Str->Option bM)(σ:St)(H1 H2:Hp):Prop where
 ne:∀ b,isC cl b≠true->H2 b=H1 b
 free:∀ b,isC cl b=true->H1 b=none
 cells:Cells cl H2
 cap:∀(i:Nat) (x:Str) (v:V) (c:Addr),N[i]?=some x->σ[i]?=some (some v)->(kd x=some .cell\/kd x=some .free)->cl.lookup x=some c->∃ o u,H2 c=some (.frz o (.own c))/\o.data=.cell (some u)/\RelV v u
 inj:∀ x y c,cl.lookup x=some c->cl.lookup y=some c->x=y
def by8 (cl:List (Str×Addr))(N:List Str)(kd:Str->Option bM)(sp:Sp)(t:TA):TE:=λ σ H Q=>t σ H λ vs H1=>∀ H2,Caught cl N kd σ H1 H2->sp vs H2 (λ v H3=>Q v (ab1 cl H3)) E0
theorem bw5 {X:Cx}{k:Nat}{f:Addr}{fd:bJ}{ps:List Str}{sp:Sp}{J:List (Addr×Obj)}{σ:St}{H:Hp}{s:af}{Q:VK}{us:List Value}{vs:List V}(F:FnOk X.prog X.w X.K X.mg X.base CX0 k f fd ps sp)(hr:Room k X.A)(hb:Binds X.K fd ps [])
  (a7:∀ x,X.fn x=true) (I:Inv X J σ H s) (r:Vals vs us) (h:∀ H2,Caught X.env.cells X.N X.env.kindOf σ H H2->sp vs H2 (λ v Y=>Q v (ab1 X.env.cells Y)) E0):wpAny (model X.prog X.w) X.A (call (.ref f) us) (EP X J σ Q) X.xe s:=by
 let H2:Hp:=λ b=>if isC X.env.cells b=true then(s.heap.get? b).map λ o=>.frz o (.own b)else H b
 have C:∀ b,isC X.env.cells b≠true->H2 b=H b:=λ b z=>if_neg z
 have G:∀ b,isC X.env.cells b=true->∃ o v,s.heap.get? b=some o/\o.data=.cell v/\H2 b=some (.frz o (.own b)):=λ b z=>by
  obtain⟨x,e⟩:=ae0.mp z
  obtain⟨v,o,g,d⟩:=I.cell x b e
  exact⟨o,v,g,d,by show(if _ then _ else _)=_;rw[if_pos z,g];rfl⟩
 have fr:∀ b,isC X.env.cells b=true->H b=none:=λ b z=>by
  obtain⟨x,e⟩:=ae0.mp z
  exact I.freeC x b e
 have up:∀ b,isC X.env.cells b=true->X.s₀.heap.objs.size<=b:=λ b z=>by
  obtain⟨x,e⟩:=ae0.mp z
  exact I.ok.cab x b (a7 x) e
 have a1:∀ b o,X.s₀.heap.get? b=some o->isC X.env.cells b≠true:=λ b o e z=>absurd (ao (ay e) (up b z)) (bw _)
 have a4:∀ b∈frs X.stack,isC X.env.cells b≠true:=λ b hb z=>by
  rcases aE.mp (I.stkSub b hb)with e|hb
  ·obtain⟨x,e2⟩:=ae0.mp z
   exact I.cne x b e2 e
  ·obtain⟨_,o,ho,_⟩:=I.ok.funs.mem hb
   exact a1 b o ho z
 have a8:HOk X.prog X.w H2 s.heap:=λ b o e=>by
  by_cases z:isC X.env.cells b=true
  ·obtain⟨ob,v,g,d,q⟩:=G b z
   rw[q]at e;cases e
   exact⟨g,ob,g⟩
  ·rw[C b z]at e
   have np:∀ c u,H c=some u->H2 c=some u:=λ c u q=>by rw[C c λ y=>by rw[fr c y]at q;cases q];exact q
   exact(I.hok b o e).stay (λ _ _ _ q=>q) (λ c q=>np c _ q) λ c xs q=>np c _ q
 have nb:∀ b o,X.base.get? b=some o->isC X.env.cells b≠true:=λ b o e=>a1 b o (I.ok.bs b o e).1
 have e0:Env0 X.prog X.w X.K X.mg X.base X.A X.stack s H2:=⟨I.ok.frames,I.ok.mod,λ b o e=>⟨(I.bs b o e).1,by rw[C b (nb b o e)];exact(I.bs b o e).2⟩,am I.ok.bsz I.sz,I.stack,λ b hb=>by rw[C b (a4 b hb)];exact I.stkFree b hb,a8,I.bare⟩
 have ca:Caught X.env.cells X.N X.env.kindOf σ H H2:=⟨C,fr,λ x c e=>by
   obtain⟨o,v,g,d,q⟩:=G c (ae0.mpr ⟨x,e⟩)
   exact⟨o,v,q,d⟩,λ i x v c e1 e2 e3 e4=>by
   obtain⟨m,hn,hl⟩:=I.loc
   have vis:Vis X.env.scope x:=e3.elim (λ z=>.inr (.inl z)) λ z=>.inr (.inr z)
   obtain⟨u,ru,lk⟩:=hl i x v e1 e2 vis
   rcases lk with⟨z,_⟩|⟨_,c2,z1,z2⟩
   ·rcases e3 with y|y<;>(rw[z]at y;cases y)
   ·rw[e4]at z1;cases z1
    obtain⟨o,w',g,d,q⟩:=G c (ae0.mpr ⟨x,e4⟩)
    obtain⟨o2,g2,d2⟩:=z2
    rw[g]at g2;cases g2
    exact⟨o,u,q,d2,ru⟩,I.ok.inj⟩
 have a5:=h H2 ca
 have hl:=F.len _ _ _ _ a5
 have a3:=hb s us I.kIn (by rw[bq,<-r.length];exact hl)
 rw[bq]at a3
 refine j2 (ft (F.run X.A X.stack s H2 ⟨us,[]⟩ us vs _ E0 hr e0 a3 r a5) λ r s' hq=>?_)
 cases r with
 | error e=>exact bB hq
 | ok fl =>
  cases fl with
  | next=>exact bB hq
  | brk=>exact bB hq
  | cont=>exact bB hq
  | ret u =>
   obtain⟨v,Y,os,bare,un,a2,rv,q⟩:=hq
   have a6:∀ b,isC X.env.cells b=true->∃ o,s.heap.get? b=some o/\s'.heap.get? b=some o/\Y b=some (.frz o (.own b)):=λ b z=>by
    obtain⟨o,v,g,d,q2⟩:=G b z
    have q3:=un.frzs b o _ q2
    exact⟨o,g,(a2 b _ q3).1,q3⟩
   have Z:∀ b u,H b=some u->isC X.env.cells b≠true:=λ b u e y=>by rw[fr b y]at e;cases e
   refine⟨v,_,I.call' (H':=ab1 X.env.cells Y) (ch:=[]) os ⟨λ b o e n hb hx=>?k,λ b o e n hb hx=>?sl,λ b o e n hx=>?fr,λ b o e hx=>un.there b o e hx,λ b xs e=>?tu,λ b o u e=>?fz,λ b ps e=>?tb⟩ (λ b o e=>?hok) bare (λ b z=>absurd z (by simp)),rv,q⟩
   case k =>
    by_cases z:isC X.env.cells b=true
    ·obtain⟨o2,g,g',_⟩:=a6 b z
     rw[e]at g;cases g
     exact g'
    ·exact un.keep b o e (by rw[C b z];exact n) hb hx
   case sl=>exact un.slot b o e (by rw[C b (a4 b hb)];exact n) hb hx
   case fr =>
    by_cases z:isC X.env.cells b=true
    ·exact ab1.cell z
    ·exact ab1.none (un.free b o e (by rw[C b z];exact n) hx)
   case tu =>
    rw[ab1.ne (Z b _ e)]
    exact un.tups b xs (by rw[C b (Z b _ e)];exact e)
   case fz =>
    rw[ab1.ne (Z b _ e)]
    exact un.frzs b o u (by rw[C b (Z b _ e)];exact e)
   case tb =>
    rw[ab1.ne (Z b _ e)]
    exact un.tbls b ps (by rw[C b (Z b _ e)];exact e)
   case hok =>
    obtain⟨z,e3⟩:=ab1.some e
    have np:∀ c u,Y c=some u->(∀ o w',u≠.frz o w')->ab1 X.env.cells Y c=some u:=λ c u q d=>by
     rw[ab1.ne λ y=>by obtain⟨o,_,_,q3⟩:=a6 c y;rw[q]at q3;cases q3;exact d _ _ rfl];exact q
    exact(a2 b o e3).stay (λ _ _ _ q=>q) (λ c q=>np c _ q λ _ _=>by nofun) λ c xs q=>np c _ q λ _ _=>by nofun
theorem aF8 {X:Cx}{k:Nat}{f:Addr}{J:bJ}{ps:List Str}{sp:Sp}{x:Str}{p pos:Pos}{e:Expr}{es:List Expr}{t:TA}(F:FnOk X.prog X.w X.K X.mg X.base CX0 k f J ps sp)(hr:Room k X.A)(hg:Gl X x)(hm:X.mg x=some (.ref f))(hk:cu X.K (.ref f)=true)(hb:Binds X.K J ps [])
  (z:∀ x,X.fn x=true) (ha:PA X (e::es) t) (C:(x==("__debug__":Str))=false:=by decide) (Z:bn (e::es) X.env=(false,eval e X.env)::bn es X.env:=by rfl) (G:(dL pos (bn es X.env)).any (·.1)=false:=by rfl) :
  PE X (.Call (.Name x p) (e::es) [] pos) (by8 X.env.cells X.N X.env.kindOf sp t):=by
 intro y s σ H Q I h
 refine cn (ar6 I hg hm ?_ C)
 refine ja (h₀:=X.base) I.ok.mod.kin hk (thn (ha pos y s σ H _ I h) λ us s1 ⟨vs,H1,Y,r,q⟩=>⟨Y.kIn,?_⟩) Z G
 exact bw5 F hr hb z Y r q
def bm7 (K:ae)(H:Hp)(f:Addr):Prop:=(∃ fd,H f=some (ar5 f fd))\/∃ oc od fd sl,K.lookup f=some ⟨oc,od,.func fd,sl⟩
theorem bm7.at {X:Cx}{y:List (Addr×Obj)}{σ:St}{H:Hp}{s:af}{f:Addr}(h:bm7 X.K H f)(I:Inv X y σ H s):PySem.W.FnAt f s.heap:=by
 rcases h with⟨z,h⟩|⟨oc,od,z,sl,h⟩
 ·exact⟨_,_,_,_,ar4 I.hok h⟩
 ·exact⟨_,_,_,_,I.kIn _ _ h⟩
def bC3 (P:aI)(w:World)(K:ae)(mg:Str->Option Value)(base:Heap)(k:Nat)(i:Nat)(t:TA):TE:=λ σ H Q=>∃ f,σ[i]?=some (some (.ref f))/\bm7 K H f/\t σ H λ vs H1=>bm7 K H1 f/\∃ R sp,ClOk P w K mg base k R f sp/\R H1/\sp vs H1 Q E0
theorem bB9 {X:Cx}{k:Nat}{f:Addr}{sp:Sp}{R:Hp->Prop}{y:List (Addr×Obj)}{σ:St}{H:Hp}{s:af}{Q:VK}{us:List Value}{vs:List V}(F:ClOk X.prog X.w X.K X.mg X.base k R f sp)(hr:Room k X.A)(I:Inv X y σ H s)(z:R H)(r:Vals vs us)(h:sp vs H Q E0) :
  wpAny (model X.prog X.w) X.A (call (.ref f) us) (EP X y σ Q) X.xe s:=by
 refine j2 (ft (F.run X.A X.stack s H us vs Q hr I.env0 z r h) λ r s' hq=>?_)
 cases r with
 | error e=>exact bB hq
 | ok fl =>
  cases fl with
  | ret u=>exact I.after hq
  | next=>exact bB hq
  | brk=>exact bB hq
  | cont=>exact bB hq
theorem aZ8 {X:Cx}{P:aI}{w:World}{K:ae}{mg:Str->Option Value}{base:Heap}{k i:Nat}{x:Str}{p pos:Pos}{e:Expr}{es:List Expr}{t:TA}(Z:X.prog=P)(hw:X.w=w)(hK:X.K=K)(G:X.mg=mg)(z:X.base=base)(hr:Room k X.A)(hv:PE X (.Name x p) (aX4 i))(ha:PA X (e::es) t)
  (he:bn (e::es) X.env=(false,eval e X.env)::bn es X.env:=by rfl) (C:(dL pos (bn es X.env)).any (·.1)=false:=by rfl) :
  PE X (.Call (.Name x p) (e::es) [] pos) (bC3 P w K mg base k i t):=by
 subst Z hw hK G z
 intro y s σ H Q I h
 obtain⟨f,hσ,hf,ht⟩:=h
 refine cn (thn (hv y s σ H (λ v H'=>v=.ref f/\H'=H) I ⟨.ref f,hσ,rfl,rfl⟩) λ u s0 ⟨v,H0,J,r0,ev,eH⟩=>?_)
 subst ev
 subst eH
 cases r0
 exact PySem.W.callWith_F (q:=f) (hf.at J) (thn (ha pos y s0 σ H0 _ J ht) λ us s1 ⟨vs,H1,Y,r,hF,R,sp,F,hR,q⟩=>⟨hF.at Y,bB9 F hr Y hR r q⟩) he C
noncomputable def ax5 (K:ae)(names:List Str):List (Str×Addr×Addr):=names.filterMap λ x=>(bp K x).map λ p=>(x,p)
theorem ap5 {K:ae}{names:List Str}{y:Str×Addr×Addr}:y∈ax5 K names↔y.1∈names/\bp K y.1=some y.2:=by
 unfold ax5
 rw[c5]
 constructor
 ·rintro⟨x,hx,e⟩
  obtain⟨p,h,rfl⟩:=gQ.mp e
  exact⟨hx,h⟩
 ·rintro⟨hx,e⟩
  exact⟨y.1,hx,by rw[e];rfl⟩
def bp1 (K:ae)(names:List Str)(base:Heap):Prop:=∀ x∈names,∀ c P,bp K x=some (c,P)->bX base c P
def bw3 (K:ae)(names:List Str)(H:Hp):Prop:=∀ x∈names,∀ c P,bp K x=some (c,P)->H P=some (.tbl #[])
noncomputable def bM0 (K:ae)(names:List Str)(ts:List Addr):Bool:=names.all λ x=>match bp K x with
 | some (c,P)=>jH K c P&&ts.contains P
 | none=>true
theorem aq7 {K:ae}{x:Str}(h:(bp K x).isSome=true):bp K x=some (((bp K x).getD (0,0)).1,((bp K x).getD (0,0)).2):=by
 obtain⟨p,e⟩:=ga.mp h
 rw[e]
 rfl
def bK3 (H:Hp)(P:Addr)(q:Str):Prop:=∃ ps:Array Value,H P=some (.tbl ps)/\iJ ps.toList/\∀ pos cv,cW pos ps.toList=some cv->∃ c',cv=.ref c'/\H c'=some (z0 c' q)
def TabsH (T:List (Addr×Str))(H:Hp):Prop:=∀ y∈T,bK3 H y.1 y.2
def aT8 (H H':Hp):Prop:=∀ b o,(∀ ps,o≠.tbl ps)->H b=some o->H' b=some o
theorem aT8.of {H y:Hp}(a:ad8 H y):aT8 H y:=λ c o _ h=>a c o h
theorem TabsH.keep {T:List (Addr×Str)}{H H':Hp}(h:TabsH T H)(k:∀ b o,(∀ z,o≠.lst z)->H b=some o->H' b=some o):TabsH T H':=λ y hy=>by
 obtain⟨ps,e,t,c⟩:=h y hy
 refine⟨ps,k _ _ (λ _=>by nofun) e,t,λ pos F q=>?_⟩
 obtain⟨C,e1,e2⟩:=c pos F q
 exact⟨C,e1,k _ _ (λ _=>by unfold z0;nofun) e2⟩
theorem TabsH.same {T:List (Addr×Str)}{H H':Hp}(h:TabsH T H)(s:ad8 H H'):TabsH T H':=h.keep λ b o _ e=>s b o e
theorem TabsH.new {T:List (Addr×Str)}{H:Hp}{a:Addr}{o:HO}(h:TabsH T H)(n:H a=none):TabsH T (upd H a o):=h.same ((ad8.refl H).new n)
theorem TabsH.put {T:List (Addr×Str)}{H:Hp}{a:Addr}{o:HO}{y:List V}(h:TabsH T H)(n:H a=some (.lst y)):TabsH T (upd H a o):=h.keep λ b u d e=>by
 rw[za λ z=>by subst z;rw[n]at e;cases e;exact d _ rfl];exact e
theorem TabsH.init {T:List (Addr×Str)}{H:Hp}(h:∀ p∈T.map (·.1),H p=some (.tbl #[])):TabsH T H:=λ y hy =>
 ⟨#[],h _ (aP hy),trivial,λ pos z e=>by simp[cW]at e⟩
theorem codeAmong_add {pos:Pos}{a b:Int}{c C:Value}:∀(l:List Value),iJ l->cW pos (l++[cD a,cD b,c])=some C->cW pos l=some C\/C=c:=by
 intro l
 fun_induction iJ l with
 | case1 =>
  intro _ e
  simp only[bO,cW,cD]at e
  split at e
  ·exact .inr (aw e).symm
  ·cases e
 | case2 x t y u z rest ih =>
  intro h e
  simp only[bS,cW]at e ⊢
  split at e
  ·rename_i q
   left;rw[if_pos q];exact e
  ·rename_i q
   rw[if_neg q];exact ih h e
 | case3 l h1 h2=>intro h;exact h.elim
theorem aY0 {cells:List (Str×Addr)}{N:List Str}{kd:Str->Option bM}{σ:St}{Y H2:Hp}{f:Addr}{q:Str}{params:bj}{body:Expr}{scope:Scope}{fr:List Str}{cap:List V}(F:Caught cells N kd σ Y H2)
  (hf:∃ Z C h,Y f=some (ar5 f (bW "<lambda>" q params body scope (ad1 cells scope.names []) Z (.ref C) h))/\Y C=some (z0 C q))
  (G:∀ x,scope.names.lookup x=some .free->∃ c,cells.lookup x=some c)
  (J:∀(i:Nat) (x:Str) (v:V),fr[i]?=some x->cap[i]?=some v->scope.names.lookup x=some .free/\(kd x=some .cell\/kd x=some .free)/\∃ j:Nat,N[j]?=some x/\σ[j]?=some (some v)) :
  ay4 H2 f q params body scope fr cap (ad1 cells scope.names []):=by
 obtain⟨Z,C,h,h1,h2⟩:=hf
 have up:∀ b o,Y b=some o->H2 b=some o:=λ b o e=>by
  rw[F.ne b λ z=>by rw[F.free b z]at e;cases e];exact e
 have sub:∀ x c,(ad1 cells scope.names []).lookup x=some c->cells.lookup x=some c:=λ x c e=>by
  rcases clOf_mem (ax e)with z|z
  ·exact z
  ·exact absurd z (by simp)
 refine⟨Z,C,h,up _ _ h1,up _ _ h2,λ x c e=>F.cells x c (sub x c e),λ x y c e1 e2=>F.inj x y c (sub x c e1) (sub y c e2),λ x k=>?_,λ i x v e1 e2=>?_⟩
 ·obtain⟨c,e⟩:=G x k
  exact⟨c,zZ e (ax k)⟩
 ·obtain⟨k,kk,j,e3,e4⟩:=J i x v e1 e2
  obtain⟨c,e⟩:=G x k
  obtain⟨o,u,e5,e6,e7⟩:=F.cap j x v c e3 e4 kk e
  exact⟨c,o,u,zZ e (ax k),e5,e6,e7⟩
theorem Caught.same {cells:List (Str×Addr)}{N:List Str}{kd:Str->Option bM}{σ:St}{h H2:Hp}(y:Caught cells N kd σ h H2):ad8 h H2:=λ b o e=>by
 rw[y.ne b λ z=>by rw[y.free b z]at e;cases e];exact e
theorem Fun.okC {P:aI}{w:World}{K:ae}{mg:Str->Option Value}{y:Heap}{x qual:Str}{st:Stmt}{f c:Addr}{G:bJ}{N ps:List Str}{k:Nat}{sp:Sp}(F:Fun K x qual st f G)(J:G.code=.ref c)(S:FnScope N ps (defScope st))(len:∀ vs H Q E,sp vs H Q E->vs.length=ps.length)
  (z:∀(A:aZ) (outer:List Env) (s:af) (H:Hp) (vs:List V) (Q:VK) (E:XK),Room k (A.deeper (f9 qual (defScope st) s.heap.objs.size f (.ref c)))->sp vs H Q E ->
   ∃ t,PSs (bb2 CX0 P w K mg y N qual (defScope st) f (.ref c) A outer s H E).nox (zE st) t/\t { nx:=λ _ H'=>Q .non H',rt:=Q } (ag2 N vs) H):FnOk P w K mg y CX0 (k+1) f G ps sp:=by
 obtain⟨oc,od,kV,Z,pm,an,C,ct,a1,rfl,lk,hc⟩:=F.ex
 have e:C=.ref c:=J
 subst e
 refine bE7 lk hc S len λ A outer s H vs Q E hr Y=>?_
 obtain⟨t,h,q⟩:=z A outer s H vs Q E hr Y
 exact⟨t,h.nox,q⟩
theorem aT0 {X:Cx}{K:ae}(hc:X.calm=true)(hK:X.K=K):ab9 X (.builtin "min") (λ xs H Q=>∃ a ns,xs=[.ref a]/\SqL K H a (ns.map V.int)/\ns≠[]/\∀ m∈ns,(∀ y∈ns,m<=y)->Q (.int m) H):=by
 subst hK
 intro a2 s σ H xs us Q I r h
 obtain⟨a,ns,rfl,hS,Y,q⟩:=h
 obtain⟨u,rfl,ru⟩:=ai4 r
 cases ru
 obtain⟨its,G,Z,hz⟩:=I.list hS
 have hl:=G.length
 rw[au]at hl
 have a1:0<ns.length:=iP.mpr Y
 refine call_min_walk (dw Z.isList ?_)
 have F:a<s.heap.objs.size:=by obtain⟨o,_,e,_⟩:=Z;exact ay e
 have W:=j7 (prog:=X.prog) (w:=X.w) (A:=X.A.in1) (I.ok.hd hc) s.heap.objs.size a (av F) its.toArray
 let val:Nat->Int:=λ i=>ns.getD i 0
 have C:∀ i v,its.toArray[i]?=some v->∃ t,v=Value.int (val i) t:=λ i v e=>by
  obtain⟨z,t,e1,e2⟩:=as7 G (i:=i) (v:=v) (by rw[cG]at e;exact e)
  refine⟨t,?_⟩
  rw[e2]
  show Value.int z t=Value.int (ns.getD i 0) t
  rw[be,e1]
  rfl
 refine⟨_,_,_,_,_,_,_,rfl,W,⟨⟨_,aA _ rfl,rfl,rfl⟩,?_⟩,λ b hb=>?_,by rw[ar];omega,kr val C,λ v h' tk hP k=>?_⟩
 ·obtain⟨o,e,r⟩:=Z.isList
  exact⟨o,ai _ e,r⟩
 ·show b<(s.heap.push _).objs.size
  rw[ci]
  rcases aE.mp hb with z|z
  ·rw[z];exact eP _
  ·have J:b=a:=by simpa using z
   rw[J];exact fU F
 ·obtain⟨z,t,e1,e2⟩:=as7 G (i:=dG (λ i j=>decide (val i<val j)) (its.toArray.size - 1)) (v:=v) (by rw[cG]at hP;exact hP)
  subst e2
  have hv:val (dG (λ i j=>decide (val i<val j)) (its.toArray.size - 1))=z:=by
   show ns.getD _ 0=z
   rw[be,e1]
   rfl
  refine⟨.int z,H,I.kept (h':=h') (t':=tk) λ b o q=>k b o ?_ (ai _ q),⟨t,rfl⟩,q z (aM e1) λ y hy=>?_⟩
  ·intro z
   have J:b=s.heap.objs.size:=by simpa using z
   exact absurd (ay q) (by rw[J];exact bw _)
  ·obtain⟨j,hj,e3⟩:=cQ.mp hy
   have:=qD val (its.toArray.size - 1) j (by simp only[ar];omega)
   rw[hv]at this
   have e4:val j=y:=by
    show ns.getD j 0=y
    rw[be,ag hj]
    exact e3
   omega
section
variable {X:Cx}
end
section
variable {n:Nat} {s:Nat->Nat->Int}
end
def bV6 (cells:List (Str×Addr))(P:Addr)(name q:Str)(params:bj)(body:List Stmt)(scope:Scope)(pos:Pos)(i:Nat):TS:=λ D σ H =>
 ∃ ps:Array Value,H P=some (.tbl ps)/\iJ ps.toList /\
  (cW pos ps.toList=none->∀ c' f doc pm ctv,H c'=none->H f=none->c'≠f ->
   D.nx (σ.set i (some (.ref f))) (upd (upd (upd H P (.tbl (ps++#[cD pos.line,cD pos.col,.ref c']))) c' (z0 c' q)) f (ar5 f (cA name q params body scope (ad1 cells scope.names []) .none .none doc pm none (.ref c') ctv)))) /\
  (∀ cv,cW pos ps.toList=some cv->∃ c',cv=.ref c'/\∀ f doc pm ctv,H f=none->D.nx (σ.set i (some (.ref f))) (upd H f (ar5 f (cA name q params body scope (ad1 cells scope.names []) .none .none doc pm none (.ref c') ctv))))
theorem bJ3 {X:Cx}{c P:Addr}{name q:Str}{i:Nat}{params:bj}{body:List Stmt}{scope:Scope}{pos:Pos}(hN:X.N.Nodup)(hi:X.N[i]?=some name)(hx:Loc X.env.scope name)(Y:X.env.code=.ref c)(C:bX X.base c P)(hB:BM X.mg X.base)
  (c0:lamCheck scope X.env.scope=true) (hq:j9 X.env name name=q:=by rfl) (c3:params.defaults=[]:=by rfl) (d2:params.kw_defaults=[]:=by rfl) (ha:annTrees params none X.env=[]:=by rfl) (hf:X.fn name=true\/X.env.scope.names.lookup name=some .local:=by first|exact .inl rfl|exact .inr rfl) :
  PS X (.FunctionDef name params body [] none [] scope none name pos) (bV6 X.env.cells P name q params body scope pos i):=by
 intro a1 s σ H D I h
 have c1:∀ y∈scope.names,y.2=.free->X.env.kindOf y.1=some .cell\/X.env.kindOf y.1=some .free:=λ y hy e=>by
  have z:=aX.mp c0 y hy
  have z':X.env.scope.names.lookup y.1=some .cell\/X.env.scope.names.lookup y.1=some .free:=by simpa [e]using z
  exact z'
 obtain⟨ps,hP,ht,a4,a7⟩:=h
 refine PySem.W.nestDef_K c3 d2 ha ?_
 rw[hq]
 have fin:∀ {H2:Hp} {f:Addr} {s2:af},Inv X a1 σ H2 s2->D.nx (σ.set i (some (.ref f))) H2->wpAny (model X.prog X.w) X.A (gm X.env name (.ref f)) (λ _ s3=>SP X a1 D .next s3) X.xe s2:=λ {H2 f s2} I2 q2=>ar0 (v:=.ref f) I2 hN hi hx rfl (λ s3 I3=>⟨_,H2,I3,q2⟩) hf
 have a6:=zS (scope:=scope) (env:=X.env) λ y hy e=>I.ok.has y.1 (c1 y hy e)
 have oP:s.heap.get? P=some (em ps):=I.hok P _ hP
 have a2:s.heap.Ns bv X.mg:=I.mod.glob.keeps I.bk
 have hC:bX s.heap c P:=C.keeps I.bk
 have d0:bv≠P:=λ q=>by
  obtain⟨o,es,ep,e,d,_⟩:=a2
  rw[q,oP]at e;cases e;cases d
 have hb:s.heap.BuiltinsAt X.mg P:=by
  obtain⟨bm,ob,b1,b2,b3,b4,b5,b6⟩:=hB
  refine⟨bm,ob,b1,b2,λ q=>?_,λ q=>?_,I.bk _ _ b3,b4,b5,b6⟩
  ·obtain⟨o,es,ep,e,d,_⟩:=I.mod.glob
   rw[q,e]at b3;cases b3;rw[d]at b6;cases b6
  ·have e:=I.bk _ _ b3
   rw[q,oP]at e;cases e;cases b4
 cases qq:cW pos ps.toList with
 | none =>
  refine PySem.W.makeFunction_K (mg:=X.mg) a6 I.ok.glob a2 Y hC oP ht qq d0 hb λ F G J h' tk hx hge hlt a5 a3=>?_
  have a9:P<s.heap.objs.size:=ay oP
  have d1:F≠P:=cN (ao a9 hge)
  have c4:h'.objs.size≠P:=cN (eh (ao a9 hge) hlt)
  have b7:F≠h'.objs.size:=av hlt
  have hsz:s.heap.objs.size<=h'.objs.size:=am hge (dF hlt)
  have nP:∀ b,H b=none->b≠P:=λ b n z=>by rw[z,hP]at n;cases n
  have lt:∀ b o,H b=some o->b≠F/\b≠h'.objs.size:=λ b o e=>⟨av (ao (I.hok.lt e) hge),av (ao (I.hok.lt e) hsz)⟩
  have b0:∀ b o,s.heap.get? b=some o->b≠F/\b≠h'.objs.size:=λ b o e=>⟨av (ao (ay e) hge),av (ao (ay e) hsz)⟩
  have keep:∀ b o,b≠P->s.heap.get? b=some o->(h'.push (PySem.W.fnMade name q params body scope (ad1 X.env.cells scope.names []) J ((X.mg "__name__").getD .none) F G)).get? b=some o:=λ b o n e=>ai _ (hx b o n e)
  have Z:∀ b,b≠P->b≠F->b≠h'.objs.size->∀ o1 o2 o3,upd (upd (upd H P o1) F o2) h'.objs.size o3 b=H b:=λ b n1 n2 n3 o1 o2 o3=>by rw[za n3,za n2,za n1]
  refine fin (H2:=upd (upd (upd H P (.tbl (ps++#[cD pos.line,cD pos.col,.ref F]))) F (z0 F q)) h'.objs.size (ar5 h'.objs.size (cA name q params body scope (ad1 X.env.cells scope.names []) .none .none J ((X.mg "__name__").getD .none) none (.ref F) G))) (I.un (t':=tk) ⟨λ b o e n _ _=>keep b o (nP b n) e,λ b o e n _ _=>⟨o.slots,keep b o (nP b n) e⟩,λ b o e n _=>?fr,λ b o e _=>?th,λ b xs e=>?tu,λ b o u e=>?fz,λ b qs e=>?tb⟩ ?ok) (a4 qq F h'.objs.size J _ G (I.hok.fresh hge) (I.hok.fresh hsz) b7)
  case fr=>rw[Z b (nP b n) (b0 b o e).1 (b0 b o e).2];exact n
  case th =>
   by_cases z:b=P
   ·subst z;exact⟨_,ai _ a3⟩
   ·exact⟨o,keep b o z e⟩
  case tu=>rw[Z b (λ z=>by rw[z,hP]at e;cases e) (lt b _ e).1 (lt b _ e).2];exact e
  case fz=>rw[Z b (λ z=>by rw[z,hP]at e;cases e) (lt b _ e).1 (lt b _ e).2];exact e
  case tb =>
   by_cases z:b=P
   ·subst z
    rw[hP]at e;cases e
    exact⟨#[cD pos.line,cD pos.col,.ref F],by rw[za (bL c4),za (bL d1),zb]⟩
   ·exact⟨#[],by rw[Z b z (lt b _ e).1 (lt b _ e).2,e];simp⟩
  case ok =>
   intro b o e
   by_cases zf:b=h'.objs.size
   ·subst zf
    rw[zb]at e;cases e
    exact as6 (aA _ rfl)
   ·rw[za zf]at e
    by_cases zc:b=F
    ·subst zc
     rw[zb]at e;cases e
     obtain⟨c2,oc,vs,t,e1,e2,e3⟩:=a5
     exact aF9 ⟨c2,oc,vs,t,e1,ai _ e2,e3⟩
    ·rw[za zc]at e
     by_cases zp:b=P
     ·subst zp
      rw[zb]at e;cases e
      exact ai _ a3
     ·rw[za zp]at e
      have a8:∀ d u,H d=some u->(∀ ps,u≠.tbl ps)->upd (upd (upd H P (.tbl (ps++#[cD pos.line,cD pos.col,.ref F]))) F (z0 F q)) h'.objs.size (ar5 h'.objs.size (cA name q params body scope (ad1 X.env.cells scope.names []) .none .none J ((X.mg "__name__").getD .none) none (.ref F) G)) d=some u:=λ d u e nt=>by
       rw[Z d (λ z=>by rw[z,hP]at e;cases e;exact nt _ rfl) (lt d _ e).1 (lt d _ e).2];exact e
      refine(I.hok b o e).stay (λ d u hd q=>keep d u ?_ q) (λ d q=>a8 d _ q λ _=>by nofun) λ d xs q=>a8 d _ q λ _=>by nofun
      rintro rfl
      rcases hd with hd|hd
      ·exact zp hd.symm
      ·rw[hP]at hd;cases hd
 | some cv =>
  obtain⟨F,rfl,b8⟩:=a7 cv qq
  refine PySem.W.makeFunction_hit (mg:=X.mg) a6 I.ok.glob a2 Y hC oP ht qq hb λ G J h' tk hk hsz=>?_
  exact fin (I.laid (t':=tk) (λ b o e=>ai _ (hk b o e)) hsz (as6 (aA _ rfl))) (b8 h'.objs.size J _ G (I.hok.fresh hsz))
def al0 (H:Hp)(f:Addr)(name qual:Str)(params:bj)(body:List Stmt)(scope:Scope)(fr:List Str)(cap:List V)(clos:List (Str×Addr)):Prop :=
 ∃ doc pm c' ctv,H f=some (ar5 f (cA name qual params body scope clos .none .none doc pm none (.ref c') ctv))/\H c'=some (z0 c' qual)/\Cells clos H /\
  (∀ x y c,clos.lookup x=some c->clos.lookup y=some c->x=y)/\(∀ x,scope.names.lookup x=some .free->∃ c,clos.lookup x=some c)/\Cap clos H fr cap
theorem aX9 {cells:List (Str×Addr)}{N:List Str}{kd:Str->Option bM}{σ:St}{Z H2:Hp}{f:Addr}{q:Str}{name:Str}{params:bj}{body:List Stmt}{scope:Scope}{fr:List Str}{cap:List V}(G:Caught cells N kd σ Z H2)
  (hf:∃ C pm F h,Z f=some (ar5 f (cA name q params body scope (ad1 cells scope.names []) .none .none C pm none (.ref F) h))/\Z F=some (z0 F q))
  (J:∀ x,scope.names.lookup x=some .free->∃ c,cells.lookup x=some c)
  (Y:∀(i:Nat) (x:Str) (v:V),fr[i]?=some x->cap[i]?=some v->scope.names.lookup x=some .free/\(kd x=some .cell\/kd x=some .free)/\∃ j:Nat,N[j]?=some x/\σ[j]?=some (some v)) :
  al0 H2 f name q params body scope fr cap (ad1 cells scope.names []):=by
 obtain⟨C,pm,F,h,h1,h2⟩:=hf
 have up:∀ b o,Z b=some o->H2 b=some o:=λ b o e=>by
  rw[G.ne b λ z=>by rw[G.free b z]at e;cases e];exact e
 have sub:∀ x c,(ad1 cells scope.names []).lookup x=some c->cells.lookup x=some c:=λ x c e=>by
  rcases clOf_mem (ax e)with z|z
  ·exact z
  ·exact absurd z (by simp)
 refine⟨C,pm,F,h,up _ _ h1,up _ _ h2,λ x c e=>G.cells x c (sub x c e),λ x y c e1 e2=>G.inj x y c (sub x c e1) (sub y c e2),λ x k=>?_,λ i x v e1 e2=>?_⟩
 ·obtain⟨c,e⟩:=J x k
  exact⟨c,zZ e (ax k)⟩
 ·obtain⟨k,kk,j,e3,e4⟩:=Y i x v e1 e2
  obtain⟨c,e⟩:=J x k
  obtain⟨o,u,e5,e6,e7⟩:=G.cap j x v c e3 e4 kk e
  exact⟨c,o,u,zZ e (ax k),e5,e6,e7⟩
theorem al0.fn {K:ae}{H:Hp}{f:Addr}{name qual:Str}{params:bj}{body:List Stmt}{scope:Scope}{fr:List Str}{cap:List V}{y:List (Str×Addr)}(h:al0 H f name qual params body scope fr cap y):bm7 K H f:=by
 obtain⟨F,J,G,z,C,_⟩:=h
 exact .inl ⟨_,C⟩
end L2
end
noncomputable section
namespace L2
open PySem PySem.Spec PyProof.Rows Builtin
section
variable {P:aI} {w:World} {A:aZ} {E:Value->af->Prop} {s:af}
theorem aB4 {it t:Addr}{i:Nat}{l:Array Value}{v:Value}{Q:Value->af->Prop}(y:s.heap.IsTupleIter it t i)(F:s.heap.IsTuple t l)(hv:l[i]?=some v)
  (k:∀ h',h'.IsTupleIter it t (i+1)->cg it s.heap h'->Q v { s with heap:=h' }):wpAny (model P w) A (bT (.ref it)) Q E s:=by
 obtain⟨o,e1,e2,h⟩:=id y
 obtain⟨p,p1,_,n,C⟩:=F
 unfold bT
 refine ab (b9 (name:=cr "__next__") y.typeIs cF (cb cF y.typeIs fx ?_ (fe _)))
 show wpAny _ _ (field (.ref it) 0 >>= _) _ _ _
 refine ab (cz e1 h (x:=.ref t) rfl ?_)
 show wpAny _ _ (if(Value.ref t==Value.none)=true then _ else _) _ _ _
 rw[if_neg (show ¬((Value.ref t==Value.none)=true)from λ z=>nomatch z)]
 show wpAny _ _ (field (.ref it) 1 >>= _) _ _ _
 refine ab (cz e1 h (x:=.int i 0) rfl ?_)
 show wpAny _ _ (iI (.ref t) >>= _) _ _ _
 refine ab (ee p1 C ?_)
 simp only[bD,hv]
 refine ab (iz e1 h (by simp) (aq ⟨v,rfl,aq (k _ ⟨_,du _ e1 (Obj.isFreed_of_fields (jf h _)),(Obj.cls_mapFields ..).trans e2,by rw[jf h];simp[cD]⟩ (fi ..))⟩))
theorem aJ8 {it t:Addr}{i:Nat}{l:Array Value}{Q:Value->af->Prop}(C:A.handled=none)(h:s.heap.IsTupleIter it t i)(G:s.heap.IsTuple t l)(hv:l[i]?=none)
  (k:∀ h' e,iw it s.heap h'->(∃ o,h'.get? e=some o/\o.cls=.type "StopIteration")->E (.ref e) { s with heap:=h' }):wpAny (model P w) A (bT (.ref it)) Q E s:=by
 obtain⟨o,e1,e2,y⟩:=id h
 obtain⟨p,p1,_,n,F⟩:=G
 unfold bT
 refine ab (b9 (name:=cr "__next__") h.typeIs cF (cb cF h.typeIs fx ?_ (fe _)))
 show wpAny _ _ (field (.ref it) 0 >>= _) _ _ _
 refine ab (cz e1 y (x:=.ref t) rfl ?_)
 show wpAny _ _ (if(Value.ref t==Value.none)=true then _ else _) _ _ _
 rw[if_neg (show ¬((Value.ref t==Value.none)=true)from λ z=>nomatch z)]
 show wpAny _ _ (field (.ref it) 1 >>= _) _ _ _
 refine ab (cz e1 y (x:=.int i 0) rfl ?_)
 show wpAny _ _ (iI (.ref t) >>= _) _ _ _
 refine ab (ee p1 F ?_)
 simp only[bD,hv]
 refine ab (jd (ab (iz e1 y (by simp) ?_)))
 show wpAny _ _ (newExc (.type "StopIteration") [] >>= _) _ _ (_:af)
 refine ab ?_
 simp only[newExc,newTuple]
 refine ab (bf ?_ (by size_fits))
 refine ab (m:=fK _ _) (jO (a:=Value.none) (by first|rfl|(simp only[fK];rfl)) (bf ?_ (by size_fits)))
 simp only[raiseNew]
 refine ab (wpAny_handled ?_)
 first|rw[show A.in1.handled=none from C]|rw[C]
 exact ab (aq (wpAny_throw (k _ _ (((fi ..).extBut.push _).push _) ⟨_,aA _ rfl,rfl⟩)))
end
structure Dw (P:aI)(w:World)(K:ae)(J:It)(it:Addr)(tn:Nat->Heap->Prop):Prop where
 obj:∀ i h,tn i h->∃ o,h.get? it=some o/\∀ v,o.data≠.cell v
 keep:∀ i h h',tn i h->(∀ o,h.get? it=some o->h'.get? it=some o)->tn i h'
 item:∀(X:Cx),X.prog=P->X.w=w->X.K=K->∀(A:aZ) (i:Nat) (pins:List (Addr×Obj)) (s:af) (σ:St) (H:Hp) (Q:Value->af->Prop) (E:Value->af->Prop),Inv X pins σ H s->tn i s.heap->J.go i H ->
  (∀ x u h' tk,RelV x u->J.yld i H x H->tn (i+1) h'->cg it s.heap h'->Q u { s with heap:=h',toks:=tk })->wpAny (model P w) A (bT (.ref it)) Q E s
 done:∀(X:Cx),X.prog=P->X.w=w->X.K=K->∀(A:aZ) (i:Nat) (pins:List (Addr×Obj)) (s:af) (σ:St) (H:Hp) (Q:Value->af->Prop) (E:Value->af->Prop),A.handled=none->Inv X pins σ H s->tn i s.heap->J.stop i H ->
  (∀ h' e,iw it s.heap h'->(∃ o,h'.get? e=some o/\o.cls=.type "StopIteration")->E (.ref e) { s with heap:=h' })->wpAny (model P w) A (bT (.ref it)) Q E s
theorem br0 {P:aI}{w:World}{K:ae}(a it:Addr):Dw P w K (Itl K a) it (λ i h=>h.IsListIter it a i) where
 obj:=λ i h st=>by
  obtain⟨o,e,c,d⟩:=st
  exact⟨o,e,λ v z=>by rw[d]at z;cases z⟩
 keep:=λ i h h' st k=>st.at k
 item:=by
  intro X C hw G A i y s σ H Q E I st hg k
  subst C hw G
  obtain⟨Z,x,hq,hx⟩:=hg
  obtain⟨its,F,p,hz⟩:=I.list hq
  obtain⟨u,hu,ru⟩:=F.get hx
  exact wpAny_nextOf_list_item st p.isList (x:=u) (by simpa using hu) λ h' J Y=>k x u h' s.toks ru ⟨rfl,λ ys hy=>by rw[I.list_inj hy hq];exact hx⟩ J Y
 done:=by
  intro X C hw G A i y s σ H Q E hA I st hg k
  subst C hw G
  obtain⟨Z,hq,hx⟩:=hg
  obtain⟨its,F,p,hz⟩:=I.list hq
  have hl:=F.length
  exact wpAny_nextOf_list_end hA st p.isList (by simp;omega) k
theorem bC4 {P:aI}{w:World}{K:ae}(a it:Addr):Dw P w K (Itt K a) it (λ i h=>h.IsTupleIter it a i) where
 obj:=λ i h st=>by
  obtain⟨o,e,c,d⟩:=st
  exact⟨o,e,λ v z=>by rw[d]at z;cases z⟩
 keep:=λ i h h' st k=>st.at k
 item:=by
  intro X C hw G A i y s σ H Q E I st hg k
  subst C hw G
  obtain⟨Z,x,hq,hx⟩:=hg
  obtain⟨its,F,p,hz⟩:=I.tuple hq
  obtain⟨u,hu,ru⟩:=F.get hx
  exact aB4 st (show s.heap.IsTuple a its.toArray from p) (v:=u) (by simpa using hu) λ h' J Y=>k x u h' s.toks ru ⟨rfl,λ ys hy=>by rw[I.tuple_inj hy hq];exact hx⟩ J Y
 done:=by
  intro X C hw G A i y s σ H Q E hA I st hg k
  subst C hw G
  obtain⟨Z,hq,hx⟩:=hg
  obtain⟨its,F,p,hz⟩:=I.tuple hq
  have hl:=F.length
  exact aJ8 hA st (show s.heap.IsTuple a its.toArray from p) (by simp;omega) k
theorem by6 {P:aI}{w:World}{K:ae}(x:Str)(t:Tok)(it:Addr):Dw P w K (Its x) it (λ i h=>h.IsStrIter it (iA x) x t i) where
 obj:=λ i h st=>by
  obtain⟨o,e,c,d⟩:=st
  exact⟨o,e,λ v z=>by rw[d]at z;cases z⟩
 keep:=λ i h h' st k=>by
  obtain⟨o,ho,r⟩:=st
  exact⟨o,k _ ho,r⟩
 item:=by
  intro X G hw Y A i F s σ H Q E I st hg k
  subst G hw Y
  have y:i<x.cps.size:=hg
  have hc:x.cps[i]?=some x.cps[i]:=by simp[y]
  unfold iA at st k
  cases ha:x.cps.all (·<128)
  ·rw[ha]at st k
   exact wpAny_nextOf_wide_item st hc λ h' C J=>k (.str ⟨#[x.cps[i]]⟩) _ h' (s.toks+1) ⟨_,rfl⟩ ⟨rfl,_,hc,rfl⟩ C J
  ·rw[ha]at st k
   exact wpAny_nextOf_ascii_item st hc λ h' C J=>k (.str ⟨#[x.cps[i]]⟩) _ h' (s.toks+1) ⟨_,rfl⟩ ⟨rfl,_,hc,rfl⟩ C J
 done:=by
  intro X G hw Y A i F s σ H Q E Z I st hg k
  subst G hw Y
  have y:x.cps.size<=i:=hg
  have hc:x.cps[i]?=none:=by simp[y]
  unfold iA at st
  cases ha:x.cps.all (·<128)
  ·rw[ha]at st
   exact wpAny_nextOf_wide_end Z st hc k
  ·rw[ha]at st
   exact wpAny_nextOf_ascii_end Z st hc k
theorem Inv.turnedL {X:Cx}{h:List (Addr×Obj)}{σ:St}{H:Hp}{s:af}{h':Heap}{t':Nat}{C:List Addr}(I:Inv X h σ H s)(f:∀ b∈C,FpOk X h H b)(k:∀ b o,b ∉ C->s.heap.get? b=some o->h'.get? b=some o):Inv X h σ H { s with heap:=h',toks:=t' }:=by
 have y:∀ b u,H b=some u->b ∉ C:=λ b u e z=>by rw[(f b z).1]at e;cases e
 refine I.step (g':=s.gens) (d':=s.drawn) (ch:=C) (λ b hb=>?_) (λ b o _ _ hc e _=>k b o hc e) (λ b o _ _ hc e _=>⟨o.slots,k b o hc e⟩) (λ _ _ _ _ n=>n)
  (λ b o hc e=>⟨o,k b o hc e⟩) (λ _ _ e=>e) (λ _ _ _ e=>e) (λ b ps e=>⟨#[],by rw[e];simp⟩) (λ m Z=>?_) (λ b u e=>?_) I.bare
 ·obtain⟨f0,J,f2,F,G,f5⟩:=f b hb
  exact⟨F,J,G,f5⟩
 ·obtain⟨o,es,Y,ho,r⟩:=Z
  exact⟨o,es,Y,k _ o (λ z=>(f _ z).2.1 rfl) ho,r⟩
 ·refine(I.hok b u e).stay (λ c v hc q=>k c v ?_ q) (λ _ q=>q) λ _ _ q=>q
  rcases hc with z|z
  ·rw[z];exact y b u e
  ·exact y c _ z
section
variable {X:Cx} {pins:List (Addr×Obj)} {σ:St} {H:Hp} {s:af} {A:aZ} {E:Value->af->Prop} {J1 J2:It} {t1 t2:Nat->Heap->Prop} {z ti to i1 i2:Addr} {n:Nat} {a b:Value}
end
def Mkr (v:Value)(o:Obj)(h:Heap):Prop:=∀(P:aI) (w:World) (A:aZ) (E:Value->af->Prop) (s:af) (Q:Value->af->Prop),(∀ b u,h.get? b=some u->s.heap.get? b=some u) ->
 Q (.ref s.heap.objs.size) { s with heap:=s.heap.push o }->wpAny (model P w) A (j1 v) Q E s
def Sr (K:ae)(H:Hp)(x:V)(J:It):Prop:=(∃ a,x=.ref a/\(∃ xs,SqL K H a xs)/\J=Itl K a)\/(∃ a,x=.ref a/\(∃ xs,SqT K H a xs)/\J=Itt K a)\/∃ y,x=.str y/\J=Its y
theorem Sr.mk {X:Cx}{z:List (Addr×Obj)}{σ:St}{H:Hp}{s:af}{x:V}{u:Value}{J:It}(I:Inv X z σ H s)(h:Sr X.K H x J)(r:RelV x u) :
  ∃(o:Obj) (C:Addr->Nat->Heap->Prop),o.isFreed=false/\Mkr u o s.heap/\(∀ it,Dw X.prog X.w X.K J it (C it))/\∀ it h',h'.get? it=some o->C it 0 h':=by
 rcases h with⟨a,e,⟨G,hq⟩,e'⟩|⟨a,e,⟨G,hq⟩,e'⟩|⟨y,e,e'⟩
 ·subst e e';cases r
  obtain⟨its,F,p,hz⟩:=I.list hq
  exact⟨_,λ it i h=>h.IsListIter it a i,rfl,λ P w A E s' Q hk q=>dw (p.isList.at λ o e=>hk _ _ e) q,λ it=>br0 a it,λ it h' e=>⟨_,e,rfl,rfl⟩⟩
 ·subst e e';cases r
  obtain⟨its,F,p,hz⟩:=I.tuple hq
  exact⟨_,λ it i h=>h.IsTupleIter it a i,rfl,λ P w A E s' Q hk q=>i8 (Heap.IsTuple.at (show s.heap.IsTuple a its.toArray from p) λ o e=>hk _ _ e) q,λ it=>bC4 a it,λ it h' e=>⟨_,e,rfl,rfl⟩⟩
 ·subst e e';obtain⟨t,rfl⟩:=r
  exact⟨_,λ it i h=>h.IsStrIter it (iA y) y t i,rfl,λ P w A E s' Q hk q=>wpAny_pyIter_strU q,λ it=>by6 y t it,λ it h' e=>⟨_,e,rfl,rfl⟩⟩
end L2
end
noncomputable section
namespace L2
open PySem PySem.Spec PyProof.Rows Builtin
open AutoSeq1 (wpAny_loadPart')
section
variable {X:Cx} {pins:List (Addr×Obj)} {σ:St} {H:Hp} {s:af} {A:aZ} {E:Value->af->Prop} {J1:It} {t1:Nat->Heap->Prop} {z it:Addr} {n:Nat} {old:Value}
end
end L2
end
noncomputable section
namespace L2
open PySem PySem.Spec PyProof.Rows Builtin
open AutoSeq1 (wpAny_loadPart')
theorem aE1:fillsNumberSlot (.type "tuple") "mul"=pure false :=
 PySem.fillsNumberSlot_seq (id := "tuple.__mul__") (r:=some (.builtin "tuple.__rmul__")) et.lookup (by decide +kernel) gv.lookup (by decide +kernel)
theorem aL3:seqRepeat? (.type "tuple")=pure (some (.builtin "tuple.__mul__")):=by
 unfold seqRepeat?
 rw[jI (T := "tuple") (name := "__mul__") (id := "tuple.__mul__") et.lookup (by decide +kernel),jI (T := "tuple") (name := "__rmul__") (id := "tuple.__rmul__") gv.lookup (by decide +kernel)]
 rfl
theorem az9 (a:Int)(t:Tok)(l:Addr)(o:Obj)(y:Array Value)(n:Nat)(z:Option Addr)(sl:Array (Option Value)) :
  Meets (jY.«int.__rmul__» ⟨[.int a t,.ref l],[]⟩) (λ _ R s=>s.heap.get? l=some { cls:=.type "tuple",dict:=z,data:=.seq y n,slots:=sl }/\R (.ok (.ret Value.notImplemented)) s) :=
 .of_wp λ prog w A R s h=>by obtain⟨C,g,d,tk,os⟩:=s;obtain⟨hl,h⟩:=h;wp_walk;exact⟨_,rfl,h⟩
noncomputable def am5 {α:Type}:Nat->List α->List α
 | 0,_=>[]
 | n+1,a=>a++am5 n a
theorem aH5 {α:Type}(l:List α):∀(n:Nat) (h:Array α),(aH n l.toArray).foldl (·++·) h=h++(am5 n l).toArray
 | 0,h=>by simp[am5]
 | n+1,h=>by rw[bI,di,aH5 l n];simp[am5]
theorem ay9 {α:Type}(a:Array α):∀(n:Nat) (h:Array α),((aH n a).foldl (·++·) h).size=h.size+a.size*n
 | 0,h=>by simp
 | n+1,h=>by rw[bI,di,ay9 a n,Array.size_append,Nat.mul_succ];omega
def TmA (items:Array Value)(k:Int)(l:Addr)(R:Value->af->Prop)(s:af):Prop :=
 ((items.isEmpty||k==1)=true->R (.ref l) s)/\((items.isEmpty||k==1)=false->R (.ref s.heap.objs.size) { s with heap:=s.heap.push { cls:=.type "tuple",data:=.seq ((aH k.toNat items).foldl (·++·) #[]) } })
theorem aR4 {P:aI}{w:World}{A:aZ}{E:Value->af->Prop}{s:af}{l:Addr}{y:Array Value}{k:Int}{t:Tok}{Q:Value->af->Prop}(h0:0<=k)(J:k<=1000000)(hz:y.size*k.toNat<=1000000)(hl:IsTup s.heap l y)
  (h:TmA y k l Q s):wpAny (model P w) A (call (.builtin "tuple.__mul__") [.ref l,.int k t]) Q E s:=by
 refine cb et hl.typeIs PySem.F.entry_tuple_mul ?_ (PySem.F.args_tuple_mul_2 _ _)
 obtain⟨G,q2⟩:=h
 show wpAny _ _ (asIndex (.int k t) >>= _) _ _ _
 refine ab (aq ?_)
 rw[if_neg (by rw[decide_eq_false (by omega),decide_eq_false (by omega)];decide)]
 show wpAny _ _ (dC (.ref l) >>= _) _ _ _
 refine ab (iW hl ?_)
 have C:(y.size:Int)*k<=1000000:=by
  have:((y.size*k.toNat:Nat):Int)<=1000000:=by omega
  rw[jS,fj h0]at this
  exact this
 cases hb:(y.isEmpty||k==1)with
 | true =>
  rw[if_pos rfl]
  unfold ka
  refine ab (ab (gJ hl.typeIs (aq ?_)))
  rw[if_pos (by decide)]
  exact ab (jd (aq ⟨_,rfl,G hb⟩))
 | false =>
  rw[if_neg aJ]
  have z:y.isEmpty=false:=by
   rw[eW]at hb;exact hb.1
  have q:=q2 hb
  show wpAny _ _ (if(decide (k<=0)||y.isEmpty)=true then _ else _) _ _ _
  by_cases hk:k<=0
  ·rw[if_pos (by rw[decide_eq_true hk];rfl)]
   have:k.toNat=0:=by omega
   rw[this]at q
   exact ab (bf (aq ⟨_,rfl,q⟩) (by size_fits))
  ·rw[if_neg (by rw[decide_eq_false hk,z];decide)]
   show wpAny _ _ (if(y.size:Int)*k > (2^63 - 1) / 8 then _ else _) _ _ _
   rw[if_neg (by omega)]
   show wpAny _ _ (if fL ((y.size:Int)*k)=true then _ else _) _ _ _
   rw[if_neg (by unfold fL;rw[decide_eq_false (by unfold aF;omega)];decide)]
   refine ab (bf (aq ⟨_,rfl,q⟩) ?_)
   show Array.size _<=aF
   rw[ay9]
   show 0+_<=_
   rw[gR]
   have h3:y.size*k.toNat<=aF:=am hz (by decide)
   exact h3
theorem aH0 {α:Type}:∀ n,am5 n ([]:List α)=[]
 | 0=>rfl
 | n+1=>by simp[am5,aH0 n]
theorem bg0 {α:Type}(l:List α):am5 1 l=l:=by simp[am5]
theorem aE6 {α:Type}(l:List α):∀ n,(am5 n l).length=l.length*n
 | 0=>by simp[am5]
 | n+1=>by simp[am5,aE6 l n,jP];omega
theorem Vals.repT {h:List V}{us:List Value}(r:Vals h us):∀ n,Vals (am5 n h) (am5 n us)
 | 0=>.nil
 | n+1=>r.append (Vals.repT r n)
def bR9 (K:ae):R2:=λ x y H Q=>∃ a xs n,x=.ref a/\y=.int n/\SqT K H a xs/\(0<=n/\n<=1000000/\xs.length*n.toNat<=1000000)/\∀ p H',ad8 H H'->SqT K H' p (am5 n.toNat xs)->(H' p=some (.tup (am5 n.toNat xs))\/(p=a/\am5 n.toNat xs=xs))->Q (.ref p) H'
theorem br5 {X:Cx}{K:ae}(hK:X.K=K):OpR X (cj .Mult) (bR9 K):=by
 subst hK
 intro F s σ H x y v u Q I rx ry h
 obtain⟨a,C,n,rfl,rfl,ha,⟨h0,Z,hz⟩,q⟩:=h
 cases rx
 obtain⟨t,rfl⟩:=ry
 obtain⟨its,r1,p1,a1⟩:=I.tuple ha
 have z:=r1.length
 obtain⟨⟨cls,J,data,sl⟩,ho,hc,Y,hd⟩:=id p1
 simp only at hc hd
 subst hc hd
 refine fM (T := "tuple") (U := "int") (by decide) p1.typeIs (λ s'=>gM s' n t) aE1 jc dZ aL3 iM.lookup
  (gN dZ (gM s n t) iO (ir _ _) (az9 n t a default its.toArray Y J sl) ⟨ho,⟨rfl,p1.typeIs,aR4 h0 Z (by rw[ar,<-z];exact hz) p1 ⟨λ hb=>?_,λ hb=>?_⟩⟩⟩)
 ·have ex:am5 n.toNat C=C:=by
   rw[bP]at hb
   rcases hb with hb|hb
   ·have G:its=[]:=by simpa using hb
    have hx:C=[]:=r1.nil_iff.mp G
    rw[hx,aH0]
   ·have:n=1:=by simpa using hb
    subst this
    exact bg0 _
  exact⟨.ref a,H,I,rfl,q a H (ad8.refl H) (by rw[ex];exact ha) (.inr ⟨rfl,ex⟩)⟩
 ·have hp:=I.hok.fresh (ak s.heap.objs.size)
  refine⟨.ref s.heap.objs.size,_,I.laid (t':=s.toks) (o:=.tup (am5 n.toNat C)) (λ b ob q=>ai _ q) (ak _) ?_,rfl,q _ _ ((ad8.refl H).new hp) (SqT.of zb) (.inl zb)⟩
  refine⟨by rw[aE6];exact am hz (by decide),am5 n.toNat its,r1.repT _,?_⟩
  rw[show(am5 n.toNat its).toArray=(aH n.toNat its.toArray).foldl (·++·) #[]by rw[aH5];simp]
  exact⟨_,aA _ rfl,rfl,_,rfl⟩
end L2
end
noncomputable section
namespace L2
open PySem PySem.Spec PyProof.Rows
section
variable {κ:Type} [DecidableEq κ]
noncomputable def au5 (kvs:List (κ×V))(k:κ):Option V:=(kvs.find? λ kv=>decide (kv.1=k)).map (·.2)
noncomputable def ao0 (kvs:List (κ×V))(k:κ)(v:V):List (κ×V) :=
 if(kvs.any λ kv=>decide (kv.1=k))=true then kvs.map (λ kv=>if kv.1=k then(kv.1,v)else kv)else kvs++[(k,v)]
theorem ai6 {p:κ×V}{r:List (κ×V)}{k:κ}(e:p.1=k):au5 (p::r) k=some p.2:=by simp[au5,cM,e]
theorem ai5 {p:κ×V}{r:List (κ×V)}{k:κ}(e:¬ p.1=k):au5 (p::r) k=au5 r k:=by simp[au5,cM,e]
theorem ar1 (k:κ):∀ h:List (κ×V),(h.any λ kv=>decide (kv.1=k))=(au5 h k).isSome
 | []=>rfl
 | p::r=>by
  rw[gh]
  by_cases e:p.1=k
  ·simp only[ai6 e,decide_eq_true e,Bool.true_or,fJ]
  ·rw[ai5 e,decide_eq_false e,kq];exact ar1 k r
theorem qE (h:List (κ×V))(k:κ)(v:V):(ao0 h k v).length<=h.length+1:=by
 unfold ao0
 split
 ·rw[au];omega
 ·rw[aB,aW,dX];omega
theorem aJ7.isSome_eq {o:Option V}{u:Option Value}(r:aJ7 o u):o.isSome=u.isSome:=by
 cases o with
 | none=>cases u with
  | none=>rfl
  | some _=>exact(show False from r).elim
 | some _=>cases u with
  | none=>exact(show False from r).elim
  | some _=>rfl
theorem aJ7.getD {o:Option V}{u:Option Value}{d:V}{d':Value}(r:aJ7 o u)(h:RelV d d'):RelV (o.getD d) (u.getD d'):=by
 cases o with
 | none=>cases u with
  | none=>exact h
  | some _=>exact(show False from r).elim
 | some _=>cases u with
  | none=>exact(show False from r).elim
  | some _=>exact r
theorem KV.val {y:List (κ×V)}{vs:List (κ×Value)}(r:KV y vs)(k:κ):aJ7 (au5 y k) (iK vs k):=by
 unfold KV at r
 induction r with
 | nil=>exact True.intro
 | @cons p q ps qs h t ih =>
  obtain⟨C,F⟩:=h
  by_cases e:p.1=k
  ·have e':q.1=k:=C.symm.trans e
   have b:iK (q::qs) k=some q.2:=by simp[iK,cM,e']
   rw[ai6 e,b];exact F
  ·have e':¬ q.1=k:=λ z=>e (C.trans z)
   have b:iK (q::qs) k=iK qs k:=by simp[iK,cM,e']
   rw[ai5 e,b];exact ih
theorem KV.any {y:List (κ×V)}{vs:List (κ×Value)}(r:KV y vs)(k:κ):(y.any λ kv=>decide (kv.1=k))=vs.any λ kv=>decide (kv.1=k):=by
 unfold KV at r
 induction r with
 | nil=>rfl
 | cons h t ih=>rw[gh,gh,ih,h.1]
theorem KV.repl {C:List (κ×V)}{vs:List (κ×Value)}(r:KV C vs)(k:κ){y:V}{u:Value}(G:RelV y u) :
  KV (C.map λ kv=>if kv.1=k then(kv.1,y)else kv) (vs.map λ kv=>if kv.1=k then(kv.1,u)else kv):=by
 unfold KV at r ⊢
 induction r with
 | nil=>exact .nil
 | @cons p q ps qs h t ih =>
  rw[aO,aO]
  refine .cons ?_ ih
  obtain⟨F,J⟩:=h
  by_cases e:p.1=k
  ·rw[if_pos e,if_pos (F.symm.trans e)];exact⟨F,G⟩
  ·rw[if_neg e,if_neg (λ z=>e (F.trans z))];exact⟨F,J⟩
theorem KV.put {h:List (κ×V)}{vs:List (κ×Value)}(r:KV h vs)(k:κ){y:V}{u:Value}(z:RelV y u):KV (ao0 h k y) (stored vs k u):=by
 unfold ao0 stored
 rw[r.any k]
 by_cases e:(vs.any λ kv=>decide (kv.1=k))=true
 ·rw[if_pos e,if_pos e];exact r.repl k z
 ·rw[if_neg e,if_neg e];exact kM r ⟨rfl,z⟩
theorem KV.length {h:List (κ×V)}{vs:List (κ×Value)}(r:KV h vs):h.length=vs.length:=dN r
end
theorem aA6 {P:aI}{w:World}{k:Key}{u:Value}(r:RelV (kV k) u):(zx P w).is k u=true:=by
 cases k with
 | inl i=>obtain⟨t,e⟩:=(show ∃ t,u=Value.int i t from r);subst e;exact aD7 P w i t
 | inr x=>obtain⟨t,e⟩:=(show ∃ t,u=Value.str x t from r);subst e;exact aE3 P w x t
theorem av1 {P:aI}{w:World}:∀ {y:List Key} {us:List Value},Vals (y.map kV) us->ItemsAre (zx P w) y us
 | [],_,r=>by rw[bZ]at r;cases r;exact .nil
 | k::y,_,r=>by
  rw[aO]at r
  cases r with
  | cons h t=>exact .cons (aA6 h) (av1 t)
abbrev KT (H:Hp):List (List Key×V)->List (List Key×Addr×Value)->Prop:=fB λ p q=>p.1=q.1/\H q.2.1=some (.tup (p.1.map kV))/\RelV p.2 q.2.2
theorem KT.val {H:Hp}{y:List (List Key×V)}{C:List (List Key×Addr×Value)}(r:KT H y C)(k:List Key):aJ7 (au5 y k) ((atKey C k).map (·.2)):=by
 induction r with
 | nil=>exact True.intro
 | @cons p q ps qs h t ih =>
  obtain⟨F,_,G⟩:=h
  by_cases e:p.1=k
  ·have e':q.1=k:=F.symm.trans e
   have b:atKey (q::qs) k=some q.2:=by simp[atKey,cM,e']
   rw[ai6 e,b];exact G
  ·have e':¬ q.1=k:=λ z=>e (F.trans z)
   have b:atKey (q::qs) k=atKey qs k:=by simp[atKey,cM,e']
   rw[ai5 e,b];exact ih
theorem KT.repl {H:Hp}{C:List (List Key×V)}{G:List (List Key×Addr×Value)}(r:KT H C G)(k:List Key){y:V}{u:Value}(Y:RelV y u) :
  KT H (C.map λ kv=>if kv.1=k then(kv.1,y)else kv) (G.map (putAt k u)):=by
 induction r with
 | nil=>exact .nil
 | @cons p q ps qs h t ih =>
  rw[aO,aO]
  refine .cons ?_ ih
  obtain⟨F,J,h3⟩:=h
  unfold putAt
  by_cases e:p.1=k
  ·rw[if_pos e,if_pos (F.symm.trans e)];exact⟨F,J,Y⟩
  ·rw[if_neg e,if_neg (λ z=>e (F.trans z))];exact⟨F,J,h3⟩
theorem KT.put {H:Hp}{h:List (List Key×V)}{z:List (List Key×Addr×Value)}(r:KT H h z)(k:List Key){b:Addr}{y:V}{u:Value}(hb:H b=some (.tup (k.map kV)))(C:RelV y u) :
  KT H (ao0 h k y) (storedH z k b u):=by
 have e:(h.any λ kv=>decide (kv.1=k))=(atKey z k).isSome:=by
  rw[ar1,(r.val k).isSome_eq,fW]
 unfold ao0 storedH
 rw[e]
 by_cases q:(atKey z k).isSome=true
 ·rw[if_pos q,if_pos q];exact r.repl k C
 ·rw[if_neg q,if_neg q];exact kM r ⟨rfl,hb,C⟩
theorem KT.keeps {H H':Hp}{h:List (List Key×V)}{y:List (List Key×Addr×Value)}(r:KT H h y)(C:∀ b ys,H b=some (.tup ys)->H' b=some (.tup ys)):KT H' h y :=
 fB.mapP r λ _ _ z=>⟨z.1,C _ _ z.2.1,z.2.2⟩
section
variable {P:aI} {w:World} {H:Hp} {h:Heap} {a:Addr}
theorem bL4 {u:HO}(ok:HOk P w H h)(e:Rd H a u):ab2 P w H h a u:=e.ok ok
theorem aA5 {y:List (Key×V)}(ok:HOk P w H h)(e:Rd H a (.dK y)):y.length<=aF/\(a==cx)=false/\∃ vs,KV y vs/\h.DictOf (zx P w) a vs :=
 show ab2 P w H h a (.dK y)from bL4 ok e
theorem bF7 {y:List (Key×V)}(ok:HOk P w H h)(e:H a=some (.dK y)):y.length<=aF/\(a==cx)=false/\∃ vs,KV y vs/\h.DictOf (zx P w) a vs:=aA5 ok (.inl e)
theorem ap2 {y:List Key}(ok:HOk P w H h)(e:H a=some (.tup (y.map kV))):(fy (zx P w)).is h y a:=by
 obtain⟨_,its,r,o,z,C,n,h3⟩:=(show ab2 P w H h a (.tup (y.map kV))from ok a _ e)
 exact⟨o,its.toArray,n,z,C,h3,by simpa using av1 r⟩
theorem aE0 {C:List (List Key×V)}(ok:HOk P w H h)(e:Rd H a (.dT C)):C.length<=aF/\(a==cx)=false /\
  ∃ F,KT H C F/\h.DictOfH (fy (zx P w)) a F:=by
 obtain⟨z,y,F,r,o,es,Y,J,Z,h3,h4,G⟩:=(show ab2 P w H h a (.dT C)from bL4 ok e)
 refine⟨z,y,F,r,o,es,Y,J,Z,h3,h4,λ x hx=>?_,G⟩
 have all:∀ {l:List (List Key×V)} {m:List (List Key×Addr×Value)},KT H l m->∀ x∈m,(fy (zx P w)).is h x.1 x.2.1:=by
  intro l m q
  induction q with
  | nil=>intro x hx;exact nomatch hx
  | @cons p q ps qs hq t ih =>
   intro x hx
   rcases aE.mp hx with e|hx
   ·subst e
    exact ap2 ok (by rw[<-hq.1];exact hq.2.1)
   ·exact ih x hx
 exact all r x hx
theorem bA0 {y:List (List Key×V)}(ok:HOk P w H h)(e:H a=some (.dT y)):y.length<=aF/\(a==cx)=false /\
  ∃ z,KT H y z/\h.DictOfH (fy (zx P w)) a z:=aE0 ok (.inl e)
end
def aq2 (H:Hp)(a:Addr)(y:V)(r:Option V):Prop :=
 (∃ kvs k,Rd H a (.dK kvs)/\y=kV k/\r=au5 kvs k)\/∃ kvs k b,Rd H a (.dT kvs)/\y=.ref b/\H b=some (.tup (k.map kV))/\r=au5 kvs k
def bo4 (H:Hp)(a:Addr)(y v:V)(H':Hp):Prop :=
 (∃ kvs k,H a=some (.dK kvs)/\y=kV k/\kvs.length<aF/\H'=upd H a (.dK (ao0 kvs k v))) \/
 ∃ kvs k b,H a=some (.dT kvs)/\y=.ref b/\H b=some (.tup (k.map kV))/\kvs.length<aF/\H'=upd H a (.dT (ao0 kvs k v))
theorem aq2.k {H:Hp}{a:Addr}{h:List (Key×V)}{k:Key}(e:H a=some (.dK h)):aq2 H a (kV k) (au5 h k):=.inl ⟨h,k,.inl e,rfl,rfl⟩
theorem aq2.t {H:Hp}{a b:Addr}{h:List (List Key×V)}{k:List Key}(e:H a=some (.dT h))(eb:H b=some (.tup (k.map kV))):aq2 H a (.ref b) (au5 h k):=.inr ⟨h,k,b,.inl e,rfl,eb,rfl⟩
theorem bo4.k {H:Hp}{a:Addr}{h:List (Key×V)}{k:Key}{v:V}(e:H a=some (.dK h))(hl:h.length<aF):bo4 H a (kV k) v (upd H a (.dK (ao0 h k v))):=.inl ⟨h,k,e,rfl,hl,rfl⟩
theorem bo4.t {H:Hp}{a b:Addr}{h:List (List Key×V)}{k:List Key}{v:V}(e:H a=some (.dT h))(eb:H b=some (.tup (k.map kV)))(hl:h.length<aF) :
  bo4 H a (.ref b) v (upd H a (.dT (ao0 h k v))):=.inr ⟨h,k,b,e,rfl,eb,hl,rfl⟩
section
variable {X:Cx} {pins:List (Addr×Obj)} {σ:St} {H:Hp} {s:af} {a:Addr} {y v:V} {u r:Value} {o:Option V} {A:aZ} {E:Value->af->Prop}
theorem Inv.big (I:Inv X pins σ H s):cx<s.heap.objs.size:=by
 have h:bv<s.heap.objs.size:=(I.mod.glob.keeps I.bk).lt
 exact eh (by decide) h
theorem au8 {Q:Value->af->Prop}(hu:A.units+1<cLine)(I:Inv X pins σ H s)(g:aq2 H a y (some v))(ry:RelV y u)(h:∀ w' s',Inv X pins σ H s'->RelV v w'->Q w' s') :
  wpAny (model X.prog X.w) A (gH (.ref a) u) Q E s:=by
 rcases g with⟨J,k,e,Y,l⟩|⟨J,k,b,e,Y,eb,l⟩
 ·subst Y
  obtain⟨z,hd,vs,F,G⟩:=aA5 I.hok e
  obtain⟨w',hw,C⟩:=aJ7.some_of (v:=v) (o:=iK vs k) (by rw[l];exact F.val k)
  exact wpAny_getItem_of (aA6 ry) G.mapOf hw (h w' _ (I.tok _) C)
 ·subst Y
  cases(show u=Value.ref b from ry)
  obtain⟨z,hd,xs,F,G⟩:=aE0 I.hok e
  obtain⟨w',hw,C⟩:=aJ7.some_of (v:=v) (o:=(atKey xs k).map (·.2)) (by rw[l];exact F.val k)
  obtain⟨p,hp,Z⟩:=gQ.mp hw
  refine wpAny_getItem_heap (c8 hu) (ap2 I.hok eb) G hp ?_
  rw[Z]
  exact h w' _ (I.tok _) C
theorem bW0 {Q:Value->af->Prop}(Z:A.units+1<cLine)(I:Inv X pins σ H s)(g:aq2 H a y o)(Y:RelV y u)(h:∀ s',Inv X pins σ H s'->Q (.bool o.isSome) s') :
  wpAny (model X.prog X.w) A (cw .In u (.ref a)) Q E s:=by
 rcases g with⟨G,k,e,J,l⟩|⟨G,k,b,e,J,eb,l⟩
 ·subst J
  obtain⟨z,hd,vs,C,F⟩:=aA5 I.hok e
  refine wpAny_in_of (aA6 Y) hd F.mapOf ?_
  rw[<-(C.val k).isSome_eq,<-l]
  exact h _ (I.tok _)
 ·subst J
  cases(show u=Value.ref b from Y)
  obtain⟨z,hd,xs,C,F⟩:=aE0 I.hok e
  refine wpAny_in_heap (c8 Z) (ap2 I.hok eb) hd F ?_
  have q:=(C.val k).isSome_eq
  rw[fW]at q
  rw[<-q,<-l]
  exact h _ (I.tok _)
theorem aQ2 {Q:Value->af->Prop}(Z:A.units+1<cLine)(I:Inv X pins σ H s)(g:aq2 H a y o)(Y:RelV y u)(h:∀ s',Inv X pins σ H s'->Q (.bool (!o.isSome)) s') :
  wpAny (model X.prog X.w) A (cw .NotIn u (.ref a)) Q E s:=by
 rcases g with⟨G,k,e,J,l⟩|⟨G,k,b,e,J,eb,l⟩
 ·subst J
  obtain⟨z,hd,vs,C,F⟩:=aA5 I.hok e
  refine wpAny_notIn_of (aA6 Y) hd F.mapOf ?_
  rw[<-(C.val k).isSome_eq,<-l]
  exact h _ (I.tok _)
 ·subst J
  cases(show u=Value.ref b from Y)
  obtain⟨z,hd,xs,C,F⟩:=aE0 I.hok e
  refine wpAny_notIn_heap (c8 Z) (ap2 I.hok eb) hd F ?_
  have q:=(C.val k).isSome_eq
  rw[fW]at q
  rw[<-q,<-l]
  exact h _ (I.tok _)
theorem aE2 {h':Heap}{t':Nat}{ob:HO}(I:Inv X pins σ H s)(mu:Mut (H a))(hs:cg a s.heap h')(h:∃ q,h'.get? a=some q)(new:ab2 X.prog X.w (upd H a ob) h' a ob) :
  Inv X pins σ (upd H a ob) { s with heap:=h',toks:=t' } :=
 I.write (x:=a) (e:=a) mu (.inl rfl) (λ b q hb z=>(hs.2 b hb).trans z) h new
theorem bi8 {P:aI}{w:World}{H':Hp}{h':Heap}{h:List (Key×V)}{vs:List (Key×Value)}(z:h.length<=aF)(hd:(a==cx)=false)(y:KV h vs)(C:h'.DictOf (zx P w) a vs) :
  ab2 P w H' h' a (.dK h):=⟨z,hd,vs,y,C⟩
theorem av7 {H':Hp}{Q:Unit->af->Prop}(hu:A.units+1<cLine)(I:Inv X pins σ H s)(g:bo4 H a y v H')(ry:RelV y u)(rv:RelV v r)(h:∀ s',Inv X pins σ H' s'->Q () s') :
  wpAny (model X.prog X.w) A (setItem (.ref a) u r) Q E s:=by
 rcases g with⟨F,k,e,Z,l,J⟩|⟨F,k,b,e,Z,eb,l,J⟩
 ·subst Z J
  obtain⟨z,hd,vs,C,Y⟩:=bF7 I.hok e
  have hz:vs.length<=aF:=by rw[<-C.length];exact z
  have hl:(ao0 F k v).length<=aF:=by have:=qE F k v;omega
  refine wpAny_setItem_pairs (hsz:=hz) (aA6 ry) Y λ h' G hs=>h _ ?_
  have he:∃ q,h'.get? a=some q:=let⟨q,_,_,hq,_⟩:=G;⟨q,hq⟩
  exact aE2 I (by rw[e];exact True.intro) hs he (bi8 hl hd (C.put k rv) G)
 ·subst Z J
  cases(show u=Value.ref b from ry)
  obtain⟨z,hd,xs,C,Y⟩:=bA0 I.hok e
  have hz:xs.length<=aF:=by rw[<-dN C];exact z
  have hl:(ao0 F k v).length<=aF:=by have:=qE F k v;omega
  refine wpAny_setItem_heap (hsz:=hz) (c8 hu) (ap2 I.hok eb) Y λ h' G hs=>h _ ?_
  obtain⟨q,es,ep,hq,h2,h3,h4,_,h5⟩:=G
  refine aE2 I (by rw[e];exact True.intro) hs ⟨q,hq⟩ ⟨hl,hd,_,(C.put k eb rv).keeps λ c ys ec=>?_,q,es,ep,hq,h2,h3,h4,h5⟩
  rw[za (bs2 ec e (λ z=>nomatch z))]
  exact ec
end
section
variable {X:Cx} {pins:List (Addr×Obj)} {σ:St} {H:Hp} {s:af} {a:Addr} {kvs:List (Key×V)} {k:Key} {u:Value} {A:aZ} {E:Value->af->Prop}
end
theorem al9 {X:Cx}{h:List (Addr×Obj)}{σ:St}{H:Hp}{s:af}{a:Addr}{y:V}{o:Option V}(I:Inv X h σ H s)(g:aq2 H a y o):s.TypeIs (.ref a) "dict":=by
 rcases g with⟨C,k,e,_,_⟩|⟨C,k,b,e,_,_,_⟩
 ·obtain⟨_,_,vs,_,z⟩:=aA5 I.hok e
  exact z.typeIs
 ·obtain⟨_,_,F,_,z⟩:=aE0 I.hok e
  exact z.typeIs
section
variable {X:Cx} {o i e value:Expr} {pos pos' tpos:Pos} {td ty tv:TE}
end
theorem aG6 {P:aI}{w:World}{H:Hp}(h:Heap)(hb:cx<h.objs.size):ab2 P w H (h.push { cls:=.type "dict",data:=.dict #[] }) h.objs.size (.dK []) :=
 ⟨cO _,beq_eq_false_iff_ne.mpr (bL (av hb)),[],.nil,Heap.DictOf.new h⟩
theorem be0 {P:aI}{w:World}{H:Hp}(h:Heap)(hb:cx<h.objs.size):ab2 P w H (h.push { cls:=.type "dict",data:=.dict #[] }) h.objs.size (.dT []) :=
 ⟨cO _,beq_eq_false_iff_ne.mpr (bL (av hb)),[],.nil,_,#[],0,aA _ rfl,⟨rfl,rfl,rfl⟩,rfl,rfl,List.nodup_nil⟩
def bh6:TE:=λ _ H Q=>∀ p,H p=none->Q (.ref p) (upd H p (.dK []))
def bj0:TE:=λ _ H Q=>∀ p,H p=none->Q (.ref p) (upd H p (.dT []))
section
variable {X:Cx} {pos:Pos}
theorem bf6:PE X (.Dict [] [] pos) bh6:=λ y s σ H Q I h =>
 jJ ⟨.ref s.heap.objs.size,_,I.laid (a:=s.heap.objs.size) (o:=.dK []) (t':=s.toks) (λ _ _ q=>ai _ q) (ak _) (aG6 s.heap I.big),rfl,h _ (I.hok.fresh (ak _))⟩
theorem ba5:PE X (.Dict [] [] pos) bj0:=λ y s σ H Q I h =>
 jJ ⟨.ref s.heap.objs.size,_,I.laid (a:=s.heap.objs.size) (o:=.dT []) (t':=s.toks) (λ _ _ q=>ai _ q) (ak _) (be0 s.heap I.big),rfl,h _ (I.hok.fresh (ak _))⟩
end
noncomputable def aR3:List (TE×TE)->St->Hp->(List (V×V)->Hp->Prop)->Prop
 | [],_,H,Q=>Q [] H
 | (tk,tv)::r,σ,H,Q=>tk σ H λ x H1=>tv σ H1 λ y H2=>aR3 r σ H2 λ ps H3=>Q ((x,y)::ps) H3
abbrev VV:List (V×V)->List (Value×Value)->Prop:=fB λ p q=>RelV p.1 q.1/\RelV p.2 q.2
def PPs (X:Cx)(pos:Pos)(keys:List (Option Expr))(values:List Expr)(trs:List (TE×TE)):Prop :=
 ∀(pins:List (Addr×Obj)) (s:af) (σ:St) (H:Hp) (Q:List (V×V)->Hp->Prop),Inv X pins σ H s->aR3 trs σ H Q ->
  wpAny (model X.prog X.w) X.A (evalPairs (pairTrees keys values X.env pos)) (λ vs s'=>∃ ps H',Inv X pins σ H' s'/\VV ps vs/\Q ps H') X.xe s
theorem bx7 {X:Cx}{pos:Pos}:PPs X pos [] [] []:=λ y s σ H Q I h=>pairTrees_nil_walk ⟨[],H,I,.nil,h⟩
theorem be7 {X:Cx}{pos:Pos}{k v:Expr}{G:List (Option Expr)}{vs:List Expr}{tk J:TE}{C:List (TE×TE)}(hk:PE X k tk)(hv:PE X v J)(hr:PPs X pos G vs C) :
  PPs X pos (some k::G) (v::vs) ((tk,J)::C):=λ z s σ H Q I h =>
 pairTrees_cons_walk (thn (hk z s σ H _ I h) λ u s1 ⟨x,H1,I1,rx,q1⟩=>thn (hv z s1 σ H1 _ I1 q1) λ w2 s2 ⟨y,H2,I2,ry,q2⟩ =>
  thn (hr z s2 σ H2 _ I2 q2) λ ws s3 ⟨ps,Y,Z,F,q3⟩=>⟨(x,y)::ps,Y,Z,.cons ⟨rx,ry⟩ F,q3⟩)
noncomputable def aw5 (kvs more:List (Key×V)):List (Key×V):=more.foldl (λ acc kv=>ao0 acc kv.1 kv.2) kvs
theorem KV.merge:∀ {y:List (Key×V)} {C:List (Key×Value)} {z:List (Key×V)} {vs:List (Key×Value)},KV y C->KV z vs->KV (aw5 z y) (merged vs C):=by
 intro y C z vs r
 unfold KV at r
 induction r generalizing z vs with
 | nil=>intro q;exact q
 | @cons p q ps qs h t ih =>
  intro r0
  have e:KV (ao0 z p.1 p.2) (stored vs q.1 q.2):=by
   have:=r0.put p.1 h.2
   rw[<-h.1];exact this
  exact ih e
theorem af1:∀(y h:List (Key×V)),(aw5 h y).length<=h.length+y.length
 | [],h=>by show h.length<=h.length+0;omega
 | p::r,h=>by
  have z:=af1 r (ao0 h p.1 p.2)
  have C:=qE h p.1 p.2
  show(aw5 (ao0 h p.1 p.2) r).length<=_
  rw[aW];omega
theorem ao1 {P:aI}{w:World}:∀ {y:List (Key×V)} {ws:List (Value×Value)},VV (y.map λ kv=>(kV kv.1,kv.2)) ws->∃ z,Carries (zx P w) ws z/\KV y z
 | [],_,r=>by rw[bZ]at r;cases r;exact⟨[],True.intro,.nil⟩
 | p::y,_,r=>by
  rw[aO]at r
  cases r with
  | @cons a b as bs h t =>
   obtain⟨z,c,q⟩:=ao1 (P:=P) (w:=w) t
   obtain⟨F,C⟩:=b
   exact⟨(p.1,C)::z,⟨aA6 h.1,rfl,c⟩,.cons ⟨rfl,h.2⟩ q⟩
def bH2 (trs:List (TE×TE)):TE:=λ σ H Q=>∀ p,H p=none->aR3 trs σ (upd H p (.dK [])) λ ps H2=>H2 p=some (.dK [])/\∃ kvs:List (Key×V),ps=kvs.map (λ kv=>(kV kv.1,kv.2))/\kvs.length<=15/\Q (.ref p) (upd H2 p (.dK (aw5 [] kvs)))
theorem br7 {X:Cx}{pos:Pos}{keys:List (Option Expr)}{y:List Expr}{F:List (TE×TE)}(h:PPs X pos keys y F)(Y:keys.all (·.isSome)=true)(hl:keys.length=y.length)(h0:keys≠[])
  (a1:keys.length<=15):PE X (.Dict keys y pos) (bH2 F):=by
 intro J s σ H Q I q
 have hn:=I.hok.fresh (ak s.heap.objs.size)
 have I1:=I.laid (a:=s.heap.objs.size) (o:=.dK []) (h':=s.heap.push { cls:=.type "dict",data:=.dict #[] }) (t':=s.toks) (λ _ _ q=>ai _ q) (ak _) (aG6 s.heap I.big)
 refine wpAny_Dict_walk (knd:=zx X.prog X.w) Y hl h0 a1 (thn (h J _ σ _ _ I1 (q _ hn)) λ ws s2 ⟨ps,H2,I2,Z,e,C,ep,lk,q2⟩=>?_)
 subst ep
 obtain⟨rs,c,rk⟩:=ao1 (P:=X.prog) (w:=X.w) Z
 obtain⟨z,hd,a2,r0,dd⟩:=bF7 I2.hok e
 cases r0
 refine⟨rs,c,dd,λ h' G hs=>⟨.ref s.heap.objs.size,_,?_,rfl,q2⟩⟩
 have hz:(aw5 [] C).length<=aF:=by
  have h1:=af1 C []
  rw[dX]at h1
  rw[cZ];omega
 have he:∃ q,h'.get? s.heap.objs.size=some q:=let⟨q,_,_,hq,_⟩:=G;⟨q,hq⟩
 exact aE2 I2 (by rw[e];exact True.intro) hs he (bi8 hz hd (rk.merge .nil) G)
structure M2 (X:Cx)(o:Expr)(m:Str)(apos:Pos)(e f:Expr)(cpos:Pos):Prop where
 base:dq o m X.env (eval o X.env)=eval o X.env
 few:((dL cpos (bn [e,f] X.env)).all (λ x=>!x.1)&&(backToKw cpos (jN [] X.env)).all (λ x=>x.1.isSome)
  && decide (([e,f]:List Expr).length+([]:List iG).length+(if([]:List iG).isEmpty then 0 else 1)<30))=true
 line:(apos.endLine==cpos.line)=true
 trees:dL cpos (bn [e,f] X.env)=[(false,eval e X.env),(false,eval f X.env)]
def IsD (H:Hp)(a:Addr):Prop:=(∃ kvs,Rd H a (.dK kvs))\/∃ kvs,Rd H a (.dT kvs)
theorem bC7 {X:Cx}{h:List (Addr×Obj)}{σ:St}{H:Hp}{s:af}{a:Addr}(I:Inv X h σ H s)(d:IsD H a) :
  s.TypeIs (.ref a) "dict"/\(∀ b,Value.ref a=.ref b->∃ ob,s.heap.get? b=some ob/\ob.dict=none)/\(a==cx)=false:=by
 rcases d with⟨C,e⟩|⟨C,e⟩
 ·obtain⟨_,hd,vs,_,y⟩:=aA5 I.hok e
  refine⟨y.typeIs,λ b q=>?_,hd⟩
  cases q
  obtain⟨ob,_,_,z,F,_⟩:=y
  exact⟨ob,z,F.2.1⟩
 ·obtain⟨_,hd,G,_,y⟩:=aE0 I.hok e
  refine⟨y.typeIs,λ b q=>?_,hd⟩
  cases q
  obtain⟨ob,_,_,z,F,_⟩:=y
  exact⟨ob,z,F.2.1⟩
section
variable {X:Cx} {pins:List (Addr×Obj)} {σ:St} {H:Hp} {s:af} {a:Addr} {y d:V} {u r:Value} {o:Option V} {A:aZ} {E:Value->af->Prop}
theorem bE2 {Q:Value->af->Prop}(hu:A.units+1<cLine)(I:Inv X pins σ H s)(g:aq2 H a y o)(Z:RelV y u)(Y:RelV d r)(h:∀ w' s',Inv X pins σ H s'->RelV (o.getD d) w'->Q w' s') :
  wpAny (model X.prog X.w) A (call (.builtin "dict.get") [.ref a,u,r]) Q E s:=by
 rcases g with⟨G,k,e,J,l⟩|⟨G,k,b,e,J,eb,l⟩
 ·subst J
  obtain⟨z,hd,vs,C,F⟩:=aA5 I.hok e
  refine jv eJ F.typeIs gS (gx _ _ _) (meets_dict_get_default (zx X.prog X.w) a (aA6 Z) hd r) ⟨_,F.mapOf,h _ _ (I.tok _) ?_⟩
  rw[l]
  exact(C.val k).getD Y
 ·subst J
  cases(show u=Value.ref b from Z)
  obtain⟨z,hd,xs,C,F⟩:=aE0 I.hok e
  refine jv eJ F.typeIs gS (gx _ _ _) (meetsH_dict_get_default (fy (zx X.prog X.w)) a b hd r) ⟨c8 hu,k,xs,ap2 I.hok eb,F,h _ _ (I.tok _) ?_⟩
  rw[l]
  exact(C.val k).getD Y
end
def bA1 (td ty tx:TE):TE:=λ σ H Q=>td σ H λ x H1=>∃ a,x=.ref a/\IsD H1 a/\ty σ H1 λ y H2=>tx σ H2 λ z H3=>∃ o,aq2 H3 a y o/\Q (o.getD z) H3
section
variable {X:Cx} {o e f:Expr} {apos cpos:Pos} {td ty tx:TE}
theorem ba6 (hu:X.A.units+1<cLine)(ho:PE X o td)(Z:PE X e ty)(hf:PE X f tx)(m:M2 X o "get" apos e f cpos):PE X (.Call (.Attribute o "get" apos) [e,f] [] cpos) (bA1 td ty tx):=by
 intro C s σ H Q I h
 refine wpAny_Call_method m.base m.few m.line gy eJ PySem.F.type_dict_get (thn (ho C s σ H _ I h) λ u s1 ⟨x,H1,J,rx,a,ex,d,q1⟩=>?_)
 subst ex
 obtain rfl:u=Value.ref a:=rx
 obtain⟨t1,t2,_⟩:=bC7 J d
 refine⟨t1,t2,?_⟩
 rw[m.trees]
 refine d8 rfl (iq (fF (thn (Z C s1 σ H1 _ J q1) λ iv s2 ⟨y,H2,I2,ry,q2⟩ =>
  fF (thn (hf C s2 σ H2 _ I2 q2) λ fv s3 ⟨z,Y,I3,rz,ov,g,q3⟩=>jo ?_))))
 exact bE2 hu I3 g ry rz λ w' s4 I4 G=>⟨_,Y,I4,G,q3⟩
end
def DAt (h:Heap)(d:Addr)(es:Array gz)(ep:Nat):Prop:=∃ o,h.get? d=some o/\o.ExactDict/\o.data=.dict es ep
section
variable {P:aI} {w:World} {A:aZ} {E:Value->af->Prop} {s:af}
theorem at7 (d : Addr) (hd : (d == sysModules) = false) : MeetsIn P w (Builtin.«dict.items» ⟨[.ref d], []⟩) (λ _ R s => s.TypeIs (.ref d) "dict" /\
      R (.ok (.ret (.ref s.heap.objs.size))) { s with heap := s.heap.push { cls := .type "dict_items", data := .fields #[.ref d] } }) :=
  .of_wp λ A R s h => by
    unfold jY.«dict.items» Builtin.Dict.noArgs
    refine ab (ab (wpAny_notOrdered_dict h.1 ?_))
    show wpAny _ _ (pure d) _ _ s
    refine aq ?_
    show wpAny _ _ (hZ d >>= _) _ _ s
    unfold hZ
    rw[if_neg (by rw[hd]; exact aJ)]
    exact ab (aq (ab (bf (aq ⟨_, rfl, h.2⟩))))
theorem aB3 {v d:Addr}{es:Array gz}{z:Nat}{Q:Value->af->Prop}(hv:s.heap.IsItemsView v d)(Y:DAt s.heap d es z)
  (G:Q (.ref s.heap.objs.size) { s with heap:=s.heap.push { cls:=.type "dict_itemiterator",data:=.fields #[.none,.bool false,.ref d,.int 0 0,.int es.size 0,.int z 0,.none,.none] } }) :
  wpAny (model P w) A (j1 (.ref v)) Q E s:=by
 obtain⟨ov,Z,a2,J⟩:=id hv
 obtain⟨o,C,b2,y⟩:=Y
 refine jw hv.typeIs gT (cb gT hv.typeIs F.entry_dict_items_iter ?_ (F.args_dict_items_iter_1 _))
 unfold jY.«dict_items.__iter__» kj
 refine ab (aq (ab (ab (cz Z J (x:=.ref d) rfl (aq (ab ?_))))))
 unfold jK
 refine ab (fX C y (ab (g9 C y ?_)))
 have h:dk "dict_itemiterator"=true:=by decide
 simp only[h,if_true]
 refine bf (aq ⟨_,rfl, "dict_itemiterator",_,⟨_,aA _ rfl,rfl⟩,bF.lookup,?_⟩)
  (by simp only[sizeOk,dQ,ar,aB,aW,dX,cZ];omega)
 simpa [cD,dQ]using G
theorem aA9 {it d:Addr}{i z:Nat}{es:Array gz}{x:gz}{ok F:Value}{Q:Option Value->af->Prop}(y:dE s.heap it d i es.size z ok F)
  (hm:DAt s.heap d es z) (hx:es[i]?=some x)
  (hQ:∀ h',iY h' it d (i+1) es.size z x.key x.val s.heap.objs.size->h'.get? s.heap.objs.size=some { cls:=.type "tuple",data:=.seq #[x.key,x.val] } ->
   (∀ b o,b≠it->s.heap.get? b=some o->h'.get? b=some o)->Q (some (.ref s.heap.objs.size)) { s with heap:=h' }) :
  wpAny (model P w) A (f8 (.ref it)) Q E s:=by
 obtain⟨h,g,G,tk,os⟩:=s
 obtain⟨od,b1,b2,b3⟩:=hm
 have hT:kt ⟨h,g,G,tk,os⟩ (.ref it) "dict_itemiterator":=⟨_,y,rfl⟩
 unfold f8
 refine ab (wpAny_attempt (b9 (name:=cr "__next__") hT bF
  (cb bF hT eQ ?_ (eI _))))
 refine ab (aq (ab (ab ?_)))
 first|refine ab (cq hT (aq ?_))|refine ab (cK hT (aq ?_))
 refine ab (wpAny_fieldsOf y rfl ?_)
 have J:dk "dict_itemiterator"=true:=by decide
 simp only[J,if_true]
 show wpAny _ _ (if(Value.ref d==Value.none)=true then _ else _) _ _ _
 rw[if_neg (show ¬((Value.ref d==Value.none)=true)from aJ)]
 refine ab (aq (ab (fX b1 b3 ?_)))
 rw[if_neg (by simp)]
 refine ab (aq (ab (g9 b1 b3 ?_)))
 rw[if_neg (by simp)]
 refine aq ?_
 simp only[show ¬((i:Int)<0)from by omega,if_false,bD,hx]
 refine ab ?_
 first|refine ab (cq hT (aq ?_))|refine ab (cK hT (aq ?_))
 refine ab (eA hT ?_)
 show wpAny _ _ (setField (.ref it) 3 (cD ((i:Int)+1)) >>= _) _ _ ⟨h,g,G,tk,os⟩
 refine ab (c9 y (by simp) λ C e1 s1=>?_)
 replace s1:cg it h C:=s1
 replace e1:dE C it d (i+1) es.size z ok F:=by
  have e:((i+1:Nat):Int)=(i:Int)+1:=by omega
  unfold dE;rw[e];simpa [cD]using e1
 have Z:kt ⟨C,g,G,tk,os⟩ (.ref it) "dict_itemiterator":=⟨_,e1,rfl⟩
 refine ab (cS (ab (eA Z (ab (eA Z ?_)))))
 show wpAny _ _ (eB (.ref it) 6 x.key x.val) _ _ ⟨C,g,G,tk,os⟩
 unfold eB
 refine ab (wpAny_newTuple ?_)
 have e2:dE (C.push { cls:=.type "tuple",data:=.seq #[x.key,x.val] }) it d (i+1) es.size z ok F:=ai _ e1
 generalize q2:C.push { cls:=.type "tuple",data:=.seq #[x.key,x.val] }=h2 at e2
 have z1:C.objs.size=h.objs.size:=s1.1
 have hil:it<h.objs.size:=ay y
 have t2:h2.get? h.objs.size=some { cls:=.type "tuple",data:=.seq #[x.key,x.val] }:=by rw[<-q2,<-z1];exact aA _ rfl
 have k2:∀ b o,b≠it->h.get? b=some o->h2.get? b=some o:=λ b o hb e=>by rw[<-q2];exact ai _ (s1.extBut b o hb e)
 show wpAny _ _ (dR (.ref it) >>= _) _ _ ⟨h2,g,G,tk,os⟩
 rw[z1]
 clear q2 e1 s1 Z z1 C
 unfold dR
 refine ab (ab (cz e2 rfl (x:=.none) rfl (aq ?_)))
 simp only[if_true]
 refine ab (cz e2 rfl (x:=ok) rfl (ab (cz e2 rfl (x:=F) rfl ?_)))
 refine ab (c9 e2 (by simp) λ h3 e3 s3=>?_)
 replace s3:cg it h2 h3:=s3
 replace e3:dE h3 it d (i+1) es.size z x.key F:=e3
 refine ab (c9 e3 (by simp) λ h4 e4 s4=>?_)
 replace s4:cg it h3 h4:=s4
 replace e4:dE h4 it d (i+1) es.size z x.key x.val:=e4
 refine ab (c9 e4 (by simp) λ h5 e5 s5=>?_)
 replace s5:cg it h4 h5:=s5
 replace e5:iY h5 it d (i+1) es.size z x.key x.val h.objs.size:=e5
 refine ab (c9 e5 (by simp) λ Y e6 s6=>?_)
 replace s6:cg it h5 Y:=s6
 replace e6:iY Y it d (i+1) es.size z x.key x.val h.objs.size:=e6
 have up:∀ b o,b≠it->h2.get? b=some o->Y.get? b=some o:=λ b o hb e=>s6.extBut b o hb (s5.extBut b o hb (s4.extBut b o hb (s3.extBut b o hb e)))
 exact ab (fV (aq (aq ⟨_,rfl,aq (hQ Y e6 (up _ _ (cN hil) t2) λ b o hb e=>up b o hb (k2 b o hb e))⟩)))
theorem aD8 {it d:Addr}{i C:Nat}{es:Array gz}{ok Y:Value}{Q:Option Value->af->Prop}(J:A.handled=none)(h:dE s.heap it d i es.size C ok Y)
  (Z:DAt s.heap d es C) (hx:es.size<=i) (G:∀ h',iw it s.heap h'->Q none { s with heap:=h' }):wpAny (model P w) A (f8 (.ref it)) Q E s:=by
 obtain⟨od,F,b2,z⟩:=Z
 have hT:s.TypeIs (.ref it) "dict_itemiterator":=⟨_,h,rfl⟩
 unfold f8
 refine ab (wpAny_attempt (b9 (name:=cr "__next__") hT bF
  (cb bF hT eQ ?_ (eI _))))
 refine ab (aq (ab (ab ?_)))
 first|refine ab (cq hT (aq ?_))|refine ab (cK hT (aq ?_))
 refine ab (wpAny_fieldsOf h rfl ?_)
 have y:dk "dict_itemiterator"=true:=by decide
 simp only[y,if_true]
 show wpAny _ _ (if(Value.ref d==Value.none)=true then _ else _) _ _ s
 rw[if_neg (show ¬((Value.ref d==Value.none)=true)from aJ)]
 refine ab (aq (ab (fX F z ?_)))
 rw[if_neg (by simp)]
 refine ab (aq (ab (g9 F z ?_)))
 rw[if_neg (by simp)]
 refine aq ?_
 simp only[show ¬((i:Int)<0)from by omega,if_false,bD,Array.getElem?_eq_none hx]
 refine ab ?_
 first|refine ab (cq hT (aq ?_))|refine ab (cK hT (aq ?_))
 show wpAny _ _ (setField (.ref it) 2 .none >>= _) _ _ s
 refine ab (iz h rfl (by simp) ?_)
 show wpAny _ _ (newExc (.type "StopIteration") [] >>= _) _ _ _
 refine ab ?_
 simp only[newExc,newTuple]
 refine ab (bf (ab (m:=fK _ _) (jO (a:=Value.none) (by first|rfl|(simp only[fK];rfl)) ?_)) (by size_fits))
 refine bf ?_ (by size_fits)
 simp only[raiseNew]
 refine ab (wpAny_handled ?_)
 rw[show A.in1.handled=none from J]
 refine ab (aq (wpAny_throw ?_))
 refine ab (wpAny_isInstance (T := "StopIteration") (b:=true) ⟨_,aA _ rfl,rfl⟩ isSubtype_stop ?_)
 exact aq (G _ (((fi ..).extBut.push _).push _))
end
theorem al3:entryFor table "dict_itemiterator.__iter__"=some jY.«dict_keyiterator.__iter__»:=entryFor_alias (id' := "dict_keyiterator.__iter__") (by kernel_rfl) (by decide +kernel) (by decide +kernel) (by kernel_rfl)
structure DFz (H:Hp)(a:Addr)(o:Obj)(kvs:List (List Key×V)):Prop where
 at_:H a=some (.frz o (.dT kvs))
noncomputable def Jt (a:Addr)(o:Obj)(kvs:List (List Key×V)):It:=⟨λ i H=>DFz H a o kvs/\i<kvs.length,
 λ i H x H'=>∃ p b k v,kvs[i]?=some (k,v)/\H b=some (.tup (k.map kV))/\H p=none/\x=.ref p/\H'=upd H p (.tup [.ref b,v]),λ i H=>DFz H a o kvs/\kvs.length<=i⟩
theorem bk9 {P:aI}{w:World}{H:Hp}{h:Heap}{a:Addr}{o:Obj}{C:List (List Key×V)}(ok:HOk P w H h)(z:DFz H a o C):(a==cx)=false/\∃ es F,DAt h a es F/\o.data=.dict es F/\es.size=C.length /\
  ∀(i:Nat) (k:List Key) (v:V),C[i]?=some (k,v)->∃ x b u,es[i]?=some x/\x.key=.ref b/\x.val=u/\RelV v u/\H b=some (.tup (k.map kV)):=by
 obtain⟨e,zz,y,G,r,o',es,F,Z,h2,h3,h4,h5⟩:=(show ab2 P w H h a (.frz o (.dT C))from ok a _ z.at_)
 rw[e]at Z;cases Z
 refine⟨y,es,F,⟨o,e,h2,h3⟩,h3,?_,λ i k v Y=>?_⟩
 ·have:=congrArg io h4
  rw[au,cV]at this
  rw[this];exact(dN r).symm
 ·have hl:=dN r
  have hlt:i<G.length:=by rw[<-hl];exact(ac.mp Y).1
  have key:∀ {J:List (List Key×V)} {l₂:List (List Key×Addr×Value)} {i:Nat} {p:List Key×V} {q:List Key×Addr×Value},fB (λ(p:List Key×V) (q:List Key×Addr×Value)=>p.1=q.1/\H q.2.1=some (.tup (p.1.map kV))/\RelV p.2 q.2.2) J l₂->J[i]?=some p->l₂[i]?=some q->p.1=q.1/\H q.2.1=some (.tup (p.1.map kV))/\RelV p.2 q.2.2:=by
   intro J l₂ i p q r
   induction r generalizing i with
   | nil=>intro e;simp at e
   | cons h t ih =>
    intro e1 e2
    cases i with
    | zero=>simp at e1 e2;subst e1 e2;exact h
    | succ i=>exact ih (by simpa using e1) (by simpa using e2)
  obtain⟨q1,q2,q3⟩:=key r Y (ag hlt)
  have ex:es[i]?=some (entryOfKey (fy (zx P w)) G[i]):=by
   rw[<-ic,h4,aC,ag hlt];rfl
  exact⟨_,G[i].2.1,_,ex,rfl,rfl,q3,q2⟩
theorem aK4 {P:aI}{w:World}{K:ae}{elts:List Expr}{ek:Nat}{epos:Pos}(a it:Addr)(o:Obj)(y:List (List Key×V))(ep:Nat)(a1:Array gz)(ho:o.data=.dict a1 ep) :
  Turn P w K (.Tuple elts ek epos) (Jt a o y) [it] it (λ i h=>∃ ok G,dE h it a i y.length ep ok G) where
 mem:=by simp
 obj:=λ i h st b hb=>by
  have e:b=it:=by simpa using hb
  subst e
  obtain⟨ok,G,e⟩:=st
  exact⟨_,e,λ v z=>by cases z⟩
 keep:=λ i h h' st k=>by
  obtain⟨ok,G,e⟩:=st
  exact⟨ok,G,k it (by simp) _ e⟩
 item:=by
  intro X hP hw hK hc i C s σ H E I hf st hg
  subst hP hw hK
  obtain⟨ok,G,hz⟩:=st
  obtain⟨fz,hlt⟩:=hg
  obtain⟨_,es,a2,da,od,hs,at_⟩:=bk9 I.hok fz
  rw[ho]at od;cases od
  obtain⟨x,b,u,ex,a5,ev,rv,hb⟩:=at_ i _ _ (ag hlt)
  subst ev
  have a3:dE s.heap it a i a1.size ep ok G:=by rw[hs];exact hz
  refine aA9 a3 da ex λ h' z' T' kk=>⟨_,rfl,wpAny_letOwnedTupleGo_items (s:={ s with heap:=h' }) z' λ Z a4 J=>?_⟩
  replace J:cg it h' Z:=J
  rw[a5]at T'
  have lt:s.heap.objs.size≠it:=cN (ay hz)
  have I1:Inv X C σ (upd H s.heap.objs.size (.tup [.ref b,y[i].2])) { s with heap:=s.heap.push { cls:=.type "tuple",data:=.seq #[.ref b,x.val] },toks:=s.toks } :=
   I.laid (λ b u e=>ai _ e) (ak _) ⟨by simp[aF],[.ref b,x.val],.cons rfl (.cons rv .nil),_,aA _ rfl,rfl,_,rfl⟩
  have Y:∀ c∈[it],FpOk X C (upd H s.heap.objs.size (.tup [.ref b,y[i].2])) c:=λ c hc=>by
   have q:=hf c hc
   have e:c=it:=by simpa using hc
   subst e
   exact⟨by rw[za lt.symm];exact q.1,q.2⟩
  have I2:Inv X C σ (upd H s.heap.objs.size (.tup [.ref b,y[i].2])) { s with heap:=Z,toks:=s.toks }:=by
   refine I1.turnedL (s:={ s with heap:=s.heap.push { cls:=.type "tuple",data:=.seq #[.ref b,x.val] },toks:=s.toks }) Y λ c o hb e=>?_
   have hb:c≠it:=λ z=>hb (by simp[z])
   refine J.extBut _ _ hb ?_
   by_cases hcT:c=s.heap.objs.size
   ·subst hcT
    have:=aA s.heap (o:={ cls:=.type "tuple",data:=.seq #[.ref b,x.val] }) rfl
    rw[show(s.heap.push { cls:=.type "tuple",data:=.seq #[.ref b,x.val] }).get? s.heap.objs.size=some o from e]at this
    cases this
    exact T'
   ·exact kk c o hb (by
     have e':(s.heap.push { cls:=.type "tuple",data:=.seq #[.ref b,x.val] }).get? c=some o:=e
     rw[Heap.get?_push_ne _ _ _ hcT]at e'
     exact e')
  exact⟨.ref s.heap.objs.size,_,I2,rfl,⟨_,b,y[i].1,y[i].2,ag hlt,hb,I.hok.fresh (ak _),rfl,rfl⟩,⟨_,_,by rw[<-hs];exact a4⟩,λ c hc=>(Y c hc).1⟩
 done:=by
  intro X hP hw hK hc i C s σ H E I hf st hg
  subst hP hw hK
  obtain⟨ok,G,hz⟩:=st
  obtain⟨fz,a6⟩:=hg
  obtain⟨_,es,a2,da,od,hs,_⟩:=bk9 I.hok fz
  rw[ho]at od;cases od
  exact aD8 (I.ok.hd hc) (by rw[hs];exact hz) da (by omega) λ h' eb=>⟨rfl,I.turnedL (t':=s.toks) hf λ b o hb e=>eb b o (λ z=>hb (by simp[z])) e⟩
 self:=λ A i s Q E st h=>by
  obtain⟨ok,G,hz⟩:=st
  have hT:s.TypeIs (.ref it) "dict_itemiterator":=⟨_,hz,rfl⟩
  refine jw hT eX (cb eX hT al3 ?_ (F.args_dict_itemiterator_iter_1 _))
  show wpAny _ _ (ret (.ref it)) _ _ s
  exact aq ⟨_,rfl, "dict_itemiterator",_,hT,bF.lookup,h⟩
section
variable {X:Cx} {pins:List (Addr×Obj)} {σ:St} {H:Hp} {s:af}
theorem HOk.tw {P:aI}{w:World}{h:Heap}{a:Addr}{u v:HO}(ok:HOk P w H h)(G:H a=some u)(Z:∀ y,u≠.own y)(Y:∀ C,u≠.tup C)(new:ab2 P w H h a v):HOk P w (upd H a v) h:=λ b q e=>by
 have F:∀ c y,H c=some (.own y)->upd H a v c=some (.own y):=λ c y r=>by rw[za λ z=>by subst z;rw[G]at r;cases r;exact Z _ rfl];exact r
 have J:∀ c C,H c=some (.tup C)->upd H a v c=some (.tup C):=λ c C r=>by rw[za λ z=>by subst z;rw[G]at r;cases r;exact Y _ rfl];exact r
 by_cases hb:b=a
 ·subst hb;rw[zb]at e;cases e
  exact new.stay (λ _ _ _ r=>r) (λ c r=>F c _ r) J
 ·rw[za hb]at e
  exact(ok b q e).stay (λ _ _ _ r=>r) (λ c r=>F c _ r) J
theorem Inv.freeze {a:Addr}{o:Obj}{h:List (List Key×V)}(I:Inv X pins σ H s)(e:H a=some (.dT h))(ho:s.heap.get? a=some o):Inv X pins σ (upd H a (.frz o (.dT h))) s :=
 I.un (t':=s.toks) (Un.write (by rw[e];trivial) (.inl rfl) (λ _ _ _ q=>q) ⟨o,ho⟩) (I.hok.tw e (by nofun) (by nofun) ⟨ho,I.hok a _ e⟩)
theorem Inv.thaw {a:Addr}{o:Obj}{h:List (List Key×V)}(I:Inv X pins σ H s)(e:H a=some (.frz o (.dT h)))(h0:∀ o u,X.H₀ a≠some (.frz o u)):Inv X pins σ (upd H a (.dT h)) s:=by
 have y:∀ b,H b=none->upd H a (.dT h) b=none:=λ b n=>by rw[za λ z=>by subst z;rw[e]at n;cases n];exact n
 have B:=I.base
 refine⟨I.ok,I.os,I.bare,⟨B.keep,B.slot,λ b o q n hx=>y b (B.free b o q n hx),B.there,λ b C q=>?_,λ b ob u q=>?_,λ b ps q=>?_⟩,I.loc,I.cell,y _ I.free,λ x c q=>y _ (I.freeC x c q),λ p G=>?_,I.hok.tw e (by nofun) (by nofun) ?_,I.len⟩
 ·have r:=B.tups b C q
  rw[za λ z=>by subst z;rw[e]at r;cases r];exact r
 ·rw[za λ z=>by subst z;exact h0 _ _ q];exact B.frzs b ob u q
 ·obtain⟨m,r⟩:=B.tbls b ps q
  exact⟨m,by rw[za λ z=>by subst z;rw[e]at r;cases r];exact r⟩
 ·obtain⟨p1,F,p3⟩:=I.pin p G
  exact⟨p1,y _ F,p3⟩
 ·exact(show ab2 X.prog X.w H s.heap a (.frz o (.dT h))from I.hok a _ e).2
noncomputable def vwO (p a:Addr):HO:=.ext λ h=>h.IsItemsView p a
def bk3:V->List V->Hp->VK->Prop:=λ x xs H Q=>∃ a kvs,x=.ref a/\xs=[]/\H a=some (.dT kvs)/\∀ p,H p=none->Q (.ref p) (upd H p (vwO p a))
theorem ba7:MtR X "dict.items" bk3:=by
 intro C s σ H x xs v us Q I rx G h
 obtain⟨a,Y,rfl,rfl,e,q⟩:=h
 cases rx
 cases G
 obtain⟨_,hd,ys,_,y⟩:=bA0 I.hok e
 refine jv gA y.typeIs PySem.F.entry_dict_items (PySem.F.args_dict_items_1 _) (at7 a hd) ⟨y.typeIs,.ref s.heap.objs.size,_,I.laid (t':=s.toks) (o:=vwO s.heap.objs.size a) (λ b u r=>ai _ r) (ak _) ?_,rfl,q _ (I.hok.fresh (ak _))⟩
 have z:(s.heap.push { cls:=.type "dict_items",data:=.fields #[.ref a] }).IsItemsView s.heap.objs.size a:=⟨_,aA _ rfl,rfl,rfl⟩
 refine⟨z,⟨_,aA _ rfl⟩,λ h1 h2 ⟨o,J,Z⟩ k=>⟨o,k _ J,Z⟩⟩
def aN4 (K:ae)(to:TE):TI:=λ σ H R=>bT4 K "dict" bk3 to σ H λ x H'=>∃ p a kvs H1,x=.ref p/\H'=upd H1 p (vwO p a)/\H1 a=some (.dT kvs)/\H1 p=none/\∀ o,R (Jt a o kvs) (upd H' a (.frz o (.dT kvs)))
theorem aY1 {elts:List Expr}{ek:Nat}{epos:Pos}{ob:Expr}{to:TE}{ap cp:Pos}(ho:PE X ob to)(hb:dq ob "items" X.env (eval ob X.env)=eval ob X.env)(hl:(ap.endLine==cp.line)=true) :
  PI X (.Tuple elts ek epos) (.Call (.Attribute ob "items" ap) [] [] cp) (aN4 X.K to):=by
 intro G s σ H R I h
 have pe:=bi2 gy gA PySem.F.type_dict_items ba7 ho hb hl
 refine thn (pe G s σ H _ I h) λ v s1 ⟨x,H',J,r1,p,a,z,H1,ex,Z,e1,ep,q⟩=>?_
 subst ex
 cases r1
 have hv:s1.heap.IsItemsView p a:=(show ab2 X.prog X.w H' s1.heap p (vwO p a)from J.hok p _ (by rw[Z,zb])).1
 have ha:H' a=some (.dT z):=by rw[Z,za (zn e1 ep)];exact e1
 obtain⟨zz,y,xs,r,o,es,C,Y,h2,h3,h4,h5⟩:=(show ab2 X.prog X.w H' s1.heap a (.dT z)from J.hok a _ ha)
 have hsz:es.size=z.length:=by
  have:=congrArg io h4
  rw[au,cV]at this
  rw[this];exact(dN r).symm
 refine aB3 hv ⟨o,Y,h2,h3⟩ ?_
 have I2:=(J.freeze ha Y).kept (t':=s1.toks) (h':=s1.heap.push { cls:=.type "dict_itemiterator",data:=.fields #[.none,.bool false,.ref a,.int 0 0,.int es.size 0,.int C 0,.none,.none] }) λ b u r=>ai _ r
 refine⟨s1.heap.objs.size,[s1.heap.objs.size],_,_,_,rfl,I2,aK4 a s1.heap.objs.size o z C es h3,⟨_,_,by rw[<-hsz];exact aA _ rfl⟩,λ b hb=>?_,q o⟩
 have e:b=s1.heap.objs.size:=by simpa using hb
 subst e
 exact(J.freeze ha Y).fpOk (ak _) ((J.freeze ha Y).hok.fresh (ak _))
end
def bV5 (H:Hp)(kvs:List (List Key×V))(ys:List V)(D:Addr):Prop:=∀(j:Nat) (k:List Key) (v:V),j<ys.length->kvs[j]?=some (k,v)->∃ t,t≠D/\ys[j]?=some (.ref t)/\H t=some (.tup (k.map kV++[v]))
def teI (K:ae):TE:=tOp (bK6 K) (aX4 0) (bT3 (an1 (aX4 1) aX1))
def gI (K:ae):TG:=bM9 K 2 (bb7 (am8 0) (bb7 (am8 1) bQ8))
theorem bG4 {K:ae}{a:Addr}{h:List (List Key×V)}{C:Hp}{σ:St}{Q:VK}(e:C a=some (.dT h))(ne:∀ kv∈h,kv.1≠[]/\kv.1.length<=1000)(hz:h.length<=1000000)
  (hQ:∀ D ys H2 o,ad8 C (upd H2 a (.dT h))->C D=none->D≠a->H2 D=some (.lst ys)->H2 a=some (.frz o (.dT h))->ys.length=h.length->bV5 H2 h ys D->Q (.ref D) H2) :
  tComp [none,none] (aN4 K (tC (.ref a))) (gI K) bN8 (teI K) σ C Q:=by
 refine⟨.inr (.inr (.inl ⟨rfl,.inr ⟨h,e⟩⟩)),a,h,rfl,rfl,e,λ p hp=>⟨p,a,h,C,rfl,rfl,e,hp,λ o D hD=>?_⟩⟩
 generalize Z:upd (upd C p (vwO p a)) a (.frz o (.dT h))=H2 at hD
 have ea:H2 a=some (.frz o (.dT h)):=by rw[<-Z,zb]
 have aD:a≠D:=zn ea hD
 have a2:∀ b q,C b=some q->b≠a->H2 b=some q:=λ b q r z=>by rw[<-Z,za z,za (zn r hp)];exact r
 refine⟨λ i m σ' H'=>m=h.length - i/\i<=h.length/\σ'.length=2/\(∀ b q,b≠D->H2 b=some q->H' b=some q)/\∃ ys,H' D=some (.lst ys)/\ys.length=i/\bV5 H' h ys D,⟨h.length,by simp,cO _,rfl,λ b q z r=>by rw[za z];exact r,[],zb,rfl,λ j k v hj=>absurd hj (Nat.not_lt_zero _)⟩,?_⟩
 rintro i m σ' H' ⟨rfl,hil,a4,kp,ys,hy,y,a1⟩
 have G:H' a=some (.frz o (.dT h)):=kp a _ aD ea
 rcases jx i h.length with hlt|hge
 ·refine .inr ⟨⟨⟨G⟩,hlt⟩,_,λ σ2 H3 n=>⟨h.length - (i+1),by omega,n⟩,?_⟩
  rintro x H3 ⟨p',b,k,v,hk,hb,a6,rfl,rfl⟩
  have k3:ad8 H' (upd H' p' (.tup [.ref b,v])):=(ad8.refl H').new a6
  refine⟨p',[.ref b,v],rfl,SqT.of zb,rfl,.ref b,[v],rfl,v,[],rfl,rfl,?_⟩
  show teI K _ _ _
  have h0:0 < σ'.length:=by omega
  have h1:1 < σ'.length:=by omega
  refine⟨.ref b,by rw[aR (by decide),aV h0],v,by rw[aV (by rw[a0];exact h1)],by show 1<=aF;rw[cZ];omega,λ p2 a3=>?_⟩
  have k4:=k3.new (o:=.tup [v]) a3
  have a7:k≠[]:=(ne _ (aM hk)).1
  have a8:k.length<=1000:=(ne _ (aM hk)).2
  have a5:=k4 _ _ hb
  refine⟨b,p2,k.map kV,[v],rfl,rfl,SqT.of a5,SqT.of zb,?_,λ t H7 sm ht hn=>?_⟩
  ·rw[au,cZ];show k.length+1<=_;omega
  ·have k7:ad8 H' H7:=λ c q r=>sm _ _ (k4 _ _ r)
   have Y:H7 t=some (.tup (k.map kV++[v])):=by
    rcases hn with hn|⟨_,hn⟩|⟨_,hn⟩
    ·exact hn
    ·cases hn
    ·exact absurd (List.map_eq_nil_iff.mp hn) a7
   have J:t≠D:=bs2 Y (k7 _ _ hy) (by nofun)
   refine⟨ys,k7 _ _ hy,by rw[cZ];omega,rfl,hlt,by rw[a0,a0];exact a4,λ c q z r=>by rw[za z];exact k7 _ _ (kp c q z r),ys++[.ref t],zb,by rw[aB,y];rfl,λ j k' v' hj F=>?_⟩
   rw[aB,y]at hj
   by_cases hji:j<i
   ·obtain⟨t',z1,z2,z3⟩:=a1 j k' v' (by rw[y];exact hji) F
    exact⟨t',z1,by rw[aK (by rw[y];exact hji)];exact z2,by rw[za z1];exact k7 _ _ z3⟩
   ·have:j=i:=by simp at hj;omega
    subst this
    rw[hk]at F;cases F
    exact⟨t,J,by rw[aY (by rw[y];exact ak _),y,kE];rfl,by rw[za J];exact Y⟩
 ·have:i=h.length:=by omega
  subst this
  refine .inl ⟨⟨⟨G⟩,ak _⟩,hQ D ys H' o (λ b q r=>?_) ?_ aD.symm hy G y a1⟩
  ·by_cases z:b=a
   ·subst z;rw[e]at r;cases r;exact zb
   ·have r2:=a2 b q r z
    rw[za z];exact kp b q (zn r2 hD) r2
  ·cases q:C D with
   | none=>rfl
   | some w=>have:=a2 D w q aD.symm;rw[hD]at this;cases this
theorem bG9 {X:Cx}{x y:Str}{ob:Expr}{to:TE}{scope:Scope}{p1 p2 p3 p4 p5 p6 p8 ap cp pos:Pos}{k2 k7:Nat}(Z:x≠y)(a1:zG [x,y] [none,none] scope X.N X.env.scope=true)(F:X.calm=true)
  (hx:scope.names.lookup x=some .local) (hy:scope.names.lookup y=some .local) (a2:PE X ob to) (hb:dq ob "items" X.env (eval ob X.env)=eval ob X.env) (hl:(ap.endLine==cp.line)=true)
  (d1:(x==("__debug__":Str))=false) (d2:(y==("__debug__":Str))=false) (d3:(x==("__classdict__":Str))=false) (d4:(y==("__classdict__":Str))=false) :
  PE X (.ListComp (.BinOp (.Name x p1) .Add (.Tuple [.Name y p2] k2 p3) p4) [⟨.Tuple [.Name x p5,.Name y p6] k7 p8,.Call (.Attribute ob "items" ap) [] [] cp,[],0⟩] scope pos)
   (λ σ H Q=>tComp [none,none] (aN4 X.K to) (gI X.K) bN8 (teI X.K) σ H λ v H'=>∃ a o G,H' a=some (.frz o (.dT G))/\(∀ o u,H a≠some (.frz o u))/\Q v (upd H' a (.dT G))):=by
 intro Y s σ H Q I h
 have base:=aC4 (X:=X) (pos:=pos) (scope:=scope) [x,y] [none,none] a1 (aY1 (elts:=[.Name x p5,.Name y p6]) (ek:=k7) (epos:=p8) a2 hb hl) F (g:=gI X.K) (tc:=bN8) (te:=teI X.K) (ifs:=[]) (elt:=.BinOp (.Name x p1) .Add (.Tuple [.Name y p2] k2 p3) p4) (λ C cells s H ex=>by
  have J:∀ z,scope.names.lookup z=some .local->(dB scope X.env).names.lookup z=some .local:=λ z hz=>by
   have q:(dB scope X.env).names.lookup z=some (if(NameKind.local==NameKind.free&&X.env.scope.kind==.function&&X.env.kindOf z==some .cell)then NameKind.cell else NameKind.local):=zL (env:=X.env) hz
   rw[q];rfl
  have vx:Vis (dB scope X.env) x:=.inl (J x hx)
  have vy:Vis (dB scope X.env) y:=.inl (J y hy)
  have nd:[x,y].Nodup:=by simp[Z]
  refine⟨bj2 F (at5 (as5 (i:=0) nd rfl (.inl (J x hx)) (.inr (J x hx))) (at5 (as5 (i:=1) nd rfl (.inl (J y hy)) (.inr (J y hy))) aV6 rfl) rfl) rfl rfl,aQ9,bB3 (aW1 rfl) (ax7 (i:=0) rfl vx d1 d3) (bj3 (zD (ax7 (i:=1) rfl vy d2 d4) ad0 rfl))⟩) (by intro _;rfl)
 exact thn (base Y s σ H _ I h) λ v s' ⟨z,H',I',r',a,o,G,e,nf,q⟩=>⟨z,_,I'.thaw e (λ o u r=>nf o u (I.base.frzs _ _ _ r)),r',q⟩
end L2
end
noncomputable section
namespace DV
inductive D where
 | non|bl (b:Bool)|int (i:Int)|str (x:List Nat)|tup (l:List D)|ref (n:Nat)|fn (f:String)|clo (f:String) (cs:List D)
noncomputable instance:DecidableEq D:=λ a b=>gB (a=b)
noncomputable instance (x:D):Decidable (x=.non):=match x with
 | .non=>.isTrue rfl
 | .bl _=>.isFalse nofun
 | .int _=>.isFalse nofun
 | .str _=>.isFalse nofun
 | .tup _=>.isFalse nofun
 | .ref _=>.isFalse nofun
 | .fn _=>.isFalse nofun
 | .clo _ _=>.isFalse nofun
inductive O where
 | lst (l:List D)|ro (l:List D)|dic (l:List (D×D))|ins (c:String) (fs:List (String×D))|dit (l:List (D×D))
noncomputable instance:DecidableEq O:=λ a b=>gB (a=b)
noncomputable abbrev Sto:=List O
noncomputable def O.kd:O->Nat
 | .lst _=>0|.ro _=>1|.dic _=>2|.ins _ _=>3|.dit _=>4
inductive R (α:Type) where
 | ok (a:α) (s:Sto)|exc (e:D) (s:Sto)|bad
noncomputable abbrev M (α:Type):=Sto->R α
noncomputable def R.bind {α β:Type}(r:R α)(f:α->Sto->R β):R β:=match r with
 | .ok a s=>f a s
 | .exc e s=>.exc e s
 | .bad=>.bad
@[simp] theorem R.bind_ok {α β:Type} (a:α) (s:Sto) (f:α->Sto->R β):(R.ok a s).bind f=f a s:=rfl
@[simp] theorem R.bind_bad {α β:Type} (f:α->Sto->R β):(R.bad:R α).bind f=.bad:=rfl
@[simp] theorem R.bind_exc {α β:Type} (e:D) (s:Sto) (f:α->Sto->R β):(R.exc e s:R α).bind f=.exc e s:=rfl
theorem R.bind_inv {α β:Type}{r:R α}{f:α->Sto->R β}{b:β}{t:Sto}(h:r.bind f=.ok b t):∃ a s,r=.ok a s/\f a s=.ok b t:=by
 cases r with
 | ok a s=>exact⟨a,s,rfl,h⟩
 | exc e s=>cases h
 | bad=>cases h
@[simp] theorem R.bind_assoc {α β γ:Type} (r:R α) (f:α->Sto->R β) (g:β->Sto->R γ):(r.bind f).bind g=r.bind λ a s=>(f a s).bind g:=by cases r<;>rfl
mutual
noncomputable def D.bnd (n:Nat):D->Bool
 | .tup l=>D.bndL n l
 | .ref k=>decide (k<n)
 | .clo _ l=>D.bndL n l
 | _=>true
noncomputable def D.bndL (n:Nat):List D->Bool
 | []=>true
 | d::l=>D.bnd n d&&D.bndL n l
end
noncomputable def O.bnd (n:Nat):O->Bool
 | .lst l=>D.bndL n l
 | .ro l=>D.bndL n l
 | .dic l=>D.bndL n (l.map (·.1))&&D.bndL n (l.map (·.2))
 | .ins _ fs=>D.bndL n (fs.map (·.2))
 | .dit l=>D.bndL n (l.map (·.1))&&D.bndL n (l.map (·.2))
mutual
noncomputable def D.plain:D->Bool
 | .non=>true|.int _=>true|.str _=>true
 | .tup l=>D.plainL l
 | _=>false
noncomputable def D.plainL:List D->Bool
 | []=>true
 | d::l=>D.plain d&&D.plainL l
end
mutual
noncomputable def D.ncl:D->Bool
 | .tup l=>D.nclL l
 | .clo _ _=>false
 | _=>true
noncomputable def D.nclL:List D->Bool
 | []=>true
 | d::l=>D.ncl d&&D.nclL l
end
noncomputable def O.ncl:O->Bool
 | .lst l=>D.nclL l
 | .ro l=>D.nclL l
 | .dic l=>D.nclL (l.map (·.2))
 | .dit l=>D.nclL (l.map (·.2))
 | _=>false
noncomputable def D.key:D->Bool
 | .int _=>true|.str _=>true|_=>false
noncomputable def D.hdI:List D->Bool
 | .int _::_=>true|_=>false
noncomputable def D.keyS:D->Bool
 | .int _=>true|.str x=>decide (x.length<=1000)|_=>false
noncomputable def D.keyT:D->Bool
 | .tup l=>D.hdI l&&(l.all D.keyS&&decide (l.length<=1000))|_=>false
noncomputable def LIM:Nat:=1000000
@[irreducible] noncomputable def BIG:Nat:=2^60000
@[irreducible] noncomputable def DIVL:Nat:=2^4096
inductive BOp where
 | add|sub|mul|fdiv|mod|pow|shl|shr|band|bor
 deriving DecidableEq
inductive COp where
 | eq|ne|lt|le|gt|ge|isin|notin
 deriving DecidableEq
inductive Cn where
 | non|bl (b:Bool)|int (i:Int)|str (x:List Nat)
 deriving DecidableEq
noncomputable def Cn.d:Cn->D
 | .non=>.non|.bl b=>.bl b|.int i=>.int i|.str x=>.str x
inductive Bi where
 | len|abs|int|str|min2|max2|max3|min3|isInt|isBool|isStr|isTup|isList|ord
 deriving DecidableEq
inductive Mk where
 | tuple|list|all|any|sum|min|max|sorted|lenset
 deriving DecidableEq
inductive Mt where
 | append|pop|index|count|reverse|clear|bitlen|get1|get2|setdefault|update|split|partition
 deriving DecidableEq
inductive Tg where
 | one (i:Nat)|tup (is:List Nat)
 deriving DecidableEq
mutual
inductive E where
 | var (i:Nat)|cst (c:Cn)|glob (x:String)
 | bin (op:BOp) (a b:E)|neg (a:E)|not (a:E)
 | cmp (op:COp) (a b:E)|chain (o p:COp) (a b c:E)
 | isN (a:E)|notN (a:E)|isB (a:E) (b:Bool)|notB (a:E) (b:Bool)
 | and (a b:E)|or (a b:E)|ite (c a b:E)
 | tup (es:Es)|lst (es:Es)|dic (ks vs:Es)|dicT|get2 (o k d:E)
 | ix (a b:E)|slL (a lo:E)|slU (a hi:E)|slLU (a lo hi:E)|rev (a:E)
 | call (f:String) (as:As)|callC (f:String) (as:As)|callV (i:Nat) (es:Es)
 | bi (b:Bi) (es:Es)|mk (k:Mk) (l:L)|mkD (k:Mk) (l:L) (d:E)
 | meth (m:Mt) (o:E) (es:Es)|ext (o:E) (l:L)|extS (o e:E)|join (o e:E)|mks (k:Mk) (e:E)|mkDs (k:Mk) (e d:E)
inductive Es where
 | nil|cons (e:E) (es:Es)
inductive As where
 | nil|ex (e:E) (as:As)|lam (id:String) (caps:List Nat) (as:As)|fn (f:String) (as:As)
inductive I where
 | seq (e:E)|rng1 (a:E)|rng2 (a b:E)|rng3 (a b:E) (c:Int)|enum (it:I)|zip (a b:I)|items (e:E)
inductive L where
 | comp (tg:Tg) (it:I) (e:E) (caps:List (Option Nat))|compIf (tg:Tg) (it:I) (c e:E) (caps:List (Option Nat))|disp (es:Es)|seq (e:E)|itm (e:E)
end
mutual
inductive S where
 | asg (tg:Tg) (e:E)|setIx (o i e:E)|aug (i:Nat) (e:E)|ex (e:E)|ret (e:E)|retN
 | ite (c:E) (a b:Ss)|whl (c:E) (b:Ss)|for_ (tg:Tg) (it:I) (b:Ss)|pass|cont|brk|raise|und (i:Nat)
inductive Ss where
 | nil|cons (s:S) (ss:Ss)
end
noncomputable abbrev Env:=List (Option D)
noncomputable def ac8 (o:O):M D:=λ s=>.ok (.ref s.length) (s++[o])
noncomputable def pur (d:D):M D:=λ s=>.ok d s
noncomputable def bad {α:Type}:M α:=λ _=>.bad
noncomputable def mulOk (a b:Int):Bool:=decide (a.natAbs<2^64)||decide (b.natAbs<2^64)||(decide (a.natAbs<BIG)&&decide (b.natAbs<BIG))
noncomputable def rep:Nat->List Nat->List Nat
 | 0,_=>[]
 | n+1,a=>a++rep n a
noncomputable def aN0:Nat->List D->List D
 | 0,_=>[]
 | n+1,a=>a++aN0 n a
noncomputable def qB:BOp->D->D->M D
 | .add,.int a,.int b=>pur (.int (a+b))
 | .add,.str a,.str b=>if a.length+b.length<=LIM then pur (.str (a++b))else bad
 | .add,.tup a,.tup b=>if a.length+b.length<=LIM then pur (.tup (a++b))else bad
 | .add,.ref a,.ref b=>λ s=>match s[a]?,s[b]? with
  | some (.lst l),some (.lst m)=>if l.length+m.length<=LIM then ac8 (.lst (l++m)) s else .bad
  | _,_=>.bad
 | .sub,.int a,.int b=>pur (.int (a - b))
 | .mul,.int a,.int b=>if mulOk a b then pur (.int (a*b))else bad
 | .mul,.str a,.int n=>if 0<=n/\n<=1000000/\a.length*n.toNat<=LIM then pur (.str (rep n.toNat a))else bad
 | .mul,.tup a,.int n=>if 0<=n/\n<=1000000/\a.length*n.toNat<=LIM then pur (.tup (aN0 n.toNat a))else bad
 | .mul,.ref a,.int n=>λ s=>match s[a]? with
  | some (.lst l)=>if 0<=n/\n<=1000000/\l.length*n.toNat<=LIM then ac8 (.lst (aN0 n.toNat l)) s else .bad
  | _=>.bad
 | .fdiv,.int a,.int b=>if 0<b/\b<(DIVL:Int)then pur (.int (a / b))else bad
 | .mod,.int a,.int b=>if 0<b then pur (.int (a % b))else bad
 | .pow,.int a,.int b=>if 0<=b/\b<=1000000/\a.natAbs<2^64 then pur (.int (a^b.toNat))else bad
 | .shl,.int a,.int b=>if 0<=b/\b<=1000000/\a.natAbs<2^64 then pur (.int (a*2^b.toNat))else bad
 | .shr,.int a,.int b=>if 0<=b then pur (.int (a / 2^b.toNat))else bad
 | _,_,_=>bad
noncomputable def kd (s:Sto):D->Nat
 | .non=>0|.bl _=>1|.int _=>1|.str _=>2|.tup _=>3
 | .ref r=>match s[r]? with|some (.lst _)=>4|_=>9
 | _=>9
noncomputable def aB5 (a b:Nat):Bool:=a==9||b==9||a==b
noncomputable def b2i (b:Bool):Int:=if b then 1 else 0
noncomputable def aP5:D->D->Option Bool
 | .non,.non=>some true
 | .bl a,.bl b=>some (a==b)
 | .int a,.int b=>some (a==b)
 | .bl a,.int b=>some (b2i a==b)
 | .int a,.bl b=>some (a==b2i b)
 | .str a,.str b=>some (a==b)
 | _,_=>none
noncomputable def ac9 (s:Sto)(a b:D):Option Bool:=match aP5 a b with
 | some z=>some z
 | none=>if aB5 (kd s a) (kd s b)then none else some false
noncomputable def eqL (f:D->D->Option Bool):List D->List D->Option Bool
 | [],[]=>some true
 | [],_::_=>some false
 | _::_,[]=>some false
 | a::l,b::m=>match f a b,eqL f l m with
  | some x,some y=>some (x&&y)
  | _,_=>none
noncomputable def eqv (s:Sto):Nat->D->D->Option Bool
 | 0,a,b=>ac9 s a b
 | n+1,a,b=>match a,b with
  | .tup l,.tup m=>eqL (eqv s n) l m
  | .ref x,.ref y=>match s[x]?,s[y]? with
   | some (.lst l),some (.lst m)=>if l.length=m.length then eqL (eqv s n) l m else some false
   | _,_=>none
  | a,b=>ac9 s a b
noncomputable def DEEP:Nat:=30
noncomputable def eqM (a b:D):M D:=λ s=>match eqv s DEEP a b with
 | some r=>.ok (.bl r) s
 | none=>.bad
noncomputable def inL (s:Sto)(x:D):List D->Option Bool
 | []=>some false
 | y::l=>match eqv s DEEP y x,inL s x l with
  | some a,some b=>some (a||b)
  | _,_=>none
noncomputable def look (k:D):List (D×D)->Option D
 | []=>none
 | (a,v)::l=>if a=k then some v else look k l
noncomputable def inM (a b:D):M Bool:=λ s=>match b with
 | .tup l=>match inL s a l with|some r=>.ok r s|none=>.bad
 | .ref r=>match s[r]? with
  | some (.lst l)=>match inL s a l with|some r=>.ok r s|none=>.bad
  | some (.dic l)=>if a.key then .ok (look a l).isSome s else .bad
  | some (.dit l)=>if a.keyT then .ok (look a l).isSome s else .bad
  | _=>.bad
 | .str y=>match a with|.str [c]=>.ok (decide (c∈y)) s|_=>.bad
 | _=>.bad
noncomputable def qo:COp->D->D->M D
 | .eq,a,b=>eqM a b
 | .ne,a,b=>λ s=>match eqv s DEEP a b with|some r=>.ok (.bl (!r)) s|none=>.bad
 | .lt,.int a,.int b=>pur (.bl (decide (a<b)))
 | .le,.int a,.int b=>pur (.bl (decide (a<=b)))
 | .gt,.int a,.int b=>pur (.bl (decide (b<a)))
 | .ge,.int a,.int b=>pur (.bl (decide (b<=a)))
 | .isin,a,b=>λ s=>(inM a b s).bind λ r s=>.ok (.bl r) s
 | .notin,a,b=>λ s=>(inM a b s).bind λ r s=>.ok (.bl (!r)) s
 | _,_,_=>bad
noncomputable def ixn (n:Nat)(i:Int):Option Nat:=if 0<=i then(if i<n then some i.toNat else none)else if -(n:Int)<=i then some (i+n).toNat else none
noncomputable def sbd (n:Nat)(i:Int):Nat:=if 0<=i then min i.toNat n else(i+n).toNat
noncomputable def loB (n:Nat):Option Int->Nat
 | none=>0
 | some i=>sbd n i
noncomputable def hiB (n:Nat):Option Int->Nat
 | none=>n
 | some i=>sbd n i
noncomputable def ah0 {α:Type}(l:List α)(lo hi:Option Int):List α:=(l.drop (loB l.length lo)).take (hiB l.length hi - loB l.length lo)
noncomputable def ixM (a b:D):M D:=λ s=>match a,b with
 | .tup l,.int i=>match(ixn l.length i).bind λ j=>l[j]? with|some d=>.ok d s|none=>.bad
 | .str l,.int i=>match(ixn l.length i).bind λ j=>l[j]? with|some c=>.ok (.str [c]) s|none=>.bad
 | .ref r,b=>match s[r]? with
  | some (.lst l)=>match b with
   | .int i=>match(ixn l.length i).bind λ j=>l[j]? with|some d=>.ok d s|none=>.bad
   | _=>.bad
  | some (.ro l)=>match b with
   | .int i=>match(ixn l.length i).bind λ j=>l[j]? with|some d=>.ok d s|none=>.bad
   | _=>.bad
  | some (.dic l)=>if b.key then match look b l with|some d=>.ok d s|none=>.bad else .bad
  | some (.dit l)=>if b.keyT then match look b l with|some d=>.ok d s|none=>.bad else .bad
  | _=>.bad
 | _,_=>.bad
noncomputable def slM (a:D)(lo hi:Option Int):M D:=λ s=>match a with
 | .tup l=>.ok (.tup (ah0 l lo hi)) s
 | .str l=>.ok (.str (ah0 l lo hi)) s
 | .ref r=>match s[r]? with
  | some (.lst l)=>ac8 (.lst (ah0 l lo hi)) s
  | _=>.bad
 | _=>.bad
noncomputable def bV3 (a:D):M D:=λ s=>match a with
 | .str l=>.ok (.str l.reverse) s
 | _=>.bad
noncomputable def ai3:List D->Option (List Bool)
 | []=>some []
 | .bl b::l=>(ai3 l).map (b::·)
 | _=>none
noncomputable def qf:List D->Option (List Int)
 | []=>some []
 | .int i::l=>(qf l).map (i::·)
 | _=>none
noncomputable def bl4:List D->Option (List (List Nat))
 | []=>some []
 | .str i::l=>(bl4 l).map (i::·)
 | _=>none
noncomputable def by2 (d:D):M D:=λ s=>match d with
 | .tup l=>.ok (.int l.length) s
 | .str l=>.ok (.int l.length) s
 | .ref r=>match s[r]? with
  | some (.lst l)=>.ok (.int l.length) s
  | some (.ro l)=>.ok (.int l.length) s
  | _=>.bad
 | _=>.bad
noncomputable def isK (k:Nat)(d:D):M D:=λ s=>match d with
 | .non=>.ok (.bl false) s
 | .bl _=>.ok (.bl (k==1||k==2)) s
 | .int _=>.ok (.bl (k==1)) s
 | .str _=>.ok (.bl (k==3)) s
 | .tup _=>.ok (.bl (k==4)) s
 | .ref r=>match s[r]? with
  | some (.lst _)=>.ok (.bl (k==5)) s
  | _=>.bad
 | _=>.bad
noncomputable def bi1 (f:D->M D):List D->M D
 | [d]=>f d
 | _=>bad
noncomputable def bi:Bi->List D->M D
 | .len,l=>bi1 by2 l
 | .abs,l=>λ s=>match qf l with|some [i]=>.ok (.int (if i<0 then -i else i)) s|_=>.bad
 | .int,l=>λ s=>match ai3 l with|some [b]=>.ok (.int (if b then 1 else 0)) s|_=>.bad
 | .min2,l=>λ s=>match qf l with|some [a,b]=>.ok (.int (if b<a then b else a)) s|_=>.bad
 | .max2,l=>λ s=>match qf l with|some [a,b]=>.ok (.int (if b > a then b else a)) s|_=>.bad
 | .max3,l=>λ s=>match qf l with|some [a,b,c]=>.ok (.int (max (max a b) c)) s|_=>.bad
 | .isInt,l=>bi1 (isK 1) l
 | .isBool,l=>bi1 (isK 2) l
 | .isStr,l=>bi1 (isK 3) l
 | .isTup,l=>bi1 (isK 4) l
 | .isList,l=>bi1 (isK 5) l
 | _,_=>bad
noncomputable def minI:List Int->Option Int
 | []=>none
 | a::l=>some (l.foldl min a)
noncomputable def bV2:List Int->Option Int
 | []=>none
 | a::l=>some (l.foldl max a)
noncomputable def ins (a:Int):List Int->List Int
 | []=>[a]
 | b::l=>if a<=b then a::b::l else b::ins a l
noncomputable def bC0:List Int->List Int
 | []=>[]
 | a::l=>ins a (bC0 l)
noncomputable def bY7 (is:List Int):Bool:=is.all (λ i=>decide (-1000000000<=i/\i<=1000000000))&&decide (is.length<=1000000)
noncomputable def mk:Mk->List D->M D
 | .tuple,l=>λ s=>.ok (.tup l) s
 | .list,l=>ac8 (.lst l)
 | .all,l=>λ s=>match ai3 l with|some bs=>.ok (.bl (bs.all id)) s|none=>.bad
 | .any,l=>λ s=>match ai3 l with|some bs=>.ok (.bl (bs.any id)) s|none=>.bad
 | .sum,l=>λ s=>match qf l with|some is=>if bY7 is then .ok (.int is.sum) s else .bad|none=>.bad
 | .min,l=>λ s=>match(qf l).bind minI with|some m=>.ok (.int m) s|none=>.bad
 | .max,l=>λ s=>match(qf l).bind bV2 with|some m=>.ok (.int m) s|none=>.bad
 | .sorted,l=>λ s=>match qf l with|some is=>ac8 (.lst ((bC0 is).map D.int)) s|none=>.bad
 | .lenset,l=>bad
noncomputable def mkD (k:Mk)(l:List D)(d:D):M D:=λ s=>match k with
 | .min=>match qf l with|some is=>(match minI is with|some m=>.ok (.int m) s|none=>.ok d s)|none=>.bad
 | .max=>match qf l with|some is=>(match bV2 is with|some m=>.ok (.int m) s|none=>.ok d s)|none=>.bad
 | _=>.bad
noncomputable def ap1 (k v:D)(l:List (D×D)):List (D×D):=if(look k l).isSome then l.map (λ p=>if p.1=k then(p.1,v)else p)else l++[(k,v)]
noncomputable def setIx (o i v:D):Sto->R Unit:=λ s=>match o with
 | .ref r=>match s[r]? with
  | some (.lst l)=>match i with
   | .int i=>match ixn l.length i with|some j=>.ok () (s.set r (.lst (l.set j v)))|none=>.bad
   | _=>.bad
  | some (.dic l)=>if i.key&&decide (l.length<LIM)then .ok () (s.set r (.dic (ap1 i v l)))else .bad
  | some (.dit l)=>if i.keyT&&decide (l.length<LIM)then .ok () (s.set r (.dit (ap1 i v l)))else .bad
  | _=>.bad
 | _=>.bad
noncomputable def bh5 (o k e:D):M D:=λ s=>match o with
 | .ref r=>match s[r]? with
  | some (.dit l)=>if k.keyT then .ok ((look k l).getD e) s else .bad
  | _=>.bad
 | _=>.bad
noncomputable def idx (s:Sto)(x:D):Nat->List D->Option Nat
 | _,[]=>none
 | n,y::l=>match eqv s DEEP y x with
  | some true=>some n
  | some false=>idx s x (n+1) l
  | none=>none
noncomputable def meth:Mt->D->List D->M D
 | .append,.ref r,[d]=>λ s=>match s[r]? with
  | some (.lst l)=>if l.length<LIM then .ok .non (s.set r (.lst (l++[d])))else .bad
  | _=>.bad
 | .pop,.ref r,[]=>λ s=>match s[r]? with
  | some (.lst l)=>match l.getLast? with|some d=>.ok d (s.set r (.lst l.dropLast))|none=>.bad
  | _=>.bad
 | .reverse,.ref r,[]=>λ s=>match s[r]? with
  | some (.lst l)=>.ok .non (s.set r (.lst l.reverse))
  | _=>.bad
 | .clear,.ref r,[]=>λ s=>match s[r]? with
  | some (.lst l)=>.ok .non (s.set r (.lst []))
  | _=>.bad
 | .index,.ref r,[d]=>λ s=>match s[r]? with
  | some (.lst l)=>match inL s d l,idx s d 0 l with|some true,some n=>.ok (.int n) s|_,_=>.bad
  | _=>.bad
 | _,_,_=>bad
noncomputable def aZ0 (o:D)(l:List D):M D:=λ s=>match o with
 | .ref r=>match s[r]? with
  | some (.lst m)=>if m.length+l.length<=LIM then .ok .non (s.set r (.lst (m++l)))else .bad
  | _=>.bad
 | _=>.bad
noncomputable def bt2 (x y:D):M D:=λ s=>match x with
 | .str []=>match y with
  | .ref r=>match s[r]? with
   | some (.lst l)=>match bl4 l with
    | some ss=>if ss.flatten.length<=LIM then .ok (.str ss.flatten) s else .bad
    | none=>.bad
   | _=>.bad
  | _=>.bad
 | _=>.bad
noncomputable def extS (o d:D):M D:=λ s=>match d with
 | .ref k=>match s[k]? with
  | some (.lst l)=>aZ0 o l s
  | _=>.bad
 | _=>.bad
structure Fns where
 call:String->List D->M D
 lam:String->List D->List D->M D
 con:String->Option D
noncomputable def aT4 (ρ:Env)(i:Nat):M D:=λ s=>match ρ[i]? with|some (some d)=>.ok d s|_=>.bad
noncomputable def af8 (ρ:Env):List Nat->Option (List D)
 | []=>some []
 | i::is=>match ρ[i]?,af8 ρ is with|some (some d),some l=>some (d::l)|_,_=>none
noncomputable def qc (ρ:Env)(caps:List (Option Nat)):Env:=caps.map λ o=>match o with|none=>none|some j=>(ρ[j]?).join
noncomputable def aD6 (ρ:Env)(i:Nat)(d:D):Option Env:=if i < ρ.length then some (ρ.set i (some d))else none
noncomputable def ae2 (ρ:Env)(i:Nat):Option Env:=if i < ρ.length then some (ρ.set i none)else none
noncomputable def ak7 (ρ:Env):List Nat->List D->Option Env
 | [],[]=>some ρ
 | i::is,d::l=>(aD6 ρ i d).bind λ ρ=>ak7 ρ is l
 | _,_=>none
noncomputable def ac7 (ρ:Env):Tg->D->Option Env
 | .one i,d=>aD6 ρ i d
 | .tup is,.tup l=>ak7 ρ is l
 | _,_=>none
structure Sq where
 its:List D
 src:List Nat
noncomputable def ah4 (d:D):M Sq:=λ s=>match d with
 | .tup l=>.ok ⟨l,[]⟩ s
 | .str l=>.ok ⟨l.map λ c=>.str [c],[]⟩ s
 | .ref r=>match s[r]? with
  | some (.lst l)=>.ok ⟨l,[r]⟩ s
  | some (.ro l)=>.ok ⟨l,[]⟩ s
  | _=>.bad
 | _=>.bad
noncomputable def aX6 (d:D):M Sq:=λ s=>match d with
 | .tup l=>.ok ⟨l,[]⟩ s
 | .str l=>.ok ⟨l.map λ c=>.str [c],[]⟩ s
 | .ref r=>match s[r]? with
  | some (.lst l)=>.ok ⟨l,[r]⟩ s
  | some (.ro l)=>.ok ⟨l,[]⟩ s
  | _=>.bad
 | _=>.bad
noncomputable def aZ9 (d:D):M Sq:=λ s=>match d with
 | .tup l=>.ok ⟨l,[]⟩ s
 | .ref r=>match s[r]? with
  | some (.lst l)=>.ok ⟨l,[r]⟩ s
  | some (.ro l)=>.ok ⟨l,[]⟩ s
  | _=>.bad
 | _=>.bad
noncomputable def bR8 (p:D×D):D:=match p.1 with
 | .tup l=>.tup (l++[p.2])
 | _=>.non
noncomputable def bj7 (d:D):Sto->R (List D):=λ s=>match d with
 | .ref r=>match s[r]? with
  | some (.dit l)=>if l.length<=LIM then .ok (l.map bR8) s else .bad
  | _=>.bad
 | _=>.bad
noncomputable def bx4 (d:D):Sto->R (List D):=λ s=>match d with
 | .tup l=>.ok l s
 | .str l=>.ok (l.map λ c=>.str [c]) s
 | .ref r=>match s[r]? with
  | some (.lst l)=>.ok l s
  | some (.ro l)=>.ok l s
  | _=>.bad
 | _=>.bad
noncomputable def by0 (d:D):Sto->R (List D):=λ s=>match d with
 | .ref r=>match s[r]? with
  | some (.lst l)=>.ok l s
  | _=>.bad
 | _=>.bad
noncomputable def W62:Int:=4611686018427387904
noncomputable def ae6 (a b:Int):List D:=(bz (b - a).toNat).map λ(k:Nat)=>.int (a+k)
noncomputable def bX7 (a b c:Int):List D:=if 0<c then(bz ((b - a+c - 1) / c).toNat).map λ(k:Nat)=>.int (a+c*k)else(bz ((a - b+(-c) - 1) / (-c)).toNat).map λ(k:Nat)=>.int (a+c*k)
noncomputable def bo7 (n:Nat):List D->List D
 | []=>[]
 | d::l=>.tup [.int n,d]::bo7 (n+1) l
noncomputable def bW4:List D->List D->List D
 | a::l,b::m=>.tup [a,b]::bW4 l m
 | _,_=>[]
noncomputable def chk (s0 s:Sto)(src:List Nat):Bool:=src.all λ r=>decide (s[r]?=s0[r]?)
noncomputable def tru {α:Type}(r:R D)(f:Bool->Sto->R α):R α:=r.bind λ d s=>match d with|.bl b=>f b s|_=>.bad
@[simp] theorem tru_bl {α:Type} (b:Bool) (s:Sto) (f:Bool->Sto->R α):tru (.ok (.bl b) s) f=f b s:=rfl
noncomputable def ad7 (ok:Sto->Bool)(g:D->Env->Sto->R (Option D×Env)):List D->Env->Sto->R (List D)
 | [],_,s=>if ok s then .ok [] s else .bad
 | d::l,ρ,s=>if ok s then(g d ρ s).bind λ p s=>(ad7 ok g l p.2 s).bind λ r s=>.ok (match p.1 with|some v=>v::r|none=>r) s else .bad
mutual
noncomputable def ev (F:Fns):E->Env->Sto->R D
 | .var i,ρ,s=>aT4 ρ i s
 | .cst c,_,s=>.ok c.d s
 | .glob x,_,s=>match F.con x with|some d=>.ok d s|none=>.bad
 | .bin op a b,ρ,s=>(ev F a ρ s).bind λ x s=>(ev F b ρ s).bind λ y s=>qB op x y s
 | .neg a,ρ,s=>(ev F a ρ s).bind λ x s=>match x with|.int i=>.ok (.int (-i)) s|_=>.bad
 | .not a,ρ,s=>tru (ev F a ρ s) λ b s=>.ok (.bl (!b)) s
 | .cmp op a b,ρ,s=>(ev F a ρ s).bind λ x s=>(ev F b ρ s).bind λ y s=>qo op x y s
 | .chain o p a b c,ρ,s=>(ev F a ρ s).bind λ x s=>(ev F b ρ s).bind λ y s=>tru (qo o x y s) λ k s=>if k then(ev F c ρ s).bind λ z s=>qo p y z s else .ok (.bl false) s
 | .isN a,ρ,s=>(ev F a ρ s).bind λ x s=>.ok (.bl (decide (x=.non))) s
 | .notN a,ρ,s=>(ev F a ρ s).bind λ x s=>.ok (.bl (!decide (x=.non))) s
 | .isB a b,ρ,s=>(ev F a ρ s).bind λ x s=>match x with|.bl c=>.ok (.bl (c==b)) s|_=>.bad
 | .notB a b,ρ,s=>(ev F a ρ s).bind λ x s=>match x with|.bl c=>.ok (.bl (!(c==b))) s|_=>.bad
 | .and a b,ρ,s=>tru (ev F a ρ s) λ c s=>if c then tru (ev F b ρ s) λ c s=>.ok (.bl c) s else .ok (.bl false) s
 | .or a b,ρ,s=>tru (ev F a ρ s) λ c s=>if c then .ok (.bl true) s else tru (ev F b ρ s) λ c s=>.ok (.bl c) s
 | .ite c a b,ρ,s=>tru (ev F c ρ s) λ k s=>if k then ev F a ρ s else ev F b ρ s
 | .tup es,ρ,s=>(evs F es ρ s).bind λ l s=>.ok (.tup l) s
 | .lst es,ρ,s=>(evs F es ρ s).bind λ l s=>ac8 (.lst l) s
 | .dic .nil .nil,ρ,s=>ac8 (.dic []) s
 | .dic (.cons k .nil) (.cons v .nil),ρ,s=>(ev F k ρ (s++[.dic []])).bind λ kd s1=>(ev F v ρ s1).bind λ vd s2=>if kd.key=true/\s2[s.length]?=some (.dic [])then .ok (.ref s.length) (s2.set s.length (.dic [(kd,vd)]))else .bad
 | .dic _ _,ρ,s=>.bad
 | .dicT,_,s=>ac8 (.dit []) s
 | .get2 o k d,ρ,s=>(ev F o ρ s).bind λ x s=>(ev F k ρ s).bind λ y s=>(ev F d ρ s).bind λ z s=>bh5 x y z s
 | .ix a b,ρ,s=>(ev F a ρ s).bind λ x s=>(ev F b ρ s).bind λ y s=>ixM x y s
 | .slL a lo,ρ,s=>(ev F a ρ s).bind λ x s=>(ev F lo ρ s).bind λ y s=>match y with|.int i=>slM x (some i) none s|_=>.bad
 | .slU a hi,ρ,s=>(ev F a ρ s).bind λ x s=>(ev F hi ρ s).bind λ y s=>match y with|.int i=>slM x none (some i) s|_=>.bad
 | .slLU a lo hi,ρ,s=>(ev F a ρ s).bind λ x s=>(ev F lo ρ s).bind λ y s=>match y with|.int i=>(ev F hi ρ s).bind (λ z s=>match z with|.int j=>slM x (some i) (some j) s|_=>.bad)|_=>.bad
 | .rev a,ρ,s=>(ev F a ρ s).bind λ x s=>bV3 x s
 | .call f as,ρ,s=>(ap4 F as ρ s).bind λ l s=>F.call f l s
 | .callC f as,ρ,s=>(ap4 F as ρ s).bind λ l s=>(F.call f l s).bind λ d s'=>if(d.ncl&&s'.all O.ncl)=true then .ok d s' else .bad
 | .callV i es,ρ,s=>(evs F es ρ s).bind λ l s=>match ρ[i]? with
  | some (some (.fn f))=>F.call f l s
  | some (some (.clo id cs))=>F.lam id cs l s
  | _=>.bad
 | .bi b es,ρ,s=>(evs F es ρ s).bind λ l s=>bi b l s
 | .mk k it,ρ,s=>(evL F it ρ s).bind λ q s=>mk k q s
 | .mkD k it d,ρ,s=>(evL F it ρ s).bind λ q s=>(ev F d ρ s).bind λ d s=>mkD k q d s
 | .meth m o es,ρ,s=>(ev F o ρ s).bind λ x s=>(evs F es ρ s).bind λ l s=>meth m x l s
 | .ext o it,ρ,s=>(ev F o ρ s).bind λ x s=>(evL F it ρ s).bind λ q s=>aZ0 x q s
 | .extS o e,ρ,s=>(ev F o ρ s).bind λ x s=>(ev F e ρ s).bind λ y s=>extS x y s
 | .join o e,ρ,s=>(ev F o ρ s).bind λ x s=>(ev F e ρ s).bind λ y s=>bt2 x y s
 | .mks k e,ρ,s=>(ev F e ρ s).bind λ x s=>(by0 x s).bind λ q s=>mk k q s
 | .mkDs k e d,ρ,s=>(ev F e ρ s).bind λ x s=>(ev F d ρ s).bind λ z s=>(by0 x s).bind λ q s=>mkD k q z s
noncomputable def evs (F:Fns):Es->Env->Sto->R (List D)
 | .nil,_,s=>.ok [] s
 | .cons e es,ρ,s=>(ev F e ρ s).bind λ d s=>(evs F es ρ s).bind λ l s=>.ok (d::l) s
noncomputable def ap4 (F:Fns):As->Env->Sto->R (List D)
 | .nil,_,s=>.ok [] s
 | .ex e as,ρ,s=>(ev F e ρ s).bind λ d s=>(ap4 F as ρ s).bind λ l s=>.ok (d::l) s
 | .lam id caps as,ρ,s=>match af8 ρ caps with
  | some cs=>(ap4 F as ρ s).bind λ l s=>.ok (.clo id cs::l) s
  | none=>.bad
 | .fn f as,ρ,s=>(ap4 F as ρ s).bind λ l s=>.ok (.fn f::l) s
noncomputable def evI (F:Fns):I->Env->Sto->R Sq
 | .seq e,ρ,s=>(ev F e ρ s).bind λ d s=>ah4 d s
 | .rng1 a,ρ,s=>(ev F a ρ s).bind λ x s=>match x with|.int i=>if -W62<=i/\i<W62 then .ok ⟨ae6 0 i,[]⟩ s else .bad|_=>.bad
 | .rng2 a b,ρ,s=>(ev F a ρ s).bind λ x s=>(ev F b ρ s).bind λ y s=>match x,y with|.int i,.int j=>if(-W62<=i/\i<W62)/\-W62<=j/\j<W62 then .ok ⟨ae6 i j,[]⟩ s else .bad|_,_=>.bad
 | .rng3 a b c,ρ,s=>(ev F a ρ s).bind λ x s=>(ev F b ρ s).bind λ y s=>match x,y with|.int i,.int j=>if c=2/\(0<=i/\i<1048576)/\0<=j/\j<1048576 then .ok ⟨bX7 i j c,[]⟩ s else .bad|_,_=>.bad
 | .enum (.seq e),ρ,s=>(ev F e ρ s).bind λ d s=>(aZ9 d s).bind λ q s=>.ok ⟨bo7 0 q.its,q.src⟩ s
 | .zip (.seq a) (.seq b),ρ,s=>(ev F a ρ s).bind λ x s=>(ev F b ρ s).bind λ y s=>(aX6 x s).bind λ p s=>(aX6 y s).bind λ q s=>.ok ⟨bW4 p.its q.its,p.src++q.src⟩ s
 | .enum _,_,_=>.bad
 | .zip _ _,_,_=>.bad
 | .items e,ρ,s=>.bad
noncomputable def evL (F:Fns):L->Env->Sto->R (List D)
 | .comp tg it e caps,ρ,s=>(evI F it ρ s).bind λ q s0=>if q.its.length<=LIM then ad7 (λ s=>chk s0 s q.src) (λ d ρ s=>match ac7 ρ tg d with
   | some ρ=>(ev F e ρ s).bind λ v s=>.ok (some v,ρ) s
   | none=>.bad) q.its (qc ρ caps) s0 else .bad
 | .compIf tg it c e caps,ρ,s=>(evI F it ρ s).bind λ q s0=>if q.its.length<=LIM then ad7 (λ s=>chk s0 s q.src) (λ d ρ s=>match ac7 ρ tg d with
   | some ρ=>tru (ev F c ρ s) λ k s=>if k then(ev F e ρ s).bind λ v s=>.ok (some v,ρ) s else .ok (none,ρ) s
   | none=>.bad) q.its (qc ρ caps) s0 else .bad
 | .disp es,ρ,s=>evs F es ρ s
 | .seq e,ρ,s=>(ev F e ρ s).bind λ d s=>bx4 d s
 | .itm e,ρ,s=>(ev F e ρ s).bind λ d s=>bj7 d s
end
inductive Ct where
 | next (ρ:Env)|ret (d:D)|cont (ρ:Env)|brk (ρ:Env)
noncomputable def aM9 (ok:Sto->Bool)(g:D->Env->Sto->R Ct):List D->Env->Sto->R Ct
 | [],ρ,s=>if ok s then .ok (.next ρ) s else .bad
 | d::l,ρ,s=>if ok s then(g d ρ s).bind λ c s=>match c with
   | .next ρ=>aM9 ok g l ρ s
   | .cont ρ=>aM9 ok g l ρ s
   | .brk ρ=>.ok (.next ρ) s
   | .ret d=>.ok (.ret d) s
  else .bad
noncomputable def qF (c:Env->Sto->R D)(g:Env->Sto->R Ct):Nat->Env->Sto->R Ct
 | 0,_,_=>.bad
 | n+1,ρ,s=>tru (c ρ s) λ b s=>if b then(g ρ s).bind λ c' s=>match c' with
   | .next ρ=>qF c g n ρ s
   | .cont ρ=>qF c g n ρ s
   | .brk ρ=>.ok (.next ρ) s
   | .ret d=>.ok (.ret d) s
  else .ok (.next ρ) s
open Classical in
noncomputable def whl (c:Env->Sto->R D)(g:Env->Sto->R Ct)(ρ:Env)(s:Sto):R Ct :=
 if h:∃ n,qF c g n ρ s≠.bad then qF c g h.choose ρ s else .bad
mutual
noncomputable def ex (F:Fns):S->Env->Sto->R Ct
 | .asg tg e,ρ,s=>(ev F e ρ s).bind λ d s=>match ac7 ρ tg d with|some ρ=>.ok (.next ρ) s|none=>.bad
 | .setIx o i e,ρ,s=>(ev F e ρ s).bind λ d s=>(ev F o ρ s).bind λ x s=>(ev F i ρ s).bind λ y s=>(setIx x y d s).bind λ _ s=>.ok (.next ρ) s
 | .aug i e,ρ,s=>(aT4 ρ i s).bind λ x s=>(ev F e ρ s).bind λ y s=>match x,y with
  | .int a,.int b=>match aD6 ρ i (.int (a+b))with|some ρ=>.ok (.next ρ) s|none=>.bad
  | _,_=>.bad
 | .ex e,ρ,s=>(ev F e ρ s).bind λ _ s=>.ok (.next ρ) s
 | .ret e,ρ,s=>(ev F e ρ s).bind λ d s=>.ok (.ret d) s
 | .retN,_,s=>.ok (.ret .non) s
 | .ite c a b,ρ,s=>tru (ev F c ρ s) λ k s=>if k then exs F a ρ s else exs F b ρ s
 | .whl c b,ρ,s=>whl (ev F c) (exs F b) ρ s
 | .for_ tg it b,ρ,s=>(evI F it ρ s).bind λ q s0=>aM9 (λ s=>chk s0 s q.src) (λ d ρ s=>match ac7 ρ tg d with
   | some ρ=>exs F b ρ s
   | none=>.bad) q.its ρ s0
 | .pass,ρ,s=>.ok (.next ρ) s
 | .cont,ρ,s=>.ok (.cont ρ) s
 | .brk,ρ,s=>.ok (.brk ρ) s
 | .raise,_,_=>.bad
 | .und i,ρ,s=>match ae2 ρ i with|some ρ=>.ok (.next ρ) s|none=>.bad
noncomputable def exs (F:Fns):Ss->Env->Sto->R Ct
 | .nil,ρ,s=>.ok (.next ρ) s
 | .cons st ss,ρ,s=>(ex F st ρ s).bind λ c s=>match c with|.next ρ=>exs F ss ρ s|c=>.ok c s
end
structure Df where
 name:String
 ps:Nat
 vs:Nat
 body:Ss
structure Lm where
 id:String
 ps:Nat
 cs:Nat
 body:E
structure Pr where
 df:String->Option Df
 lm:String->Option Lm
 con:String->Option D
noncomputable def aq1 (st st':Sto):Bool:=(bz st.length).all λ i=>decide (st'[i]?=st[i]?)||(match st'[i]? with|some o=>o.bnd st.length|none=>false)
noncomputable def zH (st:Sto)(d:D)(st':Sto):R D :=
 if aq1 st st' then
  match d with
  | .ref r=>if r<st.length then .ok d (st'.take st.length)else match st'[r]? with
   | some o=>if o.bnd st.length then .ok (.ref st.length) (st'.take st.length++[o])else .ok d st'
   | none=>.bad
  | d=>if d.bnd st.length then .ok d (st'.take st.length)else .ok d st'
 else .ok d st'
noncomputable def aa1 (P:Pr):Nat->Fns
 | 0=>⟨λ _ _ _=>.bad,λ _ _ _ _=>.bad,P.con⟩
 | n+1=>⟨λ f l s=>match P.df f with
   | some d=>if l.length=d.ps then(exs (aa1 P n) d.body (l.map some++aH d.vs none) s).bind λ c s'=>match c with
     | .ret v=>zH s v s'
     | .next _=>zH s .non s'
     | _=>.bad else .bad
   | none=>.bad,
  λ id cs l s=>match P.lm id with
   | some d=>if l.length=d.ps/\cs.length=d.cs/\(D.nclL l&&D.nclL cs&&s.all O.ncl)=true then(ev (aa1 P n) d.body (l.map some++cs.map some) s).bind λ v s'=>zH s v s' else .bad
   | none=>.bad,P.con⟩
def KP (s s':Sto):Prop:=∀(i:Nat) (o:O),s[i]?=some o->∃ o',s'[i]?=some o'/\o'.kd=o.kd
theorem KP.refl (s:Sto):KP s s:=λ i o h=>⟨o,h,rfl⟩
theorem KP.trans {a b c:Sto}(h:KP a b)(g:KP b c):KP a c:=λ i o e=>by
 obtain⟨y,e1,k1⟩:=h i o e
 obtain⟨z,e2,k2⟩:=g i y e1
 exact⟨z,e2,k2.trans k1⟩
theorem KP.app (s t:Sto):KP s (s++t):=λ i o e=>⟨o,by rw[aK (ac.mp e).1];exact e,rfl⟩
theorem KP.set {s:Sto}{r:Nat}{o y:O}(h:s[r]?=some y)(k:o.kd=y.kd):KP s (s.set r o):=λ i u e=>by
 by_cases z:r=i
 ·subst z
  rw[h]at e;cases e
  exact⟨o,aV (ac.mp h).1,k⟩
 ·exact⟨u,by rw[aR z];exact e,rfl⟩
def KR {α:Type}(s:Sto)(r:R α):Prop:=∀ a s',r=.ok a s'->KP s s'
theorem KR.bad {α:Type}{s:Sto}:KR s (.bad:R α):=λ _ _ h=>by cases h
theorem KR.ok {α:Type}{s:Sto}{a:α}:KR s (.ok a s):=λ _ _ h=>by cases h;exact KP.refl _
theorem KR.bind {α β:Type}{s:Sto}{r:R α}{f:α->Sto->R β}(h:KR s r)(g:∀ a s1,KR s1 (f a s1)):KR s (r.bind f):=λ b s' e=>by
 obtain⟨a,s1,e1,e2⟩:=R.bind_inv e
 exact(h a s1 e1).trans (g a s1 b s' e2)
theorem KR.tru {α:Type}{s:Sto}{r:R D}{f:Bool->Sto->R α}(h:KR s r)(g:∀ a s1,KR s1 (f a s1)):KR s (tru r f):=KR.bind h λ a s1=>by
 cases a with
 | bl b=>exact g b s1
 | _=>exact KR.bad
theorem KR.if {α:Type}{s:Sto}{c:Prop}[Decidable c]{a b:R α}(h:KR s a)(g:KR s b):KR s (if c then a else b):=by split;exact h;exact g
theorem KR.al {s:Sto}{o:O}:KR s (ac8 o s):=λ _ _ h=>by cases h;exact KP.app _ _
theorem KR.pu {s:Sto}{d:D}:KR s (pur d s):=λ _ _ h=>by cases h;exact KP.refl _
theorem KR.bd {s:Sto}:KR s ((DV.bad:M D) s):=λ _ _ h=>by cases h
theorem KR.im {s:Sto}{c:Prop}{_:Decidable c}{d:D}:KR s ((if c then pur d else DV.bad:M D) s):=by split;exact KR.pu;exact KR.bd
theorem KR.ia {s:Sto}{c:Prop}{_:Decidable c}{o:O}:KR s (if c then ac8 o s else .bad):=KR.if KR.al KR.bd
theorem aZ2 (op:BOp)(x y:D)(s:Sto):KR s (qB op x y s):=by
 cases op with
 | add=>cases x with
  | int a=>cases y with
   | int b=>exact KR.pu
   | _=>exact KR.bd
  | str a=>cases y with
   | str b=>exact KR.im
   | _=>exact KR.bd
  | tup a=>cases y with
   | tup b=>exact KR.im
   | _=>exact KR.bd
  | ref a=>cases y with
   | ref b =>
    show KR s (match s[a]?,s[b]? with|some (.lst l),some (.lst m)=>if l.length+m.length<=LIM then ac8 (.lst (l++m)) s else .bad|_,_=>.bad)
    split
    ·exact KR.ia
    ·exact KR.bd
   | _=>exact KR.bd
  | _=>exact KR.bd
 | sub=>cases x with
  | int a=>cases y with
   | int b=>exact KR.pu
   | _=>exact KR.bd
  | _=>exact KR.bd
 | mul=>cases x with
  | int a=>cases y with
   | int b=>exact KR.im
   | _=>exact KR.bd
  | str a=>cases y with
   | int b=>exact KR.im
   | _=>exact KR.bd
  | tup a=>cases y with
   | int b=>exact KR.im
   | _=>exact KR.bd
  | ref a=>cases y with
   | int n =>
    show KR s (match s[a]? with|some (.lst l)=>if 0<=n/\n<=1000000/\l.length*n.toNat<=LIM then ac8 (.lst (aN0 n.toNat l)) s else .bad|_=>.bad)
    split
    ·exact KR.ia
    ·exact KR.bd
   | _=>exact KR.bd
  | _=>exact KR.bd
 | fdiv=>cases x with
  | int a=>cases y with
   | int b=>exact KR.im
   | _=>exact KR.bd
  | _=>exact KR.bd
 | mod=>cases x with
  | int a=>cases y with
   | int b=>exact KR.im
   | _=>exact KR.bd
  | _=>exact KR.bd
 | pow=>cases x with
  | int a=>cases y with
   | int b=>exact KR.im
   | _=>exact KR.bd
  | _=>exact KR.bd
 | shl=>cases x with
  | int a=>cases y with
   | int b=>exact KR.im
   | _=>exact KR.bd
  | _=>exact KR.bd
 | shr=>cases x with
  | int a=>cases y with
   | int b=>exact KR.im
   | _=>exact KR.bd
  | _=>exact KR.bd
 | _=>exact KR.bd
theorem aV2 (op:COp)(x y:D)(s:Sto):KR s (qo op x y s):=by
 have z:∀ a b:D,KR s (inM a b s):=λ a b=>by
  intro r s' h
  unfold inM at h
  split at h
  ·split at h<;>cases h;exact KP.refl _
  ·split at h
   ·split at h<;>cases h;exact KP.refl _
   ·split at h<;>cases h;exact KP.refl _
   ·split at h<;>cases h;exact KP.refl _
   ·cases h
  ·split at h<;>cases h;exact KP.refl _
  ·cases h
 cases op with
 | isin=>exact KR.bind (z x y) λ _ _=>KR.ok
 | notin=>exact KR.bind (z x y) λ _ _=>KR.ok
 | eq=>intro a s' h;change eqM x y s=_ at h;unfold eqM at h;split at h<;>cases h;exact KP.refl _
 | ne =>
  intro a s' h
  change(match eqv s DEEP x y with|some r=>R.ok (D.bl (!r)) s|none=>.bad)=_ at h
  split at h<;>cases h;exact KP.refl _
 | _ =>
  intro a s' h
  cases x with
  | int i=>(cases y with
   | int j=>cases h;exact KP.refl _
   | _=>cases h)
  | _=>cases h
theorem bS8 (x y:D)(s:Sto):KR s (ixM x y s):=by
 intro a s' h
 unfold ixM at h
 repeat' split at h
 all_goals first|(cases h;exact KP.refl _;done)|(cases h;done)
theorem bm9 (x:D)(y z:Option Int)(s:Sto):KR s (slM x y z s):=by
 intro a s' h
 unfold slM at h
 repeat' split at h
 all_goals first|(cases h;exact KP.refl _;done)|(cases h;exact KP.app _ _;done)|(cases h;done)
theorem bu5 (x:D)(s:Sto):KR s (bx4 x s):=by
 intro a s' h
 unfold bx4 at h
 repeat' split at h
 all_goals first|(cases h;exact KP.refl _;done)|(cases h;done)
theorem aO7 (x:D)(s:Sto):KR s (by0 x s):=by
 intro a s' h
 unfold by0 at h
 repeat' split at h
 all_goals first|(cases h;exact KP.refl _;done)|(cases h;done)
theorem bn5 (x:D)(s:Sto):KR s (ah4 x s):=by
 intro a s' h
 unfold ah4 at h
 repeat' split at h
 all_goals first|(cases h;exact KP.refl _;done)|(cases h;done)
theorem aI8 (x:D)(s:Sto):KR s (aX6 x s):=by
 intro a s' h
 unfold aX6 at h
 repeat' split at h
 all_goals first|(cases h;exact KP.refl _;done)|(cases h;done)
theorem be9 (x:D)(s:Sto):KR s (aZ9 x s):=by
 intro a s' h
 unfold aZ9 at h
 repeat' split at h
 all_goals first|(cases h;exact KP.refl _;done)|(cases h;done)
theorem bq8 (x y:D)(s:Sto):KR s (bt2 x y s):=by
 intro a s' h
 unfold bt2 at h
 repeat' split at h
 all_goals first|(cases h;exact KP.refl _;done)|(cases h;done)
theorem bO9 (b:Bi)(l:List D)(s:Sto):KR s (bi b l s):=by
 have k1:∀ f:D->M D,(∀ d,KR s (f d s))->KR s (bi1 f l s):=λ f z=>by
  cases l with
  | nil=>exact KR.bad
  | cons d t=>(cases t with
   | nil=>exact z d
   | cons _ _=>exact KR.bad)
 have k2:∀ k d,KR s (isK k d s):=λ k d=>by
  intro a s' h
  unfold isK at h
  repeat' split at h
  all_goals first|(cases h;exact KP.refl _;done)|(cases h;done)
 have y:∀ d,KR s (by2 d s):=λ d=>by
  intro a s' h
  unfold by2 at h
  repeat' split at h
  all_goals first|(cases h;exact KP.refl _;done)|(cases h;done)
 cases b with
 | len=>exact k1 _ y
 | isInt=>exact k1 _ (k2 1)
 | isBool=>exact k1 _ (k2 2)
 | isStr=>exact k1 _ (k2 3)
 | isTup=>exact k1 _ (k2 4)
 | isList=>exact k1 _ (k2 5)
 | _ =>
  intro a s' h
  unfold bi at h
  first|(cases h;done)|(simp only at h;split at h<;>first|(cases h;exact KP.refl _;done)|(cases h;done))
theorem bD3 (k:Mk)(l:List D)(s:Sto):KR s (mk k l s):=by
 cases k with
 | tuple=>exact KR.ok
 | list=>exact KR.al
 | lenset=>exact KR.bad
 | _ =>
  intro a s' h
  unfold mk at h
  simp only at h
  repeat' split at h
  all_goals first|(cases h;exact KP.refl _;done)|(cases h;exact KP.app _ _;done)|(cases h;done)
theorem bh9 (k:Mk)(l:List D)(d:D)(s:Sto):KR s (mkD k l d s):=by
 intro a s' h
 unfold mkD at h
 repeat' split at h
 all_goals first|(cases h;exact KP.refl _;done)|(cases h;done)
theorem bw8 (m:Mt)(o:D)(l:List D)(s:Sto):KR s (meth m o l s):=by
 intro a s' h
 unfold meth at h
 repeat' split at h
 all_goals first|(cases h;done)|(cases h;exact KP.refl _;done)|(rename_i e _;cases h;exact KP.set e rfl;done)|(rename_i e _ _ _;cases h;exact KP.set e rfl;done)|(rename_i e;cases h;exact KP.set e rfl;done)|(rename_i e _ _;cases h;exact KP.set e rfl;done)
theorem aQ1 (o:D)(l:List D)(s:Sto):KR s (aZ0 o l s):=by
 intro a s' h
 unfold aZ0 at h
 repeat' split at h
 all_goals first|(cases h;done)|(rename_i e _;cases h;exact KP.set e rfl;done)
theorem ba9 (o i v:D)(s:Sto):KR s (setIx o i v s):=by
 intro a s' h
 unfold setIx at h
 cases o with
 | ref r =>
  simp only at h
  cases e:s[r]? with
  | none=>rw[e]at h;cases h
  | some ob =>
   rw[e]at h
   cases ob with
   | lst l =>
    cases i with
    | int k=>simp only at h;split at h<;>cases h;exact KP.set e rfl
    | _=>cases h
   | dic l=>simp only at h;split at h<;>cases h;exact KP.set e rfl
   | dit l=>simp only at h;split at h<;>cases h;exact KP.set e rfl
   | _=>cases h
 | _=>cases h
theorem bs1 (o k e:D)(s:Sto):KR s (bh5 o k e s):=by
 intro a s' h
 unfold bh5 at h
 repeat' split at h
 all_goals first|(cases h;exact KP.refl _;done)|(cases h;done)
theorem bw7 (d:D)(s:Sto):KR s (bj7 d s):=by
 intro a s' h
 unfold bj7 at h
 repeat' split at h
 all_goals first|(cases h;exact KP.refl _;done)|(cases h;done)
structure FK (F:Fns):Prop where
 call:∀ f l s,KR s (F.call f l s)
 lam:∀ id cs l s,KR s (F.lam id cs l s)
theorem at1 {ok:Sto->Bool}{g:D->Env->Sto->R (Option D×Env)}(hg:∀ d ρ s,KR s (g d ρ s)):∀(l:List D) (ρ:Env) (s:Sto),KR s (ad7 ok g l ρ s)
 | [],ρ,s=>KR.if KR.ok KR.bad
 | d::l,ρ,s=>KR.if (KR.bind (hg d ρ s) λ p s1=>KR.bind (at1 hg l p.2 s1) λ r s2=>KR.ok) KR.bad
section
variable {F:Fns} (hF:FK F)
theorem aV7 (ρ:Env)(i:Nat)(s:Sto):KR s (aT4 ρ i s):=by
 intro a s' h
 unfold aT4 at h
 split at h<;>cases h;exact KP.refl _
include hF
mutual
theorem ze:∀(e:E) (ρ:Env) (s:Sto),KR s (ev F e ρ s)
 | .var i,ρ,s=>aV7 ρ i s
 | .cst c,ρ,s=>KR.ok
 | .glob x,ρ,s=>by
  intro a s' h
  change(match F.con x with|some d=>R.ok d s|none=>.bad)=_ at h
  split at h<;>cases h;exact KP.refl _
 | .bin op a b,ρ,s=>KR.bind (ze a ρ s) λ x s=>KR.bind (ze b ρ s) λ y s=>aZ2 op x y s
 | .neg a,ρ,s=>KR.bind (ze a ρ s) λ x s=>by
  cases x with
  | int i=>exact KR.ok
  | _=>exact KR.bad
 | .not a,ρ,s=>KR.tru (ze a ρ s) λ b s=>KR.ok
 | .cmp op a b,ρ,s=>KR.bind (ze a ρ s) λ x s=>KR.bind (ze b ρ s) λ y s=>aV2 op x y s
 | .chain o p a b c,ρ,s=>KR.bind (ze a ρ s) λ x s=>KR.bind (ze b ρ s) λ y s=>KR.tru (aV2 o x y s) λ k s=>KR.if (KR.bind (ze c ρ s) λ z s=>aV2 p y z s) KR.ok
 | .isN a,ρ,s=>KR.bind (ze a ρ s) λ x s=>KR.ok
 | .notN a,ρ,s=>KR.bind (ze a ρ s) λ x s=>KR.ok
 | .isB a b,ρ,s=>KR.bind (ze a ρ s) λ x s=>by
  cases x with
  | bl i=>exact KR.ok
  | _=>exact KR.bad
 | .notB a b,ρ,s=>KR.bind (ze a ρ s) λ x s=>by
  cases x with
  | bl i=>exact KR.ok
  | _=>exact KR.bad
 | .and a b,ρ,s=>KR.tru (ze a ρ s) λ c s=>KR.if (KR.tru (ze b ρ s) λ c s=>KR.ok) KR.ok
 | .or a b,ρ,s=>KR.tru (ze a ρ s) λ c s=>KR.if KR.ok (KR.tru (ze b ρ s) λ c s=>KR.ok)
 | .ite c a b,ρ,s=>KR.tru (ze c ρ s) λ k s=>KR.if (ze a ρ s) (ze b ρ s)
 | .tup es,ρ,s=>KR.bind (af7 es ρ s) λ l s=>KR.ok
 | .lst es,ρ,s=>KR.bind (af7 es ρ s) λ l s=>KR.al
 | .dic .nil .nil,ρ,s=>KR.al
 | .dic (.cons k .nil) (.cons v .nil),ρ,s=>by
  intro a s' h
  obtain⟨kd,s1,e1,h⟩:=R.bind_inv (show(ev F k ρ (s++[.dic []])).bind _=_ from h)
  obtain⟨C,s2,e2,h⟩:=R.bind_inv h
  split at h
  case isFalse=>cases h
  rename_i hc
  cases h
  exact((KP.app _ _).trans ((ze k ρ _ _ _ e1).trans (ze v ρ _ _ _ e2))).trans (KP.set hc.2 rfl)
 | .dic .nil (.cons _ _),ρ,s=>KR.bad
 | .dic (.cons _ .nil) .nil,ρ,s=>KR.bad
 | .dic (.cons _ .nil) (.cons _ (.cons _ _)),ρ,s=>KR.bad
 | .dic (.cons _ (.cons _ _)) _,ρ,s=>KR.bad
 | .dicT,ρ,s=>KR.al
 | .get2 o k d,ρ,s=>KR.bind (ze o ρ s) λ x s=>KR.bind (ze k ρ s) λ y s=>KR.bind (ze d ρ s) λ z s=>bs1 x y z s
 | .ix a b,ρ,s=>KR.bind (ze a ρ s) λ x s=>KR.bind (ze b ρ s) λ y s=>bS8 x y s
 | .slL a lo,ρ,s=>KR.bind (ze a ρ s) λ x s=>KR.bind (ze lo ρ s) λ y s=>by
  cases y with
  | int i=>exact bm9 _ _ _ _
  | _=>exact KR.bad
 | .slU a hi,ρ,s=>KR.bind (ze a ρ s) λ x s=>KR.bind (ze hi ρ s) λ y s=>by
  cases y with
  | int i=>exact bm9 _ _ _ _
  | _=>exact KR.bad
 | .slLU a lo hi,ρ,s=>KR.bind (ze a ρ s) λ x s=>KR.bind (ze lo ρ s) λ y s=>by
  cases y with
  | int i =>
   refine KR.bind (ze hi ρ s) λ z s=>?_
   cases z with
   | int j=>exact bm9 _ _ _ _
   | _=>exact KR.bad
  | _=>exact KR.bad
 | .rev a,ρ,s=>KR.bind (ze a ρ s) λ x s=>by
  cases x with
  | str l=>exact KR.ok
  | _=>exact KR.bad
 | .call f as,ρ,s=>KR.bind (ak3 as ρ s) λ l s=>hF.call f l s
 | .callC f as,ρ,s=>KR.bind (ak3 as ρ s) λ l s=>KR.bind (hF.call f l s) λ d s'=>KR.if KR.ok KR.bad
 | .callV i es,ρ,s=>KR.bind (af7 es ρ s) λ l s=>by
  intro a s' h
  split at h
  ·exact hF.call _ _ _ _ _ h
  ·exact hF.lam _ _ _ _ _ _ h
  ·cases h
 | .bi b es,ρ,s=>KR.bind (af7 es ρ s) λ l s=>bO9 b l s
 | .mk k it,ρ,s=>KR.bind (aI3 it ρ s) λ q s=>bD3 k q s
 | .mkD k it d,ρ,s=>KR.bind (aI3 it ρ s) λ q s=>KR.bind (ze d ρ s) λ d s=>bh9 k q d s
 | .meth m o es,ρ,s=>KR.bind (ze o ρ s) λ x s=>KR.bind (af7 es ρ s) λ l s=>bw8 m x l s
 | .ext o it,ρ,s=>KR.bind (ze o ρ s) λ x s=>KR.bind (aI3 it ρ s) λ q s=>aQ1 x q s
 | .extS o e,ρ,s=>KR.bind (ze o ρ s) λ x s=>KR.bind (ze e ρ s) λ y s=>by
  intro a s' h
  unfold extS at h
  repeat' split at h
  all_goals first|(cases h;done)|exact aQ1 _ _ _ _ _ h
 | .join o e,ρ,s=>KR.bind (ze o ρ s) λ x s=>KR.bind (ze e ρ s) λ y s=>bq8 x y s
 | .mks k e,ρ,s=>KR.bind (ze e ρ s) λ x s=>KR.bind (aO7 x s) λ q s=>bD3 k q s
 | .mkDs k e d,ρ,s=>KR.bind (ze e ρ s) λ x s=>KR.bind (ze d ρ s) λ z s=>KR.bind (aO7 x s) λ q s=>bh9 k q z s
theorem af7:∀(es:Es) (ρ:Env) (s:Sto),KR s (evs F es ρ s)
 | .nil,ρ,s=>KR.ok
 | .cons e es,ρ,s=>KR.bind (ze e ρ s) λ d s=>KR.bind (af7 es ρ s) λ l s=>KR.ok
theorem ak3:∀(y:As) (ρ:Env) (s:Sto),KR s (ap4 F y ρ s)
 | .nil,ρ,s=>KR.ok
 | .ex e y,ρ,s=>KR.bind (ze e ρ s) λ d s=>KR.bind (ak3 y ρ s) λ l s=>KR.ok
 | .lam id caps y,ρ,s=>by
  intro a s' h
  change(match af8 ρ caps with|some cs=>(ap4 F y ρ s).bind λ l s=>R.ok (D.clo id cs::l) s|none=>.bad)=_ at h
  split at h
  ·exact KR.bind (ak3 y ρ s) (λ l s=>KR.ok) _ _ h
  ·cases h
 | .fn f y,ρ,s=>KR.bind (ak3 y ρ s) λ l s=>KR.ok
theorem aO4:∀(it:I) (ρ:Env) (s:Sto),KR s (evI F it ρ s)
 | .seq e,ρ,s=>KR.bind (ze e ρ s) λ d s=>bn5 d s
 | .rng1 a,ρ,s=>KR.bind (ze a ρ s) λ x s=>by
  cases x with
  | int i=>exact KR.if KR.ok KR.bad
  | _=>exact KR.bad
 | .rng2 a b,ρ,s=>KR.bind (ze a ρ s) λ x s=>KR.bind (ze b ρ s) λ y s=>by
  cases x with
  | int i=>(cases y with
   | int j=>exact KR.if KR.ok KR.bad
   | _=>exact KR.bad)
  | _=>exact KR.bad
 | .rng3 a b c,ρ,s=>KR.bind (ze a ρ s) λ x s=>KR.bind (ze b ρ s) λ y s=>by
  cases x with
  | int i=>(cases y with
   | int j=>exact KR.if KR.ok KR.bad
   | _=>exact KR.bad)
  | _=>exact KR.bad
 | .enum (.seq e),ρ,s=>KR.bind (ze e ρ s) λ d s=>KR.bind (be9 d s) λ q s=>KR.ok
 | .zip (.seq a) (.seq b),ρ,s=>KR.bind (ze a ρ s) λ x s=>KR.bind (ze b ρ s) λ y s=>KR.bind (aI8 x s) λ p s=>KR.bind (aI8 y s) λ q s=>KR.ok
 | .enum (.rng1 _),ρ,s=>KR.bad
 | .enum (.rng2 _ _),ρ,s=>KR.bad
 | .enum (.rng3 _ _ _),ρ,s=>KR.bad
 | .enum (.enum _),ρ,s=>KR.bad
 | .enum (.zip _ _),ρ,s=>KR.bad
 | .enum (.items _),ρ,s=>KR.bad
 | .zip (.rng1 _) _,ρ,s=>KR.bad
 | .zip (.rng2 _ _) _,ρ,s=>KR.bad
 | .zip (.rng3 _ _ _) _,ρ,s=>KR.bad
 | .zip (.enum _) _,ρ,s=>KR.bad
 | .zip (.zip _ _) _,ρ,s=>KR.bad
 | .zip (.items _) _,ρ,s=>KR.bad
 | .zip (.seq _) (.rng1 _),ρ,s=>KR.bad
 | .zip (.seq _) (.rng2 _ _),ρ,s=>KR.bad
 | .zip (.seq _) (.rng3 _ _ _),ρ,s=>KR.bad
 | .zip (.seq _) (.enum _),ρ,s=>KR.bad
 | .zip (.seq _) (.zip _ _),ρ,s=>KR.bad
 | .zip (.seq _) (.items _),ρ,s=>KR.bad
 | .items e,ρ,s=>KR.bad
theorem aI3:∀(it:L) (ρ:Env) (s:Sto),KR s (evL F it ρ s)
 | .comp tg it e caps,ρ,s=>KR.bind (aO4 it ρ s) λ q s0=>KR.if (at1 (λ d ρ s=>by
   intro a s' h
   split at h
   ·exact KR.bind (ze e _ s) (λ v s=>KR.ok) _ _ h
   ·cases h) _ _ _) KR.bad
 | .compIf tg it c e caps,ρ,s=>KR.bind (aO4 it ρ s) λ q s0=>KR.if (at1 (λ d ρ s=>by
   intro a s' h
   split at h
   ·exact KR.tru (ze c _ s) (λ k s=>KR.if (KR.bind (ze e _ s) λ v s=>KR.ok) KR.ok) _ _ h
   ·cases h) _ _ _) KR.bad
 | .disp es,ρ,s=>af7 es ρ s
 | .seq e,ρ,s=>KR.bind (ze e ρ s) λ d s=>bu5 d s
 | .itm e,ρ,s=>KR.bind (ze e ρ s) λ d s=>bw7 d s
end
theorem aB7 {ok:Sto->Bool}{g:D->Env->Sto->R Ct}(hg:∀ d ρ s,KR s (g d ρ s)):∀(l:List D) (ρ:Env) (s:Sto),KR s (aM9 ok g l ρ s)
 | [],ρ,s=>KR.if KR.ok KR.bad
 | d::l,ρ,s=>KR.if (KR.bind (hg d ρ s) λ c s=>by
   cases c with
   | next ρ=>exact aB7 hg l ρ s
   | cont ρ=>exact aB7 hg l ρ s
   | brk ρ=>exact KR.ok
   | ret d=>exact KR.ok) KR.bad
theorem aE4 {c:Env->Sto->R D}{g:Env->Sto->R Ct}(hc:∀ ρ s,KR s (c ρ s))(hg:∀ ρ s,KR s (g ρ s)):∀(n:Nat) (ρ:Env) (s:Sto),KR s (qF c g n ρ s)
 | 0,ρ,s=>KR.bad
 | n+1,ρ,s=>KR.tru (hc ρ s) λ b s=>KR.if (KR.bind (hg ρ s) λ h s=>by
   cases h with
   | next ρ=>exact aE4 hc hg n ρ s
   | cont ρ=>exact aE4 hc hg n ρ s
   | brk ρ=>exact KR.ok
   | ret d=>exact KR.ok) KR.ok
mutual
theorem bO3:∀(st:S) (ρ:Env) (s:Sto),KR s (ex F st ρ s)
 | .asg tg e,ρ,s=>KR.bind (ze hF e ρ s) λ d s=>by
  intro a s' h
  split at h<;>cases h;exact KP.refl _
 | .setIx o i e,ρ,s=>KR.bind (ze hF e ρ s) λ d s=>KR.bind (ze hF o ρ s) λ x s=>KR.bind (ze hF i ρ s) λ y s=>KR.bind (ba9 x y d s) λ _ s=>KR.ok
 | .aug i e,ρ,s=>KR.bind (aV7 ρ i s) λ x s=>KR.bind (ze hF e ρ s) λ y s=>by
  intro a s' h
  repeat' split at h
  all_goals first|(cases h;exact KP.refl _;done)|(cases h;done)
 | .ex e,ρ,s=>KR.bind (ze hF e ρ s) λ d s=>KR.ok
 | .ret e,ρ,s=>KR.bind (ze hF e ρ s) λ d s=>KR.ok
 | .retN,ρ,s=>KR.ok
 | .ite c a b,ρ,s=>KR.tru (ze hF c ρ s) λ k s=>KR.if (ao2 a ρ s) (ao2 b ρ s)
 | .whl c b,ρ,s=>by
  intro r s' h
  change whl (ev F c) (exs F b) ρ s=_ at h
  unfold whl at h
  split at h
  ·exact aE4 hF (λ ρ s=>ze hF c ρ s) (λ ρ s=>ao2 b ρ s) _ ρ s _ _ h
  ·cases h
 | .for_ tg it b,ρ,s=>KR.bind (aO4 hF it ρ s) λ q s0=>aB7 hF (λ d ρ s=>by
   intro a s' h
   split at h
   ·exact ao2 b _ _ _ _ h
   ·cases h) _ _ _
 | .pass,ρ,s=>KR.ok
 | .cont,ρ,s=>KR.ok
 | .brk,ρ,s=>KR.ok
 | .raise,ρ,s=>KR.bad
 | .und i,ρ,s=>by
  intro a s' h
  change(match ae2 ρ i with|some ρ=>R.ok (Ct.next ρ) s|none=>.bad)=_ at h
  split at h<;>cases h;exact KP.refl _
theorem ao2:∀(h:Ss) (ρ:Env) (s:Sto),KR s (exs F h ρ s)
 | .nil,ρ,s=>KR.ok
 | .cons st h,ρ,s=>KR.bind (bO3 st ρ s) λ c s=>by
  cases c with
  | next ρ=>exact ao2 h ρ s
  | _=>exact KR.ok
end
end
theorem as4 {s st:Sto}{d:D}(h:KP s st):KR s (zH s d st):=by
 have tk:∀ t,KP s (st.take s.length++t):=λ t i o e=>by
  obtain⟨z,e',k⟩:=h i o e
  have C:=(ac.mp e).1
  have F:=(ac.mp e').1
  refine⟨z,?_,k⟩
  rw[aK (by rw[bQ];omega),jg,if_pos C];exact e'
 have y:KP s (st.take s.length):=by have:=tk [];rwa [bq]at this
 intro a s' e
 unfold zH at e
 repeat' split at e
 all_goals first|(cases e;exact y;done)|(cases e;exact tk _;done)|(cases e;exact h;done)|(cases e;done)
theorem aj0 (P:Pr):∀ n,FK (aa1 P n)
 | 0=>⟨λ _ _ _=>KR.bad,λ _ _ _ _=>KR.bad⟩
 | n+1=>by
  refine⟨λ f l s=>?_,λ id cs l s=>?_⟩
  ·intro a s' h
   unfold aa1 at h
   simp only at h
   split at h
   case h_2=>cases h
   split at h
   case isFalse=>cases h
   obtain⟨c,s1,e1,h⟩:=R.bind_inv h
   have k1:=ao2 (aj0 P n) _ _ _ _ _ e1
   cases c with
   | ret v=>exact as4 k1 _ _ h
   | next ρ=>exact as4 k1 _ _ h
   | _=>cases h
  ·intro a s' h
   unfold aa1 at h
   simp only at h
   split at h
   case h_2=>cases h
   split at h
   case isFalse=>cases h
   obtain⟨v,s1,e1,h⟩:=R.bind_inv h
   exact as4 (ze (aj0 P n) _ _ _ _ _ e1) _ _ h
end DV
end
open DV renaming Sto->kR,D->kS,Env->kU,ev->kW,R->kY,LIM->k6,eqv->k8,aa1->la,tru->lc,DEEP->lf,ap1->lh,eqL->lj,rep->ln,kd->lp,ac9->lq,ac7->lr,Pr->lu,O->lv,look->lw,Es->lx,ah0->ly,Fns->lz,evs->lA,af8->lB,Bi->lC,Tg->lD,Ct->lE,aN0->lF,ac8->lG,sbd->lH,chk->lI,E->lJ,loB->lK,inL->lL,ixn->lM,qf->lO,As->lP,minI->lQ,aB5->lR,ai3->lS,ae6->lU,aD6->lV,ad7->lW,ap4->lX,M->lY,Sq->lZ,qc->l6,mk->l7,Lm->l8,Df->l9,COp->mf,hiB->mq,slM->mr,ak7->mw,meth->mx,Mk->my,Mt->mz,Ss->mB,aP5->mD,pur->mF,inM->mG,bi1->mH,aM9->mJ,bi->mK,BOp->mM,isK->mN,W62->mQ,S->mR,evI->mT,evL->mU,exs->mV,ae2->mW,aq1->mY
open DV.D renaming bndL->kT,bnd->kX,hdI->k9,keyS->li,nclL->lN,ncl->mO
open DV.O renaming bnd->kZ,ncl->mP
noncomputable section
namespace L2
theorem fb {α:Type}{d:α}{s:kR}{p:Prop}(h:(DV.R.bad:kY α)=.ok d s):p:=nomatch h
open PySem PySem.Spec PyProof.Rows
structure LamI where
 qual:Str
 params:bj
 body:Expr
 scope:Scope
 ps:List Str
 fr:List Str
 nm:Option (Str×Pos)
def CloAt (H:Hp)(f:Addr)(J:LamI)(cap:List V)(clos:List (Str×Addr)):Prop:=match J.nm with
 | none=>ay4 H f J.qual J.params J.body J.scope J.fr cap clos
 | some p=>al0 H f p.1 J.qual J.params [.Return (some J.body) p.2] J.scope J.fr cap clos
def ae7 (H:Hp)(f:Addr)(J:LamI)(clos:List (Str×Addr)):Prop:=match J.nm with
 | none=>∃ pm c' ctv,H f=some (ar5 f (bW "<lambda>" J.qual J.params J.body J.scope clos pm (.ref c') ctv))/\H c'=some (z0 c' J.qual)
 | some p=>∃ doc pm c' ctv,H f=some (ar5 f (cA p.1 J.qual J.params [.Return (some J.body) p.2] J.scope clos .none .none doc pm none (.ref c') ctv))/\H c'=some (z0 c' J.qual)
structure Gm where
 K:ae
 fa:String->Option Addr
 lg:String->LamI->Prop
 T:List (Addr×Str)
variable (Γ:Gm)
mutual
noncomputable def RV (φ:Nat->Addr)(H:Hp):kS->V->Prop
 | .non,v=>v=.non
 | .bl b,v=>v=.bl b
 | .int i,v=>v=.int i
 | .str x,v=>v=.str ⟨x.toArray⟩/\x.length<=k6
 | .tup l,v=>∃ a xs,v=.ref a/\(SqT Γ.K H a xs/\(k9 l=true->H a=some (.tup xs)))/\RVL φ H l xs
 | .ref n,v=>v=.ref (φ n)
 | .fn f,v=>∃ a,Γ.fa f=some a/\v=.ref a
 | .clo id cs,v=>∃ f cap J clos,v=.ref f/\Γ.lg id J/\CloAt H f J cap clos/\cap.length=J.fr.length/\RVL φ H cs cap
noncomputable def RVL (φ:Nat->Addr)(H:Hp):List kS->List V->Prop
 | [],xs=>xs=[]
 | d::l,xs=>∃ x r,xs=x::r/\RV φ H d x/\RVL φ H l r
end
noncomputable def bN0:HO->Bool
 | .tup _=>true
 | .frz _ _=>true
 | .ext _=>true
 | _=>false
def Kp (H H':Hp):Prop:=∀ b o,H b=some o->bN0 o=true->H' b=some o
theorem Kp.refl (H:Hp):Kp H H:=λ _ _ h _=>h
theorem Kp.trans {H y H2:Hp}(a:Kp H y)(b:Kp y H2):Kp H H2:=λ c o h f=>b c o (a c o h f) f
theorem Kp.new {H y:Hp}{p:Addr}{o:HO}(a:Kp H y)(h:y p=none):Kp H (upd y p o):=λ c u e f=>by
 have e1:=a c u e f
 rw[za (zn e1 h)];exact e1
theorem Kp.put {H y:Hp}{p:Addr}{o u:HO}(a:Kp H y)(h:y p=some u)(C:bN0 u=false):Kp H (upd y p o):=λ c v e f=>by
 have e1:=a c v e f
 rw[za (λ z=>by subst z;rw[h]at e1;cases e1;rw[C]at f;cases f)];exact e1
theorem Kp.sqT {K:ae}{H H':Hp}{a:Addr}{y:List V}(e:Kp H H')(h:SqT K H a y):SqT K H' a y:=by
 rcases h with(h|⟨o,h⟩)|h
 ·exact .inl (.inl (e _ _ h rfl))
 ·exact .inl (.inr ⟨o,e _ _ h rfl⟩)
 ·exact .inr h
theorem ay4.kp {H H':Hp}{f:Addr}{qual:Str}{params:bj}{body:Expr}{scope:Scope}{fr:List Str}{cap:List V}{y:List (Str×Addr)}(h:ay4 H f qual params body scope fr cap y)(e:Kp H H'):ay4 H' f qual params body scope fr cap y:=by
 obtain⟨Y,G,C,Z,h2,h3,h4,J,h6⟩:=h
 refine⟨Y,G,C,e _ _ Z rfl,e _ _ h2 rfl,λ x c q=>?_,h4,J,λ i x v a b=>?_⟩
 ·obtain⟨o,v,z,d⟩:=h3 x c q
  exact⟨o,v,e _ _ z rfl,d⟩
 ·obtain⟨c,o,u,z1,z2,F⟩:=h6 i x v a b
  exact⟨c,o,u,z1,e _ _ z2 rfl,F⟩
theorem al0.kp {H H':Hp}{f:Addr}{name qual:Str}{params:bj}{body:List Stmt}{scope:Scope}{fr:List Str}{cap:List V}{y:List (Str×Addr)}(h:al0 H f name qual params body scope fr cap y)(e:Kp H H'):al0 H' f name qual params body scope fr cap y:=by
 obtain⟨F,Z,J,C,h1,h2,h3,h4,Y,h6⟩:=h
 refine⟨F,Z,J,C,e _ _ h1 rfl,e _ _ h2 rfl,λ x c q=>?_,h4,Y,λ i x v a b=>?_⟩
 ·obtain⟨o,v,z,d⟩:=h3 x c q
  exact⟨o,v,e _ _ z rfl,d⟩
 ·obtain⟨c,o,u,z1,z2,G⟩:=h6 i x v a b
  exact⟨c,o,u,z1,e _ _ z2 rfl,G⟩
theorem CloAt.kp {H H':Hp}{f:Addr}{J:LamI}{cap:List V}{y:List (Str×Addr)}(h:CloAt H f J cap y)(e:Kp H H'):CloAt H' f J cap y:=by
 unfold CloAt at h ⊢
 cases q:J.nm with
 | none=>rw[q]at h;exact ay4.kp h e
 | some p=>rw[q]at h;exact al0.kp h e
theorem ae7.kp {H H':Hp}{f:Addr}{J:LamI}{y:List (Str×Addr)}(h:ae7 H f J y)(e:Kp H H'):ae7 H' f J y:=by
 unfold ae7 at h ⊢
 cases q:J.nm with
 | none =>
  rw[q]at h
  obtain⟨Y,C,z,F,G⟩:=h
  exact⟨Y,C,z,e _ _ F rfl,e _ _ G rfl⟩
 | some p =>
  rw[q]at h
  obtain⟨Z,Y,C,z,F,G⟩:=h
  exact⟨Z,Y,C,z,e _ _ F rfl,e _ _ G rfl⟩
theorem CloAt.fn {K:ae}{H:Hp}{f:Addr}{J:LamI}{cap:List V}{y:List (Str×Addr)}(h:CloAt H f J cap y):bm7 K H f:=by
 unfold CloAt at h
 cases q:J.nm with
 | none=>rw[q]at h;obtain⟨G,F,z,C,_⟩:=h;exact .inl ⟨_,C⟩
 | some p=>rw[q]at h;exact al0.fn h
structure Gw (φ:Nat->Addr)(n:Nat)(H:Hp)(φ':Nat->Addr)(H':Hp):Prop where
 map:∀ i,i<n->φ' i=φ i
 kp:Kp H H'
variable {Γ:Gm}
mutual
theorem RV.monoW {φ φ':Nat->Addr}{n:Nat}{H H':Hp}(g:Gw φ n H φ' H'):∀(d:kS) (v:V),d.bnd n=true->RV Γ φ H d v->RV Γ φ' H' d v
 | .non,_,_,h=>by unfold RV at h ⊢;exact h
 | .bl _,_,_,h=>by unfold RV at h ⊢;exact h
 | .int _,_,_,h=>by unfold RV at h ⊢;exact h
 | .str _,_,_,h=>by unfold RV at h ⊢;exact h
 | .tup l,_,b,h=>by
  unfold RV at h ⊢
  unfold kX at b
  obtain⟨a,C,e,q,r⟩:=h
  exact⟨a,C,e,⟨g.kp.sqT q.1,λ z=>g.kp _ _ (q.2 z) rfl⟩,RVL.monoW g l C b r⟩
 | .ref k,_,b,h=>by
  unfold RV at h ⊢
  unfold kX at b
  rw[g.map k (of_decide_eq_true b)];exact h
 | .fn _,_,_,h=>by unfold RV at h ⊢;exact h
 | .clo id cs,_,b,h=>by
  unfold RV at h ⊢
  unfold kX at b
  obtain⟨f,cap,J,y,e,F,G,h3,Y⟩:=h
  exact⟨f,cap,J,y,e,F,G.kp g.kp,h3,RVL.monoW g cs cap b Y⟩
theorem RVL.monoW {φ φ':Nat->Addr}{n:Nat}{H H':Hp}(g:Gw φ n H φ' H'):∀(l:List kS) (y:List V),kT n l=true->RVL Γ φ H l y->RVL Γ φ' H' l y
 | [],_,_,h=>by unfold RVL at h ⊢;exact h
 | d::l,_,b,h=>by
  unfold RVL at h ⊢
  unfold kT at b
  rw[aj]at b
  obtain⟨x,r,e,q,t⟩:=h
  exact⟨x,r,e,RV.monoW g d x b.1 q,RVL.monoW g l r b.2 t⟩
end
mutual
theorem zm {n m:Nat}(h:n<=m):∀ d:kS,d.bnd n=true->d.bnd m=true
 | .non,_=>rfl
 | .bl _,_=>rfl
 | .int _,_=>rfl
 | .str _,_=>rfl
 | .tup l,b=>by unfold kX at b ⊢;exact aa3 h l b
 | .ref k,b=>by unfold kX at b ⊢;exact decide_eq_true (ao (of_decide_eq_true b) h)
 | .fn _,_=>rfl
 | .clo _ l,b=>by unfold kX at b ⊢;exact aa3 h l b
theorem aa3 {n m:Nat}(h:n<=m):∀ l:List kS,kT n l=true->kT m l=true
 | [],_=>rfl
 | d::l,b=>by
  unfold kT at b ⊢
  rw[aj]at b ⊢
  exact⟨zm h d b.1,aa3 h l b.2⟩
end
theorem aa2 {n:Nat}:∀ {l:List kS},kT n l=true↔∀ d∈l,d.bnd n=true
 | []=>by unfold kT;simp
 | d::l=>by
  unfold kT
  rw[aj,aa2 (l:=l)]
  simp
theorem zu {n:Nat}{l m:List kS}(h:kT n l=true)(h':kT n m=true):kT n (l++m)=true :=
 aa2.mpr λ d hd=>(aQ.mp hd).elim (aa2.mp h d) (aa2.mp h' d)
theorem aH7 {n:Nat}{l m:List kS}(h:kT n l=true)(s:∀ d∈m,d∈l):kT n m=true:=aa2.mpr λ d hd=>aa2.mp h d (s d hd)
theorem aj3 {n:Nat}{l:List kS}{i:Nat}{d:kS}(h:kT n l=true)(e:l[i]?=some d):d.bnd n=true:=aa2.mp h d (aM e)
section
variable {φ:Nat->Addr} {H:Hp}
theorem RVL.nil:RVL Γ φ H [] []:=by unfold RVL;rfl
theorem RVL.cons {d:kS}{l:List kS}{x:V}{h:List V}(a:RV Γ φ H d x)(b:RVL Γ φ H l h):RVL Γ φ H (d::l) (x::h):=by unfold RVL;exact⟨x,h,rfl,a,b⟩
theorem RVL.unnil {y:List V}(h:RVL Γ φ H [] y):y=[]:=by unfold RVL at h;exact h
theorem RVL.uncons {d:kS}{l:List kS}{y:List V}(h:RVL Γ φ H (d::l) y):∃ x r,y=x::r/\RV Γ φ H d x/\RVL Γ φ H l r:=by unfold RVL at h;exact h
theorem RVL.length:∀ {l:List kS} {y:List V},RVL Γ φ H l y->y.length=l.length
 | [],_,h=>by rw[h.unnil];rfl
 | d::l,_,h=>by
  obtain⟨x,r,rfl,_,t⟩:=h.uncons
  rw[aW,aW,RVL.length t]
theorem RVL.get:∀ {l:List kS} {z:List V} {i:Nat} {d:kS},RVL Γ φ H l z->l[i]?=some d->∃ x,z[i]?=some x/\RV Γ φ H d x
 | [],_,_,_,_,e=>by simp at e
 | d::l,_,0,d',h,e=>by
  obtain⟨x,r,rfl,q,t⟩:=h.uncons
  have e':d=d':=by simpa using e
  subst e'
  exact⟨x,rfl,q⟩
 | d::l,_,i+1,_,h,e=>by
  obtain⟨x,r,rfl,q,t⟩:=h.uncons
  obtain⟨y,e1,e2⟩:=RVL.get (i:=i) t (by simpa using e)
  exact⟨y,by simpa using e1,e2⟩
theorem RVL.append:∀ {l m:List kS} {y ys:List V},RVL Γ φ H l y->RVL Γ φ H m ys->RVL Γ φ H (l++m) (y++ys)
 | [],_,_,_,h,h'=>by rw[h.unnil];exact h'
 | d::l,_,_,_,h,h'=>by
  obtain⟨x,r,rfl,q,t⟩:=h.uncons
  exact .cons q (RVL.append t h')
theorem RVL.drop:∀ {l:List kS} {y:List V} (n:Nat),RVL Γ φ H l y->RVL Γ φ H (l.drop n) (y.drop n)
 | _,_,0,h=>h
 | [],_,n+1,h=>by rw[h.unnil];exact .nil
 | d::l,_,n+1,h=>by
  obtain⟨x,r,rfl,q,t⟩:=h.uncons
  exact RVL.drop n t
theorem RVL.take:∀ {l:List kS} {y:List V} (n:Nat),RVL Γ φ H l y->RVL Γ φ H (l.take n) (y.take n)
 | _,_,0,h=>.nil
 | [],_,n+1,h=>by rw[h.unnil];exact .nil
 | d::l,_,n+1,h=>by
  obtain⟨x,r,rfl,q,t⟩:=h.uncons
  exact .cons q (RVL.take n t)
theorem RVL.set:∀ {l:List kS} {y:List V} {d:kS} {x:V} (i:Nat),RVL Γ φ H l y->RV Γ φ H d x->RVL Γ φ H (l.set i d) (y.set i x)
 | [],_,_,_,_,h,_=>by rw[h.unnil];exact .nil
 | d::l,_,_,_,0,h,q=>by
  obtain⟨x,r,rfl,_,t⟩:=h.uncons
  exact .cons q t
 | d::l,_,_,_,i+1,h,q=>by
  obtain⟨x,r,rfl,z,t⟩:=h.uncons
  exact .cons z (RVL.set i t q)
theorem RVL.reverse:∀ {l:List kS} {y:List V},RVL Γ φ H l y->RVL Γ φ H l.reverse y.reverse
 | [],_,h=>by rw[h.unnil];exact .nil
 | d::l,_,h=>by
  obtain⟨x,r,rfl,q,t⟩:=h.uncons
  rw[d9,d9]
  exact(RVL.reverse t).append (.cons q .nil)
theorem RV.intE {i:Int}{v:V}(h:RV Γ φ H (.int i) v):v=.int i:=by unfold RV at h;exact h
theorem RV.blE {i:Bool}{v:V}(h:RV Γ φ H (.bl i) v):v=.bl i:=by unfold RV at h;exact h
theorem RV.nonE {v:V}(h:RV Γ φ H .non v):v=.non:=by unfold RV at h;exact h
theorem RV.strE {x:List Nat}{v:V}(h:RV Γ φ H (.str x) v):v=.str ⟨x.toArray⟩:=by unfold RV at h;exact h.1
theorem RV.strL {x:List Nat}{v:V}(h:RV Γ φ H (.str x) v):x.length<=k6:=by unfold RV at h;exact h.2
theorem RV.tupE {l:List kS}{v:V}(h:RV Γ φ H (.tup l) v):∃ a y,v=.ref a/\SqT Γ.K H a y/\RVL Γ φ H l y:=by unfold RV at h;obtain⟨a,y,e,q,r⟩:=h;exact⟨a,y,e,q.1,r⟩
theorem RV.tupZ {l:List kS}{v:V}(h:RV Γ φ H (.tup l) v):∃ a y,(v=.ref a/\(k9 l=true->H a=some (.tup y)))/\SqT Γ.K H a y/\RVL Γ φ H l y:=by unfold RV at h;obtain⟨a,y,e,q,r⟩:=h;exact⟨a,y,⟨e,q.2⟩,q.1,r⟩
theorem RVL.tonil {l:List kS}(h:RVL Γ φ H l []):l=[]:=bK.mp h.length.symm
theorem RV.tupK {l:List kS}{v:V}(h:RV Γ φ H (.tup l) v)(z:k9 l=true):∃ a y,v=.ref a/\H a=some (.tup y)/\RVL Γ φ H l y:=by unfold RV at h;obtain⟨a,y,e,q,r⟩:=h;exact⟨a,y,e,q.2 z,r⟩
theorem RV.refE {n:Nat}{v:V}(h:RV Γ φ H (.ref n) v):v=.ref (φ n):=by unfold RV at h;exact h
theorem RV.intI {i:Int}:RV Γ φ H (.int i) (.int i):=by unfold RV;rfl
theorem RV.blI {i:Bool}:RV Γ φ H (.bl i) (.bl i):=by unfold RV;rfl
theorem RV.nonI:RV Γ φ H .non .non:=by unfold RV;rfl
theorem RV.strI {x:List Nat}(h:x.length<=k6):RV Γ φ H (.str x) (.str ⟨x.toArray⟩):=by unfold RV;exact⟨rfl,h⟩
theorem RV.tupI {l:List kS}{a:Addr}{y:List V}(h:H a=some (.tup y))(q:RVL Γ φ H l y):RV Γ φ H (.tup l) (.ref a):=by unfold RV;exact⟨a,y,rfl,⟨SqT.of h,λ _=>h⟩,q⟩
theorem RV.tupC {l:List kS}{a:Addr}{y:List V}(h:SqT Γ.K H a y)(z:k9 l=true->H a=some (.tup y))(q:RVL Γ φ H l y):RV Γ φ H (.tup l) (.ref a):=by unfold RV;exact⟨a,y,rfl,⟨h,z⟩,q⟩
theorem RV.refI {n:Nat}:RV Γ φ H (.ref n) (.ref (φ n)):=by unfold RV;rfl
end
theorem bq7 {n:Nat}{l:List kS}(h:k9 (lF n l)=true):k9 l=true:=by
 cases n with
 | zero=>cases h
 | succ n =>
  cases l with
  | nil => 
   have:∀ k,lF k ([]:List kS)=[]:=λ k=>by
    induction k with
    | zero=>rfl
    | succ k ih=>show[]++lF k []=[];rw[ih];rfl
   rw[this]at h;cases h
  | cons a l =>
   have e:lF (n+1) (a::l)=a::(l++lF n (a::l)):=rfl
   rw[e]at h
   cases a with
   | int _=>rfl
   | _=>cases h
theorem aR2 {α:Type}{l:List α}{y C:Option Int}(h:(ly l y C).length=l.length):ly l y C=l:=by
 unfold ly at h ⊢
 rw[bQ,eN]at h
 by_cases z:l=[]
 ·subst z;simp
 ·have F:=iP.mpr z
  have e1:lK l.length y=0:=by omega
  rw[e1]at h ⊢
  rw[eC]
  exact eD (by omega)
def SqF (K:ae)(H:Hp)(a:Addr)(xs:List V):Prop:=SqL K H a xs/\∀ H',Kp H H'->SqL K H' a xs
noncomputable def ay3:kS->Option Key
 | .int i=>some (.inl i)
 | .str x=>some (.inr ⟨x.toArray⟩)
 | _=>none
noncomputable def zJ:List kS->Option (List Key)
 | []=>some []
 | d::l=>match ay3 d,zJ l with
  | some k,some r=>some (k::r)
  | _,_=>none
noncomputable def by1:kS->Option (List Key)
 | .tup l=>if(k9 l&&(l.all li&&decide (l.length<=1000)))=true then zJ l else none
 | _=>none
noncomputable def RVD {κ:Type}(kf:kS->Option κ)(Γ:Gm)(φ:Nat->Addr)(H:Hp):List (kS×kS)->List (κ×V)->Prop
 | [],kvs=>kvs=[]
 | (d,e)::l,kvs=>∃ k v r,kvs=(k,v)::r/\kf d=some k/\RV Γ φ H e v/\RVD kf Γ φ H l r
variable (Γ)
noncomputable def RO (φ:Nat->Addr)(H:Hp)(a:Addr):lv->Prop
 | .lst l=>∃ xs,H a=some (.lst xs)/\RVL Γ φ H l xs
 | .ro l=>∃ xs,SqF Γ.K H a xs/\RVL Γ φ H l xs
 | .dic l=>∃ kvs,H a=some (.dK kvs)/\RVD ay3 Γ φ H l kvs
 | .dit l=>∃ kvs,H a=some (.dT kvs)/\RVD by1 Γ φ H l kvs
 | .ins _ _=>False
noncomputable abbrev okd:lv->Nat:=DV.O.kd
noncomputable def isMut:lv->Bool
 | .ro _=>false
 | _=>true
structure Rp (φ:Nat->Addr)(H:Hp)(s:kR):Prop where
 inj:∀(i j:Nat) (o o':lv),s[i]?=some o->s[j]?=some o'->isMut o=true->isMut o'=true->φ i=φ j->i=j
 obj:∀(i:Nat) (o:lv),s[i]?=some o->RO Γ φ H (φ i) o
 wf:∀(i:Nat) (o:lv),s[i]?=some o->o.bnd s.length=true
 tab:TabsH Γ.T H
structure RE (φ:Nat->Addr)(H:Hp)(n:Nat)(ρ:kU)(σ:St):Prop where
 len:ρ.length=σ.length
 val:∀(i:Nat) (d:kS),ρ[i]?=some (some d)->d.bnd n=true/\∃ v,σ[i]?=some (some v)/\RV Γ φ H d v
structure Gr (φ:Nat->Addr)(s:kR)(H:Hp)(φ':Nat->Addr)(s':kR)(H':Hp):Prop where
 w:Gw φ s.length H φ' H'
 le:s.length<=s'.length
 new:∀ i:Nat,s.length<=i->i<s'.length->H (φ' i)=none
 kd:∀(i:Nat) (o o':lv),s[i]?=some o->s'[i]?=some o'->okd o'=okd o
 st:∀ b,H b≠none->H' b≠none
 fr:∀ b o,H b=some o->(∀ ps,o≠.tbl ps)->(∀(i:Nat) (ob:lv),s[i]?=some ob->isMut ob=true->φ i≠b)->H' b=some o
variable {Γ}
theorem bn4 {o y:lv}(h:okd y=okd o)(m:isMut y=true):isMut o=true:=by
 cases o with
 | ro _=>cases y with
  | ro _=>cases m
  | _=>cases h
 | _=>rfl
theorem Gr.mu {φ φ':Nat->Addr}{s s':kR}{H H':Hp}(g:Gr φ s H φ' s' H')(i:Nat)(o h:lv)(e:s[i]?=some o)(e':s'[i]?=some h)(m:isMut h=true):isMut o=true:=bn4 (g.kd i o h e e') m
theorem Gr.refl (φ:Nat->Addr)(s:kR)(H:Hp):Gr φ s H φ s H:=⟨⟨λ _ _=>rfl,Kp.refl H⟩,ak _,λ i C y=>absurd y (by omega),λ i o z e e'=>by rw[e]at e';cases e';rfl,λ _ h=>h,λ _ _ h _ _=>h⟩
theorem Gr.trans {φ φ1 φ2:Nat->Addr}{s s1 s2:kR}{H Y H2:Hp}(a:Gr φ s H φ1 s1 Y)(b:Gr φ1 s1 Y φ2 s2 H2)(_h:s.length<=s1.length):Gr φ s H φ2 s2 H2:=by
 refine⟨⟨λ i y=>(b.w.map i (ao y a.le)).trans (a.w.map i y),a.w.kp.trans b.w.kp⟩,am a.le b.le,λ i Z h2=>?_,λ i o o' e e'=>?_,λ c h=>b.st c (a.st c h),λ c o h G ne=>?_⟩
 ·by_cases y:i<s1.length
  ·rw[b.w.map i y];exact a.new i Z y
  ·have e:=b.new i (by omega) h2
   cases q:H (φ2 i)with
   | none=>rfl
   | some o=>exact absurd e (a.st _ (by rw[q];simp))
 ·have hl:i<s1.length:=ao (ac.mp e).1 a.le
  obtain⟨C,e1⟩:∃ C,s1[i]?=some C:=⟨s1[i],ag hl⟩
  exact(b.kd i C o' e1 e').trans (a.kd i o C e e1)
 ·refine b.fr c o (a.fr c o h G ne) G λ i ob e m z=>?_
  by_cases y:i<s.length
  ·obtain⟨F,J⟩:∃ F,s[i]?=some F:=⟨s[i],ag y⟩
   exact ne i F J (a.mu i F ob J e m) (by rw[<-a.w.map i y];exact z)
  ·have:=a.new i (by omega) (ac.mp e).1
   rw[z,h]at this;cases this
theorem RV.mono {φ φ':Nat->Addr}{s s':kR}{H H':Hp}(g:Gr φ s H φ' s' H')(d:kS)(v:V)(b:d.bnd s.length=true)(h:RV Γ φ H d v):RV Γ φ' H' d v:=RV.monoW g.w d v b h
theorem RVL.mono {φ φ':Nat->Addr}{s s':kR}{H H':Hp}(g:Gr φ s H φ' s' H')(d:List kS)(v:List V)(b:kT s.length d=true)(h:RVL Γ φ H d v):RVL Γ φ' H' d v:=RVL.monoW g.w d v b h
theorem RE.mono {φ φ':Nat->Addr}{s s':kR}{H H':Hp}{ρ:kU}{σ:St}(h:RE Γ φ H s.length ρ σ)(g:Gr φ s H φ' s' H')(hn:s.length<=s'.length):RE Γ φ' H' s'.length ρ σ :=
 ⟨h.len,λ i d e=>by
  obtain⟨b,v,e1,e2⟩:=h.val i d e
  exact⟨zm hn d b,v,e1,RV.mono g d v b e2⟩⟩
def ad5 (Γ:Gm)(φ:Nat->Addr)(s:kR)(H:Hp)(d:kS)(s':kR)(Q:VK):Prop :=
 ∀ v φ' H',Gr φ s H φ' s' H'->s.length<=s'.length->d.bnd s'.length=true->RV Γ φ' H' d v->Rp Γ φ' H' s'->Q v H'
theorem ad5.trans {φ φ1:Nat->Addr}{s s1 s':kR}{H y:Hp}{d:kS}{Q:VK}(h:ad5 Γ φ s H d s' Q)(g:Gr φ s H φ1 s1 y)(l:s.length<=s1.length):ad5 Γ φ1 s1 y d s' Q :=
 λ v φ' H' g' z b r p=>h v φ' H' (g.trans g' l) (am l z) b r p
theorem ad5.here {φ:Nat->Addr}{s:kR}{H:Hp}{d:kS}{Q:VK}{v:V}(h:ad5 Γ φ s H d s Q)(p:Rp Γ φ H s)(b:d.bnd s.length=true)(r:RV Γ φ H d v):Q v H :=
 h v φ H (Gr.refl φ s H) (ak _) b r p
theorem RVD.monoW {κ:Type}{z:kS->Option κ}{φ φ':Nat->Addr}{n:Nat}{H H':Hp}(g:Gw φ n H φ' H'):∀(l:List (kS×kS)) (y:List (κ×V)),kT n (l.map (·.2))=true->RVD z Γ φ H l y->RVD z Γ φ' H' l y
 | [],_,_,h=>h
 | (d,e)::l,_,b,h=>by
  obtain⟨k,v,r,e1,e2,F,C⟩:=h
  rw[aO]at b
  unfold kT at b
  rw[aj]at b
  exact⟨k,v,r,e1,e2,RV.monoW g e v b.1 F,RVD.monoW g l r b.2 C⟩
theorem RO.mono {φ φ':Nat->Addr}{n:Nat}{H H':Hp}{a:Addr}{o:lv}(h:RO Γ φ H a o)(g:Gw φ n H φ' H')(b:o.bnd n=true)(hl:isMut o=true->∀ u,H a=some u->H' a=some u):RO Γ φ' H' a o:=by
 cases o with
 | lst l =>
  unfold kZ at b
  obtain⟨z,e,r⟩:=h
  exact⟨z,hl rfl _ e,RVL.monoW g l z b r⟩
 | ro l =>
  unfold kZ at b
  obtain⟨z,e,r⟩:=h
  exact⟨z,⟨e.2 _ g.kp,λ H2 k=>e.2 _ (g.kp.trans k)⟩,RVL.monoW g l z b r⟩
 | dic l =>
  unfold kZ at b
  rw[aj]at b
  obtain⟨y,e,r⟩:=h
  exact⟨y,hl rfl _ e,RVD.monoW g l y b.2 r⟩
 | dit l =>
  unfold kZ at b
  rw[aj]at b
  obtain⟨y,e,r⟩:=h
  exact⟨y,hl rfl _ e,RVD.monoW g l y b.2 r⟩
 | ins _ _=>exact h.elim
theorem RO.there {φ:Nat->Addr}{H:Hp}{a:Addr}{o:lv}(h:RO Γ φ H a o)(m:isMut o=true):∃ u,H a=some u/\bN0 u=false/\∀ ps,u≠.tbl ps:=by
 cases o with
 | lst l=>obtain⟨y,e,_⟩:=h;exact⟨_,e,rfl,by nofun⟩
 | ro l=>cases m
 | dic l=>obtain⟨y,e,_⟩:=h;exact⟨_,e,rfl,by nofun⟩
 | dit l=>obtain⟨y,e,_⟩:=h;exact⟨_,e,rfl,by nofun⟩
 | ins _ _=>exact h.elim
theorem Rp.addr {φ:Nat->Addr}{H:Hp}{s:kR}(p:Rp Γ φ H s){i:Nat}{l:List kS}(e:s[i]?=some (.lst l)):∃ h,H (φ i)=some (.lst h)/\RVL Γ φ H l h:=p.obj i _ e
theorem zU {n m:Nat}(h:n<=m)(o:lv)(b:o.bnd n=true):o.bnd m=true:=by
 cases o with
 | lst l=>unfold kZ at b ⊢;exact aa3 h l b
 | ro l=>unfold kZ at b ⊢;exact aa3 h l b
 | dic l =>
  unfold kZ at b ⊢
  rw[aj]at b ⊢
  exact⟨aa3 h _ b.1,aa3 h _ b.2⟩
 | dit l =>
  unfold kZ at b ⊢
  rw[aj]at b ⊢
  exact⟨aa3 h _ b.1,aa3 h _ b.2⟩
 | ins c l=>unfold kZ at b ⊢;exact aa3 h _ b
theorem TabsH.keepF {T:List (Addr×Str)}{H H':Hp}(h:TabsH T H)(k:∀ b o,(bN0 o=true\/∃ ps,o=.tbl ps)->H b=some o->H' b=some o):TabsH T H':=λ y hy=>by
 obtain⟨ps,e,t,c⟩:=h y hy
 refine⟨ps,k _ _ (.inr ⟨_,rfl⟩) e,t,λ pos C q=>?_⟩
 obtain⟨z,e1,e2⟩:=c pos C q
 exact⟨z,e1,k _ _ (.inl rfl) e2⟩
theorem Rp.new {φ:Nat->Addr}{H:Hp}{s:kR}{p:Addr}{u:HO}{o:lv}(r:Rp Γ φ H s)(C:H p=none)(hb:o.bnd s.length=true)
  (ho:∀ φ' H',Gw φ s.length H φ' H'->H' p=some u->RO Γ φ' H' p o):Gr φ s H (λ i=>if i=s.length then p else φ i) (s++[o]) (upd H p u)/\Rp Γ (λ i=>if i=s.length then p else φ i) (upd H p u) (s++[o]):=by
 have g:Gw φ s.length H (λ i=>if i=s.length then p else φ i) (upd H p u):=⟨λ i y=>if_neg (av y),(Kp.refl H).new C⟩
 have key:∀ i z,(s++[o])[i]?=some z->(i<s.length/\s[i]?=some z)\/(i=s.length/\z=o):=λ i z e=>by
  rcases fY i s.length with h|h|h
  ·rw[aK h]at e;exact .inl ⟨h,e⟩
  ·subst h;simp at e;exact .inr ⟨rfl,e.symm⟩
  ·rw[cH (by simp;omega)]at e;cases e
 refine⟨⟨g,by simp,λ i h1 h2=>?_,λ i o1 o2 e1 e2=>?_,λ b hb=>?_,λ b ob hb _ _=>by rw[za (zn hb C)];exact hb⟩,λ i j J Y G ej Z mj e=>?_,λ i z e=>?_,λ i z e=>?_,r.tab.new C⟩
 ·rw[aB,dv]at h2
  rw[if_pos (by omega)];exact C
 ·rcases key i o2 e2 with⟨_,e⟩|⟨y,_⟩
  ·rw[e1]at e;cases e;rfl
  ·have:=(ac.mp e1).1;omega
 ·unfold upd;split
  ·simp
  ·exact hb
 ·rcases key i J G with⟨y,G⟩|⟨y,rfl⟩<;>rcases key j Y ej with⟨hj,ej⟩|⟨hj,ej'⟩
  ·rw[if_neg (av y),if_neg (av hj)]at e
   exact r.inj i j J Y G ej Z mj e
  ·rw[if_neg (av y),if_pos hj]at e
   obtain⟨u,F,_,_⟩:=(r.obj i J G).there Z
   rw[e,C]at F;cases F
  ·rw[if_neg (av hj),if_pos y]at e
   obtain⟨u,F,_,_⟩:=(r.obj j Y ej).there mj
   rw[<-e,C]at F;cases F
  ·rw[y,hj]
 ·rcases key i z e with⟨y,e⟩|⟨y,rfl⟩
  ·show RO Γ _ _ (if i=s.length then p else φ i) z
   rw[if_neg (av y)]
   exact(r.obj i z e).mono g (r.wf i z e) λ _ v hv=>by rw[za (zn hv C)];exact hv
  ·show RO Γ _ _ (if i=s.length then p else φ i) z
   rw[if_pos y]
   exact ho _ _ g zb
 ·rw[aB,dv]
  rcases key i z e with⟨y,e⟩|⟨y,rfl⟩
  ·exact zU (dD _) _ (r.wf i z e)
  ·exact zU (dD _) _ hb
theorem Rp.set {φ:Nat->Addr}{H:Hp}{s:kR}{k:Nat}{u:HO}{o C:lv}(r:Rp Γ φ H s)(hk:s[k]?=some C)(J:isMut C=true)(hb:o.bnd s.length=true)
  (ho:∀ H',Gw φ s.length H φ H'->H' (φ k)=some u->RO Γ φ H' (φ k) o) (Z:okd o=okd C:=by rfl):Gr φ s H φ (s.set k o) (upd H (φ k) u)/\Rp Γ φ (upd H (φ k) u) (s.set k o):=by
 obtain⟨v0,F,f0,a1⟩:=(r.obj k C hk).there J
 have Y:k<s.length:=(ac.mp hk).1
 have g:Gw φ s.length H φ (upd H (φ k) u):=⟨λ _ _=>rfl,(Kp.refl H).put F f0⟩
 have key:∀ i y,(s.set k o)[i]?=some y->(i≠k/\s[i]?=some y)\/(i=k/\y=o):=λ i y e=>by
  by_cases h:i=k
  ·subst h;rw[aV Y]at e;exact .inr ⟨rfl,(aw e).symm⟩
  ·rw[aR (bL h)]at e;exact .inl ⟨h,e⟩
 have mm:∀ i y,(s.set k o)[i]?=some y->isMut y=true->∃ G,s[i]?=some G/\isMut G=true:=λ i y e m=>by
  rcases key i y e with⟨_,e⟩|⟨h,_⟩
  ·exact⟨y,e,m⟩
  ·exact⟨C,by rw[h];exact hk,J⟩
 refine⟨⟨g,by simp,λ i h1 h2=>by rw[a0]at h2;omega,λ i o1 o2 e1 e2=>?_,λ b hb=>?_,λ b ob hb nt ne=>by rw[za (bL (ne k C hk J))];exact hb⟩,λ i j oi oj ei ej mi mj e=>?_,λ i y e=>?_,λ i y e=>?_,r.tab.keepF λ b v hv q=>?_⟩
 ·rcases key i o2 e2 with⟨_,e⟩|⟨h,rfl⟩
  ·rw[e1]at e;cases e;rfl
  ·subst h;rw[hk]at e1;cases e1;exact Z
 ·unfold upd;split
  ·simp
  ·exact hb
 ·obtain⟨o1,e1,m1⟩:=mm i oi ei mi
  obtain⟨o2,e2,m2⟩:=mm j oj ej mj
  exact r.inj i j o1 o2 e1 e2 m1 m2 e
 ·rcases key i y e with⟨h,e⟩|⟨h,rfl⟩
  ·refine(r.obj i y e).mono g (r.wf i y e) λ m v hv=>?_
   rw[za λ z=>h (r.inj i k y C e hk m J z)];exact hv
  ·subst h
   exact ho _ g zb
 ·rw[a0]
  rcases key i y e with⟨_,e⟩|⟨_,rfl⟩
  ·exact r.wf i y e
  ·exact hb
 ·rw[za λ z=>by
   subst z;rw[F]at q;cases q
   rcases hv with h|⟨ps,h⟩
   ·rw[f0]at h;cases h
   ·exact a1 _ h]
  exact q
theorem Rp.same {φ:Nat->Addr}{H H':Hp}{s:kR}(r:Rp Γ φ H s)(e:ad8 H H'):Gr φ s H φ s H'/\Rp Γ φ H' s:=by
 have g:Gw φ s.length H φ H':=⟨λ _ _=>rfl,λ b o h _=>e b o h⟩
 exact⟨⟨g,ak _,λ i F z=>absurd z (by omega),λ i o C e e'=>by rw[e]at e';cases e';rfl,λ b hb=>by
  cases q:H b with
  | none=>exact absurd q hb
  | some o=>rw[e b o q];simp,λ b o h _ _=>e b o h⟩,r.inj,λ i o h=>(r.obj i o h).mono g (r.wf i o h) λ _ u y=>e _ u y,r.wf,r.tab.same e⟩
section
variable {φ:Nat->Addr} {H:Hp} {s:kR} {Q:VK}
theorem ad5.alloc {l:List kS}{y:List V}(h:ad5 Γ φ s H (.ref s.length) (s++[.lst l]) Q)(r:Rp Γ φ H s)(hl:RVL Γ φ H l y)(hb:kT s.length l=true){p:Addr}(z:H p=none):Q (.ref p) (upd H p (.lst y)):=by
 obtain⟨g,C⟩:=r.new (o:=.lst l) (u:=.lst y) z hb λ φ' H' g e=>⟨y,e,RVL.monoW g l y hb hl⟩
 have:=h (.ref p) _ _ g (by simp) (by unfold kX;simp) (by unfold RV;simp) C
 exact this
theorem ad5.tup {l:List kS}{y:List V}(h:ad5 Γ φ s H (.tup l) s Q)(r:Rp Γ φ H s)(hl:RVL Γ φ H l y)(hb:kT s.length l=true){p:Addr}(z:H p=none):Q (.ref p) (upd H p (.tup y)):=by
 obtain⟨g,C⟩:=r.same (H':=upd H p (.tup y)) ((ad8.refl H).new z)
 exact h _ _ _ g (ak _) (by unfold kX;exact hb) (RV.tupI zb (RVL.mono g l y hb hl)) C
theorem ad5.put {k:Nat}{l l0:List kS}{y:List V}{d:kS}{v:V}(h:ad5 Γ φ s H d (s.set k (.lst l)) Q)(r:Rp Γ φ H s)(hk:s[k]?=some (.lst l0))(hl:RVL Γ φ H l y)(hb:kT s.length l=true)
  (hd:d.bnd s.length=true) (hv:RV Γ φ H d v):Q v (upd H (φ k) (.lst y)):=by
 obtain⟨g,z⟩:=r.set (o:=.lst l) (u:=.lst y) hk rfl hb λ H' g e=>⟨y,e,RVL.monoW g l y hb hl⟩
 exact h _ _ _ g (by simp) (by rw[a0];exact hd) (RV.mono g d v hd hv) z
end
variable {Γ:Gm}
theorem keyOf_inj {a b:kS}{k:Key}(ha:ay3 a=some k)(hb:ay3 b=some k):a=b:=by
 cases a with
 | int i =>
  cases ha
  cases b with
  | int j=>cases hb;rfl
  | str y=>cases hb
  | _=>cases hb
 | str x =>
  cases ha
  cases b with
  | int j=>cases hb
  | str y =>
   have h:=aw hb
   injection h with h
   injection h with h
   have z:y=x:=by simpa using h
   rw[z]
  | _=>cases hb
 | _=>cases ha
theorem ai8 {d:kS}(h:d.key=true):∃ k,ay3 d=some k:=by
 cases d with
 | int i=>exact⟨_,rfl⟩
 | str x=>exact⟨_,rfl⟩
 | _=>cases h
theorem az8 {φ:Nat->Addr}{H:Hp}{d:kS}{k:Key}{v:V}(h:ay3 d=some k)(r:RV Γ φ H d v):v=kV k:=by
 cases d with
 | int i=>cases h;exact r.intE
 | str x=>cases h;exact r.strE
 | _=>cases h
def bK8 {κ:Type}(kf:kS->Option κ):Prop:=∀ {a b:kS} {k:κ},kf a=some k->kf b=some k->a=b
theorem ap6:∀ {a b:List kS} {k:List Key},zJ a=some k->zJ b=some k->a=b
 | [],[],k,_,_=>rfl
 | [],y::b,k,ha,hb=>by
  cases ha
  unfold zJ at hb
  split at hb<;>cases hb
 | x::a,[],k,ha,hb=>by
  cases hb
  unfold zJ at ha
  split at ha<;>cases ha
 | x::a,y::b,k,ha,hb=>by
  unfold zJ at ha hb
  split at ha
  ·rename_i k1 r1 e1 e2
   cases ha
   split at hb
   ·rename_i k2 C z h
    cases hb
    rw[keyOf_inj e1 z,ap6 e2 h]
   ·cases hb
  ·cases ha
theorem ag0 {d:kS}{k:List Key}(h:by1 d=some k):∃ l,d=.tup l/\(k9 l=true/\l.all li=true/\l.length<=1000)/\zJ l=some k:=by
 cases d with
 | tup l =>
  have h:(if(k9 l&&(l.all li&&decide (l.length<=1000)))=true then zJ l else none)=some k:=h
  by_cases z:(k9 l&&(l.all li&&decide (l.length<=1000)))=true
  ·rw[if_pos z]at h;rw[aj,aj]at z;exact⟨l,rfl,⟨z.1,z.2.1,of_decide_eq_true z.2.2⟩,h⟩
  ·rw[if_neg z]at h;cases h
 | _=>cases h
theorem keyT_inj:bK8 by1:=λ ha hb=>by
 obtain⟨l,rfl,_,h⟩:=ag0 ha
 obtain⟨m,rfl,_,y⟩:=ag0 hb
 rw[ap6 h y]
theorem aP7 {d:kS}(h:d.keyS=true):∃ k,ay3 d=some k:=by
 cases d with
 | int i=>exact⟨_,rfl⟩
 | str x=>exact⟨_,rfl⟩
 | _=>cases h
theorem ak0:∀ {l:List kS},l.all li=true->∃ k,zJ l=some k
 | [],_=>⟨[],rfl⟩
 | d::l,h=>by
  rw[eR,aj]at h
  obtain⟨k,hk⟩:=aP7 h.1
  obtain⟨r,hr⟩:=ak0 h.2
  exact⟨k::r,by unfold zJ;rw[hk,hr]⟩
theorem ae9 {d:kS}(h:d.keyT=true):∃ k,by1 d=some k:=by
 cases d with
 | tup l =>
  have h:(k9 l&&(l.all li&&decide (l.length<=1000)))=true:=h
  have h':=h
  rw[aj,aj]at h'
  obtain⟨k,hk⟩:=ak0 h'.2.1
  exact⟨k,by show(if(k9 l&&(l.all li&&decide (l.length<=1000)))=true then zJ l else none)=some k;rw[if_pos h];exact hk⟩
 | _=>cases h
theorem aT5 {φ:Nat->Addr}{H:Hp}:∀ {l:List kS} {k:List Key} {y:List V},zJ l=some k->RVL Γ φ H l y->y=k.map kV
 | [],k,y,h,r=>by cases h;exact r.unnil
 | d::l,k,y,h,r=>by
  unfold zJ at h
  split at h
  ·rename_i k1 r1 e1 e2
   cases h
   obtain⟨x,ys,rfl,C,z⟩:=r.uncons
   rw[az8 e1 C,aT5 e2 z,aO]
  ·cases h
theorem as3 {φ:Nat->Addr}{H:Hp}{d:kS}{k:List Key}{v:V}(h:by1 d=some k)(r:RV Γ φ H d v):∃ b,v=.ref b/\H b=some (.tup (k.map kV)):=by
 obtain⟨l,rfl,z,hk⟩:=ag0 h
 obtain⟨a,F,e,y,C⟩:=r.tupK z.1
 rw[aT5 hk C]at y
 exact⟨a,e,y⟩
theorem bI3 {φ:Nat->Addr}{H:Hp}{d:kS}{k:Key}(h:ay3 d=some k)(hl:d.keyS=true):RV Γ φ H d (kV k):=by
 cases d with
 | int i=>cases h;exact RV.intI
 | str x=>cases h;exact RV.strI (am (of_decide_eq_true hl) (by decide))
 | _=>cases h
theorem aP2 {φ:Nat->Addr}{H:Hp}:∀ {l:List kS} {k:List Key},zJ l=some k->l.all li=true->RVL Γ φ H l (k.map kV)
 | [],k,h,_=>by cases h;exact .nil
 | d::l,k,h,z=>by
  unfold zJ at h
  rw[eR,aj]at z
  split at h
  ·rename_i k1 r1 e1 e2
   cases h
   exact .cons (bI3 e1 z.1) (aP2 e2 z.2)
  ·cases h
theorem ao7:∀ {l:List kS} {k:List Key},zJ l=some k->k.length=l.length
 | [],k,h=>by cases h;rfl
 | d::l,k,h=>by
  unfold zJ at h
  split at h
  ·rename_i k1 r1 e1 e2
   cases h
   rw[aW,aW,ao7 e2]
  ·cases h
theorem bg8 {d:kS}{k:List Key}(h:by1 d=some k):k≠[]/\k.length<=1000:=by
 obtain⟨l,rfl,z,hk⟩:=ag0 h
 have:=ao7 hk
 refine⟨λ e=>?_,by omega⟩
 subst e
 have hl:l=[]:=bK.mp this.symm
 subst hl
 cases z.1
section
variable {κ:Type} [DecidableEq κ] {kf:kS->Option κ}
theorem RVD.val {φ:Nat->Addr}{H:Hp}{d:kS}{k:κ}(F:bK8 kf)(hk:kf d=some k):∀ {l:List (kS×kS)} {y:List (κ×V)},RVD kf Γ φ H l y->(lw d l=none/\au5 y k=none)\/∃ e v,lw d l=some e/\au5 y k=some v/\RV Γ φ H e v/\e∈l.map (·.2)
 | [],y,h=>by
  have h:y=[]:=h
  subst h
  exact .inl ⟨rfl,rfl⟩
 | (a,e)::l,y,h=>by
  obtain⟨C,v,r,rfl,e2,e3,G⟩:=h
  by_cases z:a=d
  ·subst z
   rw[hk]at e2;cases e2
   exact .inr ⟨e,v,by unfold lw;rw[if_pos rfl],ai6 rfl,e3,by simp⟩
  ·have J:¬ C=k:=λ q=>z (F e2 (by rw[q];exact hk))
   have Y:lw d ((a,e)::l)=lw d l:=by
    conv=>lhs;unfold lw
    rw[if_neg z]
   rw[Y,ai5 (show ¬(C,v).1=k from J)]
   rcases RVD.val F hk G with q|⟨e',v',Z,q2,q3,q4⟩
   ·exact .inl q
   ·exact .inr ⟨e',v',Z,q2,q3,by simp at q4 ⊢;exact .inr q4⟩
theorem RVD.repl {φ:Nat->Addr}{H:Hp}{d e:kS}{k:κ}{v:V}(C:bK8 kf)(hk:kf d=some k)(hv:RV Γ φ H e v):∀ {l:List (kS×kS)} {y:List (κ×V)},RVD kf Γ φ H l y->RVD kf Γ φ H (l.map λ p=>if p.1=d then(p.1,e)else p) (y.map λ kv=>if kv.1=k then(kv.1,v)else kv)
 | [],y,h=>by
  have h:y=[]:=h
  subst h;exact(rfl:([]:List (κ×V))=[])
 | (a,e0)::l,y,h=>by
  obtain⟨G,v0,r,rfl,e2,Y,F⟩:=h
  rw[aO,aO]
  by_cases z:a=d
  ·subst z
   rw[hk]at e2;cases e2
   rw[if_pos rfl,if_pos rfl]
   exact⟨k,v,_,rfl,hk,hv,RVD.repl C hk hv F⟩
  ·have J:¬ G=k:=λ q=>z (C e2 (by rw[q];exact hk))
   rw[if_neg z,if_neg J]
   exact⟨G,v0,_,rfl,e2,Y,RVD.repl C hk hv F⟩
theorem RVD.snoc {φ:Nat->Addr}{H:Hp}{d e:kS}{k:κ}{v:V}(F:bK8 kf)(hk:kf d=some k)(hv:RV Γ φ H e v):∀ {l:List (kS×kS)} {y:List (κ×V)},RVD kf Γ φ H l y->RVD kf Γ φ H (l++[(d,e)]) (y++[(k,v)])
 | [],y,h=>by
  have h:y=[]:=h
  subst h;exact⟨k,v,[],rfl,hk,hv,rfl⟩
 | (a,e0)::l,y,h=>by
  obtain⟨C,v0,r,rfl,e2,G,z⟩:=h
  exact⟨C,v0,_,rfl,e2,G,RVD.snoc F hk hv z⟩
theorem RVD.put {φ:Nat->Addr}{H:Hp}{d e:kS}{k:κ}{v:V}{l:List (kS×kS)}{y:List (κ×V)}(z:bK8 kf)(hk:kf d=some k)(hv:RV Γ φ H e v)(h:RVD kf Γ φ H l y):RVD kf Γ φ H (lh d e l) (ao0 y k v):=by
 unfold lh ao0
 rw[ar1]
 rcases h.val z hk with⟨C,q2⟩|⟨e',v',C,q2,_⟩
 ·rw[C,q2];exact h.snoc z hk hv
 ·rw[C,q2];exact h.repl z hk hv
theorem RVD.get {φ:Nat->Addr}{H:Hp}:∀ {l:List (kS×kS)} {y:List (κ×V)} {i:Nat} {d e:kS},RVD kf Γ φ H l y->l[i]?=some (d,e)->∃ k v,y[i]?=some (k,v)/\kf d=some k/\RV Γ φ H e v
 | [],_,_,_,_,_,h=>by cases h
 | (a,b)::l,y,0,d,e,h,q=>by
  obtain⟨k,v,r,rfl,e2,C,z⟩:=h
  cases q
  exact⟨k,v,rfl,e2,C⟩
 | (a,b)::l,y,i+1,d,e,h,q=>by
  obtain⟨k,v,r,rfl,e2,C,z⟩:=h
  exact RVD.get (i:=i) z (show l[i]?=some (d,e)from q)
theorem RVD.keys {φ:Nat->Addr}{H:Hp}:∀ {l:List (kS×kS)} {y:List (κ×V)},RVD kf Γ φ H l y->∀ kv∈y,∃ d,kf d=some kv.1
 | [],y,h,kv,hk=>by
  have h:y=[]:=h
  subst h;cases hk
 | (a,b)::l,y,h,kv,hk=>by
  obtain⟨k,v,r,rfl,e2,F,C⟩:=h
  rcases aE.mp hk with z|z
  ·subst z;exact⟨a,e2⟩
  ·exact RVD.keys C kv z
theorem RVD.length {φ:Nat->Addr}{H:Hp}:∀ {l:List (kS×kS)} {y:List (κ×V)},RVD kf Γ φ H l y->y.length=l.length
 | [],y,h=>by
  have h:y=[]:=h
  subst h;rfl
 | (a,e)::l,y,h=>by
  obtain⟨C,v,r,rfl,e2,F,z⟩:=h
  rw[aW,aW,RVD.length z]
end
theorem aE8 {n:Nat}{d e:kS}{l:List (kS×kS)}(h:(DV.O.dic l).bnd n=true)(hd:d.bnd n=true)(C:e.bnd n=true):(DV.O.dic (lh d e l)).bnd n=true:=by
 unfold kZ at h ⊢
 rw[aj]at h ⊢
 obtain⟨F,G⟩:=h
 have g1:=aa2.mp F
 have z:=aa2.mp G
 unfold lh
 refine⟨aa2.mpr λ x hx=>?_,aa2.mpr λ x hx=>?_⟩
 ·obtain⟨p,y,rfl⟩:=aN.mp hx
  split at y
  ·obtain⟨q,hq,rfl⟩:=aN.mp y
   split
   ·exact g1 _ (aP (f:=(·.1)) hq)
   ·exact g1 _ (aP (f:=(·.1)) hq)
  ·rcases aQ.mp y with q|q
   ·exact g1 _ (aP (f:=(·.1)) q)
   ·rw[aU.mp q];exact hd
 ·obtain⟨p,y,rfl⟩:=aN.mp hx
  split at y
  ·obtain⟨q,hq,rfl⟩:=aN.mp y
   split
   ·exact C
   ·exact z _ (aP (f:=(·.2)) hq)
  ·rcases aQ.mp y with q|q
   ·exact z _ (aP (f:=(·.2)) q)
   ·rw[aU.mp q];exact C
theorem bb8 {n:Nat}{d e:kS}{l:List (kS×kS)}(h:(DV.O.dit l).bnd n=true)(hd:d.bnd n=true)(y:e.bnd n=true):(DV.O.dit (lh d e l)).bnd n=true:=aE8 h hd y
theorem aj2 {f:kS->kS->Option Bool}{a b:kS}{l m:List kS}{z:Bool}(h:lj f (a::l) (b::m)=some z):∃ x y,f a b=some x/\lj f l m=some y/\z=(x&&y):=by
 unfold lj at h
 cases e1:f a b with
 | none=>rw[e1]at h;cases h
 | some x =>
  cases e2:lj f l m with
  | none=>rw[e1,e2]at h;cases h
  | some y=>rw[e1,e2]at h;exact⟨x,y,rfl,rfl,(aw h).symm⟩
theorem aR0 {f:kS->kS->Option Bool}:∀ {l m:List kS} {z:Bool},lj f l m=some z->∃ e:Nat->Bool,(∀ j d d',l[j]?=some d->m[j]?=some d'->f d d'=some (e j))/\((l.length==m.length)&&(bz (min l.length m.length)).all e)=z
 | [],[],z,h=>by
  unfold lj at h
  cases h
  exact⟨λ _=>true,λ j d d' h=>by simp at h,by simp⟩
 | [],b::m,z,h=>by
  unfold lj at h
  cases h
  exact⟨λ _=>true,λ j d d' h=>by simp at h,by simp⟩
 | a::l,[],z,h=>by
  unfold lj at h
  cases h
  exact⟨λ _=>true,λ j d d' G F=>by simp at F,by simp⟩
 | a::l,b::m,z,h=>by
  obtain⟨x,y,e1,e2,J⟩:=aj2 h
  obtain⟨e,G,F⟩:=aR0 e2
  refine⟨λ j=>match j with|0=>x|j+1=>e j,λ j d d' g1 C=>?_,?_⟩
  ·cases j with
   | zero=>simp at g1 C;subst g1;subst C;exact e1
   | succ j=>exact G j d d' (by simpa using g1) (by simpa using C)
  ·rw[aW,aW,show min (l.length+1) (m.length+1)=min l.length m.length+1 by omega,List.range_succ_eq_map,eR,List.all_map,J,<-F]
   have:((l.length+1==m.length+1)=(l.length==m.length)):=by
    by_cases q:l.length=m.length
    ·simp[q]
    ·have:¬ l.length+1=m.length+1:=by omega
     simp[q]
   rw[this]
   show((l.length==m.length)&&(x&&(bz _).all e))=_
   cases x<;>cases(l.length==m.length)<;>simp
section
variable {X:Cx} {pins:List (Addr×Obj)} {σ:St} {H:Hp} {sh:af} {φ:Nat->Addr} {s:kR}
theorem al6 (I:Inv X pins σ H sh){a:Addr}{y ys:List V}(h:H a=some (.lst y))(h':SqT X.K H a ys):False:=by
 rcases h' with(z|⟨o,z⟩)|⟨o,its,n,hk,_⟩
 ·rw[h]at z;cases z
 ·rw[h]at z;cases z
 ·have:=(I.bs a o (I.mod.kin a o hk)).2
  rw[h]at this;cases this
theorem rv_two (I:Inv X pins σ H sh)(hK:X.K=Γ.K)(R:Rp Γ φ H s){a b:kS}{x:V}(F:RV Γ φ H a x)(y:RV Γ φ H b x)(Y:lp s a≠9)(z:lp s b≠9):a=b\/∃ l m p G,a=.tup l/\b=.tup m/\x=.ref p/\RVL Γ φ H l G/\RVL Γ φ H m G:=by
 have C:∀ {r:Nat},lp s (.ref r)≠9->∃ l,s[r]?=some (.lst l):=λ {r} h=>by
  have h:(match s[r]? with|some (DV.O.lst l)=>4|_=>9:Nat)≠9:=h
  cases hs:s[r]? with
  | none=>rw[hs]at h;exact absurd rfl h
  | some o =>
   rw[hs]at h
   cases o with
   | lst l=>exact⟨l,rfl⟩
   | _=>exact absurd rfl h
 cases a with
 | non=>have e:=F.nonE;subst e;cases b with
  | non=>exact .inl rfl
  | bl _=>cases y.blE
  | int _=>cases y.intE
  | str _=>cases y.strE
  | tup _=>obtain⟨_,_,e,_⟩:=y.tupE;cases e
  | ref _=>cases y.refE
  | fn _=>exact absurd rfl z
  | clo _ _=>exact absurd rfl z
 | bl p=>have e:=F.blE;subst e;cases b with
  | non=>cases y.nonE
  | bl _=>cases y.blE;exact .inl rfl
  | int _=>cases y.intE
  | str _=>cases y.strE
  | tup _=>obtain⟨_,_,e,_⟩:=y.tupE;cases e
  | ref _=>cases y.refE
  | fn _=>exact absurd rfl z
  | clo _ _=>exact absurd rfl z
 | int p=>have e:=F.intE;subst e;cases b with
  | non=>cases y.nonE
  | bl _=>cases y.blE
  | int _=>cases y.intE;exact .inl rfl
  | str _=>cases y.strE
  | tup _=>obtain⟨_,_,e,_⟩:=y.tupE;cases e
  | ref _=>cases y.refE
  | fn _=>exact absurd rfl z
  | clo _ _=>exact absurd rfl z
 | str p=>have e:=F.strE;subst e;cases b with
  | non=>cases y.nonE
  | bl _=>cases y.blE
  | int _=>cases y.intE
  | str q =>
   have e':p.toArray=q.toArray:=Str.mk.inj (V.str.inj y.strE)
   have a1:p=q:=by simpa using congrArg jk e'
   subst a1;exact .inl rfl
  | tup _=>obtain⟨_,_,e,_⟩:=y.tupE;cases e
  | ref _=>cases y.refE
  | fn _=>exact absurd rfl z
  | clo _ _=>exact absurd rfl z
 | tup l =>
  obtain⟨p,G,e,J,d1⟩:=F.tupE;subst e;cases b with
  | non=>cases y.nonE
  | bl _=>cases y.blE
  | int _=>cases y.intE
  | str _=>cases y.strE
  | tup m =>
   obtain⟨p',ys,e,q2,Z⟩:=y.tupE
   cases e
   rw[<-hK]at J q2
   rw[I.tuple_inj q2 J]at Z
   exact .inr ⟨l,m,p,G,rfl,rfl,rfl,d1,Z⟩
  | ref r =>
   cases y.refE
   obtain⟨m,hm⟩:=C z
   obtain⟨ys,hy,_⟩:=R.addr hm
   rw[<-hK]at J
   exact(al6 I hy J).elim
  | fn _=>exact absurd rfl z
  | clo _ _=>exact absurd rfl z
 | ref r =>
  have e:=F.refE;subst e
  obtain⟨l,hl⟩:=C Y
  obtain⟨G,hx,_⟩:=R.addr hl
  cases b with
  | non=>cases y.nonE
  | bl _=>cases y.blE
  | int _=>cases y.intE
  | str _=>cases y.strE
  | tup m =>
   obtain⟨p',ys,e,q2,Z⟩:=y.tupE
   cases e
   rw[<-hK]at q2
   exact(al6 I hx q2).elim
  | ref r' =>
   obtain⟨m,hm⟩:=C z
   have e:φ r=φ r':=V.ref.inj y.refE
   rw[R.inj r r' _ _ hl hm rfl rfl e]
   exact .inl rfl
  | fn _=>exact absurd rfl z
  | clo _ _=>exact absurd rfl z
 | fn _=>exact absurd rfl Y
 | clo _ _=>exact absurd rfl Y
theorem qv {a b:kS}{z:Bool}(h:lq s a b=some z):mD a b=some z\/(mD a b=none/\lR (lp s a) (lp s b)=false/\z=false):=by
 unfold lq at h
 cases e:mD a b with
 | some w=>rw[e]at h;exact .inl h
 | none =>
  rw[e]at h
  cases q:lR (lp s a) (lp s b)with
  | true=>rw[q]at h;cases h
  | false=>rw[q]at h;exact .inr ⟨rfl,rfl,(aw h).symm⟩
theorem bg1 {a b:kS}{z:Bool}(h:mD a b=some z):lp s a≠9/\lp s b≠9:=by
 cases a<;>cases b<;>first|(cases h;done)|(constructor<;>(intro z;cases z))
theorem af0 {a b:kS}{z:Bool}(h:lq s a b=some z):lp s a≠9/\lp s b≠9:=by
 rcases qv h with h|⟨_,h,_⟩
 ·exact bg1 h
 ·unfold lR at h
  simp only[eW,beq_eq_false_iff_ne]at h
  exact⟨h.1.1,h.1.2⟩
theorem aC6 {a:kS}{z:Bool}(h:lq s a a=some z):z=true:=by
 rcases qv h with h|⟨_,h,_⟩
 ·cases a<;>cases h<;>first|rfl|exact beq_self_eq_true _
 ·unfold lR at h;simp at h
theorem aJ2 (I:Inv X pins σ H sh)(hK:X.K=Γ.K)(R:Rp Γ φ H s):∀(n:Nat) (a b:kS) (x:V) (z:Bool),k8 s n a b=some z->RV Γ φ H a x->RV Γ φ H b x->z=true:=by
 have G:∀(a b:kS) (x:V) (z:Bool),lq s a b=some z->RV Γ φ H a x->RV Γ φ H b x->z=true:=by
  intro a b x z h y C
  rcases rv_two I hK R y C (af0 h).1 (af0 h).2 with e|⟨l,m,_,_,rfl,rfl,_⟩
  ·subst e;exact aC6 h
  ·rcases qv h with h|⟨_,h,_⟩
   ·cases h
   ·unfold lR at h;simp[lp]at h
 intro n
 induction n with
 | zero=>intro a b x z h;unfold k8 at h;exact G a b x z h
 | succ n ih =>
  have J:∀(l m:List kS) (F:List V) (z:Bool),lj (k8 s n) l m=some z->RVL Γ φ H l F->RVL Γ φ H m F->z=true:=by
   intro l
   induction l with
   | nil =>
    intro m F z h y C
    cases m with
    | nil=>unfold lj at h;exact(aw h).symm
    | cons b m=>obtain⟨x,r,e,_⟩:=C.uncons;rw[y.unnil]at e;cases e
   | cons a l ihl =>
    intro m F z h y C
    cases m with
    | nil=>obtain⟨x,r,e,_⟩:=y.uncons;rw[C.unnil]at e;cases e
    | cons b m =>
     obtain⟨p,q,e1,e2,ez⟩:=aj2 h
     obtain⟨v,r,rfl,g1,g2⟩:=y.uncons
     obtain⟨v',r',e,g3,g4⟩:=C.uncons
     cases e
     rw[ez,ih a b v p e1 g1 g3,ihl m r q e2 g2 g4];rfl
  intro a b x z h y C
  unfold k8 at h
  split at h
  ·rename_i l m
   obtain⟨a,F,rfl,q1,d1⟩:=y.tupE
   obtain⟨b,ys,e,q2,Y⟩:=C.tupE
   cases e
   rw[<-hK]at q1 q2
   rw[I.tuple_inj q2 q1]at Y
   exact J l m F z h d1 Y
  ·rename_i p q
   split at h
   ·rename_i l m hl hm
    obtain⟨F,e1,d1⟩:=R.addr hl
    obtain⟨ys,e2,Y⟩:=R.addr hm
    have e:=y.refE.symm.trans C.refE
    have e':φ p=φ q:=V.ref.inj e
    rw[e',e2]at e1
    have e3:ys=F:=by injection (aw e1)
    subst e3
    split at h
    ·exact J l m ys z h d1 Y
    ·rename_i Z;exact absurd (d1.length.symm.trans Y.length) Z
   ·cases h
  ·exact G a b x z h y C
end
variable {Γ:Gm}
inductive Vw (sh:af):Nat->Value->Prop where
 | non:Vw sh 0 .none
 | bl (b:Bool):Vw sh 1 (.bool b)
 | int (i:Int) (t:Tok):Vw sh 1 (.int i t)
 | str (x:Str) (t:Tok):Vw sh 2 (.str x t)
 | tup {l:Addr} {items:Array Value} (h:sh.heap.IsTuple l items):Vw sh 3 (.ref l)
 | lst {l:Addr} {items:Array Value} (h:sh.heap.IsList l items):Vw sh 4 (.ref l)
theorem Vw.eq {A:aZ}{C:af}{k F:Nat}{u v:Value}(a:Vw C k u)(b:Vw C F v)(z:k≠F)(y:A.units<cLine):gU A C u v false:=by
 cases a with
 | non=>cases b with
  | non=>exact absurd rfl z
  | bl b=>exact SeqAt.EqAt.none_bool b
  | int i t=>exact SeqAt.EqAt.none_int i t
  | str x t=>exact SeqAt.EqAt.none_str x t
  | tup h=>exact SeqAt.EqAt.none_tuple h y
  | lst h=>exact SeqAt.EqAt.none_list h y
 | bl a=>cases b with
  | non=>exact SeqAt.EqAt.bool_none a
  | bl b=>exact absurd rfl z
  | int i t=>exact absurd rfl z
  | str x t=>exact SeqAt.EqAt.bool_str a x t
  | tup h=>exact SeqAt.EqAt.bool_tuple a h y
  | lst h=>exact SeqAt.EqAt.bool_list a h y
 | int a q=>cases b with
  | non=>exact SeqAt.EqAt.int_none a q
  | bl b=>exact absurd rfl z
  | int i t=>exact absurd rfl z
  | str x t=>exact i5 a q x t
  | tup h=>exact SeqAt.EqAt.int_tuple a q h y
  | lst h=>exact SeqAt.EqAt.int_list a q h y
 | str a q=>cases b with
  | non=>exact SeqAt.EqAt.str_none a q
  | bl b=>exact SeqAt.EqAt.str_bool a q b
  | int i t=>exact i6 a q i t
  | str x t=>exact absurd rfl z
  | tup h=>exact SeqAt.EqAt.str_tuple a q h y
  | lst h=>exact SeqAt.EqAt.str_list a q h y
 | tup g=>cases b with
  | non=>exact SeqAt.EqAt.tuple_none g y
  | bl b=>exact SeqAt.EqAt.tuple_bool b g y
  | int i t=>exact SeqAt.EqAt.tuple_int i t g y
  | str x t=>exact SeqAt.EqAt.tuple_str x t g y
  | tup h=>exact absurd rfl z
  | lst h=>exact SeqAt.EqAt.tuple_list g h y
 | lst g=>cases b with
  | non=>exact SeqAt.EqAt.list_none g y
  | bl b=>exact SeqAt.EqAt.list_bool b g y
  | int i t=>exact SeqAt.EqAt.list_int i t g y
  | str x t=>exact SeqAt.EqAt.list_str x t g y
  | tup h=>exact SeqAt.EqAt.list_tuple g h y
  | lst h=>exact absurd rfl z
theorem Vw.rc {A:aZ}{C:af}{k F:Nat}{u v:Value}(a:Vw C k u)(b:Vw C F v)(z:k≠F)(y:A.units<cLine):kP A C u v false:=by
 cases a with
 | non=>cases b with
  | non=>exact absurd rfl z
  | bl b=>exact SeqAt.RcAt.none_bool b
  | int i t=>exact SeqAt.RcAt.none_int i t
  | str x t=>exact SeqAt.RcAt.none_str x t
  | tup h=>exact SeqAt.RcAt.none_tuple h y
  | lst h=>exact SeqAt.RcAt.none_list h y
 | bl a=>cases b with
  | non=>exact SeqAt.RcAt.bool_none a
  | bl b=>exact absurd rfl z
  | int i t=>exact absurd rfl z
  | str x t=>exact SeqAt.RcAt.bool_str a x t
  | tup h=>exact SeqAt.RcAt.bool_tuple a h y
  | lst h=>exact SeqAt.RcAt.bool_list a h y
 | int a q=>cases b with
  | non=>exact SeqAt.RcAt.int_none a q
  | bl b=>exact absurd rfl z
  | int i t=>exact absurd rfl z
  | str x t=>exact SeqAt.RcAt.int_str a q x t
  | tup h=>exact SeqAt.RcAt.int_tuple a q h y
  | lst h=>exact SeqAt.RcAt.int_list a q h y
 | str a q=>cases b with
  | non=>exact SeqAt.RcAt.str_none a q
  | bl b=>exact SeqAt.RcAt.str_bool a q b
  | int i t=>exact SeqAt.RcAt.str_int a q i t
  | str x t=>exact absurd rfl z
  | tup h=>exact SeqAt.RcAt.str_tuple a q h y
  | lst h=>exact SeqAt.RcAt.str_list a q h y
 | tup g=>cases b with
  | non=>exact SeqAt.RcAt.tuple_none g y
  | bl b=>exact SeqAt.RcAt.tuple_bool b g y
  | int i t=>exact SeqAt.RcAt.tuple_int i t g y
  | str x t=>exact SeqAt.RcAt.tuple_str x t g y
  | tup h=>exact absurd rfl z
  | lst h=>exact SeqAt.RcAt.tuple_list g h y
 | lst g=>cases b with
  | non=>exact SeqAt.RcAt.list_none g y
  | bl b=>exact SeqAt.RcAt.list_bool b g y
  | int i t=>exact SeqAt.RcAt.list_int i t g y
  | str x t=>exact SeqAt.RcAt.list_str x t g y
  | tup h=>exact SeqAt.RcAt.list_tuple g h y
  | lst h=>exact absurd rfl z
theorem Vw.ne {A:aZ}{C:af}{k F:Nat}{u v:Value}(a:Vw C k u)(b:Vw C F v)(z:k≠F)(y:A.units<cLine):kF A C u v true:=by
 cases a with
 | non=>cases b with
  | non=>exact absurd rfl z
  | bl b=>exact SeqAt.RcNeAt.none_bool b
  | int i t=>exact SeqAt.RcNeAt.none_int i t
  | str x t=>exact SeqAt.RcNeAt.none_str x t
  | tup h=>exact SeqAt.RcNeAt.none_tuple h y
  | lst h=>exact SeqAt.RcNeAt.none_list h y
 | bl a=>cases b with
  | non=>exact SeqAt.RcNeAt.bool_none a
  | bl b=>exact absurd rfl z
  | int i t=>exact absurd rfl z
  | str x t=>exact SeqAt.RcNeAt.bool_str a x t
  | tup h=>exact SeqAt.RcNeAt.bool_tuple a h y
  | lst h=>exact SeqAt.RcNeAt.bool_list a h y
 | int a q=>cases b with
  | non=>exact SeqAt.RcNeAt.int_none a q
  | bl b=>exact absurd rfl z
  | int i t=>exact absurd rfl z
  | str x t=>exact SeqAt.RcNeAt.int_str a q x t
  | tup h=>exact SeqAt.RcNeAt.int_tuple a q h y
  | lst h=>exact SeqAt.RcNeAt.int_list a q h y
 | str a q=>cases b with
  | non=>exact SeqAt.RcNeAt.str_none a q
  | bl b=>exact SeqAt.RcNeAt.str_bool a q b
  | int i t=>exact SeqAt.RcNeAt.str_int a q i t
  | str x t=>exact absurd rfl z
  | tup h=>exact SeqAt.RcNeAt.str_tuple a q h y
  | lst h=>exact SeqAt.RcNeAt.str_list a q h y
 | tup g=>cases b with
  | non=>exact SeqAt.RcNeAt.tuple_none g y
  | bl b=>exact SeqAt.RcNeAt.tuple_bool b g y
  | int i t=>exact SeqAt.RcNeAt.tuple_int i t g y
  | str x t=>exact SeqAt.RcNeAt.tuple_str x t g y
  | tup h=>exact absurd rfl z
  | lst h=>exact SeqAt.RcNeAt.tuple_list g h y
 | lst g=>cases b with
  | non=>exact SeqAt.RcNeAt.list_none g y
  | bl b=>exact SeqAt.RcNeAt.list_bool b g y
  | int i t=>exact SeqAt.RcNeAt.list_int i t g y
  | str x t=>exact SeqAt.RcNeAt.list_str x t g y
  | tup h=>exact SeqAt.RcNeAt.list_tuple g h y
  | lst h=>exact absurd rfl z
theorem by7 (a b:List Nat):((⟨a.toArray⟩:Str)==⟨b.toArray⟩)=(a==b):=by
 by_cases e:a=b
 ·subst e;simp
 ·have:(⟨a.toArray⟩:Str)≠⟨b.toArray⟩:=λ q=>e (by simpa using congrArg (λ z=>z.cps.toList) q)
  rw[beq_eq_false_iff_ne.mpr this,beq_eq_false_iff_ne.mpr e]
structure Cmp (A:aZ)(sh:af)(u v:Value)(z:Bool):Prop where
 rc:kP A sh u v z
 ne:kF A sh u v (!z)
section
variable {X:Cx} {pins:List (Addr×Obj)} {σ:St} {H:Hp} {sh:af} {φ:Nat->Addr} {s:kR}
theorem bD4 (I:Inv X pins σ H sh)(C:X.K=Γ.K)(R:Rp Γ φ H s){d:kS}{x:V}{u:Value}(h:RV Γ φ H d x)(r:RelV x u)(hk:lp s d≠9):Vw sh (lp s d) u:=by
 cases d with
 | non=>have e:=h.nonE;subst e;cases r;exact .non
 | bl b=>have e:=h.blE;subst e;cases r;exact .bl b
 | int i=>have e:=h.intE;subst e;obtain⟨t,rfl⟩:=r;exact .int i t
 | str y=>have e:=h.strE;subst e;obtain⟨t,rfl⟩:=r;exact .str _ t
 | tup l =>
  obtain⟨a,z,e,q,_⟩:=h.tupE
  subst e;cases r
  rw[<-C]at q
  obtain⟨its,_,t,_⟩:=I.tuple q
  exact .tup t
 | ref n =>
  have e:=h.refE;subst e;cases r
  have hk:(match s[n]? with|some (DV.O.lst l)=>4|_=>9:Nat)≠9:=hk
  show Vw sh (match s[n]? with|some (DV.O.lst l)=>4|_=>9:Nat) _
  cases hs:s[n]? with
  | none=>rw[hs]at hk;exact absurd rfl hk
  | some o =>
   rw[hs]at hk
   cases o with
   | lst l =>
    obtain⟨z,e,_⟩:=R.addr hs
    obtain⟨its,_,t,_⟩:=I.list (SqL.of e)
    exact .lst t.isList
   | _=>exact absurd rfl hk
 | fn _=>exact absurd rfl hk
 | clo _ _=>exact absurd rfl hk
theorem av9 (I:Inv X pins σ H sh)(Z:X.K=Γ.K)(R:Rp Γ φ H s){a b:kS}{x y:V}{u v:Value}{A:aZ}{z:Bool}(h:lq s a b=some z)(C:RV Γ φ H a x)(F:RV Γ φ H b y)(r1:RelV x u)(G:RelV y v)(Y:A.units<cLine) :
  gU A sh u v z/\Cmp A sh u v z:=by
 rcases qv h with h|⟨_,hn,hz⟩
 ·cases a<;>cases b<;>try cases h
  ·cases C.nonE;cases F.nonE;cases r1;cases G
   exact⟨hG _,SeqAt.RcAt.none_none,SeqAt.RcNeAt.none_none⟩
  ·cases C.blE;cases F.blE;cases r1;cases G
   exact⟨SeqAt.EqAt.bool_bool _ _,SeqAt.RcAt.bool_bool _ _,SeqAt.RcNeAt.bool_bool _ _⟩
  ·cases C.blE;cases F.intE;cases r1;obtain⟨t',rfl⟩:=G
   exact⟨SeqAt.EqAt.bool_int _ _ _,SeqAt.RcAt.bool_int _ _ _,SeqAt.RcNeAt.bool_int _ _ _⟩
  ·cases C.intE;cases F.blE;obtain⟨t,rfl⟩:=r1;cases G
   exact⟨SeqAt.EqAt.int_bool _ _ _,SeqAt.RcAt.int_bool _ _ _,SeqAt.RcNeAt.int_bool _ _ _⟩
  ·cases C.intE;cases F.intE;obtain⟨t,rfl⟩:=r1;obtain⟨t',rfl⟩:=G
   exact⟨SeqAt.EqAt.int_int _ _ _ _,SeqAt.RcAt.int_int _ _ _ _,SeqAt.RcNeAt.int_int _ _ _ _⟩
  ·cases C.strE;cases F.strE;obtain⟨t,rfl⟩:=r1;obtain⟨t',rfl⟩:=G
   rw[<-by7]
   exact⟨SeqAt.EqAt.str_str _ _ _ _,SeqAt.RcAt.str_str _ _ _ _,SeqAt.RcNeAt.str_str _ _ _ _⟩
 ·subst hz
  unfold lR at hn
  simp only[eW,beq_eq_false_iff_ne]at hn
  have J:=bD4 I Z R C r1 hn.1.1
  have w2:=bD4 I Z R F G hn.1.2
  exact⟨J.eq w2 hn.2 Y,J.rc w2 hn.2 Y,J.ne w2 hn.2 Y⟩
theorem aQ3 (I:Inv X pins σ H sh)(hK:X.K=Γ.K)(R:Rp Γ φ H s):∀(n:Nat) (a b:kS) (x y:V) (u v:Value) (A:aZ) (z:Bool),k8 s n a b=some z->RV Γ φ H a x->RV Γ φ H b y->RelV x u->RelV y v->Room n A ->
  gU A sh u v z/\Cmp A sh u v z:=by
 intro n
 induction n with
 | zero=>intro a b x y u v A z h h1 h2 r1 r2 hr;unfold k8 at h;exact av9 I hK R h h1 h2 r1 r2 hr.units0
 | succ n ih =>
  have C:∀ {l m:List kS} {xs ys:List V} {its its':List Value} {A:aZ} {e:Nat->Bool},RVL Γ φ H l xs->RVL Γ φ H m ys->Vals xs its->Vals ys its'->Room n A->(∀ j d d',l[j]?=some d->m[j]?=some d'->k8 s n d d'=some (e j)) ->
    ∀ j (h1:j<its.toArray.size) (h2:j<its'.toArray.size),gU A sh its.toArray[j] its'.toArray[j] (e j):=by
   intro l m xs ys its its' A e d1 Z Y J hr he j h1 h2
   have l1:=Y.length
   have l2:=J.length
   have e1:=d1.length
   have e2:=Z.length
   have a4:j<its.length:=by simpa using h1
   have a5:j<its'.length:=by simpa using h2
   have hj:j<l.length:=by omega
   have a2:j<m.length:=by omega
   obtain⟨x,ex,dx⟩:=d1.get (ag hj)
   obtain⟨y,ey,dy⟩:=Z.get (ag a2)
   obtain⟨u,eu,ru⟩:=Y.get ex
   obtain⟨w,ew,a3⟩:=J.get ey
   have g1:its.toArray[j]=u:=by
    have:=ag a4
    rw[eu]at this
    simpa using(aw this).symm
   have g2:its'.toArray[j]=w:=by
    have:=ag a5
    rw[ew]at this
    simpa using(aw this).symm
   rw[g1,g2]
   exact(ih _ _ x y u w A (e j) (he j _ _ (ag hj) (ag a2)) dx dy ru a3 hr).1
  intro a b x y u v A z h h1 h2 r1 r2 hr
  have hz:=h
  unfold k8 at h
  split at h
  ·rename_i l m
   obtain⟨p,xs,ex,q1,d1⟩:=id h1.tupE
   obtain⟨q,ys,ey,q2,Z⟩:=id h2.tupE
   subst ex;subst ey
   cases r1;cases r2
   rw[<-hK]at q1 q2
   obtain⟨its,Y,t1,_⟩:=I.tuple q1
   obtain⟨its',J,t2,_⟩:=I.tuple q2
   obtain⟨e,he,F⟩:=aR0 h
   have l1:=Y.length
   have l2:=J.length
   have e1:=d1.length
   have e2:=Z.length
   have sz:((bz (min its.toArray.size its'.toArray.size)).all e&&its.toArray.size==its'.toArray.size)=z:=by
    rw[<-F,Bool.and_comm,show its.toArray.size=l.length by simp;omega,show its'.toArray.size=m.length by simp;omega]
   have key:=SeqAt.RcAt.tuples (A:=A) (s:=sh) (e:=e) t1 t2 hr.units0 (C d1 Z Y J hr.in1 he)
   have G:=SeqAt.RcNeAt.tuples (A:=A) (s:=sh) (e:=e) t1 t2 hr.units0 (C d1 Z Y J hr.in1 he)
   rw[sz]at key G
   refine⟨?_,key,G⟩
   by_cases hab:p=q
   ·subst hab
    rw[aJ2 I hK R _ _ _ _ _ hz h1 h2]
    exact hG _
   ·exact jh hab key
  ·rename_i p q
   split at h
   ·rename_i l m hl hm
    obtain⟨xs,e1,d1⟩:=R.addr hl
    obtain⟨ys,e2,Z⟩:=R.addr hm
    have ex:=h1.refE
    have ey:=h2.refE
    subst ex;subst ey
    cases r1;cases r2
    obtain⟨its,Y,t1,_⟩:=I.list (SqL.of e1)
    obtain⟨its',J,t2,_⟩:=I.list (SqL.of e2)
    have l1:=Y.length
    have l2:=J.length
    have c1:=d1.length
    have c2:=Z.length
    have fin:Cmp A sh (.ref (φ p)) (.ref (φ q)) z:=by
     split at h
     ·rename_i a1
      obtain⟨e,he,F⟩:=aR0 h
      have sz:(bz its.toArray.size).all e=z:=by
       rw[<-F,show its.toArray.size=l.length by simp;omega,a1]
       simp
      have key:=SeqAt.RcAt.lists (A:=A) (s:=sh) (e:=e) t1.isList t2.isList (by simp;omega) hr.units0 (C d1 Z Y J hr.in1 he)
      have G:=SeqAt.RcNeAt.lists (A:=A) (s:=sh) (e:=e) t1.isList t2.isList (by simp;omega) hr.units0 (C d1 Z Y J hr.in1 he)
      rw[sz]at key G
      exact⟨key,G⟩
     ·rename_i a1
      cases h
      have hs:(its.toArray.size != its'.toArray.size)=true:=by simp;omega
      exact⟨SeqAt.RcAt.lists_lengths t1.isList t2.isList hs hr.units0,SeqAt.RcNeAt.lists_lengths t1.isList t2.isList hs hr.units0⟩
    refine⟨?_,fin⟩
    by_cases hab:φ p=φ q
    ·rw[aJ2 I hK R _ _ _ _ _ hz RV.refI (by rw[hab];exact RV.refI),hab]
     exact hG _
    ·exact jh hab fin.rc
   ·cases h
  ·exact av9 I hK R h h1 h2 r1 r2 hr.units0
end
variable {Γ:Gm} {X:Cx}
noncomputable def bP7:mM->Operator
 | .add=>.Add|.sub=>.Sub|.mul=>.Mult|.fdiv=>.FloorDiv|.mod=>.Mod|.pow=>.Pow|.shl=>.LShift|.shr=>.RShift|.band=>.BitAnd|.bor=>.BitOr
noncomputable def an0:mf->CmpOp
 | .eq=>.Eq|.ne=>.NotEq|.lt=>.Lt|.le=>.LtE|.gt=>.Gt|.ge=>.GtE|.isin=>.In|.notin=>.NotIn
def rOp (Γ:Gm)(f:kS->kS->kR->kY kS):R2:=λ x y H Q=>∃ φ s a b d s',Rp Γ φ H s/\RV Γ φ H a x/\RV Γ φ H b y/\a.bnd s.length=true/\b.bnd s.length=true/\f a b s=.ok d s'/\ad5 Γ φ s H d s' Q
theorem zQ {d e:kS}{s t:kR}(h:mF d s=.ok e t):d=e/\s=t:=by
 unfold mF at h
 cases h
 exact⟨rfl,rfl⟩
theorem zO {o:lv}{e:kS}{s t:kR}(h:lG o s=.ok e t):e=.ref s.length/\t=s++[o]:=by
 unfold lG at h
 cases h
 exact⟨rfl,rfl⟩
theorem bv7 (a b:List Nat):(⟨a.toArray⟩:Str)++⟨b.toArray⟩=⟨(a++b).toArray⟩:=by
 show Str.append _ _=_
 unfold Str.append
 simp
theorem zY:k6<=aF:=by rw[cZ];decide
theorem bu0:OpR X (cj .Mult) (rI (λ i j=>DV.mulOk i j=true) λ i j=>.int (i*j)):=opI λ i j _ _ _ _ _ hc q=>mul_int q (by
 unfold DV.mulOk at hc
 simp only[bP,aj,decide_eq_true_eq]at hc
 rcases hc with(h|h)|⟨y,z⟩
 ·exact bM2.ok (.inl (by omega))
 ·exact bM2.ok (.inr (by omega))
 ·unfold DV.BIG at y z
  exact IntMulOk.of_le (m:=60000) (n:=60000) (intBits_le_iff.mpr y) (intBits_le_iff.mpr z) (by decide))
theorem aF0 (l:List Nat):∀(n:Nat) (h:Array Nat),(aH n l.toArray).foldl (·++·) h=h++(ln n l).toArray
 | 0,h=>by simp[ln]
 | n+1,h=>by
  rw[bI,di,aF0 l n]
  simp[ln,i7]
theorem br8 (l:List Nat):ln 1 l=l:=by simp[ln]
theorem aV3:∀ n,ln n []=[]
 | 0=>rfl
 | n+1=>by simp[ln,aV3 n]
theorem rep_len (l:List Nat):∀ n,(ln n l).length=l.length*n
 | 0=>by simp[ln]
 | n+1=>by simp[ln,rep_len l n,jP];omega
theorem bm3:OpR X (cj .Mult) (λ x y H Q=>∃(l:List Nat) (n:Int),x=.str ⟨l.toArray⟩/\y=.int n/\(0<=n/\n<=1000000/\l.length*n.toNat<=k6)/\Q (.str ⟨(ln n.toNat l).toArray⟩) H):=by
 intro F s σ H x y v u Q I rx ry h
 obtain⟨l,n,rfl,rfl,⟨h0,J,Y⟩,q⟩:=h
 obtain⟨t,rfl⟩:=rx
 obtain⟨t',rfl⟩:=ry
 have z:(⟨l.toArray⟩:Str).length=l.length:=by show l.toArray.size=_;simp
 have hL:=zY
 have Z:=ak9
 refine SB.mul ⟨?_,λ hn _=>?_,λ hn _=>?_⟩ λ t2 k=>?_
 ·rw[decide_eq_false (by omega),decide_eq_false (by omega)];rfl
 ·rw[z]
  have C:1<=n:=by omega
  intro G
  have h3:(l.length:Int)*n<=1000000:=by
   have:((l.length*n.toNat:Nat):Int)<=(k6:Nat):=Int.ofNat_le.mpr Y
   rw[jS,fj h0]at this
   have e:((k6:Nat):Int)=1000000:=by unfold k6;rfl
   omega
  have h4:(l.length:Int)<=1000000:=by
   have:(l.length:Int)*1<=(l.length:Int)*n:=eY C (by omega)
   omega
  have h5:(1000000:Int)<=(2^63 - 1) / n:=by
   rw[Int.le_ediv_iff_mul_le (by omega)]
   have:(1000000:Int)*n<=1000000*1000000:=eY J (by omega)
   omega
  omega
 ·rw[z]
  unfold km
  exact decide_eq_false (by omega)
 ·have e:Txt.mul ⟨l.toArray⟩ n=⟨(ln n.toNat l).toArray⟩:=by
   unfold Txt.mul
   split
   ·have:n.toNat=0:=by omega
    rw[this];rfl
   ·split
    ·rename_i hc
     rw[bP]at hc
     rcases hc with hc|hc
     ·have:n=1:=by simpa using hc
      subst this
      show(⟨l.toArray⟩:Str)=⟨(ln 1 l).toArray⟩
      rw[br8]
     ·have:l=[]:=by
       have:=eq_of_beq hc
       rw[z]at this
       exact bK.mp this
      subst this
      rw[aV3]
    ·show(⟨(aH n.toNat l.toArray).foldl (·++·) #[]⟩:Str)=_
     rw[aF0];simp
  rw[e]
  exact⟨.str _,H,I.tok _,⟨_,rfl⟩,q⟩
theorem ak1 {n:Nat}{l:List kS}(h:kT n l=true):∀ k,kT n (lF k l)=true
 | 0=>rfl
 | k+1=>zu h (ak1 h k)
theorem RVL.repD {φ:Nat->Addr}{H:Hp}{l:List kS}{y:List V}(h:RVL Γ φ H l y):∀ k,RVL Γ φ H (lF k l) (am5 k y)
 | 0=>RVL.nil
 | k+1=>h.append (RVL.repD h k)
theorem aw0 {α:Type}(h:List α):∀ k,am5 k h=(aH k h).flatten
 | 0=>rfl
 | k+1=>by rw[bI,dA,<-aw0 h k];rfl
theorem bI4 (hK:X.K=Γ.K)(op:mM):OpR X (cj (bP7 op)) (rOp Γ (DV.qB op)):=by
 intro F s σ H x y v u Q I J Y h
 obtain⟨φ,st,a,b,d,a1,R,ha,hb,na,nb,C,q⟩:=h
 cases op with
 | add =>
  cases a with
  | int a =>
   cases b with
   | int b =>
    change(mF _) st=_ at C
    obtain⟨rfl,rfl⟩:=zQ C
    have ex:=ha.intE;have G:=hb.intE;subst ex;subst G
    exact bD2 F s σ H _ _ v u Q I J Y ⟨_,_,rfl,rfl,q.here R rfl RV.intI⟩
   | _=>exact fb C
  | str a =>
   cases b with
   | str b =>
    change(if _ then _ else _:lY kS) st=_ at C
    split at C
    ·rename_i hl
     obtain⟨rfl,rfl⟩:=zQ C
     have ex:=ha.strE;have G:=hb.strE;subst ex;subst G
     refine aK9 F s σ H _ _ v u Q I J Y ⟨_,_,rfl,rfl,?_,?_⟩
     ·show a.toArray.size+b.toArray.size<=_
      simp only[ar]
      exact am hl zY
     ·rw[bv7];exact q.here R rfl (RV.strI (by rw[aB];exact hl))
    ·exact fb C
   | _=>exact fb C
  | tup a =>
   cases b with
   | tup b =>
    change(if _ then _ else _:lY kS) st=_ at C
    split at C
    ·rename_i hl
     obtain⟨rfl,rfl⟩:=zQ C
     obtain⟨p,xs,⟨rfl,z1⟩,Z,d1⟩:=ha.tupZ
     obtain⟨p',ys,⟨rfl,z2⟩,h2,d2⟩:=hb.tupZ
     refine aW1 hK F s σ H _ _ v u Q I J Y ⟨p,p',xs,ys,rfl,rfl,Z,h2,?_,λ t H' e ht hn=>?_⟩
     ·rw[d1.length,d2.length];exact am hl zY
     ·obtain⟨g,r'⟩:=R.same e
      unfold kX at na nb
      refine q _ _ _ g (ak _) (by unfold kX;exact zu na nb) (RV.tupC ht (λ z=>?_) ((RVL.mono g _ _ na d1).append (RVL.mono g _ _ nb d2))) r'
      rcases hn with hn|⟨rfl,rfl⟩|⟨rfl,rfl⟩
      ·exact hn
      ·rw[d2.tonil,bq]at z;rw[bq];exact e _ _ (z1 z)
      ·rw[d1.tonil]at z;exact e _ _ (z2 z)
    ·exact fb C
   | _=>exact fb C
  | ref a =>
   cases b with
   | ref b =>
    change(match st[a]?,st[b]? with|some (DV.O.lst l),some (DV.O.lst m)=>if l.length+m.length<=k6 then lG (.lst (l++m)) st else .bad|_,_=>.bad:kY kS)=_ at C
    split at C
    ·rename_i l m Z h2
     split at C
     ·rename_i hl
      obtain⟨rfl,rfl⟩:=zO C
      obtain⟨xs,e1,d1⟩:=R.addr Z
      obtain⟨ys,e2,d2⟩:=R.addr h2
      have ex:=ha.refE;have G:=hb.refE;subst ex;subst G
      have b1:=R.wf _ _ Z
      have b2:=R.wf _ _ h2
      unfold kZ at b1 b2
      refine bJ8 F s σ H _ _ v u Q I J Y ⟨φ a,φ b,xs,ys,rfl,rfl,e1,e2,?_,λ p hp=>?_⟩
      ·rw[d1.length,d2.length];exact am hl zY
      ·exact q.alloc R (d1.append d2) (zu b1 b2) hp
     ·exact fb C
    ·exact fb C
   | _=>exact fb C
  | _=>exact fb C
 | sub =>
  cases a with
  | int a =>
   cases b with
   | int b =>
    change(mF _) st=_ at C
    obtain⟨rfl,rfl⟩:=zQ C
    have ex:=ha.intE;have G:=hb.intE;subst ex;subst G
    exact bK2 F s σ H _ _ v u Q I J Y ⟨_,_,rfl,rfl,q.here R rfl RV.intI⟩
   | _=>exact fb C
  | _=>exact fb C
 | mul =>
  cases a with
  | int a =>
   cases b with
   | int b =>
    change(if _ then _ else _:lY kS) st=_ at C
    split at C
    ·rename_i hc
     obtain⟨rfl,rfl⟩:=zQ C
     have ex:=ha.intE;have G:=hb.intE;subst ex;subst G
     exact bu0 F s σ H _ _ v u Q I J Y ⟨_,_,rfl,rfl,hc,q.here R rfl RV.intI⟩
    ·exact fb C
   | _=>exact fb C
  | str a =>
   cases b with
   | int b =>
    change(if _ then _ else _:lY kS) st=_ at C
    split at C
    ·rename_i hc
     obtain⟨rfl,rfl⟩:=zQ C
     have ex:=ha.strE;have G:=hb.intE;subst ex;subst G
     exact bm3 F s σ H _ _ v u Q I J Y ⟨_,_,rfl,rfl,hc,q.here R rfl (RV.strI (by rw[rep_len];exact hc.2.2))⟩
    ·exact fb C
   | _=>exact fb C
  | tup a =>
   cases b with
   | int b =>
    change(if _ then _ else _:lY kS) st=_ at C
    split at C
    ·rename_i hc
     obtain⟨rfl,rfl⟩:=zQ C
     obtain⟨p,xs,⟨rfl,z1⟩,Z,d1⟩:=ha.tupZ
     have G:=hb.intE;subst G
     refine br5 hK F s σ H _ _ v u Q I J Y ⟨p,xs,_,rfl,rfl,Z,⟨hc.1,hc.2.1,by rw[d1.length];exact hc.2.2⟩,λ t H' e ht hn=>?_⟩
     obtain⟨g,r'⟩:=R.same e
     unfold kX at na
     refine q _ _ _ g (ak _) (by unfold kX;exact ak1 na _) (RV.tupC ht (λ z=>?_) (RVL.repD (RVL.mono g _ _ na d1) _)) r'
     rcases hn with hn|⟨rfl,ex⟩
     ·exact hn
     ·rw[ex];exact e _ _ (z1 (bq7 z))
    ·exact fb C
   | _=>exact fb C
  | ref a =>
   cases b with
   | int b =>
    change(match st[a]? with|some (DV.O.lst l)=>if 0<=b/\b<=1000000/\l.length*b.toNat<=k6 then lG (.lst (lF b.toNat l)) st else .bad|_=>.bad:kY kS)=_ at C
    split at C
    ·rename_i l Z
     split at C
     ·rename_i hc
      obtain⟨rfl,rfl⟩:=zO C
      obtain⟨xs,e1,d1⟩:=R.addr Z
      have ex:=ha.refE;have G:=hb.intE;subst ex;subst G
      have b1:=R.wf _ _ Z
      unfold kZ at b1
      refine bC2 F s σ H _ _ v u Q I J Y ⟨φ a,b,xs,rfl,rfl,e1,by omega,by omega,?_,λ p hp=>?_⟩
      ·rw[d1.length];exact am hc.2.2 zY
      ·rw[<-aw0];exact q.alloc R (RVL.repD d1 _) (ak1 b1 _) hp
     ·exact fb C
    ·exact fb C
   | _=>exact fb C
  | _=>exact fb C
 | fdiv =>
  cases a with
  | int a =>
   cases b with
   | int b =>
    change(if _ then _ else _:lY kS) st=_ at C
    split at C
    ·rename_i hc
     obtain⟨rfl,rfl⟩:=zQ C
     have ex:=ha.intE;have G:=hb.intE;subst ex;subst G
     refine bc2 F s σ H _ _ v u Q I J Y ⟨_,_,rfl,rfl,⟨hc.1,?_⟩,q.here R rfl RV.intI⟩
     have:=hc.2
     unfold DV.DIVL at this
     simpa using this
    ·exact fb C
   | _=>exact fb C
  | _=>exact fb C
 | mod =>
  cases a with
  | int a =>
   cases b with
   | int b =>
    change(if _ then _ else _:lY kS) st=_ at C
    split at C
    ·rename_i hc
     obtain⟨rfl,rfl⟩:=zQ C
     have ex:=ha.intE;have G:=hb.intE;subst ex;subst G
     exact bA8 F s σ H _ _ v u Q I J Y ⟨_,_,rfl,rfl,hc,q.here R rfl RV.intI⟩
    ·exact fb C
   | _=>exact fb C
  | _=>exact fb C
 | pow =>
  cases a with
  | int a =>
   cases b with
   | int b =>
    change(if _ then _ else _:lY kS) st=_ at C
    split at C
    ·rename_i hc
     obtain⟨rfl,rfl⟩:=zQ C
     have ex:=ha.intE;have G:=hb.intE;subst ex;subst G
     exact bF3 F s σ H _ _ v u Q I J Y ⟨_,_,rfl,rfl,hc,q.here R rfl RV.intI⟩
    ·exact fb C
   | _=>exact fb C
  | _=>exact fb C
 | shl =>
  cases a with
  | int a =>
   cases b with
   | int b =>
    change(if _ then _ else _:lY kS) st=_ at C
    split at C
    ·rename_i hc
     obtain⟨rfl,rfl⟩:=zQ C
     have ex:=ha.intE;have G:=hb.intE;subst ex;subst G
     exact bB6 F s σ H _ _ v u Q I J Y ⟨_,_,rfl,rfl,hc,q.here R rfl RV.intI⟩
    ·exact fb C
   | _=>exact fb C
  | _=>exact fb C
 | shr =>
  cases a with
  | int a =>
   cases b with
   | int b =>
    change(if _ then _ else _:lY kS) st=_ at C
    split at C
    ·rename_i hc
     obtain⟨rfl,rfl⟩:=zQ C
     have ex:=ha.intE;have G:=hb.intE;subst ex;subst G
     exact bH8 F s σ H _ _ v u Q I J Y ⟨_,_,rfl,rfl,hc,q.here R rfl RV.intI⟩
    ·exact fb C
   | _=>exact fb C
  | _=>exact fb C
 | band=>exact fb C
 | bor=>exact fb C
variable {Γ:Gm} {X:Cx} {pins:List (Addr×Obj)} {σ:St} {H:Hp} {sh:af} {φ:Nat->Addr} {s:kR}
theorem aH4 {n:Nat}{a b:kS}{z:Bool}(h:k8 s n a b=some z):lp s a≠9:=by
 cases n with
 | zero=>unfold k8 at h;exact(af0 h).1
 | succ n =>
  unfold k8 at h
  split at h
  ·simp[lp]
  ·split at h
   ·rename_i y _;simp[lp,y]
   ·cases h
  ·exact(af0 h).1
theorem aT2 (I:Inv X pins σ H sh)(F:X.K=Γ.K)(R:Rp Γ φ H s):∀(n:Nat) (a b c:kS) (x:V) (p q:Bool),RV Γ φ H a x->RV Γ φ H b x->k8 s n a c=some p->k8 s n b c=some q->p=q:=by
 intro n
 induction n with
 | zero =>
  intro a b c x p q y h e1 e2
  rcases rv_two I F R y h (aH4 e1) (aH4 e2)with e|⟨l,m,_,_,rfl,rfl,_⟩
  ·subst e;rw[e1]at e2;exact aw e2
  ·unfold k8 at e1 e2
   have:lq s (.tup l) c=lq s (.tup m) c:=by unfold lq;cases c<;>rfl
   rw[this,e2]at e1;exact(aw e1).symm
 | succ n ih =>
  have C:∀(l m k:List kS) (z:List V) (p q:Bool),RVL Γ φ H l z->RVL Γ φ H m z->lj (k8 s n) l k=some p->lj (k8 s n) m k=some q->p=q:=by
   intro l
   induction l with
   | nil =>
    intro m k z p q y h e1 e2
    have:=y.unnil;subst this
    have hm:m=[]:=by have:=h.length;exact bK.mp this.symm
    subst hm
    rw[e1]at e2;exact aw e2
   | cons a l ihl =>
    intro m k z p q y h e1 e2
    obtain⟨x,r,rfl,g1,g2⟩:=y.uncons
    cases m with
    | nil=>have:=h.unnil;cases this
    | cons b m =>
     obtain⟨x',r',e,J,g4⟩:=h.uncons
     cases e
     cases k with
     | nil=>unfold lj at e1 e2;rw[<-aw e1,<-aw e2]
     | cons c k =>
      obtain⟨p1,Z,Y,a2,G⟩:=aj2 e1
      obtain⟨q1,q2,b1,b2,b3⟩:=aj2 e2
      rw[G,b3,ih a b c x p1 q1 g1 J Y b1,ihl m k r Z q2 g2 g4 a2 b2]
  intro a b c x p q y h e1 e2
  rcases rv_two I F R y h (aH4 e1) (aH4 e2)with e|⟨l,m,_,z,rfl,rfl,_,d1,d2⟩
  ·subst e;rw[e1]at e2;exact aw e2
  ·cases c with
   | tup k=>unfold k8 at e1 e2;exact C l m k z p q d1 d2 e1 e2
   | _ =>
    unfold k8 at e1 e2
    simp only at e1 e2
    have e3:lq s (.tup l)=lq s (.tup m):=by funext c;unfold lq;cases c<;>rfl
    rw[e3]at e1
    exact aw (e1.symm.trans e2)
theorem bk5 {x:kS}:∀ {l:List kS} {z:Bool},lL s x l=some z->∃ e:Nat->Bool,(∀ j d,l[j]?=some d->k8 s lf d x=some (e j))/\(z=true↔∃ j,j<l.length/\e j=true)
 | [],z,h=>by
  unfold lL at h
  cases h
  exact⟨λ _=>true,λ j d h=>by simp at h,by simp⟩
 | y::l,z,h=>by
  unfold lL at h
  cases e1:k8 s lf y x with
  | none=>rw[e1]at h;cases h
  | some a =>
   cases e2:lL s x l with
   | none=>rw[e1,e2]at h;cases h
   | some b =>
    rw[e1,e2]at h
    obtain⟨e,C,F⟩:=bk5 e2
    refine⟨λ j=>match j with|0=>a|j+1=>e j,λ j d g=>?_,?_⟩
    ·cases j with
     | zero=>simp at g;subst g;exact e1
     | succ j=>exact C j d (by simpa using g)
    ·have hz:(a||b)=z:=aw h
     rw[<-hz,bP,F]
     constructor
     ·rintro(q|⟨j,hj,q⟩)
      ·exact⟨0,by simp,q⟩
      ·exact⟨j+1,by simpa using hj,q⟩
     ·rintro⟨j,hj,q⟩
      cases j with
      | zero=>exact .inl q
      | succ j=>exact .inr ⟨j,by simpa using hj,q⟩
theorem bh1 (I:Inv X pins σ H sh)(hK:X.K=Γ.K)(R:Rp Γ φ H s){x:kS}{xv:V}{Y:Value}(hx:RV Γ φ H x xv)(rx:RelV xv Y){l:List kS}{ys:List V}{its:List Value}(hl:RVL Γ φ H l ys)(hv:Vals ys its){z:Bool}(h:lL s x l=some z){A:aZ}(hr:Room lf A) :
  ∃ e:Value->Bool,(∀ y,y∈its.toArray->gU A sh y Y (e y))/\its.toArray.any e=z:=by
 obtain⟨e,Z,h2⟩:=bk5 h
 have len:its.length=l.length:=by rw[<-hv.length];exact hl.length
 have C:∀ j u,its[j]?=some u->∃ d y,l[j]?=some d/\ys[j]?=some y/\RV Γ φ H d y/\RelV y u:=λ j u g=>by
  have hj:j<l.length:=by rw[<-len];exact(ac.mp g).1
  obtain⟨y,g1,g2⟩:=hl.get (ag hj)
  obtain⟨u',F,G⟩:=hv.get g1
  rw[g]at F;cases F
  exact⟨_,y,ag hj,g1,g2,G⟩
 classical
 let f:Value->Bool:=λ u=>decide (∃ j,its[j]?=some u/\e j=true)
 have hf:∀ j u,its[j]?=some u->f u=e j:=λ j u g=>by
  obtain⟨d,y,g1,g2,F,G⟩:=C j u g
  cases q:e j with
  | true=>exact decide_eq_true ⟨j,g,q⟩
  | false =>
   refine decide_eq_false λ⟨k,g',q'⟩=>?_
   obtain⟨d',y',k1,k2,k3,k4⟩:=C k u g'
   have ey:y'=y:=k4.inj G
   subst ey
   have:=aT2 I hK R _ d d' x _ _ _ F k3 (Z j d g1) (Z k d' k1)
   rw[q,q']at this;cases this
 refine⟨f,λ u hu=>?_,?_⟩
 ·obtain⟨j,hj,g⟩:=cQ.mp (by simpa using hu:u∈its)
  have g':its[j]?=some u:=by rw[ag hj,g]
  obtain⟨d,y,g1,g2,F,G⟩:=C j u g'
  rw[hf j u g']
  exact(aQ3 I hK R _ d x y xv u Y A _ (Z j d g1) F hx G rx hr).1
 ·have e1:its.toArray.any f=true↔z=true:=by
   rw[h2,List.any_toArray,jG]
   constructor
   ·rintro⟨u,hu,q⟩
    obtain⟨j,hj,g⟩:=cQ.mp hu
    have g':its[j]?=some u:=by rw[ag hj,g]
    exact⟨j,by omega,by rw[<-hf j u g'];exact q⟩
   ·rintro⟨j,hj,q⟩
    have J:j<its.length:=by omega
    exact⟨its[j],jL J,by rw[hf j _ (ag J)];exact q⟩
  cases z<;>cases q:its.toArray.any f
  ·rfl
  ·have:=e1.mp q;cases this
  ·rw[q]at e1;have:=e1.mpr rfl;cases this
  ·rfl
variable {Γ:Gm} {X:Cx}
theorem aa0 {α β:Type}{r:kY α}{f:α->kR->kY β}{b:β}{t:kR}(h:r.bind f=.ok b t):∃ a s,r=.ok a s/\f a s=.ok b t:=DV.R.bind_inv h
theorem bl2 (hK:X.K=Γ.K)(hr:Room (lf+1) X.A)(neg:Bool){F:List (Addr×Obj)}{sh:af}{σ:St}{H:Hp}{x y:V}{v u:Value}{φ:Nat->Addr}{st a2:kR}{a b:kS}{z:Bool}
  (I:Inv X F σ H sh) (J:RelV x v) (ry:RelV y u) (R:Rp Γ φ H st) (ha:RV Γ φ H a x) (hb:RV Γ φ H b y) (h:mG a b st=.ok z a2) :
  a2=st/\∀ Q:Value->af->Prop,(∀ Y,Inv X F σ H Y->Q (.bool (if neg then !z else z)) Y)->wpAny (model X.prog X.w) X.A (cw (if neg then .NotIn else .In) v u) Q X.xe sh:=by
 unfold mG at h
 cases b with
 | tup l =>
  simp only at h
  cases e:lL st a l with
  | none=>rw[e]at h;cases h
  | some w =>
   rw[e]at h
   cases h
   obtain⟨p,ys,rfl,q,d⟩:=hb.tupE
   cases ry
   rw[<-hK]at q
   obtain⟨its,rv,t,_⟩:=I.tuple q
   obtain⟨f,h1,h2⟩:=bh1 I hK R ha J d rv e (A:=X.A.in1) hr.in1
   refine⟨rfl,λ Q hq=>?_⟩
   cases neg with
   | false=>exact SeqAt.in_tupleAt f t h1 (by rw[h2];exact hq _ I)
   | true=>exact SeqAt.notIn_tupleAt f t h1 (by rw[h2];exact hq _ I)
 | str y0 =>
  simp only at h
  split at h
  case h_2=>exact fb h
  rename_i c
  cases h
  refine⟨rfl,λ Q hq=>?_⟩
  have e1:=ha.strE
  have e2:=hb.strE
  subst e1 e2
  obtain⟨t1,rfl⟩:=J
  obtain⟨t2,rfl⟩:=ry
  have Z:=kA (⟨y0.toArray⟩:Str) c
  cases neg with
  | false=>exact in_str (by rw[show(⟨[c].toArray⟩:Str)=⟨#[c]⟩from rfl,Z];simpa using hq _ I)
  | true=>exact notIn_str (by rw[show(⟨[c].toArray⟩:Str)=⟨#[c]⟩from rfl,Z];simpa using hq _ I)
 | ref r =>
  simp only at h
  cases hs:st[r]? with
  | none=>rw[hs]at h;cases h
  | some o =>
   rw[hs]at h
   cases o with
   | lst l =>
    simp only at h
    cases e:lL st a l with
    | none=>rw[e]at h;cases h
    | some w =>
     rw[e]at h
     cases h
     obtain⟨ys,e1,d⟩:=R.addr hs
     have ey:=hb.refE;subst ey
     cases ry
     obtain⟨its,rv,t,_⟩:=I.list (SqL.of e1)
     obtain⟨f,h1,h2⟩:=bh1 I hK R ha J d rv e (A:=X.A.in1) hr.in1
     refine⟨rfl,λ Q hq=>?_⟩
     cases neg with
     | false=>exact SeqAt.in_listAt f t.isList h1 (by rw[h2];exact hq _ I)
     | true=>exact SeqAt.notIn_listAt f t.isList h1 (by rw[h2];exact hq _ I)
   | dic l =>
    simp only at h
    split at h
    case isFalse=>exact fb h
    rename_i C
    cases h
    obtain⟨k,hk⟩:=ai8 C
    obtain⟨G,e1,d⟩:=R.obj r _ hs
    have ey:=hb.refE;subst ey
    cases ry
    have ex:=az8 hk ha;subst ex
    have ez:(lw a l).isSome=(au5 G k).isSome:=by
     rcases d.val keyOf_inj hk with⟨q1,q2⟩|⟨_,_,q1,q2,_⟩<;>rw[q1,q2]<;>rfl
    refine⟨rfl,λ Q hq=>?_⟩
    rw[ez]at hq
    cases neg with
    | false=>exact bW0 (aB1 hr) I (aq2.k e1) J hq
    | true=>exact aQ2 (aB1 hr) I (aq2.k e1) J hq
   | dit l =>
    simp only at h
    split at h
    case isFalse=>exact fb h
    rename_i C
    cases h
    obtain⟨k,hk⟩:=ae9 C
    obtain⟨G,e1,d⟩:=R.obj r _ hs
    have ey:=hb.refE;subst ey
    cases ry
    obtain⟨kb,ex,a1⟩:=as3 hk ha;subst ex
    have ez:(lw a l).isSome=(au5 G k).isSome:=by
     rcases d.val keyT_inj hk with⟨q1,q2⟩|⟨_,_,q1,q2,_⟩<;>rw[q1,q2]<;>rfl
    refine⟨rfl,λ Q hq=>?_⟩
    rw[ez]at hq
    cases neg with
    | false=>exact bW0 (aB1 hr) I (aq2.t e1 a1) J hq
    | true=>exact aQ2 (aB1 hr) I (aq2.t e1 a1) J hq
   | ro l=>exact fb h
   | ins c l=>exact fb h
 | _=>exact fb h
theorem aq4 {op:mf}{a b d:kS}{st y:kR}(ho:op=.lt\/op=.le\/op=.gt\/op=.ge)(h:DV.qo op a b st=.ok d y):∃ i j,a=.int i/\b=.int j:=by
 rcases ho with rfl|rfl|rfl|rfl <;>
 (cases a with
 | int i =>
  (cases b with
  | int j=>exact⟨i,j,rfl,rfl⟩
  | _=>cases h)
 | _=>cases h)
theorem aN3 (hK:X.K=Γ.K)(hr:Room (lf+1) X.A)(op:mf):OpR X (cw (an0 op)) (rOp Γ (DV.qo op)):=by
 intro F s σ H x y v u Q I J Y h
 obtain⟨φ,st,a,b,d,G,R,ha,hb,na,nb,C,q⟩:=h
 cases op with
 | eq =>
  have C:DV.eqM a b st=.ok d G:=C
  unfold DV.eqM at C
  cases e:k8 st lf a b with
  | none=>rw[e]at C;cases C
  | some z =>
   rw[e]at C;cases C
   exact(aQ3 I hK R _ a b x y v u X.A z e ha hb J Y (hr.mono (by omega))).2.rc X.prog X.w X.xe _ ⟨.bl z,H,I,rfl,q.here R rfl RV.blI⟩
 | ne =>
  have C:(match k8 st lf a b with|some r=>.ok (.bl (!r)) st|none=>.bad:kY kS)=.ok d G:=C
  cases e:k8 st lf a b with
  | none=>rw[e]at C;cases C
  | some z =>
   rw[e]at C;cases C
   exact(aQ3 I hK R _ a b x y v u X.A z e ha hb J Y (hr.mono (by omega))).2.ne X.prog X.w X.xe _ ⟨.bl (!z),H,I,rfl,q.here R rfl RV.blI⟩
 | lt =>
  obtain⟨i,j,rfl,rfl⟩:=aq4 (.inl rfl) C
  cases C
  have ex:=ha.intE;have Z:=hb.intE;subst ex;subst Z
  exact bT6 F s σ H _ _ v u Q I J Y ⟨_,_,rfl,rfl,q.here R rfl RV.blI⟩
 | le =>
  obtain⟨i,j,rfl,rfl⟩:=aq4 (.inr (.inl rfl)) C
  cases C
  have ex:=ha.intE;have Z:=hb.intE;subst ex;subst Z
  exact bT1 F s σ H _ _ v u Q I J Y ⟨_,_,rfl,rfl,q.here R rfl RV.blI⟩
 | gt =>
  obtain⟨i,j,rfl,rfl⟩:=aq4 (.inr (.inr (.inl rfl))) C
  cases C
  have ex:=ha.intE;have Z:=hb.intE;subst ex;subst Z
  exact bP2 F s σ H _ _ v u Q I J Y ⟨_,_,rfl,rfl,q.here R rfl RV.blI⟩
 | ge =>
  obtain⟨i,j,rfl,rfl⟩:=aq4 (.inr (.inr (.inr rfl))) C
  cases C
  have ex:=ha.intE;have Z:=hb.intE;subst ex;subst Z
  exact bO1 F s σ H _ _ v u Q I J Y ⟨_,_,rfl,rfl,q.here R rfl RV.blI⟩
 | isin =>
  have C:(mG a b st).bind (λ r s=>.ok (.bl r) s)=.ok d G:=C
  obtain⟨z,s1,e1,e2⟩:=aa0 C
  obtain⟨rfl,w⟩:=bl2 hK hr false I J Y R ha hb e1
  cases e2
  exact w _ λ s' I'=>⟨.bl z,H,I',rfl,q.here R rfl RV.blI⟩
 | notin =>
  have C:(mG a b st).bind (λ r s=>.ok (.bl (!r)) s)=.ok d G:=C
  obtain⟨z,s1,e1,e2⟩:=aa0 C
  obtain⟨rfl,w⟩:=bl2 hK hr true I J Y R ha hb e1
  cases e2
  exact w _ λ s' I'=>⟨.bl (!z),H,I',rfl,q.here R rfl RV.blI⟩
theorem aN6 {φ:Nat->Addr}{H:Hp}{l:List kS}{y:List V}{i:Int}{d:kS}(h:RVL Γ φ H l y)(e:((lM l.length i).bind λ j=>l[j]?)=some d):∃ v,atI y i=some v/\RV Γ φ H d v:=by
 cases hj:lM l.length i with
 | none=>rw[hj]at e;cases e
 | some j =>
  rw[hj]at e
  obtain⟨v,e1,e2⟩:=h.get (show l[j]?=some d from e)
  refine⟨v,?_,e2⟩
  unfold atI
  have:ixN y.length i=some j:=by rw[h.length];exact hj
  rw[this];exact e1
theorem aD3 {l:List kS}{i:Int}{d:kS}(e:((lM l.length i).bind λ j=>l[j]?)=some d):d∈l:=by
 cases hj:lM l.length i with
 | none=>rw[hj]at e;cases e
 | some j=>rw[hj]at e;exact aM (show l[j]?=some d from e)
theorem bO0 (hK:X.K=Γ.K)(hu:X.A.units+1<cLine):IxR X (rOp Γ DV.ixM):=by
 intro C F G s σ H x y v u Q I rx ry h hs
 obtain⟨φ,st,a,b,d,a3,R,ha,hb,na,nb,z,q⟩:=h
 unfold DV.ixM at z
 cases a with
 | tup l =>
  cases b with
  | int i =>
   simp only at z
   split at z
   ·rename_i d' e
    cases z
    obtain⟨p,xs,rfl,h1,d1⟩:=ha.tupE
    have J:=hb.intE;subst J
    obtain⟨w,e1,e2⟩:=aN6 d1 e
    unfold kX at na
    exact bs3 hK C F G s σ H _ _ v u Q I rx ry ⟨p,xs,i,w,rfl,rfl,h1,e1,q.here R (aa2.mp na _ (aD3 e)) e2⟩ hs
   ·exact fb z
  | _=>exact fb z
 | str l =>
  cases b with
  | int i =>
   simp only at z
   split at z
   ·rename_i c e
    cases z
    have hl:=ha.strL
    have ex:=ha.strE;have J:=hb.intE;subst ex;subst J
    exact bC6 C F G s σ H _ _ v u Q I rx ry ⟨⟨l.toArray⟩,i,c,rfl,rfl,by show l.toArray.size<=_;rw[ar];exact am hl zY,e,q.here R rfl (RV.strI (by simp;decide))⟩ hs
   ·exact fb z
  | _=>exact fb z
 | ref r =>
  have ex:=ha.refE;subst ex
  simp only at z
  cases hsr:st[r]? with
  | none=>rw[hsr]at z;cases z
  | some o =>
   rw[hsr]at z
   cases o with
   | lst l =>
    cases b with
    | int i =>
     simp only at z
     split at z
     ·rename_i d' e
      cases z
      have J:=hb.intE;subst J
      obtain⟨xs,e1,d1⟩:=R.addr hsr
      obtain⟨w,e2,e3⟩:=aN6 d1 e
      have wf:=R.wf _ _ hsr
      unfold kZ at wf
      exact aJ0 hK C F G s σ H _ _ v u Q I rx ry ⟨φ r,xs,i,w,rfl,rfl,SqL.of e1,e2,q.here R (aa2.mp wf _ (aD3 e)) e3⟩ hs
     ·exact fb z
    | _=>exact fb z
   | ro l =>
    cases b with
    | int i =>
     simp only at z
     split at z
     ·rename_i d' e
      cases z
      have J:=hb.intE;subst J
      obtain⟨xs,e1,d1⟩:=R.obj _ _ hsr
      obtain⟨w,e2,e3⟩:=aN6 d1 e
      have wf:=R.wf _ _ hsr
      unfold kZ at wf
      exact aJ0 hK C F G s σ H _ _ v u Q I rx ry ⟨φ r,xs,i,w,rfl,rfl,e1.1,e2,q.here R (aa2.mp wf _ (aD3 e)) e3⟩ hs
     ·exact fb z
    | _=>exact fb z
   | dic l =>
    simp only at z
    split at z
    case isFalse=>exact fb z
    rename_i Y
    obtain⟨k,hk⟩:=ai8 Y
    obtain⟨a1,e1,d1⟩:=R.obj r _ hsr
    have J:=az8 hk hb;subst J
    cases rx
    rcases d1.val keyOf_inj hk with⟨q1,_⟩|⟨e,v',q1,q2,q3,q4⟩
    ·rw[q1]at z;cases z
    ·rw[q1]at z
     cases z
     have wf:=R.wf _ _ hsr
     unfold kZ at wf
     rw[aj]at wf
     have g:aq2 H (φ r) (kV k) (some v'):=by rw[<-q2];exact aq2.k e1
     exact j3 (al9 I g) fN.lookup (au8 hu I g ry λ w' s' I' Z=>⟨v',H,I',Z,q.here R (aa2.mp wf.2 _ q4) q3⟩) hs
   | dit l =>
    simp only at z
    split at z
    case isFalse=>exact fb z
    rename_i Y
    obtain⟨k,hk⟩:=ae9 Y
    obtain⟨a1,e1,d1⟩:=R.obj r _ hsr
    obtain⟨kb,J,a2⟩:=as3 hk hb;subst J
    cases rx
    rcases d1.val keyT_inj hk with⟨q1,_⟩|⟨e,v',q1,q2,q3,q4⟩
    ·rw[q1]at z;cases z
    ·rw[q1]at z
     cases z
     have wf:=R.wf _ _ hsr
     unfold kZ at wf
     rw[aj]at wf
     have g:aq2 H (φ r) (.ref kb) (some v'):=by rw[<-q2];exact aq2.t e1 a2
     exact j3 (al9 I g) fN.lookup (au8 hu I g ry λ w' s' I' Z=>⟨v',H,I',Z,q.here R (aa2.mp wf.2 _ q4) q3⟩) hs
   | ins c l=>cases b<;>cases z
 | _=>cases b<;>cases z
theorem aW2 (n d:Nat)(i:Int):HT.sIx n d (some i)=lH n i:=by
 show(if i<0 then(i+(n:Int)).toNat else min i.toNat n)=_
 unfold lH
 by_cases h:i<0
 ·rw[if_pos h,if_neg (by omega)]
 ·rw[if_neg h,if_pos (by omega)]
theorem bk8 {φ:Nat->Addr}{H:Hp}{l:List kS}{y:List V}(h:RVL Γ φ H l y)(z C:Option Int):RVL Γ φ H (ly l z C) (aM2 y z C):=by
 unfold ly aM2
 have e1:HT.sIx y.length 0 z=lK l.length z:=by
  cases z with
  | none=>rfl
  | some i=>rw[aW2,h.length];rfl
 have e2:HT.sIx y.length y.length C=mq l.length C:=by
  cases C with
  | none=>exact h.length
  | some i=>rw[aW2,h.length];rfl
 rw[e1,e2]
 exact(h.drop _).take _
theorem aG8 {α:Type}{l:List α}{h y:Option Int}:∀ d∈ly l h y,d∈l:=λ d hd=>iB (iC hd)
theorem ba8 {α:Type}(l:List α)(y h:Option Int):(ly l y h).length<=l.length:=by
 unfold ly
 rw[bQ,eN]
 omega
theorem bQ5 (y z:Option Int)(n:Nat):bA y z 1 n=(bz (mq n z - lK n y)).map (lK n y+·):=by
 rw[<-sliceRange_one]
 unfold bA
 have cl:∀ i:Int,max 0 (min (if i<0 then i+(n:Int)else i) (n:Int))=((lH n i:Nat):Int):=λ i=>by
  unfold lH
  by_cases h:i<0
  ·rw[if_pos h,if_neg (by omega)];omega
  ·rw[if_neg h,if_pos (by omega)];omega
 simp only[show((1:Int) > 0)=True by simp,if_true]
 cases y<;>cases z<;>simp only[cl,lK,mq]<;>rfl
theorem aG9 {l:List Nat}:∀(a k:Nat),a+k<=l.length->((bz k).map (a+·)).filterMap (λ x=>l.toArray[x]?)=(l.drop a).take k
 | a,0,_=>by simp
 | a,k+1,h=>by
  rw[List.range_succ,fg,List.filterMap_append,aG9 a k (by omega)]
  have hk:a+k<l.length:=by omega
  rw[List.take_add_one,List.getElem?_drop]
  simp[hk]
theorem aU3 (l:List Nat)(h y:Option Int):fc ⟨l.toArray⟩ h y=⟨(ly l h y).toArray⟩:=by
 unfold fc
 have hn:(⟨l.toArray⟩:Str).length=l.length:=by show l.toArray.size=_;simp
 rw[hn,bQ5]
 have hb:mq l.length y<=l.length:=by
  cases y with
  | none=>exact ak _
  | some i=>show lH l.length i<=_;unfold lH;split<;>omega
 have ha:lK l.length h<=l.length:=by
  cases h with
  | none=>exact cO _
  | some i=>show lH l.length i<=_;unfold lH;split<;>omega
 unfold ly
 generalize mq l.length y=b at *
 generalize lK l.length h=a at *
 by_cases hc:((1:Int)==1&&((bz (b - a)).map (a+·)).length==l.length)=true
 ·rw[if_pos hc]
  have:b - a=l.length:=by simpa using hc
  have h0:a=0\/l.length=0:=by omega
  rcases h0 with h0|h0
  ·subst h0
   rw[this];simp
  ·have:l=[]:=bK.mp h0
   subst this;simp
 ·rw[if_neg hc]
  by_cases hab:a<=b
  ·have e:=aG9 (l:=l) a (b - a) (by omega)
   show(⟨(iy (λ x=>l.toArray[x]?) _).toArray⟩:Str)=_
   rw[e]
  ·rw[show b - a=0 by omega];simp
def rSl (Γ:Gm):V->Option Int->Option Int->Hp->VK->Prop:=λ x lo hi H Q=>∃ φ s a d s',Rp Γ φ H s/\RV Γ φ H a x/\a.bnd s.length=true/\mr a lo hi s=.ok d s'/\ad5 Γ φ s H d s' Q
theorem bE6 (hK:X.K=Γ.K):SlR X (rSl Γ):=by
 intro y s σ H x v vl vu G F sl Q I Z hs pl pu h
 obtain⟨φ,st,a,d,a1,R,ha,Y,C,q⟩:=h
 unfold mr at C
 cases a with
 | tup l =>
  cases C
  obtain⟨p,J,⟨rfl,z1⟩,h1,d1⟩:=ha.tupZ
  unfold kX at Y
  refine bx0 hK y s σ H _ v vl vu G F sl Q I Z hs pl pu ⟨p,J,rfl,h1,λ t H' e ht hn=>?_⟩
  obtain⟨g,r'⟩:=R.same e
  have d2:=bk8 (RVL.mono g _ _ Y d1) G F
  refine q _ _ _ g (ak _) (by unfold kX;exact aH7 Y aG8) (RV.tupC ht (λ z=>?_) d2) r'
  rcases hn with hn|⟨rfl,ex⟩
  ·exact hn
  ·rw[ex]
   refine e _ _ (z1 ?_)
   have hl:(ly l G F).length=l.length:=by rw[<-d2.length,ex,d1.length]
   rwa [aR2 hl]at z
 | str l =>
  cases C
  have hl:=ha.strL
  have ex:=ha.strE;subst ex
  refine bD8 y s σ H _ v vl vu G F sl Q I Z hs pl pu ⟨_,rfl,by show l.toArray.size<=_;rw[ar];exact am hl zY,?_⟩
  rw[aU3]
  exact q.here R rfl (RV.strI (am (ba8 l G F) hl))
 | ref r =>
  have ex:=ha.refE;subst ex
  simp only at C
  cases hsr:st[r]? with
  | none=>rw[hsr]at C;cases C
  | some o =>
   rw[hsr]at C
   cases o with
   | lst l =>
    obtain⟨rfl,rfl⟩:=zO C
    obtain⟨J,e1,d1⟩:=R.addr hsr
    have wf:=R.wf _ _ hsr
    unfold kZ at wf
    exact aZ1 hK y s σ H _ v vl vu G F sl Q I Z hs pl pu ⟨φ r,J,rfl,SqL.of e1,λ p hp=>q.alloc R (bk8 d1 G F) (aH7 wf aG8) hp⟩
   | _=>exact fb C
 | _=>exact fb C
variable {Γ:Gm} {X:Cx}
def rCl (Γ:Gm)(f:List kS->kR->kY kS):List V->Hp->VK->Prop:=λ xs H Q=>∃ φ s l d s',Rp Γ φ H s/\RVL Γ φ H l xs/\kT s.length l=true/\f l s=.ok d s'/\ad5 Γ φ s H d s' Q
theorem RVL.one {φ:Nat->Addr}{H:Hp}{d:kS}{y:List V}(h:RVL Γ φ H [d] y):∃ x,y=[x]/\RV Γ φ H d x:=by
 obtain⟨x,r,rfl,z,C⟩:=h.uncons
 rw[C.unnil];exact⟨x,rfl,z⟩
noncomputable def biN:lC->Option (String×Nat)
 | .len=>some ("len",1)|.abs=>some ("abs",1)|.min2=>some ("min",2)|.max2=>some ("max",2)|_=>none
theorem zV:∀ {l:List kS} {is:List Int},lO l=some is->l=is.map DV.D.int
 | [],is,h=>by unfold lO at h;cases h;rfl
 | d::l,is,h=>by
  cases d with
  | int i =>
   have h:(lO l).map (i::·)=some is:=h
   cases e:lO l with
   | none=>rw[e]at h;cases h
   | some m=>rw[e]at h;cases h;rw[zV e];rfl
  | _=>cases h
theorem am3:∀ {l:List kS} {is:List Bool},lS l=some is->l=is.map DV.D.bl
 | [],is,h=>by unfold lS at h;cases h;rfl
 | d::l,is,h=>by
  cases d with
  | bl i =>
   have h:(lS l).map (i::·)=some is:=h
   cases e:lS l with
   | none=>rw[e]at h;cases h
   | some m=>rw[e]at h;cases h;rw[am3 e];rfl
  | _=>cases h
theorem RVL.ints {φ:Nat->Addr}{H:Hp}:∀ {is:List Int} {y:List V},RVL Γ φ H (is.map DV.D.int) y->y=is.map V.int
 | [],_,h=>h.unnil
 | i::is,_,h=>by
  obtain⟨x,r,rfl,z,C⟩:=RVL.uncons h
  rw[z.intE,RVL.ints C];rfl
theorem RVL.bls {φ:Nat->Addr}{H:Hp}:∀ {is:List Bool} {y:List V},RVL Γ φ H (is.map DV.D.bl) y->y=is.map V.bl
 | [],_,h=>h.unnil
 | i::is,_,h=>by
  obtain⟨x,r,rfl,z,C⟩:=RVL.uncons h
  rw[z.blE,RVL.bls C];rfl
theorem aT6 {f:kS->lY kS}{l:List kS}{s s':kR}{d:kS}(h:mH f l s=.ok d s'):∃ a,l=[a]/\f a s=.ok d s':=by
 match l,h with
 | [a],h=>exact⟨a,rfl,h⟩
 | [],h=>exact fb h
 | _::_::_,h=>exact fb h
theorem aY7 (F:X.K=Γ.K)(hc:X.calm=true){b:lC}{G:String}{k:Nat}(hn:biN b=some (G,k)):ab9 X (.builtin G) (rCl Γ (mK b)):=by
 intro y s σ H Z us Q I r h
 obtain⟨φ,st,l,d,C,R,hl,nl,z,q⟩:=h
 cases b with
 | len =>
  cases hn
  have z:mH DV.by2 l st=.ok d C:=z
  obtain⟨a,rfl,hg⟩:=aT6 z
  clear z
  obtain⟨x,rfl,hx⟩:=hl.one
  unfold DV.by2 at hg
  cases a with
  | tup l =>
   cases hg
   obtain⟨p,ys,rfl,J,d1⟩:=hx.tupE
   refine al2 F y s σ H _ us Q I r ⟨p,ys,rfl,.inr J,?_⟩
   rw[d1.length];exact q.here R rfl RV.intI
  | str l =>
   cases hg
   have Y:=hx.strL
   have e:=hx.strE;subst e
   refine az0 y s σ H _ us Q I r ⟨_,rfl,by show l.toArray.size<=_;rw[ar];exact am Y zY,?_⟩
   show Q (.int ((l.toArray.size:Nat):Int)) H
   rw[ar]
   exact q.here R rfl RV.intI
  | ref n =>
   have e:=hx.refE;subst e
   simp only at hg
   cases hs:st[n]? with
   | none=>rw[hs]at hg;cases hg
   | some o =>
    rw[hs]at hg
    cases o with
    | lst l =>
     cases hg
     obtain⟨ys,e1,d1⟩:=R.addr hs
     refine al2 F y s σ H _ us Q I r ⟨φ n,ys,rfl,.inl (SqL.of e1),?_⟩
     rw[d1.length];exact q.here R rfl RV.intI
    | ro l =>
     cases hg
     obtain⟨ys,e1,d1⟩:=R.obj _ _ hs
     refine al2 F y s σ H _ us Q I r ⟨φ n,ys,rfl,.inl e1.1,?_⟩
     rw[d1.length];exact q.here R rfl RV.intI
    | dic l=>exact fb hg
    | dit l=>exact fb hg
    | ins c l=>exact fb hg
  | _=>exact fb hg
 | abs =>
  cases hn
  have z:(match lO l with|some [i]=>.ok (.int (if i<0 then -i else i)) st|_=>.bad:kY kS)=.ok d C:=z
  split at z
  ·rename_i i e
   cases z
   have:=zV e;subst this
   have:=RVL.ints hl;subst this
   exact bb3 y s σ H _ us Q I r ⟨i,rfl,q.here R rfl RV.intI⟩
  ·exact fb z
 | min2 =>
  cases hn
  have z:(match lO l with|some [a,b]=>.ok (.int (if b<a then b else a)) st|_=>.bad:kY kS)=.ok d C:=z
  split at z
  ·rename_i a b e
   cases z
   have:=zV e;subst this
   have:=RVL.ints hl;subst this
   exact aU5 hc y s σ H _ us Q I r ⟨_,_,rfl,q.here R rfl RV.intI⟩
  ·exact fb z
 | max2 =>
  cases hn
  have z:(match lO l with|some [a,b]=>.ok (.int (if b > a then b else a)) st|_=>.bad:kY kS)=.ok d C:=z
  split at z
  ·rename_i a b e
   cases z
   have:=zV e;subst this
   have:=RVL.ints hl;subst this
   exact aQ7 hc y s σ H _ us Q I r ⟨_,_,rfl,q.here R rfl RV.intI⟩
  ·exact fb z
 | _=>cases hn
theorem bA7:ab9 X (.type "int") (rCl Γ (mK .int)):=by
 intro y s σ H F us Q I r h
 obtain⟨φ,st,l,d,C,R,hl,G,z,q⟩:=h
 have z:(match lS l with|some [b]=>.ok (.int (if b then 1 else 0)) st|_=>.bad:kY kS)=.ok d C:=z
 split at z
 ·rename_i b e
  cases z
  have:=am3 e;subst this
  have:=RVL.bls hl;subst this
  exact aP8 y s σ H _ us Q I r (.inr ⟨b,rfl,q.here R rfl RV.intI⟩)
 ·exact fb z
noncomputable def an2:Nat->String
 | 1 => "int" | 2 => "bool" | 3 => "str" | 4 => "tuple" | _ => "list"
theorem bt6 {K:ae}(k:Nat)(hk:1<=k/\k<=5):cE K (.type "NoneType") (.type (an2 k))=some false/\cE K (.type "bool") (.type (an2 k))=some (k==1||k==2) /\
  cE K (.type "int") (.type (an2 k))=some (k==1)/\cE K (.type "str") (.type (an2 k))=some (k==3)/\cE K (.type "tuple") (.type (an2 k))=some (k==4)/\cE K (.type "list") (.type (an2 k))=some (k==5):=by
 obtain⟨z,y⟩:=hk
 rcases(by omega:k=1\/k=2\/k=3\/k=4\/k=5)with h|h|h|h|h<;>subst h<;>refine⟨?_,?_,?_,?_,?_,?_⟩<;>with_unfolding_all rfl
theorem aL2 {y:List (Addr×Obj)}{σ:St}{H:Hp}{s:af}{A:aZ}{E:Value->af->Prop}{Q:Value->af->Prop}{c:Value}{b:Bool}{a:Addr}{C:List V}(I:Inv X y σ H s)(F:SqT X.K H a C)(e:cE X.K (.type "tuple") c=some b)
  (h:∀ tk,Q (.bool b) { s with toks:=tk }):wpAny (model X.prog X.w) A (call (.builtin "isinstance") [.ref a,c]) Q E s:=by
 obtain⟨its,_,⟨o,g1,G,_⟩,_⟩:=I.tuple F
 exact bH i9 I.kIn ⟨o,g1,G⟩ e (λ z=>nomatch z) h
theorem bE9 (hK:X.K=Γ.K){k:Nat}(hk:1<=k/\k<=5):ab9 X (.builtin "isinstance") (λ z H Q=>∃ x,z=[x,.ty (an2 k)]/\rCl Γ (mH (mN k)) [x] H Q):=by
 intro G s σ H z us Q I r h
 obtain⟨x,rfl,φ,st,l,d,y,R,hl,nl,F,q⟩:=h
 obtain⟨a,rfl,hg⟩:=aT6 F
 clear F
 obtain⟨u,w',rfl,r1,Y⟩:=bv9 r
 cases Y
 obtain⟨x',e',hx⟩:=hl.one
 cases e'
 obtain⟨Z,k1,k2,J,k4,k5⟩:=bt6 (K:=X.K) k hk
 unfold mN at hg
 cases a with
 | non=>cases hg;have e:=hx.nonE;subst e;exact qr I r1 .non Z λ tk=>⟨.bl _,H,I.tok _,rfl,q.here R rfl RV.blI⟩
 | bl b=>cases hg;have e:=hx.blE;subst e;exact qr I r1 (.bl b) k1 λ tk=>⟨.bl _,H,I.tok _,rfl,q.here R rfl RV.blI⟩
 | int b=>cases hg;have e:=hx.intE;subst e;exact qr I r1 (.int b) k2 λ tk=>⟨.bl _,H,I.tok _,rfl,q.here R rfl RV.blI⟩
 | str b=>cases hg;have e:=hx.strE;subst e;exact qr I r1 (.str _) J λ tk=>⟨.bl _,H,I.tok _,rfl,q.here R rfl RV.blI⟩
 | tup l =>
  cases hg
  obtain⟨p,ys,rfl,C,d1⟩:=hx.tupE
  cases r1
  rw[<-hK]at C
  exact aL2 I C k4 λ tk=>⟨.bl _,H,I.tok _,rfl,q.here R rfl RV.blI⟩
 | ref n =>
  have e:=hx.refE;subst e
  have hg:(match st[n]? with|some (.lst _)=>.ok (.bl (k==5)) st|_=>.bad:kY kS)=.ok d y:=hg
  cases hs:st[n]? with
  | none=>rw[hs]at hg;cases hg
  | some o =>
   rw[hs]at hg
   cases o with
   | lst l =>
    cases hg
    obtain⟨ys,e1,d1⟩:=R.addr hs
    exact qr I r1 (.lst e1) k5 λ tk=>⟨.bl _,H,I.tok _,rfl,q.here R rfl RV.blI⟩
   | _=>exact fb hg
 | _=>exact fb hg
variable {X:Cx}
theorem bx3 {bs:List Bool}{its:List Value}(r:Vals (bs.map V.bl) its){i:Nat}{v:Value}(h:its[i]?=some v):∃ z,bs[i]?=some z/\v=Value.bool z:=by
 induction bs generalizing its i with
 | nil=>rw[bZ]at r;cases r;simp at h
 | cons b bs ih =>
  rw[aO]at r
  cases r with
  | cons r1 r2 =>
   cases i with
   | zero =>
    cases r1
    have:_=v:=aw h
    exact⟨b,rfl,this.symm⟩
   | succ i=>exact ih r2 h
theorem aT7 {bs:List Bool}:(bz bs.length).all (λ i=>bs.getD i false)=bs.all id:=by
 rw[fh,aX,aX]
 constructor
 ·intro h b hb
  obtain⟨i,y,e⟩:=cQ.mp hb
  have:=h i (cf.mpr y)
  rw[be,ag y]at this
  rw[<-e];exact this
 ·intro h i y
  have y:=cf.mp y
  rw[be,ag y]
  exact h _ (jL y)
theorem aP4 {K:ae}(hc:X.calm=true)(hK:X.K=K):ab9 X (.builtin "all") (λ J H Q=>∃(a:Addr) (bs:List Bool),J=[.ref a]/\SqL K H a (bs.map V.bl)/\Q (.bl (bs.all id)) H):=by
 subst hK
 intro Y s σ H J us Q I r h
 obtain⟨a,bs,rfl,hS,q⟩:=h
 obtain⟨u,rfl,ru⟩:=ai4 r
 cases ru
 obtain⟨its,G,F,hz⟩:=I.list hS
 have hl:=G.length
 rw[au]at hl
 refine call_all_walk (dw F.isList ?_)
 have C:a<s.heap.objs.size:=by obtain⟨o,_,e,_⟩:=F;exact ay e
 have W:=j7 (prog:=X.prog) (w:=X.w) (A:=X.A.in1) (I.ok.hd hc) s.heap.objs.size a (av C) its.toArray
 refine⟨_,_,_,_,_,_,λ i=>bs.getD i false,rfl,W,⟨⟨_,aA _ rfl,rfl,rfl⟩,?_⟩,λ i v s' Q' E' y hQ=>?_,λ h' tk k=>?_⟩
 ·obtain⟨o,e,r⟩:=F.isList
  exact⟨o,ai _ e,r⟩
 ·obtain⟨z,e1,e2⟩:=bx3 G (i:=i) (v:=v) (by have y:its.toArray[i]?=some v:=y;rw[cG]at y;exact y)
  subst e2
  refine bC ?_
  have:bs.getD i false=z:=by rw[be,e1];rfl
  rw[<-this];exact hQ
 ·have es:its.toArray.size=bs.length:=by rw[ar];omega
  rw[es,aT7]
  refine⟨.bl (bs.all id),H,I.kept (h':=h') (t':=tk) λ b o q=>k b o ?_ (ai _ q),rfl,q⟩
  intro z
  have Z:b=s.heap.objs.size:=by simpa using z
  exact absurd (ay q) (by rw[Z];exact bw _)
noncomputable def sgV (x:List Nat):List V:=x.map λ c=>.str ⟨#[c]⟩
theorem bp3 {vs:List V}{y:List Value}(hl:vs.length=y.length)(h:∀(i:Nat) (x:V) (u:Value),vs[i]?=some x->y[i]?=some u->RelV x u):Vals vs y:=by
 induction vs generalizing y with
 | nil=>cases y with
  | nil=>exact .nil
  | cons _ _=>cases hl
 | cons v vs ih=>cases y with
  | nil=>cases hl
  | cons a y=>exact .cons (h 0 v a rfl rfl) (ih (by simpa using hl) λ i x u e1 e2=>h (i+1) x u e1 e2)
theorem ao4 {x:List Nat}{y:Array Value}(h:ItemsOf (SignAt ⟨x.toArray⟩) y x.length):Vals (sgV x) y.toList:=by
 have hl:(sgV x).length=y.toList.length:=by unfold sgV;rw[au];simpa using h.1.symm
 refine bp3 hl λ i v u e1 e2=>?_
 obtain⟨c,t,z,C⟩:=h.2 i u (by rw[<-ic];exact e2)
 unfold sgV at e1
 rw[aC]at e1
 have z:x[i]?=some c:=by simpa using z
 rw[z]at e1
 cases e1
 exact⟨t,C⟩
theorem aD9 (hc:X.calm=true):ab9 X (.type "tuple") (λ F H Q=>∃ x:List Nat,F=[.str ⟨x.toArray⟩]/\x.length<=k6/\∀ l,H l=none->Q (.ref l) (upd H l (.tup (sgV x)))):=by
 intro y s σ H F us Q I r h
 obtain⟨x,rfl,hl,q⟩:=h
 obtain⟨u,rfl,Y⟩:=ai4 r
 obtain⟨t,rfl⟩:=Y
 have hz:(sgV x).length<=aF:=by unfold sgV;rw[au];exact am hl zY
 refine call_tuple_str (I.ok.hd hc) _ t (λ h' tk z kp C=>?_) (by show x.toArray.size<=_;rw[ar];exact am hl zY)
 have C:ItemsOf (SignAt ⟨x.toArray⟩) z x.length:=by simpa using C
 have J:=ao4 C
 have G:Inv X y σ H { s with heap:=h',toks:=tk }:=I.kept (t':=tk) kp
 have I2:Inv X y σ (upd H h'.objs.size (.tup (sgV x))) { s with heap:=h'.push { cls:=.type "tuple",data:=.seq z },toks:=tk } :=
  G.laid (t':=tk) (λ b o e=>ai _ e) (ak _) (show ab2 X.prog X.w _ _ _ (.tup (sgV x))from⟨hz,z.toList,J,jD _ _⟩)
 exact⟨.ref h'.objs.size,_,I2,rfl,q _ (G.hok.fresh (ak _))⟩
theorem aM3 (hc:X.calm=true):ab9 X (.type "list") (λ C H Q=>∃ x:List Nat,C=[.str ⟨x.toArray⟩]/\x.length<=k6/\∀ l,H l=none->Q (.ref l) (upd H l (.lst (sgV x)))):=by
 intro F s σ H C us Q I r h
 obtain⟨x,rfl,hl,q⟩:=h
 obtain⟨u,rfl,Y⟩:=ai4 r
 obtain⟨t,rfl⟩:=Y
 have hz:(sgV x).length<=aF:=by unfold sgV;rw[au];exact am hl zY
 refine call_list_str (I.ok.hd hc) _ t (λ h' tk y J kp e z=>?_) (by show x.toArray.size<=_;rw[ar];exact am hl zY)
 have z:ItemsOf (SignAt ⟨x.toArray⟩) y x.length:=by simpa using z
 have G:=ao4 z
 exact⟨.ref s.heap.objs.size,_,I.laid (t':=tk) kp (ak _) (show ab2 X.prog X.w _ h' _ (.lst (sgV x))from⟨hz,y.toList,J,G,e⟩),rfl,q _ (I.hok.fresh (ak _))⟩
section
variable {Γ:Gm} {φ φ':Nat->Addr} {H H' H1 H2 H3:Hp} {clos:List (Str×Addr)} {s s':kR}
theorem zF (hc:Cells clos H){a:Addr}{u:HO}(e:H a=some u)(h:∀ o,u≠.frz o (.own a)):isC clos a≠true:=λ z=>by
 obtain⟨o,v,q,_⟩:=hc.at z
 rw[e]at q;cases q;exact h o rfl
theorem SqT.dropC {K:ae}{a:Addr}{y:List V}(hc:Cells clos H)(h:SqT K H a y):SqT K (ab1 clos H) a y:=by
 rcases h with(h|⟨o,h⟩)|h
 ·exact .inl (.inl (by rw[ab1.ne (zF hc h (λ _ z=>by cases z))];exact h))
 ·exact .inl (.inr ⟨o,by rw[ab1.ne (zF hc h (λ _ z=>by cases z))];exact h⟩)
 ·exact .inr h
theorem SqL.dropC {K:ae}{a:Addr}{y:List V}(hc:Cells clos H)(h:SqL K H a y):SqL K (ab1 clos H) a y:=by
 rcases h with(h|⟨o,h⟩)|h
 ·exact .inl (.inl (by rw[ab1.ne (zF hc h (λ _ z=>by cases z))];exact h))
 ·exact .inl (.inr ⟨o,by rw[ab1.ne (zF hc h (λ _ z=>by cases z))];exact h⟩)
 ·exact .inr h
theorem SqF.dropC {K:ae}{a:Addr}{y:List V}(hc:Cells clos H)(h:SqF K H a y):SqF K (ab1 clos H) a y:=by
 refine⟨SqL.dropC hc h.1,λ H2 k=>?_⟩
 have hk:Kp H (λ b=>if isC clos b=true then H b else H2 b):=λ b o e f=>by
  by_cases z:isC clos b=true
  ·show(if isC clos b=true then H b else H2 b)=_;rw[if_pos z];exact e
  ·show(if isC clos b=true then H b else H2 b)=_
   rw[if_neg z]
   exact k b o (by rw[ab1.ne z];exact e) f
 have q:=h.2 _ hk
 have at_:∀ u,(if isC clos a=true then H a else H2 a)=some u->(∀ o,u≠.frz o (.own a))->H2 a=some u:=λ u e C=>by
  by_cases z:isC clos a=true
  ·rw[if_pos z]at e
   exact absurd z (zF hc e C)
  ·rw[if_neg z]at e;exact e
 rcases q with(q|⟨o,q⟩)|q
 ·exact .inl (.inl (at_ _ q (λ _ z=>by cases z)))
 ·exact .inl (.inr ⟨o,at_ _ q (λ _ z=>by cases z)⟩)
 ·exact .inr q
mutual
theorem RV.dropC (hc:Cells clos H):∀(d:kS) (v:V),d.ncl=true->RV Γ φ H d v->RV Γ φ (ab1 clos H) d v
 | .non,_,_,h=>by unfold RV at h ⊢;exact h
 | .bl _,_,_,h=>by unfold RV at h ⊢;exact h
 | .int _,_,_,h=>by unfold RV at h ⊢;exact h
 | .str _,_,_,h=>by unfold RV at h ⊢;exact h
 | .tup l,_,n,h=>by
  unfold RV at h ⊢
  unfold mO at n
  obtain⟨a,y,e,q,r⟩:=h
  exact⟨a,y,e,⟨SqT.dropC hc q.1,λ z=>by rw[ab1.ne (zF hc (q.2 z) (λ _ z=>by cases z))];exact q.2 z⟩,RVL.dropC hc l y n r⟩
 | .ref k,_,_,h=>by unfold RV at h ⊢;exact h
 | .fn _,_,_,h=>by unfold RV at h ⊢;exact h
 | .clo id cs,_,n,h=>by unfold mO at n;cases n
theorem RVL.dropC (hc:Cells clos H):∀(l:List kS) (y:List V),lN l=true->RVL Γ φ H l y->RVL Γ φ (ab1 clos H) l y
 | [],_,_,h=>by unfold RVL at h ⊢;exact h
 | d::l,_,n,h=>by
  unfold lN at n
  rw[aj]at n
  obtain⟨x,r,e,z,C⟩:=h.uncons
  subst e
  exact .cons (RV.dropC hc d x n.1 z) (RVL.dropC hc l r n.2 C)
end
theorem RVD.dropC {κ:Type}{z:kS->Option κ}(hc:Cells clos H):∀(l:List (kS×kS)) (y:List (κ×V)),lN (l.map (·.2))=true->RVD z Γ φ H l y->RVD z Γ φ (ab1 clos H) l y
 | [],_,_,h=>h
 | (d,e)::l,_,n,h=>by
  obtain⟨k,v,r,e1,e2,F,C⟩:=h
  rw[aO]at n
  unfold lN at n
  rw[aj]at n
  exact⟨k,v,r,e1,e2,RV.dropC hc e v n.1 F,RVD.dropC hc l r n.2 C⟩
theorem RO.dropC {a:Addr}{o:lv}(hc:Cells clos H)(h:RO Γ φ H a o)(n:o.ncl=true):RO Γ φ (ab1 clos H) a o:=by
 cases o with
 | lst l =>
  obtain⟨y,e,r⟩:=h
  exact⟨y,by rw[ab1.ne (zF hc e (λ _ z=>by cases z))];exact e,RVL.dropC hc l y n r⟩
 | ro l =>
  obtain⟨y,e,r⟩:=h
  exact⟨y,SqF.dropC hc e,RVL.dropC hc l y n r⟩
 | dic l =>
  obtain⟨y,e,r⟩:=h
  exact⟨y,by rw[ab1.ne (zF hc e (λ _ z=>by cases z))];exact e,RVD.dropC hc l y n r⟩
 | dit l =>
  obtain⟨y,e,r⟩:=h
  exact⟨y,by rw[ab1.ne (zF hc e (λ _ z=>by cases z))];exact e,RVD.dropC hc l y n r⟩
 | ins _ _=>exact h.elim
theorem TabsH.dropC {T:List (Addr×Str)}(hc:Cells clos H)(h:TabsH T H):TabsH T (ab1 clos H):=λ y hy=>by
 obtain⟨ps,e,t,c⟩:=h y hy
 refine⟨ps,by rw[ab1.ne (zF hc e (λ _ z=>by cases z))];exact e,t,λ pos F q=>?_⟩
 obtain⟨C,e1,e2⟩:=c pos F q
 exact⟨C,e1,by rw[ab1.ne (zF hc e2 (λ _ z=>by unfold z0 at z;cases z))];exact e2⟩
theorem Rp.dropC (hc:Cells clos H)(r:Rp Γ φ H s)(n:s.all mP=true):Rp Γ φ (ab1 clos H) s :=
 ⟨r.inj,λ i o e=>RO.dropC hc (r.obj i o e) (aX.mp n o (aM e)),r.wf,TabsH.dropC hc r.tab⟩
theorem Gr.caught {N:List Str}{kd:Str->Option bM}{σ:St}(h:Caught clos N kd σ H1 H2)(g:Gr φ s H2 φ' s' H3):Gr φ s H1 φ' s' (ab1 clos H3):=by
 have y:∀ b o,H1 b=some o->isC clos b≠true:=λ b o e z=>by rw[h.free b z]at e;cases e
 have up:∀ b o,H1 b=some o->H2 b=some o:=λ b o e=>by rw[h.ne b (y b o e)];exact e
 refine⟨⟨g.w.map,λ b o e f=>?_⟩,g.le,λ i F G=>?_,g.kd,λ b e=>?_,λ b o e J C=>?_⟩
 ·rw[ab1.ne (y b o e)];exact g.w.kp b o (up b o e) f
 ·have:=g.new i F G
  by_cases z:isC clos (φ' i)=true
  ·exact h.free _ z
  ·rw[<-h.ne _ z];exact this
 ·cases q:H1 b with
  | none=>exact absurd q e
  | some o =>
   rw[ab1.ne (y b o q)]
   exact g.st b (by rw[up b o q];simp)
 ·rw[ab1.ne (y b o e)];exact g.fr b o (up b o e) J C
theorem aX0 (h:∀ b,isC clos b=true->H' b=none):ad8 H' (Put clos H H'):=λ b o e=>by
 rw[Put.ne (λ z=>by rw[h b z]at e;cases e)];exact e
theorem Gr.put (hc:Cells clos H)(y:∀ b,isC clos b=true->H' b=none)(hK:∀ b o,Γ.K.lookup b=some o->H b=none)(Y:Rp Γ φ' H' s')(g:Gr φ s (ab1 clos H) φ' s' H'):Gr φ s H φ' s' (Put clos H H'):=by
 refine⟨⟨g.w.map,λ b o e f=>?_⟩,g.le,λ i J F=>?_,g.kd,λ b e=>?_,λ b o e Z G=>?_⟩
 ·by_cases z:isC clos b=true
  ·rw[Put.cell z];exact e
  ·rw[Put.ne z];exact g.w.kp b o (by rw[ab1.ne z];exact e) f
 ·have hd:=g.new i J F
  by_cases z:isC clos (φ' i)=true
  ·have hg:=y _ z
   obtain⟨o,eo⟩:∃ o,s'[i]?=some o:=⟨s'[i],ag F⟩
   have h:=Y.obj i o eo
   cases o with
   | lst l=>obtain⟨C,e,_⟩:=h;rw[hg]at e;cases e
   | ro l =>
    obtain⟨C,e,_⟩:=h
    rcases e.1 with(e|⟨_,e⟩)|⟨ob,its,n,e,_⟩
    ·rw[hg]at e;cases e
    ·rw[hg]at e;cases e
    ·exact hK _ _ e
   | dic l=>obtain⟨C,e,_⟩:=h;rw[hg]at e;cases e
   | dit l=>obtain⟨C,e,_⟩:=h;rw[hg]at e;cases e
   | ins _ _=>exact h.elim
  ·rw[ab1.ne z]at hd;exact hd
 ·by_cases z:isC clos b=true
  ·rw[Put.cell z];exact e
  ·rw[Put.ne z];exact g.st b (by rw[ab1.ne z];exact e)
 ·by_cases z:isC clos b=true
  ·rw[Put.cell z];exact e
  ·rw[Put.ne z];exact g.fr b o (by rw[ab1.ne z];exact e) Z G
theorem bg3 {T:List (Addr×Str)}{cells:List (Str×Addr)}{P:Addr}{q:Str}{params:bj}{body:Expr}{scope:Scope}{pos:Pos}{σ:St}{H:Hp}{Q:VK}(hT:TabsH T H)(nd:(T.map (·.1)).Nodup)(hm:(P,q)∈T)
  (go:∀(f:Addr) (H':Hp),aT8 H H'->(∀ b,H b≠none->H' b≠none)->TabsH T H'->H f=none->(∃ Z G C,H' f=some (ar5 f (bW "<lambda>" q params body scope (ad1 cells scope.names []) Z (.ref G) C))/\H' G=some (z0 G q))->Q (.ref f) H') :
  bV4 cells P q params body scope pos σ H Q:=by
 obtain⟨ps,Y,ht,hc⟩:=hT _ hm
 refine⟨ps,Y,ht,λ hn G f Z C n1 n2 ne=>?_,λ cv e=>?_⟩
 ·have cP:G≠P:=λ z=>by rw[z,Y]at n1;cases n1
  have fP:f≠P:=λ z=>by rw[z,Y]at n2;cases n2
  have J:∀ b,b≠P->H b≠none->∀ o1 o2 o3,upd (upd (upd H P o1) G o2) f o3 b=H b:=λ b z1 z2 o1 o2 o3=>by
   rw[za λ z=>by subst z;exact z2 n2,za λ z=>by subst z;exact z2 n1,za z1]
  refine go f _ (λ b o d e=>?_) (λ b hb=>?_) (λ y hy=>?_) n2 ⟨Z,G,C,zb,by rw[za ne,zb]⟩
  ·rw[J b (λ z=>by subst z;rw[Y]at e;cases e;exact d _ rfl) (by rw[e];simp)];exact e
  ·by_cases z:b=P
   ·subst z;rw[za (bL fP),za (bL cP),zb];simp
   ·rw[J b z hb];exact hb
  ·by_cases z:y.1=P
   ·have ey:y=(P,q):=by
     have:∀(l:List (Addr×Str)),(l.map (·.1)).Nodup->y∈l->(P,q)∈l->y=(P,q):=by
      intro l
      induction l with
      | nil=>intro _ h;simp at h
      | cons a l ih =>
       intro hn h1 h2
       rw[aO,dh]at hn
       rcases aE.mp h1 with e1|h1<;>rcases aE.mp h2 with e2|h2
       ·rw[e1,e2]
       ·exact absurd (by rw[<-e1,z];exact aP (f:=(·.1)) h2) hn.1
       ·exact absurd (by rw[<-e2,<-z];exact aP (f:=(·.1)) h1) hn.1
       ·exact ih hn.2 h1 h2
     exact this T nd hy hm
    subst ey
    refine⟨_,by rw[za (bL fP),za (bL cP),zb],?_,λ F cv e=>?_⟩
    ·rw[dM];exact TriplesOk_snoc _ _ _ _ ht
    ·rw[dM]at e
     rcases codeAmong_add _ ht e with e'|e'
     ·obtain⟨c2,e1,e2⟩:=hc F cv e'
      exact⟨c2,e1,by rw[J c2 (λ z=>by subst z;rw[Y]at e2;unfold z0 at e2;cases e2) (by rw[e2];simp)];exact e2⟩
     ·exact⟨G,e',by rw[za ne,zb]⟩
   ·obtain⟨qs,e1,e2,e3⟩:=hT y hy
    refine⟨qs,by rw[J y.1 z (by rw[e1];simp)];exact e1,e2,λ F cv e=>?_⟩
    obtain⟨c2,e4,e5⟩:=e3 F cv e
    exact⟨c2,e4,by rw[J c2 (λ z=>by subst z;rw[Y]at e5;unfold z0 at e5;cases e5) (by rw[e5];simp)];exact e5⟩
 ·obtain⟨G,e1,e2⟩:=hc pos cv e
  refine⟨G,e1,λ f Z C n=>go f _ (.of ((ad8.refl H).new n)) (λ b hb=>by
   by_cases z:b=f
   ·subst z;rw[zb];simp
   ·rw[za z];exact hb) (hT.new n) n ⟨Z,G,C,zb,?_⟩⟩
  rw[za (zn e2 n)];exact e2
theorem bs8 {P:aI}{w:World}{K:ae}{mg:Str->Option Value}{base:Heap}{k:Nat}{f:Addr}{N ps fr:List Str}{name qual:Str}{params:bj}{body:List Stmt}{scope:Scope}{h:List (Str×Addr)}{cap:List V}{sp:Sp}
  (S:LamScope N ps fr scope) (len:∀ vs H Q E,sp vs H Q E->vs.length=ps.length) (a5:cap.length=fr.length)
  (Y:∀(Z pm:Value) (c':Addr) (F:Value) (us:List Value),us.length=ps.length->eT (cA name qual params body scope h .none .none Z pm none (.ref c') F) ⟨us,[]⟩=pure (ps.zip us))
  (G:∀(A:aZ) (outer:List Env) (s:af) (H:Hp) (cd:Value) (vs:List V) (Q:VK),Room k (A.deeper (c7 qual scope s.heap.objs.size f cd (aL (s.heap.objs.size+1) scope.names h)))->al0 H f name qual params body scope fr cap h->(∀ b o,K.lookup b=some o->H b=none)->sp vs H Q E0 ->
   ∃ t,PSs (aD0 P w K mg base N qual scope f cd h A outer s H) body t/\t { nx:=λ _ H'=>(∀ b,isC h b=true->H' b=none)->Q .non (Put h H H'),rt:=λ v H'=>(∀ b,isC h b=true->H' b=none)->Q v (Put h H H') } (vs.map some++cap.map some) (ab1 h H)) :
  ClOk P w K mg base (k+1) (λ H=>al0 H f name qual params body scope fr cap h) f sp:=by
 refine⟨λ A outer s H us vs Q hr C hR r a2=>?_⟩
 have hl:=len _ _ _ _ a2
 obtain⟨Z,pm,c',F,h1,h2,h3,h4,h5,h6⟩:=id hR
 have a3:s.heap.NoLimit:=C.mod.nolimit.keeps λ b o e=>(C.bs b o e).1
 refine hW hr.depth (ar4 C.hok h1) rfl S.co S.gen rfl (at9 C.hok h2) ?_
 rw[Y Z pm c' F us (by rw[<-r.length];exact hl)]
 refine aq (ao3 S.kind (λ y hy=>?_) λ env he s1 x=>?_)
 ·rcases S.par y.1 (dW (show(y.1,y.2)∈ps.zip us from hy)).1 with q|q
  ·exact .inl q
  ·exact .inr ⟨q,zN q⟩
 ·subst he
  refine⟨a3.keeps x.toInCall.keep,codeAny_func ?_⟩
  obtain⟨t,ht,hq⟩:=G A outer s H (.ref c') vs Q (hr.deeper _) hR (λ b o e=>(C.bs b o (C.mod.kin b o e)).2) a2
  have I:=aN2 S hr.hd C hl a5 r h3 h4 h5 h6 x
  refine cy (ht [] s1 _ _ _ I hq) (λ fl s' hs=>?_) λ e s' hs=>hs.elim
  have fin:∀ {σ':St} {H':Hp} {v:V} {u:Value},Inv (aD0 P w K mg base N qual scope f (.ref c') h A outer s H) [] σ' H' s'->RelV v u->((∀ b,isC h b=true->H' b=none)->Q v (Put h H H'))->CE outer P w H s Q u s':=λ {σ' H' v u} J rv q=>by
   obtain⟨un,a4⟩:=aP9 C.hok h3 C.frf J.base J.hok
   have a1:∀ b,isC h b=true->H' b=none:=λ b y=>by
    obtain⟨o,v,z,_⟩:=h3.at y
    exact(show Un (frs outer) [] (ab1 h H) H' s.heap s'.heap from J.base).free b o (C.hok b _ z).1 (ab1.cell y) (by simp)
   exact⟨v,_,J.os,J.bare,un,a4,rv,q a1⟩
  cases fl with
  | ret u =>
   obtain⟨v,σ',H',J,rv,q⟩:=hs
   exact fin J rv q
  | next =>
   obtain⟨σ',H',J,q⟩:=hs
   exact fin (v:=V.non) (u:=Value.none) J rfl q
  | brk =>
   obtain⟨_,_,_,q⟩:=hs
   exact bB q
  | cont =>
   obtain⟨_,_,_,q⟩:=hs
   exact bB q
theorem bt7 {P:aI}{w:World}{K:ae}{mg:Str->Option Value}{base:Heap}{k:Nat}{f:Addr}{N ps fr:List Str}{qual:Str}{params:bj}{body:Expr}{scope:Scope}{h:List (Str×Addr)}{cap:List V}{sp:Sp}
  (S:LamScope N ps fr scope) (len:∀ vs H Q E,sp vs H Q E->vs.length=ps.length) (a4:cap.length=fr.length)
  (Y:∀(pm:Value) (c':Addr) (F:Value) (us:List Value),us.length=ps.length->eT (bW "<lambda>" qual params body scope h pm (.ref c') F) ⟨us,[]⟩=pure (ps.zip us))
  (G:∀(A:aZ) (outer:List Env) (s:af) (H:Hp) (cd:Value) (vs:List V) (Q:VK),Room k (A.deeper (c7 qual scope s.heap.objs.size f cd (aL (s.heap.objs.size+1) scope.names h)))->ay4 H f qual params body scope fr cap h->(∀ b o,K.lookup b=some o->H b=none)->sp vs H Q E0 ->
   ∃ t,PE (aD0 P w K mg base N qual scope f cd h A outer s H) body t/\t (vs.map some++cap.map some) (ab1 h H) λ v H'=>(∀ b,isC h b=true->H' b=none)->Q v (Put h H H')) :
  ClOk P w K mg base (k+1) (λ H=>ay4 H f qual params body scope fr cap h) f sp:=by
 refine⟨λ A outer s H us vs Q hr C hR r a1=>?_⟩
 have hl:=len _ _ _ _ a1
 obtain⟨pm,c',F,h1,h2,h3,h4,h5,h6⟩:=id hR
 have a2:s.heap.NoLimit:=C.mod.nolimit.keeps λ b o e=>(C.bs b o e).1
 refine PySem.W.kla_callFunE hr.depth (ar4 C.hok h1) rfl S.co S.gen rfl (at9 C.hok h2) ?_
 rw[Y pm c' F us (by rw[<-r.length];exact hl)]
 refine aq (ao3 S.kind (λ y hy=>?_) λ env he s1 x=>?_)
 ·rcases S.par y.1 (dW (show(y.1,y.2)∈ps.zip us from hy)).1 with q|q
  ·exact .inl q
  ·exact .inr ⟨q,zN q⟩
 ·subst he
  refine⟨a2.keeps x.toInCall.keep,PySem.W.kla_codeExpr ?_⟩
  obtain⟨t,ht,hq⟩:=G A outer s H (.ref c') vs Q (hr.deeper _) hR (λ b o e=>(C.bs b o (C.mod.kin b o e)).2) a1
  have I:=aN2 S hr.hd C hl a4 r h3 h4 h5 h6 x
  refine cy (ht [] s1 _ _ _ I hq) (λ u s' hs=>?_) λ e s' hs=>hs.elim
  obtain⟨v,H',J,rv,q⟩:=hs
  obtain⟨un,a3⟩:=aP9 C.hok h3 C.frf J.base J.hok
  have Z:∀ b,isC h b=true->H' b=none:=λ b y=>by
   obtain⟨o,v,z,_⟩:=h3.at y
   exact(show Un (frs outer) [] (ab1 h H) H' s.heap s'.heap from J.base).free b o (C.hok b _ z).1 (ab1.cell y) (by simp)
  exact⟨v,_,J.os,J.bare,un,a3,rv,q Z⟩
theorem Rp.sameT {φ:Nat->Addr}{H H':Hp}{s:kR}(r:Rp Γ φ H s)(e:aT8 H H')(st:∀ b,H b≠none->H' b≠none)(tb:TabsH Γ.T H'):Gr φ s H φ s H'/\Rp Γ φ H' s:=by
 have kp:Kp H H':=λ b o h f=>e b o (λ ps z=>by subst z;cases f) h
 have G:Gw φ s.length H φ H':=⟨λ _ _=>rfl,kp⟩
 refine⟨⟨G,ak _,λ i h1 Y=>absurd Y (by omega),λ i o o' e e'=>by rw[e]at e';cases e';rfl,st,λ b o h C _=>e b o C h⟩,r.inj,λ i o F=>?_,r.wf,tb⟩
 exact(r.obj i o F).mono G (r.wf i o F) λ m u J=>by
  obtain⟨Z,y,_,C⟩:=(r.obj i o F).there m
  rw[J]at y;cases y
  exact e _ _ C J
theorem Cells.kp {H H':Hp}(h:Cells clos H)(k:Kp H H'):Cells clos H':=λ x c e=>by
 obtain⟨o,v,q,d⟩:=h x c e
 exact⟨o,v,k _ _ q rfl,d⟩
noncomputable def PVp (Γ : Gm) (cells : List (Str × Addr)) (N : List Str) (σ : St) (φ : Nat -> Addr) (H : Hp) (d : DV.D) (v : V) : Prop := RV Γ φ H d v \/ ∃ id cs, d = .clo id cs /\ ∃ f J, v = .ref f /\ Γ.lg id J /\ ae7 H f J (ad1 cells J.scope.names []) /\
      cs.length = J.fr.length /\ (∀ x, J.scope.names.lookup x = some .free -> ∃ c, cells.lookup x = some c) /\
      ∃ cap, RVL Γ φ H cs cap /\ ∀(i : Nat) (x : Str) (v : V), J.fr[i]? = some x -> cap[i]? = some v -> J.scope.names.lookup x = some .free /\ ∃ j : Nat, N[j]? = some x /\ σ[j]? = some (some v)
inductive PVL (Γ:Gm)(cells:List (Str×Addr))(N:List Str)(σ:St)(φ:Nat->Addr)(H:Hp):List kS->List V->Prop where
 | nil:PVL Γ cells N σ φ H [] []
 | cons {d v l vs} (a:PVp Γ cells N σ φ H d v) (b:PVL Γ cells N σ φ H l vs):PVL Γ cells N σ φ H (d::l) (v::vs)
theorem PVp.mono {cells:List (Str×Addr)}{N:List Str}{σ:St}{φ φ':Nat->Addr}{s s':kR}{H H':Hp}(g:Gr φ s H φ' s' H'){d:kS}{v:V}(b:d.bnd s.length=true)(h:PVp Γ cells N σ φ H d v):PVp Γ cells N σ φ' H' d v:=by
 rcases h with h|⟨id,cs,rfl,h⟩
 ·exact .inl (RV.mono g _ _ b h)
 ·obtain⟨f,J,e,z,C,F,y,cap,G,h7⟩:=h
  unfold kX at b
  exact .inr ⟨id,cs,rfl,f,J,e,z,C.kp g.w.kp,F,y,cap,RVL.mono g cs cap b G,h7⟩
theorem PVp.caught {cells:List (Str×Addr)}{N:List Str}{kd:Str->Option bM}{σ:St}{φ:Nat->Addr}{n:Nat}{Y H2:Hp}(F:Caught cells N kd σ Y H2)(G:∀ x c,cells.lookup x=some c->kd x=some .cell\/kd x=some .free){d:kS}{v:V}(b:d.bnd n=true)(h:PVp Γ cells N σ φ Y d v):RV Γ φ H2 d v:=by
 have Z:Gw φ n Y φ H2:=⟨λ _ _=>rfl,λ b o e _=>F.same b o e⟩
 rcases h with h|⟨id,cs,rfl,h⟩
 ·exact RV.monoW Z _ _ b h
 ·obtain⟨f,J,e,h1,z,h4,C,cap,h6,h7⟩:=h
  unfold kX at b
  unfold RV
  have y:∀(i:Nat) (x:Str) (v:V),J.fr[i]?=some x->cap[i]?=some v->J.scope.names.lookup x=some .free/\(kd x=some .cell\/kd x=some .free)/\∃ j:Nat,N[j]?=some x/\σ[j]?=some (some v):=λ i x v e1 e2=>by
   obtain⟨q1,q2⟩:=h7 i x v e1 e2
   obtain⟨c,q3⟩:=C x q1
   exact⟨q1,G x c q3,q2⟩
  have hat:CloAt H2 f J cap (ad1 cells J.scope.names []):=by
   unfold CloAt
   unfold ae7 at z
   cases q:J.nm with
   | none=>rw[q]at z;exact aY0 F z C y
   | some p=>rw[q]at z;exact aX9 F z C y
  exact⟨f,cap,J,_,e,h1,hat,by rw[h6.length,h4],RVL.monoW Z cs cap b h6⟩
theorem PVL.caught {cells:List (Str×Addr)}{N:List Str}{kd:Str->Option bM}{σ:St}{φ:Nat->Addr}{n:Nat}{z H2:Hp}(C:Caught cells N kd σ z H2)(y:∀ x c,cells.lookup x=some c->kd x=some .cell\/kd x=some .free){l:List kS}{vs:List V}(h:PVL Γ cells N σ φ z l vs)(b:kT n l=true):RVL Γ φ H2 l vs:=by
 induction h with
 | nil=>exact .nil
 | cons a _ ih =>
  unfold kT at b
  rw[aj]at b
  exact .cons (a.caught C y b.1) (ih b.2)
end
variable {Γ:Gm} {X:Cx}
def TEv (Γ:Gm)(m:kU->kR->kY kS):TE:=λ σ H Q=>∃ φ ρ s d s',RE Γ φ H s.length ρ σ/\Rp Γ φ H s/\m ρ s=.ok d s'/\ad5 Γ φ s H d s' Q
def bI6 (Γ:Gm)(φ:Nat->Addr)(s:kR)(H:Hp)(l:List kS)(s':kR)(Q:List V->Hp->Prop):Prop :=
 ∀ vs φ' H',Gr φ s H φ' s' H'->s.length<=s'.length->kT s'.length l=true->RVL Γ φ' H' l vs->Rp Γ φ' H' s'->Q vs H'
def TAv (Γ:Gm)(m:kU->kR->kY (List kS)):TA:=λ σ H Q=>∃ φ ρ s l s',RE Γ φ H s.length ρ σ/\Rp Γ φ H s/\m ρ s=.ok l s'/\bI6 Γ φ s H l s' Q
def aI5 (Γ:Gm)(φ:Nat->Addr)(s:kR)(H:Hp)(b:Bool)(s':kR)(Q:Bool->Hp->Prop):Prop :=
 ∀ φ' H',Gr φ s H φ' s' H'->s.length<=s'.length->Rp Γ φ' H' s'->Q b H'
def TTv (Γ:Gm)(m:kU->kR->kY kS):TT:=λ σ H Q=>∃ φ ρ s b s',RE Γ φ H s.length ρ σ/\Rp Γ φ H s/\m ρ s=.ok (.bl b) s'/\aI5 Γ φ s H b s' Q
theorem PE.imp {e:Expr}{t t':TE}(h:PE X e t)(i:∀ σ H Q,t' σ H Q->t σ H Q):PE X e t':=λ y s σ H Q I q=>h y s σ H Q I (i σ H Q q)
theorem PT.imp {e:Expr}{t t':TT}(h:PT X e t)(i:∀ σ H Q,t' σ H Q->t σ H Q):PT X e t':=λ y s σ H Q I q=>h y s σ H Q I (i σ H Q q)
theorem PA.imp {e:List Expr}{t t':TA}(h:PA X e t)(i:∀ σ H Q,t' σ H Q->t σ H Q):PA X e t':=λ pos y s σ H Q I q=>h pos y s σ H Q I (i σ H Q q)
theorem aI5.trans {φ φ1:Nat->Addr}{s s1 s':kR}{H y:Hp}{b:Bool}{Q:Bool->Hp->Prop}(h:aI5 Γ φ s H b s' Q)(g:Gr φ s H φ1 s1 y)(l:s.length<=s1.length):aI5 Γ φ1 s1 y b s' Q :=
 λ φ' H' g' z p=>h φ' H' (g.trans g' l) (am l z) p
theorem bD9 (i:Nat){σ:St}{H:Hp}{Q:VK}(h:TEv Γ (λ ρ s=>DV.aT4 ρ i s) σ H Q):aX4 i σ H Q:=by
 obtain⟨φ,ρ,s,d,s',E,R,y,q⟩:=h
 simp only[DV.aT4]at y
 split at y
 ·rename_i d' e
  cases y
  obtain⟨b,v,e1,e2⟩:=E.val i _ e
  exact⟨v,e1,q.here R b e2⟩
 ·exact fb y
theorem ay0 {c:kS}{v:V}(hb:∀ n,c.bnd n=true)(hv:∀ φ H,RV Γ φ H c v){σ:St}{H:Hp}{Q:VK}(h:TEv Γ (λ ρ s=>.ok c s) σ H Q):tC v σ H Q:=by
 obtain⟨φ,ρ,s,d,s',E,R,y,q⟩:=h
 cases y
 exact q.here R (hb _) (hv _ _)
theorem bd7 {G C:kU->kR->kY kS}{f:kS->kS->kR->kY kS}{σ:St}{H:Hp}{Q:VK}(h:TEv Γ (λ ρ s=>(G ρ s).bind λ x s=>(C ρ s).bind λ y s=>f x y s) σ H Q):tOp (rOp Γ f) (TEv Γ G) (TEv Γ C) σ H Q:=by
 obtain⟨φ,ρ,s,d,s',E,R,z,q⟩:=h
 obtain⟨x,s1,e1,z⟩:=aa0 z
 obtain⟨y,s2,e2,z⟩:=aa0 z
 refine⟨φ,ρ,s,x,s1,E,R,e1,λ Z φ1 H1 g1 l1 Y r1 R1=>?_⟩
 refine⟨φ1,ρ,s1,y,s2,E.mono g1 l1,R1,e2,λ v2 φ2 H2 F J b2 r2 R2=>?_⟩
 exact⟨φ2,s2,x,y,d,s',R2,RV.mono F x Z Y r1,r2,zm J x Y,b2,z,q.trans (g1.trans F l1) (am l1 J)⟩
theorem bP5 {m:kU->kR->kY kS}{f:kS->kR->kY kS}{r:V->Hp->VK->Prop}{σ:St}{H:Hp}{Q:VK}(h:TEv Γ (λ ρ s=>(m ρ s).bind λ x s=>f x s) σ H Q)
  (hr:∀ φ s x d s' v H',Rp Γ φ H' s->RV Γ φ H' x v->x.bnd s.length=true->f x s=.ok d s'->ad5 Γ φ s H' d s' Q->r v H' Q):tUn r (TEv Γ m) σ H Q:=by
 obtain⟨φ,ρ,s,d,s',E,R,y,q⟩:=h
 obtain⟨x,s1,e1,y⟩:=aa0 y
 exact⟨φ,ρ,s,x,s1,E,R,e1,λ z φ1 C g1 l1 F r1 R1=>hr φ1 s1 x d s' z C R1 r1 F y (q.trans g1 l1)⟩
theorem zB {α:Type}{r:kY kS}{f:Bool->kR->kY α}{a:α}{t:kR}(h:lc r f=.ok a t):∃ b s,r=.ok (.bl b) s/\f b s=.ok a t:=by
 unfold lc at h
 obtain⟨d,s,e,h⟩:=aa0 h
 cases d with
 | bl b=>exact⟨b,s,e,h⟩
 | _=>exact fb h
theorem aH8 {m:kU->kR->kY kS}{σ:St}{H:Hp}{Q:Bool->Hp->Prop}(h:TTv Γ m σ H Q):tB (TEv Γ m) σ H Q:=by
 obtain⟨φ,ρ,s,b,s',E,R,y,q⟩:=h
 refine⟨φ,ρ,s,.bl b,s',E,R,y,λ v φ' H' g l C r z=>?_⟩
 exact⟨b,r.blE,q φ' H' g l z⟩
theorem aT9 {m:kU->kR->kY kS}{σ:St}{H:Hp}{Q:Bool->Hp->Prop}(h:TTv Γ m σ H Q):bx2 (TEv Γ m) σ H Q:=aH8 h
theorem bG2 {m:kU->kR->kY kS}{σ:St}{H:Hp}{Q:Bool->Hp->Prop}(h:TTv Γ (λ ρ s=>lc (m ρ s) λ b s=>.ok (.bl (!b)) s) σ H Q):bV7 (TTv Γ m) σ H Q:=by
 obtain⟨φ,ρ,s,b,s',E,R,y,q⟩:=h
 obtain⟨c,s1,e1,y⟩:=zB y
 cases y
 exact⟨φ,ρ,s,c,_,E,R,e1,q⟩
theorem bj8 {C z:kU->kR->kY kS}{σ:St}{H:Hp}{Q:Bool->Hp->Prop}(h:TTv Γ (λ ρ s=>lc (C ρ s) λ c s=>if c then lc (z ρ s) λ c s=>.ok (.bl c) s else .ok (.bl false) s) σ H Q):bW8 (TTv Γ C) (TTv Γ z) σ H Q:=by
 obtain⟨φ,ρ,s,b,s',E,R,y,q⟩:=h
 obtain⟨c,s1,e1,y⟩:=zB y
 refine⟨φ,ρ,s,c,s1,E,R,e1,λ φ1 F g1 l1 R1=>?_⟩
 cases c with
 | true =>
  rw[if_pos rfl]at y ⊢
  obtain⟨G,s2,e2,y⟩:=zB y
  cases y
  exact⟨φ1,ρ,s1,_,_,E.mono g1 l1,R1,e2,q.trans g1 l1⟩
 | false =>
  rw[if_neg aJ]at y ⊢
  cases y
  exact q φ1 F g1 l1 R1
theorem bE3 {C z:kU->kR->kY kS}{σ:St}{H:Hp}{Q:Bool->Hp->Prop}(h:TTv Γ (λ ρ s=>lc (C ρ s) λ c s=>if c then .ok (.bl true) s else lc (z ρ s) λ c s=>.ok (.bl c) s) σ H Q):tOr (TTv Γ C) (TTv Γ z) σ H Q:=by
 obtain⟨φ,ρ,s,b,s',E,R,y,q⟩:=h
 obtain⟨c,s1,e1,y⟩:=zB y
 refine⟨φ,ρ,s,c,s1,E,R,e1,λ φ1 F g1 l1 R1=>?_⟩
 cases c with
 | true =>
  rw[if_pos rfl]at y ⊢
  cases y
  exact q φ1 F g1 l1 R1
 | false =>
  rw[if_neg aJ]at y ⊢
  obtain⟨G,s2,e2,y⟩:=zB y
  cases y
  exact⟨φ1,ρ,s1,_,_,E.mono g1 l1,R1,e2,q.trans g1 l1⟩
theorem bA3 {m:kU->kR->kY kS}{σ:St}{H:Hp}{Q:VK}(h:TEv Γ (λ ρ s=>lc (m ρ s) λ b s=>.ok (.bl (!b)) s) σ H Q):bD6 (TEv Γ m) σ H Q:=by
 obtain⟨φ,ρ,s,d,s',E,R,y,q⟩:=h
 obtain⟨c,s1,e1,y⟩:=zB y
 cases y
 exact⟨φ,ρ,s,.bl c,_,E,R,e1,λ v φ1 z g l b r R1=>⟨c,r.blE,q _ φ1 z g l rfl RV.blI R1⟩⟩
theorem bl5 {C z:kU->kR->kY kS}{σ:St}{H:Hp}{Q:VK}(h:TEv Γ (λ ρ s=>lc (C ρ s) λ c s=>if c then lc (z ρ s) λ c s=>.ok (.bl c) s else .ok (.bl false) s) σ H Q):bJ5 (TEv Γ C) (TEv Γ z) σ H Q:=by
 obtain⟨φ,ρ,s,d,s',E,R,y,q⟩:=h
 obtain⟨c,s1,e1,y⟩:=zB y
 refine⟨φ,ρ,s,.bl c,s1,E,R,e1,λ v φ1 F g1 l1 G r1 R1=>⟨c,r1.blE,?_⟩⟩
 cases c with
 | true =>
  rw[if_pos rfl]at y ⊢
  obtain⟨c,s2,e2,y⟩:=zB y
  cases y
  exact⟨φ1,ρ,s1,.bl c,_,E.mono g1 l1,R1,e2,q.trans g1 l1⟩
 | false =>
  rw[if_neg aJ]at y ⊢
  cases y
  exact q _ φ1 F g1 l1 rfl RV.blI R1
theorem bF1 {C z:kU->kR->kY kS}{σ:St}{H:Hp}{Q:VK}(h:TEv Γ (λ ρ s=>lc (C ρ s) λ c s=>if c then .ok (.bl true) s else lc (z ρ s) λ c s=>.ok (.bl c) s) σ H Q):bW2 (TEv Γ C) (TEv Γ z) σ H Q:=by
 obtain⟨φ,ρ,s,d,s',E,R,y,q⟩:=h
 obtain⟨c,s1,e1,y⟩:=zB y
 refine⟨φ,ρ,s,.bl c,s1,E,R,e1,λ v φ1 F g1 l1 G r1 R1=>⟨c,r1.blE,?_⟩⟩
 cases c with
 | true =>
  rw[if_pos rfl]at y ⊢
  cases y
  exact q _ φ1 F g1 l1 rfl RV.blI R1
 | false =>
  rw[if_neg aJ]at y ⊢
  obtain⟨c,s2,e2,y⟩:=zB y
  cases y
  exact⟨φ1,ρ,s1,.bl c,_,E.mono g1 l1,R1,e2,q.trans g1 l1⟩
theorem bB8 {mc C z:kU->kR->kY kS}{σ:St}{H:Hp}{Q:VK}(h:TEv Γ (λ ρ s=>lc (mc ρ s) λ k s=>if k then C ρ s else z ρ s) σ H Q):tIf (TTv Γ mc) (TEv Γ C) (TEv Γ z) σ H Q:=by
 obtain⟨φ,ρ,s,d,s',E,R,y,q⟩:=h
 obtain⟨c,s1,e1,y⟩:=zB y
 refine⟨φ,ρ,s,c,s1,E,R,e1,λ φ1 F g1 l1 R1=>?_⟩
 cases c with
 | true =>
  rw[if_pos rfl]at y ⊢
  exact⟨φ1,ρ,s1,d,s',E.mono g1 l1,R1,y,q.trans g1 l1⟩
 | false =>
  rw[if_neg aJ]at y ⊢
  exact⟨φ1,ρ,s1,d,s',E.mono g1 l1,R1,y,q.trans g1 l1⟩
theorem aJ3 {ma mb mc:kU->kR->kY kS}{f g:kS->kS->kR->kY kS}{σ:St}{H:Hp}{Q:VK}(h:TEv Γ (λ ρ s=>(ma ρ s).bind λ x s=>(mb ρ s).bind λ y s=>lc (f x y s) λ k s=>if k then(mc ρ s).bind λ z s=>g y z s else .ok (.bl false) s) σ H Q) :
  aW5 (rOp Γ f) (rOp Γ g) (TEv Γ ma) (TEv Γ mb) (TEv Γ mc) σ H Q:=by
 obtain⟨φ,ρ,s,d,s',E,R,C,q⟩:=h
 obtain⟨x,s1,e1,C⟩:=aa0 C
 obtain⟨y,s2,e2,C⟩:=aa0 C
 obtain⟨c,s3,e3,C⟩:=zB C
 refine⟨φ,ρ,s,x,s1,E,R,e1,λ v1 φ1 H1 g1 l1 b1 r1 R1=>?_⟩
 refine⟨φ1,ρ,s1,y,s2,E.mono g1 l1,R1,e2,λ v2 φ2 H2 g2 F Y r2 R2=>?_⟩
 refine⟨φ2,s2,x,y,.bl c,s3,R2,RV.mono g2 x v1 b1 r1,r2,zm F x b1,Y,e3,λ v3 φ3 H3 Z J b3 r3 R3=>⟨c,r3.blE,?_⟩⟩
 have G:=(g1.trans g2 l1).trans Z (am l1 F)
 have L:=am (am l1 F) J
 cases c with
 | true =>
  rw[if_pos rfl]at C ⊢
  obtain⟨z,s4,e4,C⟩:=aa0 C
  refine⟨φ3,ρ,s3,z,s4,E.mono G L,R3,e4,λ v4 φ4 H4 g4 l4 b4 r4 R4=>?_⟩
  exact⟨φ4,s4,y,z,d,s',R4,RV.mono (Z.trans g4 J) y v2 Y r2,r4,zm (am J l4) y Y,b4,C,q.trans (G.trans g4 L) (am L l4)⟩
 | false =>
  rw[if_neg aJ]at C ⊢
  cases C
  exact q _ φ3 H3 G L rfl RV.blI R3
theorem aG4 {σ:St}{H:Hp}{Q:List V->Hp->Prop}(h:TAv Γ (λ ρ s=>.ok [] s) σ H Q):aX1 σ H Q:=by
 obtain⟨φ,ρ,s,d,s',E,R,y,q⟩:=h
 cases y
 exact q [] φ H (Gr.refl _ _ _) (ak _) rfl .nil R
theorem bt0 {m:kU->kR->kY kS}{G:kU->kR->kY (List kS)}{σ:St}{H:Hp}{Q:List V->Hp->Prop}(h:TAv Γ (λ ρ s=>(m ρ s).bind λ d s=>(G ρ s).bind λ l s=>.ok (d::l) s) σ H Q):an1 (TEv Γ m) (TAv Γ G) σ H Q:=by
 obtain⟨φ,ρ,s,l,s',E,R,z,q⟩:=h
 obtain⟨x,s1,e1,z⟩:=aa0 z
 obtain⟨y,s2,e2,z⟩:=aa0 z
 cases z
 refine⟨φ,ρ,s,x,s1,E,R,e1,λ F φ1 H1 g1 l1 Y r1 R1=>?_⟩
 refine⟨φ1,ρ,s1,y,_,E.mono g1 l1,R1,e2,λ Z φ2 H2 C J b2 r2 R2=>?_⟩
 refine q (F::Z) φ2 H2 (g1.trans C l1) (am l1 J) ?_ (.cons (RV.mono C x F Y r1) r2) R2
 unfold kT
 rw[zm J x Y,b2];rfl
theorem aB9 {z:kU->kR->kY (List kS)}{f:List kS->kR->kY kS}{σ:St}{H:Hp}{Q:VK}(h:TEv Γ (λ ρ s=>(z ρ s).bind λ l s=>f l s) σ H Q):tCB (rCl Γ f) (TAv Γ z) σ H Q:=by
 obtain⟨φ,ρ,s,d,s',E,R,y,q⟩:=h
 obtain⟨l,s1,e1,y⟩:=aa0 y
 exact⟨φ,ρ,s,l,s1,E,R,e1,λ vs φ1 F g1 l1 C r1 R1=>⟨φ1,s1,l,d,s',R1,r1,C,y,q.trans g1 l1⟩⟩
theorem bG8 {m:kU->kR->kY kS}{ml mh:kU->kR->kY kS}{σ:St}{H:Hp}{Q:VK} :
  (TEv Γ (λ ρ s=>(m ρ s).bind λ x s=>(ml ρ s).bind λ y s=>match y with|.int i=>mr x (some i) none s|_=>.bad) σ H Q->tSl (rSl Γ) (TEv Γ m) (aO2 (TEv Γ ml)) aD2 σ H Q) /\
  (TEv Γ (λ ρ s=>(m ρ s).bind λ x s=>(mh ρ s).bind λ y s=>match y with|.int i=>mr x none (some i) s|_=>.bad) σ H Q->tSl (rSl Γ) (TEv Γ m) aD2 (aO2 (TEv Γ mh)) σ H Q) /\
  (TEv Γ (λ ρ s=>(m ρ s).bind λ x s=>(ml ρ s).bind λ y s=>match y with|.int i=>(mh ρ s).bind (λ z s=>match z with|.int j=>mr x (some i) (some j) s|_=>.bad)|_=>.bad) σ H Q->tSl (rSl Γ) (TEv Γ m) (aO2 (TEv Γ ml)) (aO2 (TEv Γ mh)) σ H Q):=by
 refine⟨λ h=>?_,λ h=>?_,λ h=>?_⟩
 ·obtain⟨φ,ρ,s,d,s',E,R,C,q⟩:=h
  obtain⟨x,s1,e1,C⟩:=aa0 C
  obtain⟨y,s2,e2,C⟩:=aa0 C
  refine⟨φ,ρ,s,x,s1,E,R,e1,λ Y φ1 H1 g1 l1 J r1 R1=>?_⟩
  refine⟨φ1,ρ,s1,y,s2,E.mono g1 l1,R1,e2,λ v2 φ2 H2 G F b2 Z R2=>?_⟩
  cases y with
  | int i=>exact⟨i,Z.intE,φ2,s2,x,d,s',R2,RV.mono G x Y J r1,zm F x J,C,q.trans (g1.trans G l1) (am l1 F)⟩
  | _=>exact fb C
 ·obtain⟨φ,ρ,s,d,s',E,R,C,q⟩:=h
  obtain⟨x,s1,e1,C⟩:=aa0 C
  obtain⟨y,s2,e2,C⟩:=aa0 C
  refine⟨φ,ρ,s,x,s1,E,R,e1,λ Y φ1 H1 g1 l1 J r1 R1=>?_⟩
  refine⟨φ1,ρ,s1,y,s2,E.mono g1 l1,R1,e2,λ v2 φ2 H2 G F b2 Z R2=>?_⟩
  cases y with
  | int i=>exact⟨i,Z.intE,φ2,s2,x,d,s',R2,RV.mono G x Y J r1,zm F x J,C,q.trans (g1.trans G l1) (am l1 F)⟩
  | _=>exact fb C
 ·obtain⟨φ,ρ,s,d,s',E,R,C,q⟩:=h
  obtain⟨x,s1,e1,C⟩:=aa0 C
  obtain⟨y,s2,e2,C⟩:=aa0 C
  refine⟨φ,ρ,s,x,s1,E,R,e1,λ Y φ1 H1 g1 l1 J r1 R1=>?_⟩
  refine⟨φ1,ρ,s1,y,s2,E.mono g1 l1,R1,e2,λ v2 φ2 H2 G F b2 Z R2=>?_⟩
  cases y with
  | int i =>
   obtain⟨z,s3,e3,C⟩:=aa0 C
   refine⟨i,Z.intE,φ2,ρ,s2,z,s3,E.mono (g1.trans G l1) (am l1 F),R2,e3,λ v3 φ3 H3 g3 l3 b3 r3 R3=>?_⟩
   cases z with
   | int j=>exact⟨j,r3.intE,φ3,s3,x,d,s',R3,RV.mono (G.trans g3 F) x Y J r1,zm (am F l3) x J,C,q.trans ((g1.trans G l1).trans g3 (am l1 F)) (am (am l1 F) l3)⟩
   | _=>exact fb C
  | _=>exact fb C
variable {Γ:Gm} {X:Cx}
def an9 (Γ:Gm)(J:It)(φ0:Nat->Addr)(H0:Hp)(s0:kR)(q:lZ):Prop :=
 ∀ φ H s,Gr φ0 s0 H0 φ s H->s0.length<=s.length->Rp Γ φ H s->lI s0 s q.src=true->∀ i:Nat,
  (i<q.its.length->J.go i H/\∀ x H',J.yld i H x H'->ad8 H H'/\∀ d,q.its[i]?=some d->RV Γ φ H' d x)/\(q.its.length<=i->J.stop i H)
def TIv (Γ:Gm)(m:kU->kR->kY lZ):TI:=λ σ H R=>∃ φ ρ s q s',RE Γ φ H s.length ρ σ/\Rp Γ φ H s/\m ρ s=.ok q s' /\
 ∀ J φ' H',Gr φ s H φ' s' H'->s.length<=s'.length->kT s'.length q.its=true->Rp Γ φ' H' s'->an9 Γ J φ' H' s' q->R J H'
theorem PI.imp {tg e:Expr}{t t':TI}(h:PI X tg e t)(i:∀ σ H R,t' σ H R->t σ H R):PI X tg e t':=λ y s σ H R I q=>h y s σ H R I (i σ H R q)
theorem PI.or {tg e:Expr}{t t':TI}(h:PI X tg e t)(h':PI X tg e t'):PI X tg e (λ σ H R=>t σ H R\/t' σ H R):=λ y s σ H R I q=>q.elim (h y s σ H R I) (h' y s σ H R I)
theorem bf9 {φ0:Nat->Addr}{H0:Hp}{s0:kR}{a:Addr}{z:List V}{l:List kS}(h:SqT Γ.K H0 a z)(hl:RVL Γ φ0 H0 l z)(hb:kT s0.length l=true):an9 Γ (Itt Γ.K a) φ0 H0 s0 ⟨l,[]⟩:=by
 intro φ H s g _ R _ i
 have h':=g.w.kp.sqT h
 have C:=RVL.mono g l z hb hl
 refine⟨λ hlt=>⟨⟨z,z[i]'(by rw[C.length];exact hlt),h',ag _⟩,λ x H' y=>?_⟩,λ F=>⟨z,h',by rw[C.length];exact F⟩⟩
 obtain⟨e,y⟩:=y
 subst e
 refine⟨ad8.refl _,λ d hd=>?_⟩
 obtain⟨v,e1,e2⟩:=C.get hd
 rw[y z h']at e1;cases e1
 exact e2
theorem bt8 {φ0:Nat->Addr}{H0:Hp}{s0:kR}{a:Addr}{z:List V}{l:List kS}(h:SqF Γ.K H0 a z)(hl:RVL Γ φ0 H0 l z)(hb:kT s0.length l=true):an9 Γ (Itl Γ.K a) φ0 H0 s0 ⟨l,[]⟩:=by
 intro φ H s g _ R _ i
 have h':=h.2 _ g.w.kp
 have C:=RVL.mono g l z hb hl
 refine⟨λ hlt=>⟨⟨z,z[i]'(by rw[C.length];exact hlt),h',ag _⟩,λ x H' y=>?_⟩,λ F=>⟨z,h',by rw[C.length];exact F⟩⟩
 obtain⟨e,y⟩:=y
 subst e
 refine⟨ad8.refl _,λ d hd=>?_⟩
 obtain⟨v,e1,e2⟩:=C.get hd
 rw[y z h']at e1;cases e1
 exact e2
theorem bc4 {φ0:Nat->Addr}{H0:Hp}{s0:kR}{r:Nat}{l:List kS}(hr:s0[r]?=some (.lst l)):an9 Γ (Itl Γ.K (φ0 r)) φ0 H0 s0 ⟨l,[r]⟩:=by
 intro φ H s g _ R G i
 have z:r<s0.length:=(ac.mp hr).1
 have hs:s[r]?=some (.lst l):=by
  unfold lI at G
  simp only[eR,List.all_nil,gi,decide_eq_true_eq]at G
  rw[G];exact hr
 obtain⟨C,e,h⟩:=R.addr hs
 rw[g.w.map r z]at e
 have h':SqL Γ.K H (φ0 r) C:=SqL.of e
 refine⟨λ hlt=>⟨⟨C,C[i]'(by rw[h.length];exact hlt),h',ag _⟩,λ x H' y=>?_⟩,λ F=>⟨C,h',by rw[h.length];exact F⟩⟩
 obtain⟨e,y⟩:=y
 subst e
 refine⟨ad8.refl _,λ d hd=>?_⟩
 obtain⟨v,e1,e2⟩:=h.get hd
 rw[y C h']at e1;cases e1
 exact e2
theorem aY9 {φ0:Nat->Addr}{H0:Hp}{s0:kR}{l:List Nat}:an9 Γ (Its ⟨l.toArray⟩) φ0 H0 s0 ⟨l.map λ c=>.str [c],[]⟩:=by
 intro φ H s g _ R _ i
 have hsz:(⟨l.toArray⟩:Str).cps.size=l.length:=by simp
 refine⟨λ hlt=>?_,λ h=>?_⟩
 ·simp only[au]at hlt
  refine⟨show i<(⟨l.toArray⟩:Str).cps.size by rw[hsz];exact hlt,λ x H' y=>?_⟩
  obtain⟨e,c,hc,rfl⟩:=y
  subst e
  refine⟨ad8.refl _,λ d hd=>?_⟩
  have z:l[i]?=some c:=by simpa using hc
  rw[aC,z]at hd
  cases hd
  exact RV.strI (by simp;decide)
 ·simp only[au]at h
  show(⟨l.toArray⟩:Str).cps.size<=i
  rw[hsz];exact h
theorem bd6 {φ0:Nat->Addr}{H0:Hp}{s0:kR}{a b:Int}:an9 Γ (Itr a (b - a).toNat) φ0 H0 s0 ⟨lU a b,[]⟩:=by
 intro φ H s g _ R _ i
 have hn:(lU a b).length=(b - a).toNat:=by simp[lU]
 refine⟨λ hlt=>⟨show i<(b - a).toNat by rw[<-hn];exact hlt,λ x H' y=>?_⟩,λ h=>show(b - a).toNat<=i by rw[<-hn];exact h⟩
 obtain⟨e,rfl⟩:=y
 subst e
 refine⟨ad8.refl _,λ d hd=>?_⟩
 simp only[lU]at hd hlt
 rw[aC,fm (by simpa using hlt)]at hd
 cases hd
 exact RV.intI
theorem bn1 {m:kU->kR->kY kS}{σ:St}{H:Hp}{R:It->Hp->Prop}(h:TIv Γ (λ ρ s=>(m ρ s).bind λ x s=>match x with|.int i=>if -mQ<=i/\i<mQ then .ok ⟨lU 0 i,[]⟩ s else .bad|_=>.bad) σ H R) :
  bH1 (an1 (TEv Γ m) aX1) σ H R:=by
 obtain⟨φ,ρ,s,q,s',E,P,y,k⟩:=h
 obtain⟨x,s1,e1,y⟩:=aa0 y
 refine⟨φ,ρ,s,x,s1,E,P,e1,λ v φ1 C g l b r F=>?_⟩
 cases x with
 | int i =>
  simp only at y
  split at y
  ·rename_i z
   cases y
   have hw:mQ=2^62:=by decide
   rw[hw]at z
   refine⟨i,by rw[r.intE],z.1,z.2,k _ φ1 C g l ?_ F ?_⟩
   ·refine aa2.mpr λ d hd=>?_
    simp only[lU,aN]at hd
    obtain⟨_,_,rfl⟩:=hd
    rfl
   ·have:=bd6 (Γ:=Γ) (φ0:=φ1) (H0:=C) (s0:=s') (a:=0) (b:=i)
    rwa [jy]at this
  ·exact fb y
 | _=>exact fb y
theorem bD0 {m:kU->kR->kY kS}{σ:St}{H:Hp}{R:It->Hp->Prop}(h:TIv Γ (λ ρ s=>(m ρ s).bind λ d s=>DV.ah4 d s) σ H R) :
  bP6 Γ.K (TEv Γ m) σ H R\/bq2 Γ.K (TEv Γ m) σ H R\/bV9 (TEv Γ m) σ H R:=by
 obtain⟨φ,ρ,s,q,s',E,P,y,k⟩:=h
 obtain⟨x,s1,e1,y⟩:=aa0 y
 unfold DV.ah4 at y
 cases x with
 | tup l =>
  cases y
  refine .inl ⟨φ,ρ,s,_,_,E,P,e1,λ v φ1 C g l b r z=>?_⟩
  obtain⟨a,G,rfl,Y,d1⟩:=r.tupE
  unfold kX at b
  exact⟨a,rfl,⟨G,Y⟩,k _ φ1 C g l b z (bf9 Y d1 b)⟩
 | str l =>
  cases y
  refine .inr (.inr ⟨φ,ρ,s,_,_,E,P,e1,λ v φ1 C g F b r z=>?_⟩)
  refine⟨_,r.strE,k _ φ1 C g F ?_ z aY9⟩
  refine aa2.mpr λ d hd=>?_
  simp only[aN]at hd
  obtain⟨_,_,rfl⟩:=hd
  rfl
 | ref r =>
  simp only at y
  cases hs:s1[r]? with
  | none=>rw[hs]at y;cases y
  | some o =>
   rw[hs]at y
   cases o with
   | lst l =>
    cases y
    refine .inr (.inl ⟨φ,ρ,s,_,_,E,P,e1,λ v φ1 C g F b J z=>?_⟩)
    have e:=J.refE;subst e
    obtain⟨G,e2,d1⟩:=z.addr hs
    have wf:=z.wf _ _ hs
    unfold kZ at wf
    exact⟨φ1 r,rfl,⟨G,SqL.of e2⟩,k _ φ1 C g F wf z (bc4 hs)⟩
   | ro l =>
    cases y
    refine .inr (.inl ⟨φ,ρ,s,_,_,E,P,e1,λ v φ1 C g F b J z=>?_⟩)
    have e:=J.refE;subst e
    obtain⟨G,e2,d1⟩:=z.obj _ _ hs
    have wf:=z.wf _ _ hs
    unfold kZ at wf
    exact⟨φ1 r,rfl,⟨G,e2.1⟩,k _ φ1 C g F wf z (bt8 e2 d1 wf)⟩
   | dic l=>exact fb y
   | dit l=>exact fb y
   | ins c l=>exact fb y
 | _=>exact fb y
variable {Γ:Gm} {X:Cx}
noncomputable def bN2:List Nat->TGs
 | []=>bQ8
 | i::is=>bb7 (am8 i) (bN2 is)
noncomputable def gOf (K:ae):lD->TG
 | .one i=>am8 i
 | .tup is=>bM9 K is.length (bN2 is)
theorem bj6 {φ:Nat->Addr}{H:Hp}{n:Nat}{ρ ρ':kU}{σ:St}{i:Nat}{d:kS}{v:V}(E:RE Γ φ H n ρ σ)(r:RV Γ φ H d v)(b:d.bnd n=true)(h:lV ρ i d=some ρ'):RE Γ φ H n ρ' (σ.set i (some v)):=by
 unfold lV at h
 split at h
 ·rename_i y
  cases h
  refine⟨by rw[a0,a0];exact E.len,λ j e hj=>?_⟩
  by_cases hij:j=i
  ·subst hij
   rw[aV y]at hj
   cases hj
   exact⟨b,v,by rw[aV (by rw[<-E.len];exact y)],r⟩
  ·rw[aR (bL hij)]at hj
   obtain⟨z,w,C,h3⟩:=E.val j e hj
   exact⟨z,w,by rw[aR (bL hij)];exact C,h3⟩
 ·cases h
theorem bB4 {φ:Nat->Addr}{H:Hp}{n:Nat}{Q:St->Hp->Prop}:∀(is:List Nat) (l:List kS) (y:List V) (ρ ρ':kU) (σ:St),RE Γ φ H n ρ σ->RVL Γ φ H l y->kT n l=true->mw ρ is l=some ρ'->(∀ σ',RE Γ φ H n ρ' σ'->Q σ' H)->bN2 is y σ H Q
 | [],[],y,ρ,ρ',σ,E,r,_,h,k=>by
  cases h
  exact⟨r.unnil,k σ E⟩
 | [],d::l,_,_,_,_,_,_,_,h,_=>by cases h
 | i::is,[],_,_,_,_,_,_,_,h,_=>by cases h
 | i::is,d::l,y,ρ,ρ',σ,E,r,b,h,k=>by
  have h:(lV ρ i d).bind (λ ρ=>mw ρ is l)=some ρ':=h
  obtain⟨x,z,rfl,C,F⟩:=r.uncons
  unfold kT at b
  rw[aj]at b
  cases e:lV ρ i d with
  | none=>rw[e]at h;cases h
  | some ρ1 =>
   rw[e]at h
   exact⟨x,z,rfl,bB4 is l z ρ1 ρ' _ (bj6 E C b.1 e) F b.2 h k⟩
theorem aO1 {l:List kS}:∀ {is:List Nat} {ρ ρ':kU},mw ρ is l=some ρ'->is.length=l.length:=by
 induction l with
 | nil=>intro is ρ ρ' h;cases is with
  | nil=>rfl
  | cons i is=>cases h
 | cons d l ih=>intro is ρ ρ' h;cases is with
  | nil=>cases h
  | cons i is =>
   have h:(lV ρ i d).bind (λ ρ=>mw ρ is l)=some ρ':=h
   cases e:lV ρ i d with
   | none=>rw[e]at h;cases h
   | some ρ1=>rw[e]at h;rw[aW,aW,ih h]
theorem bo5 {φ:Nat->Addr}{H:Hp}{n:Nat}{Q:St->Hp->Prop}{tg:lD}{d:kS}{v:V}{ρ ρ':kU}{σ:St}(E:RE Γ φ H n ρ σ)(r:RV Γ φ H d v)(b:d.bnd n=true)(h:lr ρ tg d=some ρ')(k:∀ σ',RE Γ φ H n ρ' σ'->Q σ' H):gOf Γ.K tg v σ H Q:=by
 cases tg with
 | one i=>exact k _ (bj6 E r b h)
 | tup is =>
  cases d with
  | tup l =>
   have h:mw ρ is l=some ρ':=h
   obtain⟨a,y,rfl,z,d1⟩:=r.tupE
   unfold kX at b
   exact⟨a,y,rfl,z,by rw[d1.length,aO1 h],bB4 is l y ρ ρ' σ E d1 b h k⟩
  | _=>cases h
def Off (φ:Nat->Addr)(s:kR)(b:Addr):Prop:=∀(i:Nat) (ob:lv),s[i]?=some ob->isMut ob=true->φ i≠b
theorem Off.mono {φ φ':Nat->Addr}{s s':kR}{H H':Hp}{b:Addr}{o:HO}(h:Off φ s b)(g:Gr φ s H φ' s' H')(hb:H b=some o):Off φ' s' b:=λ i ob e m z=>by
 by_cases C:i<s.length
 ·obtain⟨y,F⟩:∃ y,s[i]?=some y:=⟨s[i],ag C⟩
  exact h i y F (g.mu i y ob F e m) (by rw[<-g.w.map i C];exact z)
 ·have:=g.new i (by omega) (ac.mp e).1
  rw[z,hb]at this;cases this
theorem Off.new {φ:Nat->Addr}{s:kR}{H:Hp}{b:Addr}(r:Rp Γ φ H s)(h:H b=none):Off φ s b:=λ i ob e m z=>by
 obtain⟨u,y,_⟩:=(r.obj i ob e).there m
 rw[z,h]at y;cases y
theorem Rp.foreign {φ:Nat->Addr}{s:kR}{H:Hp}{b:Addr}{ys h:List V}(r:Rp Γ φ H s)(hb:H b=some (.lst ys))(ho:Off φ s b):Rp Γ φ (upd H b (.lst h)) s:=by
 have g:Gw φ s.length H φ (upd H b (.lst h)):=⟨λ _ _=>rfl,(Kp.refl H).put hb rfl⟩
 exact⟨r.inj,λ i o e=>(r.obj i o e).mono g (r.wf i o e) λ m u y=>by rw[za (ho i o e m)];exact y,r.wf,r.tab.put hb⟩
theorem Gr.foreign {φ φ':Nat->Addr}{s s':kR}{H H':Hp}{b:Addr}{ys y:List V}(g:Gr φ s H φ' s' H')(h0:H b=none)(hb:H' b=some (.lst ys)):Gr φ s H φ' s' (upd H' b (.lst y)):=by
 have ne:∀ c o,H c=some o->c≠b:=λ c o e=>zn e h0
 refine⟨⟨g.w.map,λ c o e f=>?_⟩,g.le,g.new,g.kd,λ c hc=>?_,λ c o e z h=>?_⟩
 ·rw[za (ne c o e)];exact g.w.kp c o e f
 ·unfold upd;split
  ·simp
  ·exact g.st c hc
 ·rw[za (ne c o e)];exact g.fr c o e z h
def bF6 (Γ:Gm)(φ:Nat->Addr)(s:kR)(H:Hp)(l:List kS)(s':kR)(Q:VK):Prop :=
 ∀ p ys φ' H',Gr φ s H φ' s' H'->s.length<=s'.length->kT s'.length l=true->H' p=some (.lst ys)->H p=none->Off φ' s' p->RVL Γ φ' H' l ys->Rp Γ φ' H' s'->Q (.ref p) H'
def TFv (Γ:Gm)(m:kU->kR->kY (List kS)):TE:=λ σ H Q=>∃ φ ρ s l s',RE Γ φ H s.length ρ σ/\Rp Γ φ H s/\m ρ s=.ok l s'/\bF6 Γ φ s H l s' Q
theorem aS1 {m:kU->kR->kY (List kS)}{σ:St}{H:Hp}{Q:VK}(h:TEv Γ (λ ρ s=>(m ρ s).bind λ l s=>lG (.lst l) s) σ H Q):TFv Γ m σ H Q:=by
 obtain⟨φ,ρ,s,d,s',E,R,Z,q⟩:=h
 obtain⟨l,s1,e1,Z⟩:=aa0 Z
 obtain⟨rfl,rfl⟩:=zO Z
 refine⟨φ,ρ,s,l,s1,E,R,e1,λ p ys φ' H' g hl hb hp h0 ho r C=>?_⟩
 have gw:Gw φ' s1.length H' (λ i=>if i=s1.length then p else φ' i) H':=⟨λ i y=>if_neg (av y),Kp.refl _⟩
 have key:∀(i:Nat) (z:lv),(s1++[DV.O.lst l])[i]?=some z->(i<s1.length/\s1[i]?=some z)\/(i=s1.length/\z=.lst l):=λ i z e=>by
  rcases fY i s1.length with h|h|h
  ·rw[aK h]at e;exact .inl ⟨h,e⟩
  ·subst h;simp at e;exact .inr ⟨rfl,e.symm⟩
  ·rw[cH (by simp;omega)]at e;cases e
 have G:Gr φ s H (λ i=>if i=s1.length then p else φ' i) (s1++[.lst l]) H':=by
  refine⟨⟨λ i y=>by show(if i=s1.length then p else φ' i)=_;rw[if_neg (by omega)];exact g.w.map i y,g.w.kp⟩,by simp;omega,λ i h1 h2=>?_,λ i o z e e'=>?_,g.st,g.fr⟩
  ·by_cases y:i=s1.length
   ·show H (if i=s1.length then p else φ' i)=none
    rw[if_pos y];exact h0
   ·show H (if i=s1.length then p else φ' i)=none
    rw[if_neg y];exact g.new i h1 (by simp at h2;omega)
  ·rcases key i z e' with⟨_,e2⟩|⟨y,_⟩
   ·exact g.kd i o z e e2
   ·have:=(ac.mp e).1;omega
 have P:Rp Γ (λ i=>if i=s1.length then p else φ' i) H' (s1++[.lst l]):=by
  refine⟨λ i j J Y F ej mi mj e=>?_,λ i o e=>?_,λ i o e=>?_,C.tab⟩
  ·rcases key i J F with⟨y,F⟩|⟨y,_⟩<;>rcases key j Y ej with⟨hj,ej⟩|⟨hj,_⟩
   ·rw[if_neg (av y),if_neg (av hj)]at e
    exact C.inj i j J Y F ej mi mj e
   ·rw[if_neg (av y),if_pos hj]at e
    exact absurd e (ho i J F mi)
   ·rw[if_neg (av hj),if_pos y]at e
    exact absurd e.symm (ho j Y ej mj)
   ·rw[y,hj]
  ·rcases key i o e with⟨y,e⟩|⟨y,rfl⟩
   ·show RO Γ _ _ (if i=s1.length then p else φ' i) o
    rw[if_neg (av y)]
    exact(C.obj i o e).mono gw (C.wf i o e) λ _ u hu=>hu
   ·show RO Γ _ _ (if i=s1.length then p else φ' i) _
    rw[if_pos y]
    exact⟨ys,hp,RVL.monoW gw l ys hb r⟩
  ·rw[aB,dv]
   rcases key i o e with⟨_,e⟩|⟨_,rfl⟩
   ·exact zU (dD _) _ (C.wf i o e)
   ·exact zU (dD _) _ (by unfold kZ;exact hb)
 exact q (.ref p) _ H' G (by simp;omega) (by unfold kX;simp) (by unfold RV;simp) P
theorem bF0 {φ:Nat->Addr}{H:Hp}{n:Nat}{ρ:kU}{σ:St}(E:RE Γ φ H n ρ σ)(h:List (Option Nat)):RE Γ φ H n (l6 ρ h) (ax3 h σ):=by
 refine⟨by unfold l6 ax3;simp,λ i d e=>?_⟩
 unfold l6 at e
 rw[aC]at e
 cases q:h[i]? with
 | none=>rw[q]at e;cases e
 | some o =>
  rw[q]at e
  cases o with
  | none=>cases e
  | some j =>
   have e':(ρ[j]?).join=some d:=aw e
   have ej:ρ[j]?=some (some d):=by
    cases q2:ρ[j]? with
    | none=>rw[q2]at e';cases e'
    | some o2=>rw[q2]at e';exact congrArg some e'
   obtain⟨b,v,y,z⟩:=E.val j d ej
   refine⟨b,v,?_,z⟩
   unfold ax3
   rw[aC,q]
   show some ((σ[j]?).join)=_
   rw[y];rfl
theorem aW0 {mI:kU->kR->kY lZ}{mc me:kU->kR->kY kS}{tg:lD}{F:List (Option Nat)}{σ:St}{H:Hp}{Q:VK}
  (h:TFv Γ (λ ρ s=>(mI ρ s).bind λ q s0=>if q.its.length<=k6 then lW (λ s=>lI s0 s q.src) (λ d ρ s=>match lr ρ tg d with
   | some ρ=>lc (mc ρ s) λ k s=>if k then(me ρ s).bind λ v s=>.ok (some v,ρ) s else .ok (none,ρ) s
   | none=>.bad) q.its (l6 ρ F) s0 else .bad) σ H Q):tComp F (TIv Γ mI) (gOf Γ.K tg) (TTv Γ mc) (TEv Γ me) σ H Q:=by
 obtain⟨φ,ρ,s,l,s',E,R,hm,k⟩:=h
 obtain⟨q,s0,e1,hm⟩:=aa0 hm
 split at hm
 case isFalse=>exact fb hm
 rename_i b0
 refine⟨φ,ρ,s,q,s0,E,R,e1,λ J φ1 H1 g1 l1 b1 R1 wk D hD=>?_⟩
 have h0:H D=none:=by
  cases e:H D with
  | none=>rfl
  | some o=>exact absurd hD (g1.st D (by rw[e];simp))
 refine⟨λ i m σ' H'=>∃ φ' ρ' t y ys rest,Gr φ1 s0 H1 φ' t H'/\Rp Γ φ' H' t/\RE Γ φ' H' t.length ρ' σ'/\H' D=some (.lst ys)/\Off φ' t D/\RVL Γ φ' H' y ys/\kT t.length y=true/\y.length<=i/\i<=q.its.length/\m=q.its.length - i /\
  lW (λ s=>lI s0 s q.src) (λ d ρ s=>match lr ρ tg d with
   | some ρ=>lc (mc ρ s) λ k s=>if k then(me ρ s).bind λ v s=>.ok (some v,ρ) s else .ok (none,ρ) s
   | none=>.bad) (q.its.drop i) ρ' t=.ok rest s'/\l=y++rest,⟨q.its.length,?_⟩,?_⟩
 ·obtain⟨g2,R2⟩:=R1.same (H':=upd H1 D (.lst [])) ((ad8.refl H1).new hD)
  exact⟨φ1,l6 ρ F,s0,[],[],l,g2,R2,bF0 ((E.mono g1 l1).mono g2 (ak _)) F,zb,Off.new R1 hD,.nil,rfl,ak _,cO _,by simp,by rw[eC];exact hm,rfl⟩
 ·rintro i m σ' H' ⟨φ',ρ',t,y,ys,rest,g,R',E',hy,a3,ra,ba,b2,hil,rfl,hc,hl⟩
  have C:=g.le
  rcases jx i q.its.length with hlt|hge
  ·have hd:q.its[i]?=some q.its[i]:=ag hlt
   rw[dJ hlt]at hc
   unfold lW at hc
   split at hc
   case isFalse=>exact fb hc
   rename_i a1
   obtain⟨a8,a6⟩:=(wk φ' H' t g C R' a1 i).1 hlt
   refine .inr ⟨a8,_,λ σ2 H2 n=>⟨q.its.length - (i+1),by omega,n⟩,λ x H2 a7=>?_⟩
   obtain⟨sm,rv⟩:=a6 x H2 a7
   obtain⟨g2,R2⟩:=R'.same sm
   have rd:=rv _ hd
   have bd:(q.its[i]).bnd t.length=true:=zm C _ (aj3 b1 hd)
   obtain⟨p,t3,hs,hc⟩:=aa0 hc
   obtain⟨r2,t4,a4,hc⟩:=aa0 hc
   cases hb:lr ρ' tg q.its[i]with
   | none=>rw[hb]at hs;cases hs
   | some ρ3 =>
    rw[hb]at hs
    refine bo5 (E'.mono g2 (ak _)) rd bd hb λ σ3 E3=>?_
    obtain⟨c,t1,ec,hs⟩:=zB hs
    refine⟨φ',ρ3,t,c,t1,E3,R2,ec,λ φ2 H4 g4 l4 R4=>?_⟩
    have a5:H2 D=some (.lst ys):=sm _ _ hy
    have a2:H4 D=some (.lst ys):=g4.fr D _ a5 (by nofun) a3
    have G:Off φ2 t1 D:=a3.mono g4 a5
    have G4:=(g.trans g2 C).trans g4 C
    cases c with
    | true =>
     rw[if_pos rfl]at hs
     refine bY1 ?_
     obtain⟨v,t2,ev,hs⟩:=aa0 hs
     cases hs
     refine⟨φ2,ρ3,t1,v,t3,E3.mono g4 l4,R4,ev,λ w φ3 H5 g5 l5 b5 r5 R5=>?_⟩
     have Y:H5 D=some (.lst ys):=g5.fr D _ a2 (by nofun) G
     have Z:Off φ3 t3 D:=G.mono g5 a2
     refine⟨ys,Y,?_,?_⟩
     ·rw[ra.length]
      have:=zY
      omega
     ·have gw:Gw φ3 t3.length H5 φ3 (upd H5 D (.lst (ys++[w]))):=⟨λ _ _=>rfl,(Kp.refl H5).put Y rfl⟩
      have G5:=G4.trans g5 (am C l4)
      have GG:=g2.trans (g4.trans g5 l4) (ak _)
      have a9:RVL Γ φ3 H5 y ys:=RVL.mono GG _ _ ba ra
      have bb:kT t3.length (y++[v])=true:=zu (aa3 GG.le _ ba) (by unfold kT;rw[b5];rfl)
      refine⟨φ3,ρ3,t3,y++[v],ys++[w],r2,G5.foreign hD Y,R5.foreign Y Z,?_,zb,Z,RVL.monoW gw _ _ bb (a9.append (.cons r5 .nil)),bb,by simp;omega,hlt,rfl,?_,?_⟩
      ·have E5:=(E3.mono g4 l4).mono g5 l5
       exact⟨E5.len,λ j e hj=>by
        obtain⟨h1,z,h2,h3⟩:=E5.val j e hj
        exact⟨h1,z,h2,RV.monoW gw _ _ h1 h3⟩⟩
      ·cases hc;exact a4
      ·cases hc;rw[hl];simp
    | false =>
     rw[if_neg aJ]at hs
     refine bY3 ?_
     cases hs
     have GG:=g2.trans g4 (ak _)
     exact⟨φ2,ρ3,t3,y,ys,r2,G4,R4,E3.mono g4 l4,a2,G,RVL.mono GG _ _ ba ra,aa3 l4 _ ba,by omega,hlt,rfl,by cases hc;exact a4,by cases hc;exact hl⟩
  ·have hi:i=q.its.length:=by omega
   rw[gW hge]at hc
   unfold lW at hc
   split at hc
   case isFalse=>exact fb hc
   rename_i a1
   cases hc
   refine .inl ⟨(wk φ' H' s' g C R' a1 i).2 hge,?_⟩
   rw[bq]at hl
   subst hl
   exact k D ys φ' H' (g1.trans g l1) (am l1 C) ba hy h0 a3 ra R'
variable {Γ:Gm} {X:Cx}
noncomputable def bW5 (Γ:Gm)(φ:Nat->Addr)(H:Hp)(n:Nat)(D:Ends):lE->Prop
 | .next ρ=>∀ σ,RE Γ φ H n ρ σ->D.nx σ H
 | .ret d=>∀ v,d.bnd n=true->RV Γ φ H d v->D.rt v H
 | .cont ρ=>∀ σ,RE Γ φ H n ρ σ->D.ct σ H
 | .brk ρ=>∀ σ,RE Γ φ H n ρ σ->D.bk σ H
def al1 (Γ:Gm)(φ:Nat->Addr)(s:kR)(H:Hp)(c:lE)(s':kR)(D:Ends):Prop :=
 ∀ φ' H',Gr φ s H φ' s' H'->s.length<=s'.length->Rp Γ φ' H' s'->bW5 Γ φ' H' s'.length D c
def TSv (Γ:Gm)(m:kU->kR->kY lE):TS:=λ D σ H=>∃ φ ρ s c s',RE Γ φ H s.length ρ σ/\Rp Γ φ H s/\m ρ s=.ok c s'/\al1 Γ φ s H c s' D
theorem PS.imp {e:Stmt}{t t':TS}(h:PS X e t)(i:∀ D σ H,t' D σ H->t D σ H):PS X e t':=λ y s σ H Q I q=>h y s σ H Q I (i Q σ H q)
theorem PSs.imp {e:List Stmt}{t t':TS}(h:PSs X e t)(i:∀ D σ H,t' D σ H->t D σ H):PSs X e t':=λ y s σ H Q I q=>h y s σ H Q I (i Q σ H q)
theorem al1.trans {φ φ1:Nat->Addr}{s s1 s':kR}{H y:Hp}{c:lE}{D:Ends}(h:al1 Γ φ s H c s' D)(g:Gr φ s H φ1 s1 y)(l:s.length<=s1.length):al1 Γ φ1 s1 y c s' D :=
 λ φ' H' g' z p=>h φ' H' (g.trans g' l) (am l z) p
theorem al1.here {φ:Nat->Addr}{s:kR}{H:Hp}{c:lE}{D:Ends}(h:al1 Γ φ s H c s D)(p:Rp Γ φ H s):bW5 Γ φ H s.length D c:=h φ H (Gr.refl φ s H) (ak _) p
variable {D:Ends} {σ:St} {H:Hp}
theorem bt9 {m:kU->kR->kY lE}(y:∀ ρ s,m ρ s=.ok (.next ρ) s)(h:TSv Γ m D σ H):bI0 D σ H:=by
 obtain⟨φ,ρ,s,c,s',E,R,e,q⟩:=h
 rw[y]at e;cases e
 exact q.here R σ E
theorem by5 {m:kU->kR->kY kS}(h:TSv Γ (λ ρ s=>(m ρ s).bind λ d s=>.ok (.ret d) s) D σ H):bV0 (TEv Γ m) D σ H:=by
 obtain⟨φ,ρ,s,c,s',E,R,e,q⟩:=h
 obtain⟨x,s1,e1,e⟩:=aa0 e
 cases e
 exact⟨φ,ρ,s,x,_,E,R,e1,λ v φ1 y g1 l1 z r1 R1=>q φ1 y g1 l1 R1 v z r1⟩
theorem bq6 {m:kU->kR->kY kS}(h:TSv Γ (λ ρ s=>(m ρ s).bind λ _ s=>.ok (.next ρ) s) D σ H):bB2 (TEv Γ m) D σ H:=by
 obtain⟨φ,ρ,s,c,s',E,R,e,q⟩:=h
 obtain⟨x,s1,e1,e⟩:=aa0 e
 cases e
 exact⟨φ,ρ,s,x,_,E,R,e1,λ v φ1 y g1 l1 z r1 R1=>q φ1 y g1 l1 R1 σ (E.mono g1 l1)⟩
theorem aO3 {m:kU->kR->kY kS}{tg:lD}(h:TSv Γ (λ ρ s=>(m ρ s).bind λ d s=>match lr ρ tg d with|some ρ=>.ok (.next ρ) s|none=>.bad) D σ H):aZ6 (TEv Γ m) (gOf Γ.K tg) D σ H:=by
 obtain⟨φ,ρ,s,c,s',E,R,e,q⟩:=h
 obtain⟨x,s1,e1,e⟩:=aa0 e
 refine⟨φ,ρ,s,x,s1,E,R,e1,λ v φ1 y g1 l1 z r1 R1=>?_⟩
 cases hb:lr ρ tg x with
 | none=>rw[hb]at e;cases e
 | some ρ1 =>
  rw[hb]at e
  cases e
  exact bo5 (E.mono g1 l1) r1 z hb λ σ' C=>q φ1 y g1 l1 R1 σ' C
theorem be1 {m:kU->kR->kY (List kS)}(h:TSv Γ (λ ρ s=>((m ρ s).bind λ l s=>lG (.lst l) s).bind λ d s=>match lr ρ tg d with|some ρ=>.ok (.next ρ) s|none=>.bad) D σ H):aZ6 (TFv Γ m) (gOf Γ.K tg) D σ H :=
 aS1 (aO3 h)
def bB5 (Γ:Gm):bN5:=λ o i v H Q=>∃ φ s x y d s',Rp Γ φ H s/\RV Γ φ H x o/\RV Γ φ H y i/\RV Γ φ H d v/\x.bnd s.length=true/\y.bnd s.length=true/\d.bnd s.length=true/\DV.setIx x y d s=.ok () s' /\
 ∀ φ' H',Gr φ s H φ' s' H'->s.length<=s'.length->Rp Γ φ' H' s'->Q H'
theorem aX8 {Y mo mi:kU->kR->kY kS}(h:TSv Γ (λ ρ s=>(Y ρ s).bind λ d s=>(mo ρ s).bind λ x s=>(mi ρ s).bind λ y s=>(DV.setIx x y d s).bind λ _ s=>.ok (.next ρ) s) D σ H) :
  aZ6 (TEv Γ Y) (bU5 (TEv Γ mo) (TEv Γ mi) (bB5 Γ)) D σ H:=by
 obtain⟨φ,ρ,s,c,s',E,R,e,q⟩:=h
 obtain⟨d,s1,e1,e⟩:=aa0 e
 obtain⟨x,s2,e2,e⟩:=aa0 e
 obtain⟨y,s3,e3,e⟩:=aa0 e
 obtain⟨u,s4,e4,e⟩:=aa0 e
 cases e
 refine⟨φ,ρ,s,d,s1,E,R,e1,λ v1 φ1 H1 g1 l1 b1 r1 R1=>?_⟩
 refine⟨φ1,ρ,s1,x,s2,E.mono g1 l1,R1,e2,λ v2 φ2 H2 J C b2 r2 R2=>?_⟩
 have G:=g1.trans J l1
 have L2:=am l1 C
 refine⟨φ2,ρ,s2,y,s3,E.mono G L2,R2,e3,λ v3 φ3 H3 z F b3 r3 R3=>?_⟩
 refine⟨φ3,s3,x,y,d,_,R3,RV.mono z x v2 b2 r2,r3,RV.mono (J.trans z C) d v1 b1 r1,zm F x b2,b3,zm (am C F) d b1,e4,λ φ4 H4 g4 Z R4=>?_⟩
 have G3:=G.trans z L2
 have L3:=am L2 F
 exact q φ4 H4 (G3.trans g4 L3) (am L3 Z) R4 σ (E.mono (G3.trans g4 L3) (am L3 Z))
theorem bG5 (hu:X.A.units+1<cLine):bQ4 X (bB5 Γ):=by
 intro a1 sh σ H o i v ov iv u Q I ro ri rv h
 obtain⟨φ,s,x,y,d,s',R,rx,ry,rd,bx,Z,bd,C,q⟩:=h
 cases x with
 | ref r =>
  have C:(match s[r]? with
   | some (.lst l)=>(match y with
    | .int i=>(match lM l.length i with|some j=>DV.R.ok () (s.set r (.lst (l.set j d)))|none=>.bad)
    | _=>.bad)
   | some (.dic l)=>if y.key&&decide (l.length<k6)then .ok () (s.set r (.dic (lh y d l)))else .bad
   | some (.dit l)=>if y.keyT&&decide (l.length<k6)then .ok () (s.set r (.dit (lh y d l)))else .bad
   | _=>.bad)=.ok () s':=C
  cases e:s[r]? with
  | none=>rw[e]at C;cases C
  | some ob =>
   rw[e]at C
   cases ob with
   | lst l =>
    cases y with
    | int k =>
     have C:(match lM l.length k with|some j=>DV.R.ok () (s.set r (.lst (l.set j d)))|none=>.bad)=.ok () s':=C
     cases ej:lM l.length k with
     | none=>rw[ej]at C;cases C
     | some j =>
      rw[ej]at C
      cases C
      obtain⟨xs,Y,F⟩:=R.addr e
      have hb:kT s.length (l.set j d)=true:=aa2.mpr λ z hz=>by
       rcases List.mem_or_eq_of_mem_set hz with h|h
       ·exact aa2.mp (by have:=R.wf r _ e;unfold kZ at this;exact this) z h
       ·subst h;exact bd
      refine bc7 a1 sh σ H o i v ov iv u Q I ro ri rv ⟨φ r,xs,k,j,rx.refE,ry.intE,Y,?_,?_⟩
      ·rw[F.length];exact ej
      ·obtain⟨g,R'⟩:=R.set (o:=.lst (l.set j d)) (u:=.lst (xs.set j v)) e rfl hb λ H' g e=>⟨_,e,RVL.monoW g _ _ hb (F.set j rd)⟩
       exact q _ _ g (by simp) R'
    | _=>exact fb C
   | dic l =>
    have C:(if y.key&&decide (l.length<k6)then DV.R.ok () (s.set r (.dic (lh y d l)))else .bad)=.ok () s':=C
    split at C
    case isFalse=>exact fb C
    rename_i hc
    cases C
    rw[aj]at hc
    obtain⟨k,hk⟩:=ai8 hc.1
    have hlt:=of_decide_eq_true hc.2
    obtain⟨J,Y,F⟩:=R.obj r _ e
    have ex:=rx.refE;subst ex
    cases ro
    have ey:=az8 hk ry;subst ey
    have hb:(DV.O.dic (lh y d l)).bnd s.length=true:=aE8 (R.wf r _ e) Z bd
    have G:kT s.length ((lh y d l).map (·.2))=true:=by
     unfold kZ at hb
     rw[aj]at hb
     exact hb.2
    obtain⟨g,R'⟩:=R.set (o:=.dic (lh y d l)) (u:=.dK (ao0 J k v)) e rfl hb λ H' g e=>⟨_,e,RVD.monoW g _ _ G (F.put keyOf_inj hk rd)⟩
    exact av7 hu I (bo4.k Y (by rw[F.length];exact ao hlt zY)) ri rv λ s4 I4=>⟨_,I4,q _ _ g (by simp) R'⟩
   | dit l =>
    have C:(if y.keyT&&decide (l.length<k6)then DV.R.ok () (s.set r (.dit (lh y d l)))else .bad)=.ok () s':=C
    split at C
    case isFalse=>exact fb C
    rename_i hc
    cases C
    rw[aj]at hc
    obtain⟨k,hk⟩:=ae9 hc.1
    have hlt:=of_decide_eq_true hc.2
    obtain⟨J,Y,F⟩:=R.obj r _ e
    have ex:=rx.refE;subst ex
    cases ro
    obtain⟨kb,ey,a2⟩:=as3 hk ry;subst ey
    have hb:(DV.O.dit (lh y d l)).bnd s.length=true:=bb8 (R.wf r _ e) Z bd
    have G:kT s.length ((lh y d l).map (·.2))=true:=by
     unfold kZ at hb
     rw[aj]at hb
     exact hb.2
    obtain⟨g,R'⟩:=R.set (o:=.dit (lh y d l)) (u:=.dT (ao0 J k v)) e rfl hb λ H' g e=>⟨_,e,RVD.monoW g _ _ G (F.put keyT_inj hk rd)⟩
    exact av7 hu I (bo4.t Y a2 (by rw[F.length];exact ao hlt zY)) ri rv λ s4 I4=>⟨_,I4,q _ _ g (by simp) R'⟩
   | _=>exact fb C
 | _=>exact fb C
theorem bP3 {mc:kU->kR->kY kS}{C z:kU->kR->kY lE}(h:TSv Γ (λ ρ s=>lc (mc ρ s) λ k s=>if k then C ρ s else z ρ s) D σ H):bW9 (TTv Γ mc) (TSv Γ C) (TSv Γ z) D σ H:=by
 obtain⟨φ,ρ,s,d,s',E,R,y,q⟩:=h
 obtain⟨c,s1,e1,y⟩:=zB y
 refine⟨φ,ρ,s,c,s1,E,R,e1,λ φ1 F g1 l1 R1=>?_⟩
 cases c with
 | true =>
  rw[if_pos rfl]at y ⊢
  exact⟨φ1,ρ,s1,d,s',E.mono g1 l1,R1,y,q.trans g1 l1⟩
 | false =>
  rw[if_neg aJ]at y ⊢
  exact⟨φ1,ρ,s1,d,s',E.mono g1 l1,R1,y,q.trans g1 l1⟩
theorem bC1 {F C:kU->kR->kY lE}(h:TSv Γ (λ ρ s=>(F ρ s).bind λ c s=>match c with|.next ρ=>C ρ s|c=>.ok c s) D σ H):bU1 (TSv Γ F) (TSv Γ C) D σ H:=by
 obtain⟨φ,ρ,s,c,s',E,R,y,q⟩:=h
 obtain⟨G,s1,e1,y⟩:=aa0 y
 refine⟨φ,ρ,s,G,s1,E,R,e1,λ φ1 z g1 l1 R1=>?_⟩
 cases G with
 | next ρ1=>exact λ σ1 J=>⟨φ1,ρ1,s1,c,s',J,R1,y,q.trans g1 l1⟩
 | ret d=>cases y;exact q φ1 z g1 l1 R1
 | cont ρ=>cases y;exact q φ1 z g1 l1 R1
 | brk ρ=>cases y;exact q φ1 z g1 l1 R1
theorem bd8 {mc:kU->kR->kY kS}{C:kU->kR->kY lE}(h:TSv Γ (DV.whl mc C) D σ H):bi0 (TTv Γ mc) (TSv Γ C) D σ H:=by
 obtain⟨φ,ρ,s,c,s',E,R,y,q⟩:=h
 unfold DV.whl at y
 split at y
 case isFalse=>exact fb y
 rename_i hn
 generalize hn.choose=n at y
 refine⟨λ n σ H=>∃ φ ρ s,RE Γ φ H s.length ρ σ/\Rp Γ φ H s/\DV.qF mc C n ρ s=.ok c s'/\al1 Γ φ s H c s' D,⟨n,φ,ρ,s,E,R,y,q⟩,?_⟩
 clear E R y q hn
 rintro n σ H ⟨φ,ρ,s,E,R,y,q⟩
 cases n with
 | zero=>exact fb y
 | succ n =>
  unfold DV.qF at y
  obtain⟨b,s1,e1,y⟩:=zB y
  refine⟨φ,ρ,s,b,s1,E,R,e1,λ φ1 Y g1 l1 R1=>?_⟩
  cases b with
  | false =>
   rw[if_neg aJ]at y ⊢
   cases y
   exact q φ1 Y g1 l1 R1 σ (E.mono g1 l1)
  | true =>
   rw[if_pos rfl]at y ⊢
   obtain⟨F,s2,e2,y⟩:=aa0 y
   refine⟨_,λ σ' H' w=>⟨n,eP n,w⟩,φ1,ρ,s1,F,s2,E.mono g1 l1,R1,e2,λ φ2 H2 J Z R2=>?_⟩
   have G:=g1.trans J l1
   have L:=am l1 Z
   cases F with
   | next ρ1=>exact λ σ1 z=>⟨φ2,ρ1,s2,z,R2,y,q.trans G L⟩
   | cont ρ1=>exact λ σ1 z=>⟨φ2,ρ1,s2,z,R2,y,q.trans G L⟩
   | ret d=>cases y;exact q φ2 H2 G L R2
   | brk ρ=>cases y;exact q φ2 H2 G L R2
theorem bz4 {mI : DV.Env -> DV.Sto -> DV.R DV.Sq} {mb : DV.Env -> DV.Sto -> DV.R DV.Ct} {tg : DV.Tg} (h : TSv Γ (λ ρ s => (mI ρ s).bind λ q s0 => DV.aM9 (λ s => DV.chk s0 s q.src) (λ d ρ s => match DV.ac7 ρ tg d with
      | some ρ => mb ρ s
      | none => .bad) q.its ρ s0) D σ H) : bU2 (TIv Γ mI) (gOf Γ.K tg) (TSv Γ mb) D σ H := by
  obtain⟨φ, ρ, s, c, s', E, R, hm, k⟩ := h
  obtain⟨q, s0, e1, hm⟩ := aa0 hm
  refine⟨φ, ρ, s, q, s0, E, R, e1, λ J φ1 H1 g1 l1 b1 R1 wk => ?_⟩
  refine⟨λ i m σ' H' => ∃ φ' ρ' t, Gr φ1 s0 H1 φ' t H' /\ Rp Γ φ' H' t /\ RE Γ φ' H' t.length ρ' σ' /\ i <= q.its.length /\ m = q.its.length - i /\
    mJ (λ s => lI s0 s q.src) (λ d ρ s => match lr ρ tg d with
      | some ρ => mb ρ s
      | none => .bad) (q.its.drop i) ρ' t = .ok c s', ⟨q.its.length, ?_⟩, ?_⟩
  · exact⟨φ1, ρ, s0, Gr.refl _ _ _, R1, E.mono g1 l1, cO _, by simp, by rw[eC]; exact hm⟩
  · rintro i m σ' H' ⟨φ', ρ', t, g, R', E', hil, rfl, hc⟩
    have hle := g.le
    rcases jx i q.its.length with hlt|hge
    · have hd : q.its[i]? = some q.its[i] := ag hlt
      rw[dJ hlt]at hc
      unfold mJ at hc
      split at hc
      case isFalse => exact fb hc
      rename_i hck
      obtain⟨hgo, hy2⟩ := (wk φ' H' t g hle R' hck i).1 hlt
      refine .inr ⟨hgo, _, λ σ2 H2 n => ⟨q.its.length - (i + 1), by omega, n⟩, λ x H2 hyl => ?_⟩
      obtain⟨sm, rv⟩ := hy2 x H2 hyl
      obtain⟨g2, R2⟩ := R'.same sm
      have rd := rv _ hd
      have bd : (q.its[i]).bnd t.length = true := zm hle _ (aj3 b1 hd)
      obtain⟨c1, t3, hs, hc⟩ := aa0 hc
      cases hb : lr ρ' tg q.its[i]with
      | none => rw[hb]at hs; cases hs
      | some ρ3 =>
        rw[hb]at hs
        refine bo5 (E'.mono g2 (ak _)) rd bd hb λ σ3 E3 => ?_
        refine⟨φ', ρ3, t, c1, t3, E3, R2, hs, λ φ2 H4 g4 l4 R4 => ?_⟩
        have G4 := (g.trans g2 hle).trans g4 hle
        have L4 := am hle l4
        have GG := g1.trans G4 l1
        cases c1 with
        | next ρ1 => exact λ σ1 E1 => ⟨φ2, ρ1, t3, G4, R4, E1, hlt, rfl, hc⟩
        | cont ρ1 => exact λ σ1 E1 => ⟨φ2, ρ1, t3, G4, R4, E1, hlt, rfl, hc⟩
        | ret d => cases hc; exact k φ2 H4 GG (am l1 L4) R4
        | brk ρ => cases hc; exact k φ2 H4 GG (am l1 L4) R4
    · rw[gW hge]at hc
      unfold mJ at hc
      split at hc
      case isFalse => exact fb hc
      rename_i hck
      cases hc
      exact .inl ⟨(wk φ' H' s' g hle R' hck i).2 hge, k φ' H' (g1.trans g l1) (am l1 hle) R' σ' E'⟩
structure Ck where
 N:List Str
 sc:Scope
 lk:String->List Nat->Expr->Bool
noncomputable abbrev ck0 (N:List Str)(sc:Scope):Ck:=⟨N,sc,λ _ _ _=>false⟩
noncomputable def Ck.vis (c:Ck)(x:Str):Bool:=match c.sc.names.lookup x with|some .local=>true|some .cell=>true|some .free=>true|_=>false
noncomputable def Ck.loc (c:Ck)(x:Str):Bool:=match c.sc.names.lookup x with|some .local=>true|some .cell=>true|_=>false
noncomputable def Ck.gl (c:Ck)(x:Str):Bool:=(match c.sc.names.lookup x with|some .globalImplicit=>true|_=>false)&&!(x==("__debug__":Str))&&!decide (x=("__name__":Str))
noncomputable def Ck.var (c:Ck)(i:Nat)(x:Str):Bool:=decide (c.N[i]?=some x)&&c.vis x&&!(x==("__debug__":Str))&&!(x==("__classdict__":Str))
noncomputable def shp:Expr->Bool
 | .Starred ..=>false
 | .Set ..=>false
 | .SetComp ..=>false
 | .DictComp ..=>false
 | .GeneratorExp ..=>false
 | .Slice ..=>false
 | .NamedExpr ..=>false
 | _=>true
noncomputable def az3:Expr->Bool
 | .ListComp ..=>false
 | .SetComp ..=>false
 | .DictComp ..=>false
 | _=>true
noncomputable def aY3:Expr->Bool
 | .Tuple ..=>false
 | _=>true
noncomputable def aX3:Expr->Bool
 | .Call _ [] [] _=>false
 | _=>true
noncomputable def mC:DV.Cn->Const->Bool
 | .non,.none=>true
 | .bl b,.bool c=>b==c
 | .int i,.int j=>decide (i=j)
 | .str x,.str y=>decide (y=⟨x.toArray⟩)&&decide (x.length<=1000)
 | _,_=>false
noncomputable def bN7 (ck:Ck):List Nat->List Expr->Bool
 | [],[]=>true
 | i::is,.Name x _::es=>decide (ck.N[i]?=some x)&&ck.loc x&&bN7 ck is es
 | _,_=>false
noncomputable def mTg (ck:Ck):lD->Expr->Bool
 | .one i,.Name x _=>decide (ck.N[i]?=some x)&&ck.loc x
 | .tup is,.Tuple es _ _=>bN7 ck is es
 | _,_=>false
noncomputable def tgN:Expr->List Str
 | .Name x _=>[x]
 | .Tuple es _ _=>es.filterMap λ e=>match e with|.Name x _=>some x|_=>none
 | _=>[]
structure ItT where
 x:Str
 y:Str
 ob:Expr
 sc:Scope
 p1:Pos
 p2:Pos
 p3:Pos
 p4:Pos
 p5:Pos
 p6:Pos
 p7:Pos
 k1:Nat
 k2:Nat
 ap:Pos
 cp:Pos
 pos:Pos
noncomputable def ItT.tg (q:ItT):Expr:=.Tuple [.Name q.x q.p5,.Name q.y q.p6] q.k2 q.p7
noncomputable def ItT.it (q:ItT):Expr:=.Call (.Attribute q.ob "items" q.ap) [] [] q.cp
noncomputable def ItT.text (q:ItT):Expr:=.ListComp (.BinOp (.Name q.x q.p1) .Add (.Tuple [.Name q.y q.p2] q.k1 q.p3) q.p4) [⟨q.tg,q.it,[],0⟩] q.sc q.pos
noncomputable def bN1:Expr->Option ItT
 | .ListComp (.BinOp (.Name x p1) .Add (.Tuple [.Name y p2] k1 p3) p4) [⟨.Tuple [.Name x' p5,.Name y' p6] k2 p7,.Call (.Attribute ob it ap) [] [] cp,[],z⟩] sc pos=>if x'=x/\y'=y/\it=("items":Str)/\z=0 then some ⟨x,y,ob,sc,p1,p2,p3,p4,p5,p6,p7,k1,k2,ap,cp,pos⟩else none
 | _=>none
noncomputable def ckC (ck:Ck)(tgt:Expr)(caps:List (Option Nat))(scope:Scope):Ck:=⟨tgN tgt++(caps.filterMap id).map λ j=>ck.N.getD j "",scope,λ _ _ _=>false⟩
noncomputable def aC0 (ck:Ck)(tg:lD)(tgt iter:Expr)(caps:List (Option Nat))(scope:Scope):Bool :=
 zG (ckC ck tgt caps scope).N caps scope ck.N ck.sc&&decide ((ckC ck tgt caps scope).N.Nodup)&&mTg (ckC ck tgt caps scope) tg tgt&&shp iter
noncomputable def biT:lC->Option Str
 | .len=>some "len" | .abs=>some "abs" | .min2=>some "min" | .max2=>some "max" | .int=>some "int" | _=>none
noncomputable def biK:lC->Option (Nat×Str)
 | .isInt=>some (1, "int")|.isBool=>some (2, "bool")|.isStr=>some (3, "str")|.isTup=>some (4, "tuple")|.isList=>some (5, "list")|_=>none
noncomputable def mkT:my->Option Str
 | .tuple=>some "tuple" | .list=>some "list" | _=>none
noncomputable def mkF:my->Option Str
 | .all=>some "all" | .min=>some "min" | _=>none
noncomputable def mtT:mz->Option (Str×Nat)
 | .append=>some ("append",1)|_=>none
noncomputable def be3:lP->Bool
 | .nil=>false
 | .ex _ as=>be3 as
 | .lam _ _ _=>true
 | .fn _ as=>be3 as
noncomputable def bN4 (ck:Ck)(b:lC)(x:Str)(xs:List Expr)(m1 m2:Bool):Bool:=match biK b with
 | some p=>(match xs with|[_,.Name y _]=>decide (x=("isinstance":Str))&&ck.gl x&&decide (y=p.2)&&ck.gl y&&m2|_=>false)
 | none=>(match xs with|_::_=>decide (biT b=some x)&&ck.gl x&&m1|[]=>false)
noncomputable def bM3 (ck:Ck)(q:ItT):Bool:=aC0 ck (.tup [0,1]) q.tg q.it [none,none] q.sc&&decide (q.x≠q.y)&&decide (q.sc.names.lookup q.x=some .local)&&decide (q.sc.names.lookup q.y=some .local)&&aX3 q.ob&&(q.ap.endLine==q.cp.line) &&
 (!(q.x==("__debug__":Str))&&!(q.y==("__debug__":Str))&&!(q.x==("__classdict__":Str))&&!(q.y==("__classdict__":Str)))
mutual
noncomputable def mE (ck:Ck):lJ->Expr->Bool
 | .var i,E=>match E with|.Name x _=>ck.var i x|_=>false
 | .cst c,E=>match E with|.Constant v _ _=>mC c v|_=>false
 | .glob g,E=>match E with|.Name x _=>decide (x=(g:Str))&&ck.gl x|_=>false
 | .bin op a b,E=>match E with|.BinOp l o r _=>decide (o=bP7 op)&&mE ck a l&&mE ck b r|_=>false
 | .neg a,E=>match E with|.UnaryOp .USub l _=>mE ck a l|_=>false
 | .not a,E=>match E with|.UnaryOp .Not l _=>mE ck a l|_=>false
 | .cmp op a b,E=>match E with|.Compare l [o] [r] _=>decide (o=an0 op)&&mE ck a l&&mE ck b r|_=>false
 | .chain o p a b c,E=>match E with|.Compare l [o1,o2] [m,r] _=>decide (o1=an0 o)&&decide (o2=an0 p)&&mE ck a l&&mE ck b m&&mE ck c r|_=>false
 | .isN a,E=>match E with|.Compare l [.Is] [.Constant .none _ _] _=>mE ck a l|_=>false
 | .notN a,E=>match E with|.Compare l [.IsNot] [.Constant .none _ _] _=>mE ck a l|_=>false
 | .isB _ _,_=>false
 | .notB _ _,_=>false
 | .and a b,E=>match E with
  | .BoolOp .And [l,r] _=>mE ck a l&&mE ck b r
  | .BoolOp .And (l::m::r::es) p=>mE ck a l&&mE ck b (.BoolOp .And (m::r::es) p)
  | _=>false
 | .or a b,E=>match E with
  | .BoolOp .Or [l,r] _=>mE ck a l&&mE ck b r
  | .BoolOp .Or (l::m::r::es) p=>mE ck a l&&mE ck b (.BoolOp .Or (m::r::es) p)
  | _=>false
 | .ite c a b,E=>match E with|.IfExp t l r _=>mE ck c t&&mE ck a l&&mE ck b r|_=>false
 | .tup es,E=>match E with|.Tuple xs _ _=>mEs ck es xs&&decide (xs.length<=1000)|_=>false
 | .lst es,E=>match E with|.List xs _=>mEs ck es xs&&decide (xs.length<=1000)|_=>false
 | .dic ks vs,E=>match E with|.Dict a b _=>(match a,b with|[],[]=>mEs ck ks []&&mEs ck vs []|[some x],[y]=>mEs ck ks [x]&&mEs ck vs [y]|_,_=>false)|_=>false
 | .slL a lo,E=>match E with|.Subscript o (.Slice (some l) none none _) _=>mE ck a o&&mE ck lo l|_=>false
 | .slU a hi,E=>match E with|.Subscript o (.Slice none (some h) none _) _=>mE ck a o&&mE ck hi h|_=>false
 | .slLU _ _ _,_=>false
 | .rev _,_=>false
 | .dicT,E=>match E with|.Dict [] [] _=>true|_=>false
 | .get2 o k d,E=>match E with|.Call (.Attribute ob x ap) [a,b] [] cp=>decide (x=("get":Str))&&aX3 ob&&(ap.endLine==cp.line)&&mE ck o ob&&mE ck k a&&mE ck d b&&shp a&&shp b|_=>false
 | .ix a b,E=>match E with|.Subscript o i _=>mE ck a o&&mE ck b i|_=>false
 | .call f as,E=>match E with|.Call (.Name x _) xs [] _=>decide (x=(f:Str))&&ck.gl x&&mAs ck as xs|_=>false
 | .callC f as,E=>match E with|.Call (.Name x _) (y::ys) [] _=>decide (x=(f:Str))&&ck.gl x&&be3 as&&by3 ck as (y::ys)|_=>false
 | .callV i es,E=>match E with|.Call (.Name x _) (y::ys) [] _=>ck.var i x&&mEs ck es (y::ys)|_=>false
 | .bi b es,E=>match E with|.Call (.Name x _) xs [] _=>bN4 ck b x xs (mEs ck es xs) (mEs ck es (xs.take 1))|_=>false
 | .mk k l,E=>match E with
  | .Call (.Name x _) [a] [] _=>ck.gl x&&shp a&&((decide (mkT k=some x)&&mL ck 2 l a)||(decide (mkF k=some x)&&mL ck 1 l a))
  | .ListComp e gs sc p=>decide (k=.list)&&mL ck 0 l (.ListComp e gs sc p)
  | _=>false
 | .mkD k l d,E=>match E with
  | .Call (.Name x _) [a] [⟨some y,de,_⟩] _=>decide (k=.min)&&decide (x=("min":Str))&&decide (y=("default":Str))&&ck.gl x&&shp a&&mL ck 1 l a&&mE ck d de
  | _=>false
 | .meth m o es,E=>match E with
  | .Call (.Attribute ob x ap) xs [] cp=>decide (mtT m=some (x,xs.length))&&aX3 ob&&(ap.endLine==cp.line)&&mE ck o ob&&mEs ck es xs
  | _=>false
 | .ext o l,E=>match E with
  | .Call (.Attribute ob x ap) [a] [] cp=>decide (x=("extend":Str))&&aX3 ob&&(ap.endLine==cp.line)&&mE ck o ob&&mL ck 1 l a&&shp a
  | _=>false
 | .extS o e,E=>match E with
  | .Call (.Attribute ob x ap) [a] [] cp=>decide (x=("extend":Str))&&aX3 ob&&(ap.endLine==cp.line)&&mE ck o ob&&mE ck e a&&shp a
  | _=>false
 | .mks _ _,_=>false
 | .mkDs _ _ _,_=>false
 | .join _ _,_=>false
noncomputable def mEs (ck:Ck):lx->List Expr->Bool
 | .nil,xs=>match xs with|[]=>true|_=>false
 | .cons e es,xs=>match xs with|x::xs=>mE ck e x&&shp x&&mEs ck es xs|_=>false
noncomputable def mAs (ck:Ck):lP->List Expr->Bool
 | .nil,xs=>match xs with|[]=>true|_=>false
 | .ex e es,xs=>match xs with|x::xs=>mE ck e x&&shp x&&mAs ck es xs|_=>false
 | .lam _ _ _,_=>false
 | .fn _ _,_=>false
noncomputable def by3 (ck:Ck):lP->List Expr->Bool
 | .nil,xs=>match xs with|[]=>true|_=>false
 | .ex e es,xs=>match xs with|x::xs=>mE ck e x&&shp x&&by3 ck es xs|_=>false
 | .lam id caps es,xs=>match xs with|x::xs=>ck.lk id caps x&&shp x&&by3 ck es xs|_=>false
 | .fn _ _,_=>false
noncomputable def mI (ck:Ck)(tgt:Expr):DV.I->Expr->Bool
 | .rng1 a,E=>match E with|.Call (.Name x _) [l] [] _=>decide (x=("range":Str))&&ck.gl x&&mE ck a l&&shp l|_=>false
 | .rng2 _ _,_=>false
 | .seq e,x=>mE ck e x&&shp x
 | .rng3 _ _ _,_=>false
 | .enum (.seq _),_=>false
 | .zip (.seq _) (.seq _),_=>false
 | .enum _,_=>false
 | .zip _ _,_=>false
 | .items _,_=>false
noncomputable def mL (ck:Ck)(k:Nat):DV.L->Expr->Bool
 | .comp tg it e caps,E=>match E with|.ListComp elt [⟨tgt,iter,[],z⟩] scope _=>decide (z=0)&&aC0 ck tg tgt iter caps scope&&mI ck tgt it iter&&mE (ckC ck tgt caps scope) e elt|_=>false
 | .compIf tg it c e caps,E=>match E with|.ListComp elt [⟨tgt,iter,[i],z⟩] scope _=>decide (z=0)&&aC0 ck tg tgt iter caps scope&&mI ck tgt it iter&&mE (ckC ck tgt caps scope) c i&&mE (ckC ck tgt caps scope) e elt|_=>false
 | .disp es,E=>match E with|.List xs _=>decide (1<=k)&&mEs ck es xs&&decide (xs.length<=1000)|_=>false
 | .seq e,x=>decide (k=2)&&mE ck e x
 | .itm e,E=>match bN1 E with|some q=>decide (1<=k)&&bM3 ck q&&mE ck e q.ob|none=>false
end
theorem ff {p:Prop}(h:false=true):p:=Bool.noConfusion h
noncomputable def bt4:bj->Bool
 | ⟨[], args, none, [], [], none, []⟩ => args.all λ y => y.annotation.isNone
 | _=>false
noncomputable def bU3:List Stmt->Option (Str×bj×Expr×Pos×Scope×Pos×List Stmt)
 | .FunctionDef nm params [.Return (some b) rp] [] none [] scope none nm' pos::xs=>if nm'=nm then some (nm,params,b,rp,scope,pos,xs)else none
 | _=>none
noncomputable def bW1 (nm:Str):List Stmt->Option (Str×Pos×Expr×Pos×Pos×Pos)
 | [.Return (some (.Call (.Name g gp) [a,.Name x p2] [] cp)) rp2]=>if x=nm then some (g,gp,a,p2,cp,rp2)else none
 | _=>none
noncomputable def bS6:mR->mB->Option (Nat×String×lJ×String×List Nat)
 | .und i,.cons (.ret (.callC g (.ex e (.lam id caps .nil)))) .nil=>some (i,g,e,id,caps)
 | _,_=>none
noncomputable def bG7 (ck:Ck)(s:mR)(ss:mB)(S:List Stmt):Bool :=
 (bS6 s ss).any λ d=>(bU3 S).any λ q=>(bW1 q.1 q.2.2.2.2.2.2).any λ r =>
  decide (ck.N[d.1]?=some q.1)&&ck.loc q.1&&ck.var d.1 q.1&&ck.lk d.2.2.2.1 d.2.2.2.2 (.NamedExpr (.Name q.1 q.2.2.2.1) (.Lambda q.2.1 q.2.2.1 q.2.2.2.2.1 q.2.2.2.2.2.1) q.2.2.2.2.2.1)&&decide (r.1=(d.2.1:Str))&&ck.gl r.1&&mE ck d.2.2.1 r.2.2.1&&shp r.2.2.1&&bt4 q.2.1
mutual
noncomputable def mS (ck:Ck):mR->Stmt->Bool
 | .asg tg e,S=>match S with
  | .Assign [t] v _=>mTg ck tg t&&mE ck e v&&(match tg with|.one _=>true|.tup _=>aY3 v&&az3 v)
  | _=>false
 | .setIx o i e,S=>match S with|.Assign [.Subscript ob ix _] v _=>mE ck o ob&&mE ck i ix&&mE ck e v&&az3 v&&aY3 v|_=>false
 | .aug _ _,_=>false
 | .ex e,S=>match S with|.Expr v _=>mE ck e v&&az3 v|_=>false
 | .ret e,S=>match S with|.Return (some v) _=>mE ck e v|_=>false
 | .retN,_=>false
 | .ite c a b,S=>match S with|.If t l r _=>mE ck c t&&mSs ck a l&&mSs ck b r|_=>false
 | .whl c b,S=>match S with|.While t l [] _=>mE ck c t&&mSs ck b l|_=>false
 | .for_ tg it b,S=>match S with|.For tgt iter l [] _=>mTg ck tg tgt&&mI ck tgt it iter&&mSs ck b l|_=>false
 | .pass,_=>false
 | .cont,_=>false
 | .brk,_=>false
 | .raise,_=>true
 | .und _,_=>false
noncomputable def mSs (ck:Ck):mB->List Stmt->Bool
 | .nil,xs=>match xs with|[]=>true|_=>false
 | .cons s ss,xs=>match xs with|x::xs=>bG7 ck s ss (x::xs)||(mS ck s x&&mSs ck ss xs)|_=>false
end
theorem ax8 {y:Ck}{e:lJ}{E:Expr}(h:mE y e E=true):shp E=true:=by
 cases E<;>first|rfl|(exfalso;cases e<;>exact ff h)
theorem bH4 {z:Ck}{y:Expr}{e:DV.I}{E:Expr}(h:mI z y e E=true):shp E=true:=by
 cases e with
 | seq e=>have h:(mE z e E&&shp E)=true:=h;rw[aj]at h;exact h.2
 | enum a=>cases E<;>first|rfl|(exfalso;cases a<;>exact ff h)
 | zip a b=>cases E<;>first|rfl|(exfalso;cases a<;>first|exact ff h|(cases b<;>exact ff h))
 | _=>cases E<;>first|rfl|exact ff h
theorem zd {e:Expr}{es:List Expr}{env:Env}(h:shp e=true):bn (e::es) env=(false,eval e env)::bn es env:=by
 cases e<;>first|rfl|cases h
theorem zo {env:Env}{pos:Pos}:∀ {es:List Expr},(∀ e∈es,shp e=true)->(dL pos (bn es env)).any (·.1)=false/\(dL pos (bn es env)).all (λ x=>!x.1)=true
 | [],_=>⟨rfl,rfl⟩
 | e::es,h=>by
  have z:=zd (es:=es) (env:=env) (h e (aG ..))
  obtain⟨y,h3⟩:=zo (env:=env) (pos:=pos) (es:=es) λ x hx=>h x (az _ hx)
  rw[z]
  unfold dL at y h3 ⊢
  simp only[aO,gh,eR,y,h3]
  exact⟨rfl,rfl⟩
theorem aA1 {e:Expr}{env:Env}(h:shp e=true)(x:Value):dz e env x=pure x:=by
 cases e<;>first|rfl|cases h
theorem ak4 {e:Expr}{op:CmpOp}(h:shp e=true):cR op e=false:=by
 cases e<;>first|rfl|cases h
theorem at2 {e:Expr}{t:Option Expr}{l:Nat}{env:Env}(h:az3 e=true):fA e t l env=pure false:=by
 cases e<;>first|rfl|cases h
theorem ag8 {e:Expr}{f:Str}{env:Env}(h:aX3 e=true):dq e f env (eval e env)=eval e env:=by
 cases e with
 | Call g a k p =>
  cases g with
  | Name x p' =>
   cases a with
   | nil=>cases k with
    | nil=>cases h
    | cons _ _=>rfl
   | cons _ _=>rfl
  | _=>rfl
 | _=>rfl
theorem aL7 {es:List Expr}{k:Nat}{p:Pos}{e:Expr}{env:Env}(h:aY3 e=true):iU [.Tuple es k p] e env=pure none:=by
 cases e<;>first|rfl|cases h
theorem aM8 {o i:Expr}{p:Pos}{e:Expr}{env:Env}(h:aY3 e=true):iU [.Subscript o i p] e env=pure none:=by
 cases e<;>first|rfl|cases h
theorem aK6 {e:Expr}(h:shp e=true):aU6 e:=by
 intro o i
 cases e<;>first|rfl|cases h
def spV (Γ:Gm)(c:List kS->kR->kY kS):Sp:=λ vs H Q _=>rCl Γ c vs H Q
noncomputable def bNames:List Str:=["len", "abs", "min", "max", "int", "isinstance", "bool", "str", "tuple", "list", "range", "sum", "all", "any", "sorted", "zip", "enumerate", "ord"]
def spL (Γ:Gm)(c:List kS->List kS->kR->kY kS)(cap:List V):Sp:=λ vs H Q _=>∃ φ s cs l d s',Rp Γ φ H s/\RVL Γ φ H l vs/\RVL Γ φ H cs cap/\kT s.length l=true/\kT s.length cs=true/\c cs l s=.ok d s'/\ad5 Γ φ s H d s' Q
noncomputable def LamI.own (J:LamI):Str:=match J.nm with|none => "<lambda>" | some p=>p.1
noncomputable def lamText (J:LamI)(params:bj)(body:Expr)(scope:Scope)(pos:Pos):Expr:=match J.nm with
 | none=>.Lambda params body scope pos
 | some p=>.NamedExpr (.Name p.1 p.2) (.Lambda params body scope pos) pos
structure LamHere (Γ:Gm)(X:Cx)(N:List Str)(id:String)(caps:List Nat)(params:bj)(body:Expr)(scope:Scope)(c P:Addr)(J:LamI):Prop where
 code:X.env.code=.ref c
 hd:bX X.base c P
 bm:BM X.mg X.base
 ck:lamCheck scope X.env.scope=true
 df:j8 params X.env=([],[])
 lg:Γ.lg id J
 q:J.qual=X.env.qual++J.own
 p:J.params=params
 b:J.body=body
 s:J.scope=scope
 len:J.fr.length=caps.length
 at_:∀(i j:Nat) (x:Str),caps[i]?=some j->J.fr[i]?=some x->N[j]?=some x
 fr:∀ x∈J.fr,scope.names.lookup x=some .free
 cl:∀ x,scope.names.lookup x=some .free->∃ c,X.env.cells.lookup x=some c
 tab:(P,J.qual)∈Γ.T
 nd:(Γ.T.map (·.1)).Nodup
 fn:∀ x,X.fn x=true
 kd:∀ x c,X.env.cells.lookup x=some c->X.env.kindOf x=some .cell\/X.env.kindOf x=some .free
structure CG (Γ:Gm)(F:lz)(n:Nat)(X:Cx)(ck:Ck):Prop where
 K:X.K=Γ.K
 N:X.N=ck.N
 nd:ck.N.Nodup
 xe:X.xe=λ _ _=>False
 calm:X.calm=true
 deep:lf+1<=n
 room:Room n X.A
 sc:∀ x k,ck.sc.names.lookup x=some k->X.env.scope.names.lookup x=some k\/(k=.free/\X.env.scope.names.lookup x=some .cell)
 fn:∀ x,ck.sc.names.lookup x=some .cell->X.fn x=true
 bi:∀ x∈bNames,X.mg x=none
 call:∀ f:String,(∀ l s,F.call f l s=.bad)\/∃ a fd ps,FnOk X.prog X.w X.K X.mg X.base CX0 n a fd ps (spV Γ (F.call f))/\X.mg (f:Str)=some (.ref a)/\cu X.K (.ref a)=true/\Binds X.K fd ps []
 con:∀ x d,F.con x=some d->∃ v u,X.mg (x:Str)=some u/\RelV v u/\(∀ m,d.bnd m=true)/\∀ φ H,RV Γ φ H d v
 lam:∀ id caps E,ck.lk id caps E=true->∃ c P params body scope pos J,E=lamText J params body scope pos/\LamHere Γ X ck.N id caps params body scope c P J
 cl:∀(id:String) (J:LamI) (f:Addr) (cap:List V) (clos:List (Str×Addr)),Γ.lg id J->cap.length=J.fr.length->ClOk X.prog X.w X.K X.mg X.base n (λ H=>CloAt H f J cap clos) f (spL Γ (F.lam id) cap)
 fa:∀(f:String) (a:Addr),Γ.fa f=some a->X.mg (f:Str)=some (.ref a)/\∃ oc od fd sl,X.K.lookup a=some ⟨oc,od,.func fd,sl⟩
 fk:DV.FK F
section
variable {Γ:Gm} {F:lz} {n:Nat} {X:Cx} {ck:Ck}
theorem CG.vis (G:CG Γ F n X ck){x:Str}(h:ck.vis x=true):Vis X.env.scope x:=by
 unfold Ck.vis at h
 split at h
 ·rename_i e;rcases G.sc _ _ e with z|⟨z,_⟩
  ·exact .inl z
  ·cases z
 ·rename_i e;rcases G.sc _ _ e with z|⟨z,_⟩
  ·exact .inr (.inl z)
  ·cases z
 ·rename_i e;rcases G.sc _ _ e with z|⟨_,z⟩
  ·exact .inr (.inr z)
  ·exact .inr (.inl z)
 ·cases h
theorem CG.loc (G:CG Γ F n X ck){x:Str}(h:ck.loc x=true):Loc X.env.scope x/\(X.fn x=true\/X.env.scope.names.lookup x=some .local):=by
 unfold Ck.loc at h
 split at h
 ·rename_i e;rcases G.sc _ _ e with z|⟨z,_⟩
  ·exact⟨.inl z,.inr z⟩
  ·cases z
 ·rename_i e;rcases G.sc _ _ e with z|⟨z,_⟩
  ·exact⟨.inr z,.inl (G.fn _ e)⟩
  ·cases z
 ·cases h
theorem CG.gl (G:CG Γ F n X ck){x:Str}(h:ck.gl x=true):Gl X x/\(x==("__debug__":Str))=false/\x ≠ "__name__":=by
 unfold Ck.gl at h
 simp only[aj,eF]at h
 obtain⟨⟨y,C⟩,h3⟩:=h
 refine⟨?_,C,of_decide_eq_false h3⟩
 split at y
 ·rename_i e;rcases G.sc _ _ e with z|⟨z,_⟩
  ·exact z
  ·cases z
 ·cases y
theorem bh3 (G:CG Γ F n X ck):∀ {is:List Nat} {es:List Expr},bN7 ck is es=true->PGs X es (bN2 is)/\(cC es X.env).length=is.length/\(cC es X.env).findIdx? (·.1)=none
 | [],[],_=>⟨aV6,rfl,rfl⟩
 | [],_::_,h=>by cases h
 | i::is,[],h=>by cases h
 | i::is,e::es,h=>by
  cases e with
  | Name x p =>
   unfold bN7 at h
   simp only[aj,decide_eq_true_eq]at h
   obtain⟨⟨z,C⟩,h3⟩:=h
   obtain⟨l1,y⟩:=G.loc C
   obtain⟨a,b,c⟩:=bh3 G h3
   have hs:cC (.Name x p::es) X.env=(false,gE (.Name x p) X.env)::cC es X.env:=rfl
   refine⟨at5 (as5 (by rw[G.N];exact G.nd) (by rw[G.N];exact z) l1 y) a (by rw[hs];rfl),by rw[hs,aW,aW,b],?_⟩
   rw[hs,List.findIdx?_cons]
   simp[c]
  | _=>cases h
theorem bo3 (G:CG Γ F n X ck){tg:lD}{e:Expr}(h:mTg ck tg e=true):PG X e (gOf Γ.K tg):=by
 unfold mTg at h
 split at h
 ·simp only[aj,decide_eq_true_eq]at h
  obtain⟨l1,y⟩:=G.loc h.2
  exact as5 (by rw[G.N];exact G.nd) (by rw[G.N];exact h.1) l1 y
 ·obtain⟨a,b,c⟩:=bh3 G h
  exact bm1 G.K G.calm a b c
 ·cases h
theorem CG.comp (G:CG Γ F n X ck){tg:lD}{Y iter:Expr}{J:List (Option Nat)}{scope:Scope}(h:aC0 ck tg Y iter J scope=true) :
  zG (ckC ck Y J scope).N J scope X.N X.env.scope=true/\shp iter=true /\
  ∀(C:Addr) (cells:List (Str×Addr)) (s:af) (H:Hp) (ex:List Addr),CG Γ F n (zC X (ckC ck Y J scope).N scope C cells s H ex) (ckC ck Y J scope)/\PG (zC X (ckC ck Y J scope).N scope C cells s H ex) Y (gOf Γ.K tg):=by
 unfold aC0 at h
 simp only[aj,decide_eq_true_eq]at h
 obtain⟨⟨⟨Z,h2⟩,h3⟩,h4⟩:=h
 refine⟨?_,h4,λ C cells s H ex=>?_⟩
 ·rw[G.N]
  unfold zG at Z ⊢
  simp only[aj]at Z ⊢
  obtain⟨⟨⟨⟨⟨a1,a2⟩,a3⟩,a4⟩,a5⟩,a6⟩:=Z
  refine⟨⟨⟨⟨⟨a1,?_⟩,a3⟩,a4⟩,a5⟩,a6⟩
  rw[aX]at a2 ⊢
  intro y hy
  have:=a2 y hy
  rw[bP]at this ⊢
  rcases this with q|q
  ·exact .inl q
  ·right
   rw[bP]at q ⊢
   rcases q with q|q
   ·rcases G.sc _ _ (eq_of_beq q)with z|⟨z,_⟩
    ·left;rw[z];exact beq_self_eq_true _
    ·cases z
   ·rcases G.sc _ _ (eq_of_beq q)with z|⟨_,z⟩
    ·right;rw[z];exact beq_self_eq_true _
    ·left;rw[z];exact beq_self_eq_true _
 ·have G':CG Γ F n (zC X (ckC ck Y J scope).N scope C cells s H ex) (ckC ck Y J scope):=by
   refine⟨G.K,rfl,h2,rfl,G.calm,G.deep,G.room,λ x k e=>?_,λ x e=>?_,G.bi,G.call,G.con,λ _ _ _ h=>(by cases h),G.cl,G.fa,G.fk⟩
   ·have q:=zL (env:=X.env) e
    have q':(dB scope X.env).names.lookup x=some (if(k==NameKind.free&&X.env.scope.kind==.function&&X.env.kindOf x==some .cell)then NameKind.cell else k):=q
    show(dB scope X.env).names.lookup x=some k\/_
    rw[q']
    split
    ·rename_i hc
     simp only[aj]at hc
     exact .inr ⟨eq_of_beq hc.1.1,rfl⟩
    ·exact .inl rfl
   ·show(scope.names.lookup x==some .cell)=true
    rw[show scope.names.lookup x=some .cell from e];rfl
  exact⟨G',bo3 G' h3⟩
end
section
variable {Γ:Gm} {F:lz} {n:Nat} {X:Cx} {ck:Ck} {σ:St} {H:Hp} {Q:VK}
theorem TEv.eq {m m':kU->kR->kY kS}(e:∀ ρ s,m ρ s=m' ρ s)(q:TEv Γ m σ H Q):TEv Γ m' σ H Q:=by
 have:m=m':=funext λ ρ=>funext λ s=>e ρ s
 subst this;exact q
theorem TTv.eq {m m':kU->kR->kY kS}{Q:Bool->Hp->Prop}(e:∀ ρ s,m ρ s=m' ρ s)(q:TTv Γ m σ H Q):TTv Γ m' σ H Q:=by
 have:m=m':=funext λ ρ=>funext λ s=>e ρ s
 subst this;exact q
theorem TAv.eq {m m':kU->kR->kY (List kS)}{Q:List V->Hp->Prop}(e:∀ ρ s,m ρ s=m' ρ s)(q:TAv Γ m σ H Q):TAv Γ m' σ H Q:=by
 have:m=m':=funext λ ρ=>funext λ s=>e ρ s
 subst this;exact q
theorem TFv.eq {m m':kU->kR->kY (List kS)}(e:∀ ρ s,m ρ s=m' ρ s)(q:TFv Γ m σ H Q):TFv Γ m' σ H Q:=by
 have:m=m':=funext λ ρ=>funext λ s=>e ρ s
 subst this;exact q
theorem TIv.eq {m m':kU->kR->kY lZ}{R:It->Hp->Prop}(e:∀ ρ s,m ρ s=m' ρ s)(q:TIv Γ m σ H R):TIv Γ m' σ H R:=by
 have:m=m':=funext λ ρ=>funext λ s=>e ρ s
 subst this;exact q
theorem TSv.eq {m m':kU->kR->kY lE}{D:Ends}(e:∀ ρ s,m ρ s=m' ρ s)(q:TSv Γ m D σ H):TSv Γ m' D σ H:=by
 have:m=m':=funext λ ρ=>funext λ s=>e ρ s
 subst this;exact q
def EvT (Γ:Gm)(X:Cx)(E:Expr)(m:kU->kR->kY kS):Prop:=PE X E (TEv Γ m)/\PT X E (TTv Γ m)
theorem EvT.val {E:Expr}{m:kU->kR->kY kS}(h:PE X E (TEv Γ m))(z:∀ y,dY E X.env y=(do let v <- y;standAt E.pos;jj [v] (truthy v)):=by intro _;rfl):EvT Γ X E m :=
 ⟨h,(bH3 h z).imp λ σ H Q q=>aH8 q⟩
theorem be8 {c a b:Expr}{pos:Pos}{F tb tc:TT}(hc:PT X c F)(ha:PT X a tb)(hb:PT X b tc):PT X (.IfExp c a b pos) (λ σ H Q=>F σ H λ k z=>if k=true then tb σ z Q else tc σ z Q):=by
 intro y s σ H Q I h
 have e:dY (.IfExp c a b pos) X.env (eval (.IfExp c a b pos) X.env)=(do if <- dY c X.env (eval c X.env)then dY a X.env (eval a X.env)else dY b X.env (eval b X.env)):=by rw[dY]
 rw[e]
 refine ab (thn (hc y s σ H _ I h) λ k s1 ⟨z,C,G⟩=>?_)
 cases k with
 | true=>exact ha y s1 σ z Q C G
 | false=>exact hb y s1 σ z Q C G
theorem bK1 {mc F C:kU->kR->kY kS}{Q:Bool->Hp->Prop}(h:TTv Γ (λ ρ s=>lc (mc ρ s) λ k s=>if k then F ρ s else C ρ s) σ H Q):TTv Γ mc σ H λ k z=>if k=true then TTv Γ F σ z Q else TTv Γ C σ z Q:=by
 obtain⟨φ,ρ,s,d,s',E,R,y,q⟩:=h
 obtain⟨c,s1,e1,y⟩:=zB y
 refine⟨φ,ρ,s,c,s1,E,R,e1,λ φ1 z g1 l1 R1=>?_⟩
 cases c with
 | true =>
  rw[if_pos rfl]at y ⊢
  exact⟨φ1,ρ,s1,d,s',E.mono g1 l1,R1,y,q.trans g1 l1⟩
 | false =>
  rw[if_neg aJ]at y ⊢
  exact⟨φ1,ρ,s1,d,s',E.mono g1 l1,R1,y,q.trans g1 l1⟩
section
variable {a b c:lJ} {l r t:Expr} {pos:Pos}
theorem bw6 (G:CG Γ F n X ck)(op:mM)(ha:EvT Γ X l (kW F a))(hb:EvT Γ X r (kW F b)):EvT Γ X (.BinOp l (bP7 op) r pos) (kW F (.bin op a b)) :=
 .val ((bB3 (bI4 G.K op) ha.1 hb.1).imp λ σ H Q q=>bd7 (TEv.eq (λ ρ s=>rfl) q))
theorem bs6 (ha:EvT Γ X l (kW F a)):EvT Γ X (.UnaryOp .USub l pos) (kW F (.neg a)) :=
 .val ((bO8 bF8 ha.1).imp λ σ H Q q=>bP5 (f:=λ x s=>match x with|.int i=>.ok (.int (-i)) s|_=>.bad) (TEv.eq (λ ρ s=>rfl) q) λ φ s x d s' v H' R r y h k=>by
  cases x with
  | int i =>
   cases h
   exact⟨i,r.intE,k.here R rfl RV.intI⟩
  | _=>cases h)
theorem bo0 (ha:EvT Γ X l (kW F a)):EvT Γ X (.UnaryOp .Not l pos) (kW F (.not a)) :=
 ⟨(bJ7 ha.1).imp λ σ H Q q=>bA3 (TEv.eq (λ ρ s=>rfl) q),(bG1 ha.2).imp λ σ H Q q=>bG2 (TTv.eq (λ ρ s=>rfl) q)⟩
theorem bs9 (G:CG Γ F n X ck)(op:mf)(hs:shp r=true)(ha:EvT Γ X l (kW F a))(hb:EvT Γ X r (kW F b)):EvT Γ X (.Compare l [an0 op] [r] pos) (kW F (.cmp op a b)):=by
 have ho:=aN3 (Γ:=Γ) G.K (G.room.mono G.deep) op
 refine⟨(bw1 ho ha.1 hb.1 (ak4 hs)).imp λ σ H Q q=>bd7 (TEv.eq (λ ρ s=>rfl) q),(bl6 ho ha.1 hb.1 (ak4 hs)).imp λ σ H Q q=>?_⟩
 have q:=aT9 q
 exact bd7 (TEv.eq (λ ρ s=>rfl) q)
theorem aQ5 (G:CG Γ F n X ck)(o p:mf)(z:shp t=true)(ha:EvT Γ X l (kW F a))(hb:EvT Γ X r (kW F b))(hc:EvT Γ X t (kW F c)):EvT Γ X (.Compare l [an0 o,an0 p] [r,t] pos) (kW F (.chain o p a b c)):=by
 have ho:=aN3 (Γ:=Γ) G.K (G.room.mono G.deep) o
 have h:=aN3 (Γ:=Γ) G.K (G.room.mono G.deep) p
 have y:kz [an0 o,an0 p] [r,t]=false:=by
  show cR (an0 p) t=false
  exact ak4 z
 refine⟨(aX7 ho h ha.1 hb.1 hc.1 y).imp λ σ H Q q=>aJ3 (TEv.eq (λ ρ s=>rfl) q),(aY8 ho h ha.1 hb.1 hc.1 y).imp λ σ H Q q=>?_⟩
 have q:=aT9 q
 exact aJ3 (TEv.eq (λ ρ s=>rfl) q)
theorem RV.nonIff {φ:Nat->Addr}{x:kS}{v:V}(r:RV Γ φ H x v):decide (v=.non)=decide (x=.non):=by
 cases x with
 | non=>rw[r.nonE];rfl
 | bl b=>rw[r.blE];rfl
 | int i=>rw[r.intE];rfl
 | str z=>rw[r.strE];rfl
 | tup l=>obtain⟨a,h,rfl,_⟩:=r.tupE;rfl
 | ref k=>rw[r.refE];rfl
 | fn f=>unfold RV at r;obtain⟨a,_,rfl⟩:=r;rfl
 | clo f cs=>unfold RV at r;obtain⟨f,_,_,_,rfl,_⟩:=r;rfl
theorem bm8 {j pos'}(ha:EvT Γ X l (kW F a)):EvT Γ X (.Compare l [.Is] [.Constant .none j pos'] pos) (kW F (.isN a)):=by
 have key:∀ σ H Q,TEv Γ (kW F (.isN a)) σ H Q->bW7 (TEv Γ (kW F a)) σ H Q:=λ σ H Q q=>by
  obtain⟨φ,ρ,s,d,s',E,R,h,k⟩:=q
  obtain⟨x,s1,e1,h⟩:=aa0 h
  cases h
  refine⟨φ,ρ,s,x,_,E,R,e1,λ v φ1 y g1 l1 z r1 R1=>?_⟩
  show Q (.bl (decide (v=.non))) y
  rw[r1.nonIff]
  exact k _ φ1 y g1 l1 rfl RV.blI R1
 exact⟨(bi7 (bj5 ha.1)).imp key,(bl1 (bj5 ha.1)).imp λ σ H Q q=>key _ _ _ (aH8 q)⟩
theorem bg2 {j pos'}(ha:EvT Γ X l (kW F a)):EvT Γ X (.Compare l [.IsNot] [.Constant .none j pos'] pos) (kW F (.notN a)):=by
 have key:∀ σ H Q,TEv Γ (kW F (.notN a)) σ H Q->bI8 (TEv Γ (kW F a)) σ H Q:=λ σ H Q q=>by
  obtain⟨φ,ρ,s,d,s',E,R,h,k⟩:=q
  obtain⟨x,s1,e1,h⟩:=aa0 h
  cases h
  refine⟨φ,ρ,s,x,_,E,R,e1,λ v φ1 y g1 l1 z r1 R1=>?_⟩
  show Q (.bl (!decide (v=.non))) y
  rw[r1.nonIff]
  exact k _ φ1 y g1 l1 rfl RV.blI R1
 exact⟨(bi7 (aR9 ha.1)).imp key,(bl1 (aR9 ha.1)).imp λ σ H Q q=>key _ _ _ (aH8 q)⟩
theorem aO0 {op:BoolOp}{es:List Expr}{t:TT}(h:PT X (.BoolOp op es pos) t):PW X (.BoolOp op es pos) t:=by
 intro z y s σ H Q I q
 have:=h y s σ H Q I q
 have e:∀ w,dY (.BoolOp op es pos) X.env w=allTrue op es X.env:=λ w=>by rw[dY]
 rw[e]at this ⊢
 exact this
theorem bm6 (ha:EvT Γ X l (kW F a))(hb:EvT Γ X r (kW F b)):EvT Γ X (.BoolOp .And [l,r] pos) (kW F (.and a b)) :=
 ⟨(bj9 ha.1 (bk7 hb.1)).imp λ σ H Q q=>bl5 (TEv.eq (λ ρ s=>rfl) q),(bh4 ha.2 (br9 hb.2)).pt.imp λ σ H Q q=>bj8 (TTv.eq (λ ρ s=>rfl) q)⟩
theorem bl7 {es:List Expr}(ha:EvT Γ X l (kW F a))(hb:EvT Γ X (.BoolOp .And (r::es) pos) (kW F b)):EvT Γ X (.BoolOp .And (l::r::es) pos) (kW F (.and a b)) :=
 ⟨(bj9 ha.1 hb.1).imp λ σ H Q q=>bl5 (TEv.eq (λ ρ s=>rfl) q),(bh4 ha.2 (aO0 hb.2)).pt.imp λ σ H Q q=>bj8 (TTv.eq (λ ρ s=>rfl) q)⟩
theorem bF2 (ha:EvT Γ X l (kW F a))(hb:EvT Γ X r (kW F b)):EvT Γ X (.BoolOp .Or [l,r] pos) (kW F (.or a b)) :=
 ⟨(bE4 ha.1 (bk7 hb.1)).imp λ σ H Q q=>bF1 (TEv.eq (λ ρ s=>rfl) q),(bK9 ha.2 (bH6 hb.2)).pt.imp λ σ H Q q=>bE3 (TTv.eq (λ ρ s=>rfl) q)⟩
theorem bz7 {es:List Expr}(ha:EvT Γ X l (kW F a))(hb:EvT Γ X (.BoolOp .Or (r::es) pos) (kW F b)):EvT Γ X (.BoolOp .Or (l::r::es) pos) (kW F (.or a b)) :=
 ⟨(bE4 ha.1 hb.1).imp λ σ H Q q=>bF1 (TEv.eq (λ ρ s=>rfl) q),(bK9 ha.2 (aO0 hb.2)).pt.imp λ σ H Q q=>bE3 (TTv.eq (λ ρ s=>rfl) q)⟩
theorem bp4 (hc:EvT Γ X t (kW F c))(ha:EvT Γ X l (kW F a))(hb:EvT Γ X r (kW F b)):EvT Γ X (.IfExp t l r pos) (kW F (.ite c a b)) :=
 ⟨(aY2 hc.2 ha.1 hb.1).imp λ σ H Q q=>bB8 (TEv.eq (λ ρ s=>rfl) q),(be8 hc.2 ha.2 hb.2).imp λ σ H Q q=>bK1 (TTv.eq (λ ρ s=>rfl) q)⟩
theorem bz1 (G:CG Γ F n X ck)(hs:shp r=true)(ha:EvT Γ X l (kW F a))(hb:EvT Γ X r (kW F b)):EvT Γ X (.Subscript l r pos) (kW F (.ix a b)) :=
 .val ((bP0 (bO0 G.K (aB1 G.room)) ha.1 hb.1 (aK6 hs)).imp λ σ H Q q=>bd7 (TEv.eq (λ ρ s=>rfl) q))
theorem bu9 {h:Pos}(G:CG Γ F n X ck)(ha:EvT Γ X l (kW F a))(hb:EvT Γ X r (kW F b)):EvT Γ X (.Subscript l (.Slice (some r) none none h) pos) (kW F (.slL a b)) :=
 .val ((aJ1 (bE6 G.K) ha.1 (aV8 hb.1) aS0).imp λ σ H Q q=>(bG8 (mh:=kW F b)).1 (TEv.eq (λ ρ s=>rfl) q))
theorem bm4 {h:Pos}(G:CG Γ F n X ck)(ha:EvT Γ X l (kW F a))(hb:EvT Γ X r (kW F b)):EvT Γ X (.Subscript l (.Slice none (some r) none h) pos) (kW F (.slU a b)) :=
 .val ((aJ1 (bE6 G.K) ha.1 aS0 (aV8 hb.1)).imp λ σ H Q q=>(bG8 (ml:=kW F b)).2.1 (TEv.eq (λ ρ s=>rfl) q))
end
end
section
variable {Γ:Gm} {F:lz} {n:Nat} {X:Cx} {ck:Ck} {σ:St} {H:Hp} {Q:VK}
theorem as0:∀ {es:lx} {ρ:kU} {s s':kR} {l:List kS} {y:List Expr} {z:Ck},lA F es ρ s=.ok l s'->mEs z es y=true->l.length=y.length
 | .nil,ρ,s,s',l,y,z,h,m=>by
  cases h
  cases y with
  | nil=>rfl
  | cons _ _=>rw[mEs]at m<;>first|cases m|(intros;simp_all)
 | .cons e es,ρ,s,s',l,y,z,h,m=>by
  obtain⟨d,s1,e1,h⟩:=aa0 h
  obtain⟨r,s2,e2,h⟩:=aa0 h
  cases h
  cases y with
  | nil=>rw[mEs]at m<;>first|cases m|(intros;simp_all)
  | cons x y =>
   rw[mEs,aj]at m
   rw[aW,aW,as0 e2 m.2]
theorem ar7:∀ {es:lx} {z:List Expr},mEs ck es z=true->∀ x∈z,shp x=true
 | .nil,[],_,x,hx=>by cases hx
 | .nil,_::_,m,_,_=>by rw[mEs]at m<;>first|cases m|(intros;simp_all)
 | .cons e es,[],m,x,hx=>by cases hx
 | .cons e es,y::z,m,x,hx=>by
  rw[mEs,aj,aj]at m
  rcases aE.mp hx with h|h
  ·rw[h];exact m.1.2
  ·exact ar7 m.2 x h
theorem aO5:∀ {es:lP} {z:List Expr},mAs ck es z=true->∀ x∈z,shp x=true
 | .nil,[],_,x,hx=>by cases hx
 | .nil,_::_,m,_,_=>by rw[mAs]at m<;>first|cases m|(intros;simp_all)
 | .ex e es,[],m,x,hx=>by cases hx
 | .lam _ _ _,_,m,_,_=>by rw[mAs]at m<;>first|cases m|(intros;simp_all)
 | .fn _ _,_,m,_,_=>by rw[mAs]at m<;>first|cases m|(intros;simp_all)
 | .ex e es,y::z,m,x,hx=>by
  rw[mAs,aj,aj]at m
  rcases aE.mp hx with h|h
  ·rw[h];exact m.1.2
  ·exact aO5 m.2 x h
theorem aG0 {e:lJ}{x:Expr}{h:List Expr}{y:kU->kR->kY (List kS)}(hs:shp x=true)(z:PE X x (TEv Γ (kW F e)))(C:PA X h (TAv Γ y)) :
  PA X (x::h) (TAv Γ (λ ρ s=>(kW F e ρ s).bind λ d s=>(y ρ s).bind λ l s=>.ok (d::l) s)) :=
 (zD z C (zd hs)).imp λ σ H Q q=>bt0 q
theorem aF4 {k:Nat}(h:k<=1000):k<=aF:=by rw[cZ];omega
theorem bv3 {es:lx}{y:List Expr}{k:Nat}{pos:Pos}(m:mEs ck es y=true)(hz:y.length<=1000)(h:PA X y (TAv Γ (lA F es))):EvT Γ X (.Tuple y k pos) (kW F (.tup es)) :=
 .val ((bj3 h).imp λ σ H Q q=>tv_tup' hz m q)
where
 tv_tup' {es:lx} {y:List Expr} {σ:St} {H:Hp} {Q:VK} (hz:y.length<=1000) (m:mEs ck es y=true) (q:TEv Γ (kW F (.tup es)) σ H Q):bT3 (TAv Γ (lA F es)) σ H Q:=by
  obtain⟨φ,ρ,s,d,s',E,R,z,q⟩:=q
  obtain⟨l,s1,e1,z⟩:=aa0 z
  cases z
  refine⟨φ,ρ,s,l,_,E,R,e1,λ vs φ1 J g1 l1 G r1 R1=>⟨by rw[r1.length,as0 e1 m];exact aF4 hz,λ p C=>?_⟩⟩
  exact(q.trans g1 l1).tup R1 r1 G C
theorem bu2 {es:lx}{y:List Expr}{pos:Pos}(m:mEs ck es y=true)(hz:y.length<=1000)(h:PA X y (TAv Γ (lA F es))):EvT Γ X (.List y pos) (kW F (.lst es)):=by
 refine .val ((bi6 h).imp λ σ H Q q=>?_)
 obtain⟨φ,ρ,s,d,s',E,R,z,q⟩:=q
 obtain⟨l,s1,e1,z⟩:=aa0 z
 obtain⟨rfl,rfl⟩:=zO z
 refine⟨φ,ρ,s,l,_,E,R,e1,λ vs φ1 J g1 l1 G r1 R1=>⟨by rw[r1.length,as0 e1 m];exact aF4 hz,λ p C=>?_⟩⟩
 exact(q.trans g1 l1).alloc R1 r1 G C
theorem bd9 {f:String}{y:lP}{z:List Expr}{p pos:Pos}(G:CG Γ F n X ck)(hg:ck.gl (f:Str)=true)(m:mAs ck y z=true)(h:PA X z (TAv Γ (lX F y))):EvT Γ X (.Call (.Name (f:Str) p) z [] pos) (kW F (.call f y)):=by
 refine .val ?_
 obtain⟨g1,Y,g3⟩:=G.gl hg
 rcases G.call f with hbad|⟨a,fd,ps,Z,C,hk,hb⟩
 ·intro a1 s σ H Q I q
  obtain⟨φ,ρ,s,d,s',E,R,J,q⟩:=q
  obtain⟨l,s1,e1,J⟩:=aa0 J
  rw[hbad]at J
  cases J
 have key:∀ σ H Q,TEv Γ (kW F (.call f y)) σ H Q->aM6 (spV Γ (F.call f)) [] E0 (TAv Γ (lX F y)) σ H Q:=λ σ H Q q=>by
  have:=aB9 (TEv.eq (m':=λ ρ s=>(lX F y ρ s).bind λ l s=>F.call f l s) (λ ρ s=>rfl) q)
  unfold tCB at this
  unfold aM6 spV
  simpa only[bq]using this
 cases z with
 | nil =>
  have h0:PE X (.Call (.Name (f:Str) p) [] [] pos) (aM6 (spV Γ (F.call f)) [] E0 aX1):=bb9 Z G.room g1 C hk hb .nil bF9 Y
  cases y with
  | nil =>
   refine h0.imp λ σ H Q q=>?_
   have q1:=key σ H Q q
   unfold aM6 at q1 ⊢
   exact aG4 (TAv.eq (λ ρ s=>rfl) q1)
  | _=>rw[mAs]at m<;>first|cases m|(intros;simp_all)
 | cons x z =>
  have hs:=aO5 m
  exact(bn2 Z G.room g1 C hk hb .nil bF9 h Y (zd (hs x (aG ..))) (zo λ e he=>hs e (az _ he)).1).imp key
def BiC (Γ:Gm)(X:Cx)(b:lC)(x:Str):Prop:=(∃ id,bo x=some (.builtin id)/\ab9 X (.builtin id) (rCl Γ (mK b)))\/∃ T,bo x=some (.type T)/\ab9 X (.type T) (rCl Γ (mK b))
theorem bz9 (G:CG Γ F n X ck){b:lC}{x:Str}(h:biT b=some x):x∈bNames/\BiC Γ X b x:=by
 cases b<;>first|cases h|skip
 ·exact⟨by decide,.inl ⟨_,bP1,aY7 G.K G.calm (k:=1) rfl⟩⟩
 ·exact⟨by decide,.inl ⟨_,bS4,aY7 G.K G.calm (k:=1) rfl⟩⟩
 ·exact⟨by decide,.inr ⟨_,bz0,bA7⟩⟩
 ·exact⟨by decide,.inl ⟨_,bp7,aY7 G.K G.calm (k:=2) rfl⟩⟩
 ·exact⟨by decide,.inl ⟨_,bO5,aY7 G.K G.calm (k:=2) rfl⟩⟩
theorem bI5 {b:lC}{es:lx}{x:Str}{y:Expr}{z:List Expr}{p pos:Pos}(G:CG Γ F n X ck)(hb:biT b=some x)(hg:ck.gl x=true)(m:mEs ck es (y::z)=true)(h:PA X (y::z) (TAv Γ (lA F es))) :
  EvT Γ X (.Call (.Name x p) (y::z) [] pos) (kW F (.bi b es)):=by
 refine .val ?_
 obtain⟨g1,Z,Y⟩:=G.gl hg
 obtain⟨hm,hc⟩:=bz9 G hb
 have hs:=ar7 m
 have s1:=zd (es:=z) (env:=X.env) (hs y (aG ..))
 have s2:=(zo (env:=X.env) (pos:=pos) λ e he=>hs e (az _ he)).1
 rcases hc with⟨id,C,J⟩|⟨T,C,J⟩
 ·exact(ap8 J g1 (G.bi _ hm) C h Y Z s1 s2).imp λ σ H Q q=>aB9 (TEv.eq (λ ρ s=>rfl) q)
 ·exact(al7 J g1 (G.bi _ hm) C h Y Z s1 s2).imp λ σ H Q q=>aB9 (TEv.eq (λ ρ s=>rfl) q)
theorem bz2 {b:lC}{k:Nat}{t:Str}(h:biK b=some (k,t)):(1<=k/\k<=5)/\t∈bNames/\bo t=some (.type (an2 k))/\mK b=mH (mN k):=by
 cases b<;>cases h
 ·exact⟨by omega,by decide,bz0,rfl⟩
 ·exact⟨by omega,by decide,bI2,rfl⟩
 ·exact⟨by omega,by decide,bQ0,rfl⟩
 ·exact⟨by omega,by decide,aS2,rfl⟩
 ·exact⟨by omega,by decide,bj4,rfl⟩
noncomputable def PEs (Γ:Gm)(F:lz)(X:Cx):lx->List Expr->Prop
 | .nil,[]=>True
 | .cons e es,x::xs=>(shp x=true/\EvT Γ X x (kW F e))/\PEs Γ F X es xs
 | _,_=>False
theorem am2:∀ {es:lx} {y:List Expr},PEs Γ F X es y->PA X y (TAv Γ (lA F es))
 | .nil,[],_=>ad0.imp λ σ H Q q=>aG4 (TAv.eq (λ ρ s=>rfl) q)
 | .nil,_::_,h=>h.elim
 | .cons _ _,[],h=>h.elim
 | .cons e es,x::y,h=>(aG0 h.1.1 h.1.2.1 (am2 h.2)).imp λ σ H Q q=>TAv.eq (λ ρ s=>rfl) q
theorem bt5 {b:lC}{es:lx}{k:Nat}{t:Str}{a:Expr}{p J pos:Pos}(G:CG Γ F n X ck)(hb:biK b=some (k,t))(hg:ck.gl "isinstance"=true)(z:ck.gl t=true)(h:PEs Γ F X es [a]) :
  EvT Γ X (.Call (.Name "isinstance" p) [a,.Name t J] [] pos) (kW F (.bi b es)):=by
 refine .val ?_
 obtain⟨g1,g2,Z⟩:=G.gl hg
 obtain⟨t1,t2,t3⟩:=G.gl z
 obtain⟨hk,y,hv,C⟩:=bz2 hb
 have Y:PE X (.Name t J) (tC (.ty (an2 k))):=br4 t1 (G.bi _ y) hv rfl t3 t2
 cases es with
 | nil=>exact h.elim
 | cons e es =>
  cases es with
  | cons _ _=>exact h.2.elim
  | nil =>
   obtain⟨⟨hs,ha,_⟩,_⟩:=h
   have hA:PA X [a,.Name t J] (an1 (TEv Γ (kW F e)) (an1 (tC (.ty (an2 k))) aX1)):=zD ha (zD Y ad0 (zd rfl)) (zd hs)
   refine(ap8 (bE9 G.K hk) g1 (G.bi _ (by decide)) au1 hA Z g2 (zd hs) (zo λ e he=>by rw[aU.mp he];rfl).1).imp λ σ H Q q=>?_
   obtain⟨φ,ρ,s,d,s',E,R,y,q⟩:=q
   obtain⟨l,s1,e1,y⟩:=aa0 y
   obtain⟨x,s2,e2,e1⟩:=aa0 e1
   obtain⟨l2,s3,e3,e1⟩:=aa0 e1
   cases e3
   cases e1
   rw[C]at y
   refine⟨φ,ρ,s,x,_,E,R,e2,λ v φ1 H1 g1 l1 b1 r1 R1=>?_⟩
   exact⟨v,rfl,φ1,_,[x],d,s',R1,.cons r1 .nil,by unfold kT;rw[b1];rfl,y,q.trans g1 l1⟩
end
section
variable {Γ:Gm} {F:lz} {n:Nat} {X:Cx} {ck:Ck} {σ:St} {H:Hp}
def TAp (Γ:Gm)(cells:List (Str×Addr))(N:List Str)(m:kU->kR->kY (List kS)):TA:=λ σ H Q=>∃ φ ρ s l s',RE Γ φ H s.length ρ σ/\Rp Γ φ H s/\m ρ s=.ok l s' /\
 ∀ vs φ' H',Gr φ s H φ' s' H'->s.length<=s'.length->kT s'.length l=true->PVL Γ cells N σ φ' H' l vs->Rp Γ φ' H' s'->Q vs H'
theorem TAp.eq {cells:List (Str×Addr)}{N:List Str}{m m':kU->kR->kY (List kS)}{Q:List V->Hp->Prop}(e:∀ ρ s,m ρ s=m' ρ s)(q:TAp Γ cells N m σ H Q):TAp Γ cells N m' σ H Q:=by
 obtain⟨φ,ρ,s,l,s',E,R,h,q⟩:=q
 exact⟨φ,ρ,s,l,s',E,R,by rw[<-e];exact h,q⟩
theorem bq5 {cells:List (Str×Addr)}{N:List Str}{Q:List V->Hp->Prop}(h:TAp Γ cells N (λ ρ s=>.ok [] s) σ H Q):aX1 σ H Q:=by
 obtain⟨φ,ρ,s,l,s',E,R,y,q⟩:=h
 cases y
 exact q [] φ H (Gr.refl _ _ _) (ak _) rfl .nil R
theorem bL2 {cells:List (Str×Addr)}{N:List Str}{m:kU->kR->kY kS}{F:kU->kR->kY (List kS)}{Q:List V->Hp->Prop}(h:TAp Γ cells N (λ ρ s=>(m ρ s).bind λ d s=>(F ρ s).bind λ l s=>.ok (d::l) s) σ H Q):an1 (TEv Γ m) (TAp Γ cells N F) σ H Q:=by
 obtain⟨φ,ρ,s,l,s',E,R,z,q⟩:=h
 obtain⟨x,s1,e1,z⟩:=aa0 z
 obtain⟨y,s2,e2,z⟩:=aa0 z
 cases z
 refine⟨φ,ρ,s,x,s1,E,R,e1,λ v φ1 H1 g1 l1 J r1 R1=>?_⟩
 refine⟨φ1,ρ,s1,y,s',E.mono g1 l1,R1,e2,λ vs φ2 H2 C G Z Y R2=>?_⟩
 exact q (v::vs) φ2 H2 (g1.trans C l1) (am l1 G) (by unfold kT;rw[zm G x J,Z];rfl) (.cons (PVp.mono C J (.inl r1)) Y) R2
theorem al8 {ρ:kU}:∀ {is:List Nat} {cs:List kS},lB ρ is=some cs->cs.length=is.length/\∀(i j:Nat),is[i]?=some j->∃ d,cs[i]?=some d/\ρ[j]?=some (some d)
 | [],cs,h=>by cases h;exact⟨rfl,λ i j e=>by cases e⟩
 | k::is,cs,h=>by
  unfold lB at h
  cases e:ρ[k]? with
  | none=>rw[e]at h;cases h
  | some o =>
   cases o with
   | none=>rw[e]at h;cases h
   | some d =>
    cases e2:lB ρ is with
    | none=>rw[e,e2]at h;cases h
    | some l =>
     rw[e,e2]at h
     cases h
     obtain⟨z,C⟩:=al8 e2
     refine⟨by rw[aW,aW,z],λ i j y=>?_⟩
     cases i with
     | zero=>cases y;exact⟨d,rfl,e⟩
     | succ i=>exact C i j y
theorem aT1 {φ:Nat->Addr}{s:kR}{ρ:kU}(E:RE Γ φ H s.length ρ σ):∀ {is:List Nat} {cs:List kS},lB ρ is=some cs->∃ cap,RVL Γ φ H cs cap/\kT s.length cs=true/\∀(i j:Nat) (v:V),is[i]?=some j->cap[i]?=some v->σ[j]?=some (some v)
 | [],cs,h=>by cases h;exact⟨[],.nil,rfl,λ i j v e=>by cases e⟩
 | k::is,cs,h=>by
  unfold lB at h
  cases e:ρ[k]? with
  | none=>rw[e]at h;cases h
  | some o =>
   cases o with
   | none=>rw[e]at h;cases h
   | some d =>
    cases e2:lB ρ is with
    | none=>rw[e,e2]at h;cases h
    | some l =>
     rw[e,e2]at h
     cases h
     obtain⟨cap,C,G,h3⟩:=aT1 E e2
     obtain⟨hb,v,F,hv⟩:=E.val k d e
     refine⟨v::cap,.cons hv C,by unfold kT;rw[hb,G];rfl,λ i j w y z=>?_⟩
     cases i with
     | zero=>cases y;cases z;exact F
     | succ i=>exact h3 i j w y z
theorem bD7 {id:String}{h:List Nat}{params:bj}{body:Expr}{scope:Scope}{pos:Pos}{c P:Addr}{J:LamI}{Z:List Expr}{Y:kU->kR->kY (List kS)}(L:LamHere Γ X X.N id h params body scope c P J)(hnm:J.nm=none)(h2:PA X Z (TAp Γ X.env.cells X.N Y)) :
  PA X (.Lambda params body scope pos::Z) (TAp Γ X.env.cells X.N (λ ρ s=>match lB ρ h with|some cs=>(Y ρ s).bind λ l s=>.ok (.clo id cs::l) s|none=>.bad)):=by
 refine(zD (aV4 L.code L.hd L.bm L.ck L.df) h2).imp λ σ H Q q=>?_
 obtain⟨φ,ρ,s,l,s',E,R,z,q⟩:=q
 have z:(match lB ρ h with|some cs=>(Y ρ s).bind λ l s=>DV.R.ok (DV.D.clo id cs::l) s|none=>DV.R.bad)=.ok l s':=z
 cases eg:lB ρ h with
 | none=>rw[eg]at z;exact fb z
 | some cs =>
  rw[eg]at z
  obtain⟨y,s2,e2,z⟩:=aa0 z
  cases z
  obtain⟨cap,F,C,hσ⟩:=aT1 E eg
  have G:=(al8 eg).1
  have hq:J.qual=X.env.qual ++ "<lambda>":=by rw[L.q];unfold LamI.own;rw[hnm]
  rw[<-hq]
  refine bg3 R.tab L.nd L.tab λ f H' e st tb hf ho=>?_
  obtain⟨g1,R1⟩:=R.sameT e st tb
  refine⟨φ,ρ,s,y,s',E.mono g1 (ak _),R1,e2,λ vs φ2 H2 g2 l2 b2 r2 R2=>?_⟩
  refine q (.ref f::vs) φ2 H2 (g1.trans g2 (ak _)) l2 (by unfold kT kX;rw[aa3 l2 cs C,b2];rfl) (.cons ?_ r2) R2
  have p1:PVp Γ X.env.cells X.N σ φ H' (.clo id cs) (.ref f):=by
   refine .inr ⟨id,cs,rfl,f,J,rfl,L.lg,by unfold ae7;rw[hnm];dsimp only;rw[L.p,L.b,L.s];exact ho,by rw[G,L.len],by rw[L.s];exact L.cl,cap,RVL.mono g1 cs cap C F,λ i x v e1 e3=>?_⟩
   have hi:i<h.length:=by rw[<-L.len];exact(ac.mp e1).1
   have hj:h[i]?=some h[i]:=ag hi
   exact⟨by rw[L.s];exact L.fr x (aM e1),h[i],L.at_ i _ x hj e1,hσ i _ v hj e3⟩
  exact p1.mono g2 (by unfold kX;exact C)
theorem aP0 {f:String}{ms:kU->kR->kY (List kS)}{e:Expr}{es:List Expr}{p pos:Pos}(G:CG Γ F n X ck)(hg:ck.gl (f:Str)=true)(J:∀ x,X.fn x=true)(Y:∀ x c,X.env.cells.lookup x=some c->X.env.kindOf x=some .cell\/X.env.kindOf x=some .free)
  (hs:∀ y∈e::es,shp y=true) (h:PA X (e::es) (TAp Γ X.env.cells X.N ms)) :
  PE X (.Call (.Name (f:Str) p) (e::es) [] pos) (TEv Γ (λ ρ s=>(ms ρ s).bind λ l s=>(F.call f l s).bind λ d s'=>if(d.ncl&&s'.all mP)=true then .ok d s' else .bad)):=by
 obtain⟨g1,g2,g3⟩:=G.gl hg
 rcases G.call f with hb|⟨a,fd,ps,hF,Z,hk,hB⟩
 ·intro a1 s σ H Q I q
  obtain⟨φ,ρ,s,d,s',E,R,z,q⟩:=q
  obtain⟨l,s1,e1,z⟩:=aa0 z
  rw[hb]at z;exact fb z
 ·refine(aF8 hF G.room g1 Z hk hB J h g2 (zd (hs e (aG ..))) (zo λ y hy=>hs y (az _ hy)).1).imp λ σ H Q q=>?_
  obtain⟨φ,ρ,s,d,s',E,R,z,q⟩:=q
  obtain⟨l,s1,e1,z⟩:=aa0 z
  obtain⟨d2,s2,e2,z⟩:=aa0 z
  split at z
  case isFalse=>exact fb z
  rename_i hn
  cases z
  rw[aj]at hn
  refine⟨φ,ρ,s,l,s1,E,R,e1,λ vs φ1 H1 gg l1 b1 r1 R1=>λ H2 C=>?_⟩
  obtain⟨gs,R2⟩:=R1.same C.same
  refine⟨φ1,s1,l,d,s',R2,r1.caught C Y b1,b1,e2,λ v φ' H3 g' l' b' r' R'=>?_⟩
  have hc:Cells X.env.cells H3:=C.cells.kp g'.w.kp
  exact q v φ' (ab1 X.env.cells H3) (gg.trans (Gr.caught C g') l1) (am l1 l') b' (RV.dropC hc d v hn.1 r') (R'.dropC hc hn.2)
theorem aU9 {i:Nat}{x:Str}{es:lx}{e:Expr}{xs:List Expr}{p pos:Pos}(G:CG Γ F n X ck)(hv:ck.var i x=true)(hs:∀ y∈e::xs,shp y=true)(h:PA X (e::xs) (TAv Γ (lA F es)))(Z:PE X (.Name x p) (aX4 i)) :
  PE X (.Call (.Name x p) (e::xs) [] pos) (TEv Γ (kW F (.callV i es))):=by
 refine(aZ8 rfl rfl rfl rfl rfl G.room Z h (zd (hs e (aG ..))) (zo λ y hy=>hs y (az _ hy)).1).imp λ σ H Q q=>?_
 obtain⟨φ,ρ,s,d,s',E,R,z,q⟩:=q
 have z:((lA F es ρ s).bind λ l s=>match ρ[i]? with
  | some (some (.fn f))=>F.call f l s
  | some (some (.clo id cs))=>F.lam id cs l s
  | _=>.bad)=.ok d s':=z
 obtain⟨l,s1,e1,z⟩:=aa0 z
 cases eρ:ρ[i]? with
 | none=>rw[eρ]at z;exact fb z
 | some o =>
  cases o with
  | none=>rw[eρ]at z;exact fb z
  | some v0 =>
   obtain⟨hb,v,hσ,rv⟩:=E.val i v0 eρ
   cases v0 with
   | fn f =>
    rw[eρ]at z
    have z:F.call f l s1=.ok d s':=z
    unfold RV at rv
    obtain⟨a,ha,e2⟩:=rv
    subst e2
    obtain⟨h1,h2⟩:=G.fa f a ha
    rcases G.call f with hb|⟨a',fd,ps,hF,a1,hk,hB⟩
    ·rw[hb]at z;exact fb z
    ·rw[h1]at a1
     cases a1
     refine⟨a,hσ,.inr h2,φ,ρ,s,l,s1,E,R,e1,λ vs φ1 H1 g1 l1 b1 r1 R1=>?_⟩
     exact⟨.inr h2,_,_,ClOk.ofFn hF hB,trivial,φ1,s1,l,d,s',R1,r1,b1,z,q.trans g1 l1⟩
   | clo id cs =>
    rw[eρ]at z
    have z:F.lam id cs l s1=.ok d s':=z
    unfold RV at rv
    unfold kX at hb
    obtain⟨f,cap,J,C,e2,a3,hat,a4,a2⟩:=rv
    subst e2
    have fin:∀ H',CloAt H' f J cap C->bm7 X.K H' f:=λ H' h'=>h'.fn
    refine⟨f,hσ,fin H hat,φ,ρ,s,l,s1,E,R,e1,λ vs φ1 H1 g1 l1 b1 r1 R1=>?_⟩
    have Y:=hat.kp g1.w.kp
    exact⟨fin H1 Y,_,_,G.cl id J f cap C a3 a4,Y,φ1,s1,cs,l,d,s',R1,r1,RVL.mono g1 cs cap hb a2,b1,aa3 l1 cs hb,z,q.trans g1 l1⟩
   | _=>rw[eρ]at z;exact fb z
end
section
variable {Γ:Gm} {F:lz} {n:Nat} {X:Cx} {ck:Ck} {σ:St} {H:Hp} {Q:VK}
def bX4 (K:ae)(H:Hp)(v:V)(ys:List V)(z:Bool):Prop:=(∃ a,v=.ref a/\(SqL K H a ys\/(SqT K H a ys/\(z=true->H a=some (.tup ys)))))\/∃ x:List Nat,v=.str ⟨x.toArray⟩/\x.length<=k6/\ys=sgV x
def TLv (Γ:Gm)(m:kU->kR->kY (List kS)):TE:=λ σ H Q=>∃ φ ρ s l s',RE Γ φ H s.length ρ σ/\Rp Γ φ H s/\m ρ s=.ok l s' /\
 ∀ v ys φ' H',Gr φ s H φ' s' H'->s.length<=s'.length->kT s'.length l=true->bX4 Γ.K H' v ys (k9 l)->RVL Γ φ' H' l ys->Rp Γ φ' H' s'->Q v H'
theorem aH1 {m:kU->kR->kY (List kS)}(h:TLv Γ m σ H Q):TFv Γ m σ H Q:=by
 obtain⟨φ,ρ,s,l,s',E,R,C,q⟩:=h
 exact⟨φ,ρ,s,l,s',E,R,C,λ p ys φ' H' g hl hb y h0 ho r z=>q (.ref p) ys φ' H' g hl hb (.inl ⟨p,rfl,.inl (SqL.of y)⟩) r z⟩
theorem aw2 {φ:Nat->Addr}:∀ x:List Nat,RVL Γ φ H (x.map λ c=>.str [c]) (sgV x)
 | []=>.nil
 | c::x=>.cons (RV.strI (by unfold k6;simp)) (aw2 x)
theorem an6 {k:Nat}:∀ x:List Nat,kT k (x.map λ c=>.str [c])=true
 | []=>rfl
 | c::x=>by rw[aO];unfold kT;rw[an6 x];rfl
theorem bK4 {m:kU->kR->kY kS}(h:TLv Γ (λ ρ s=>(m ρ s).bind λ d s=>DV.bx4 d s) σ H Q):TEv Γ m σ H Q:=by
 obtain⟨φ,ρ,s,l,s',E,R,y,q⟩:=h
 obtain⟨d,s1,e1,y⟩:=aa0 y
 refine⟨φ,ρ,s,d,s1,E,R,e1,λ v φ1 G g1 l1 J r1 R1=>?_⟩
 cases d with
 | tup l' =>
  cases y
  obtain⟨a,z,⟨rfl,z1⟩,C,F⟩:=r1.tupZ
  unfold kX at J
  exact q _ z φ1 G g1 l1 J (.inl ⟨a,rfl,.inr ⟨C,z1⟩⟩) F R1
 | str x =>
  cases y
  exact q v (sgV x) φ1 G g1 l1 (an6 x) (.inr ⟨x,r1.strE,r1.strL,rfl⟩) (aw2 x) R1
 | ref k =>
  have y:(match s1[k]? with
   | some (.lst l)=>DV.R.ok l s1
   | some (.ro l)=>.ok l s1
   | _=>.bad)=.ok l s':=y
  rw[r1.refE]
  cases e:s1[k]? with
  | none=>rw[e]at y;exact fb y
  | some ob =>
   rw[e]at y
   cases ob with
   | lst l' =>
    cases y
    obtain⟨z,C,F⟩:=R1.addr e
    have:=R1.wf k _ e
    unfold kZ at this
    exact q _ z φ1 G g1 l1 this (.inl ⟨_,rfl,.inl (SqL.of C)⟩) F R1
   | ro l' =>
    cases y
    obtain⟨z,C,F⟩:=R1.obj k _ e
    have:=R1.wf k _ e
    unfold kZ at this
    exact q _ z φ1 G g1 l1 this (.inl ⟨_,rfl,.inl C.1⟩) F R1
   | _=>exact fb y
 | _=>exact fb y
theorem TLv.eq {m m':kU->kR->kY (List kS)}(e:∀ ρ s,m ρ s=m' ρ s)(q:TLv Γ m σ H Q):TLv Γ m' σ H Q:=by
 have:m=m':=funext λ ρ=>funext λ s=>e ρ s
 subst this;exact q
theorem aK0 {m:kU->kR->kY (List kS)}{a:Expr}{p pos:Pos}(G:CG Γ F n X ck)(hg:ck.gl "tuple"=true)(hs:shp a=true)(h:PE X a (TLv Γ m)) :
  PE X (.Call (.Name "tuple" p) [a] [] pos) (TEv Γ (λ ρ s=>(m ρ s).bind λ l s=>l7 .tuple l s)):=by
 obtain⟨g1,Y,J⟩:=G.gl hg
 refine(al7 ((aB2 G.K).or (aD9 G.calm)) g1 (G.bi _ (by decide)) aS2 (zD h ad0 (zd hs)) J Y (zd hs) rfl).imp λ σ H Q q=>?_
 obtain⟨φ,ρ,s,d,s',E,R,z,q⟩:=q
 obtain⟨l,s1,e1,z⟩:=aa0 z
 cases z
 refine⟨φ,ρ,s,l,_,E,R,e1,λ v ys φ1 Z g1 l1 C hq r1 R1=>?_⟩
 rcases hq with⟨a,rfl,hq|hq⟩|⟨x,rfl,hx,rfl⟩
 ·exact .inl ⟨a,ys,rfl,.inl ⟨hq,λ p y=>(q.trans g1 l1).tup R1 r1 C y⟩⟩
 ·exact .inl ⟨a,ys,rfl,.inr ⟨hq.1,q _ φ1 Z g1 l1 (by unfold kX;exact C) (RV.tupC hq.1 hq.2 r1) R1⟩⟩
 ·exact .inr ⟨x,rfl,hx,λ p y=>(q.trans g1 l1).tup R1 r1 C y⟩
theorem aR1 {m:kU->kR->kY (List kS)}{a:Expr}{p pos:Pos}(G:CG Γ F n X ck)(hg:ck.gl "list"=true)(hs:shp a=true)(h:PE X a (TLv Γ m)) :
  PE X (.Call (.Name "list" p) [a] [] pos) (TEv Γ (λ ρ s=>(m ρ s).bind λ l s=>l7 .list l s)):=by
 obtain⟨g1,Y,J⟩:=G.gl hg
 refine(al7 ((aK8 G.K).or (aM3 G.calm)) g1 (G.bi _ (by decide)) bj4 (zD h ad0 (zd hs)) J Y (zd hs) rfl).imp λ σ H Q q=>?_
 obtain⟨φ,ρ,s,d,s',E,R,z,q⟩:=q
 obtain⟨l,s1,e1,z⟩:=aa0 z
 obtain⟨rfl,rfl⟩:=zO z
 refine⟨φ,ρ,s,l,_,E,R,e1,λ v ys φ1 Z g1 l1 C hq r1 R1=>?_⟩
 rcases hq with⟨a,rfl,hq⟩|⟨x,rfl,hx,rfl⟩
 ·exact .inl ⟨a,ys,rfl,hq.imp id (·.1),λ p y=>(q.trans g1 l1).alloc R1 r1 C y⟩
 ·exact .inr ⟨x,rfl,hx,λ p y=>(q.trans g1 l1).alloc R1 r1 C y⟩
theorem bC9 {m:kU->kR->kY (List kS)}{k:my}{x:Str}{a:Expr}{p pos:Pos}(G:CG Γ F n X ck)(hk:mkT k=some x)(hg:ck.gl x=true)(hs:shp a=true)(h:PE X a (TLv Γ m)) :
  PE X (.Call (.Name x p) [a] [] pos) (TEv Γ (λ ρ s=>(m ρ s).bind λ l s=>l7 k l s)):=by
 cases k<;>cases hk
 ·exact aK0 G hg hs h
 ·exact aR1 G hg hs h
def FrC (Γ:Gm)(X:Cx)(x:Str)(k:my):Prop:=∃ id r,bo x=some (.builtin id)/\x∈bNames/\ab9 X (.builtin id) r/\∀ φ H s l ys p d s' Q,Rp Γ φ H s->RVL Γ φ H l ys->H p=some (.lst ys)->l7 k l s=.ok d s'->ad5 Γ φ s H d s' Q->r [.ref p] H Q
theorem aG3:∀(l:List Int) (a:Int),(l.foldl min a=a\/l.foldl min a∈l)/\l.foldl min a<=a/\∀ y∈l,l.foldl min a<=y
 | [],a=>⟨.inl rfl,eV _,λ y hy=>by cases hy⟩
 | b::l,a=>by
  obtain⟨C,F,h3⟩:=aG3 l (min a b)
  rw[di]
  refine⟨?_,by omega,λ y hy=>?_⟩
  ·rcases C with h|h
   ·rw[h]
    rcases jz a b with z|z
    ·left;omega
    ·right;rw[show min a b=b by omega];exact aG ..
   ·exact .inr (az _ h)
  ·rcases aE.mp hy with z|z
   ·rw[z];omega
   ·exact h3 y z
theorem aI0 {l:List Int}{m:Int}(h:lQ l=some m):m∈l/\∀ y∈l,m<=y:=by
 cases l with
 | nil=>cases h
 | cons a l =>
  cases h
  obtain⟨C,F,h3⟩:=aG3 l a
  refine⟨?_,λ y hy=>?_⟩
  ·rcases C with h|h
   ·rw[h];exact aG ..
   ·exact az _ h
  ·rcases aE.mp hy with z|z
   ·rw[z];exact F
   ·exact h3 y z
theorem bl9 (G:CG Γ F n X ck){k:my}{x:Str}(hk:mkF k=some x):FrC Γ X x k:=by
 cases k<;>cases hk
 ·refine⟨_,_,bT5,by decide,aP4 G.calm G.K,λ φ H s l ys p d s' Q R r C h q=>?_⟩
  unfold l7 at h
  dsimp only at h
  cases e:lS l with
  | none=>rw[e]at h;exact fb h
  | some bs =>
   rw[e]at h
   cases h
   have:=am3 e
   subst this
   exact⟨p,bs,rfl,SqL.of (by rw[<-r.bls];exact C),q.here R rfl RV.blI⟩
 ·refine⟨_,_,bp7,by decide,aT0 G.calm G.K,λ φ H s l ys p d s' Q R r C h q=>?_⟩
  unfold l7 at h
  dsimp only at h
  cases e:lO l with
  | none=>rw[e]at h;exact fb h
  | some is =>
   rw[e]at h
   have h:(match lQ is with|some m=>DV.R.ok (DV.D.int m) s|none=>.bad)=.ok d s':=h
   cases e2:lQ is with
   | none=>rw[e2]at h;exact fb h
   | some mm =>
    rw[e2]at h
    cases h
    have:=zV e
    subst this
    refine⟨p,is,rfl,SqL.of (by rw[<-r.ints];exact C),(λ(z:is=[])=>by rw[z]at e2;cases e2),λ m h y=>?_⟩
    obtain⟨a,b⟩:=aI0 e2
    have:m=mm:=jT (y mm a) (b m h)
    rw[this]
    exact q.here R rfl RV.intI
theorem bB7 {m:kU->kR->kY (List kS)}{k:my}{x:Str}{a:Expr}{p pos:Pos}(G:CG Γ F n X ck)(hk:mkF k=some x)(hg:ck.gl x=true)(hs:shp a=true)(h:PE X a (TFv Γ m)) :
  PE X (.Call (.Name x p) [a] [] pos) (TEv Γ (λ ρ s=>(m ρ s).bind λ l s=>l7 k l s)):=by
 obtain⟨g1,C,z⟩:=G.gl hg
 obtain⟨id,r,hb,hx,hc,hr⟩:=bl9 (Γ:=Γ) G hk
 refine(ap8 hc g1 (G.bi _ hx) hb (zD h ad0 (zd hs)) z C (zd hs) rfl).imp λ σ H Q q=>?_
 obtain⟨φ,ρ,s,d,s',E,R,y,q⟩:=q
 obtain⟨l,s1,e1,y⟩:=aa0 y
 exact⟨φ,ρ,s,l,_,E,R,e1,λ p ys φ1 Y g1 l1 Z J h0 ho r1 R1=>hr φ1 Y s1 l ys p d s' Q R1 r1 J y (q.trans g1 l1)⟩
theorem bC8 {md:kU->kR->kY (kS)}{ml:kU->kR->kY (List kS)}{a de:Expr}{p pos kp:Pos}(G:CG Γ F n X ck)(hg:ck.gl "min"=true)(hs:shp a=true)(h:PE X a (TFv Γ ml))(hd:PE X de (TEv Γ md)) :
  PE X (.Call (.Name "min" p) [a] [⟨some "default",de,kp⟩] pos) (TEv Γ (λ ρ s=>(ml ρ s).bind λ l s=>(md ρ s).bind λ d s=>DV.mkD .min l d s)):=by
 obtain⟨g1,g2,g3⟩:=G.gl hg
 refine(bq4 rfl G.calm g1 (G.bi _ (by decide)) h hd (zd hs)).imp λ σ H Q q=>?_
 obtain⟨φ,ρ,s,d,s',E,R,C,q⟩:=q
 obtain⟨l,s1,e1,C⟩:=aa0 C
 obtain⟨d0,s2,e2,C⟩:=aa0 C
 refine⟨φ,ρ,s,l,s1,E,R,e1,λ p ys φ1 H1 g1 l1 b1 hp h0 ho r1 R1=>?_⟩
 refine⟨φ1,ρ,s1,d0,s2,E.mono g1 l1,R1,e2,λ v φ2 H2 g2 l2 b2 r2 R2=>?_⟩
 have a1:H2 p=some (.lst ys):=g2.fr p _ hp (by nofun) (λ i ob e mu=>ho i ob e mu)
 unfold DV.mkD at C
 dsimp only at C
 cases e:lO l with
 | none=>rw[e]at C;exact fb C
 | some is =>
  rw[e]at C
  have J:(match lQ is with|some m=>DV.R.ok (DV.D.int m) s2|none=>DV.R.ok d0 s2)=.ok d s':=C
  have:=zV e
  subst this
  have hq:=q.trans (g1.trans g2 l1) (am l1 l2)
  refine⟨p,is,rfl,SqL.of (by rw[<-r1.ints];exact a1),λ z=>?_,λ m Z Y=>?_⟩
  ·subst z
   cases J
   exact hq.here R2 b2 r2
  ·clear e2
   cases e2:lQ is with
   | none =>
    cases is with
    | nil=>cases Z
    | cons _ _=>cases e2
   | some mm =>
    rw[e2]at J
    cases J
    obtain⟨x,y⟩:=aI0 e2
    have:m=mm:=jT (Y mm x) (y m Z)
    rw[this]
    exact hq.here R2 rfl RV.intI
theorem aX5 {φ φ':Nat->Addr}{s s':kR}{H':Hp}{r:Nat}{l:List kS}(R:Rp Γ φ H s)(g:Gr φ s H φ' s' H')(hb:r<s.length)(e:s'[r]?=some (.lst l)):tyV Γ.K "list" (.ref (φ r)) H:=by
 obtain⟨h,y⟩:∃ h,s[r]?=some h:=⟨s[r],ag hb⟩
 have F:=g.mu r h _ y e rfl
 have ho:=R.obj r h y
 cases h with
 | lst l0 =>
  obtain⟨z,C,_⟩:=ho
  exact .inl ⟨rfl,z,SqL.of C⟩
 | ro _=>cases F
 | dic _=>have:=g.kd r _ _ y e;cases this
 | dit _=>have:=g.kd r _ _ y e;cases this
 | ins _ _=>exact ho.elim
def mtR (Γ:Gm)(m:mz):V->List V->Hp->VK->Prop:=λ x vs H Q=>∃ φ s a l d s',Rp Γ φ H s/\RV Γ φ H a x/\RVL Γ φ H l vs/\a.bnd s.length=true/\kT s.length l=true/\mx m a l s=.ok d s'/\ad5 Γ φ s H d s' Q
theorem aO8:k6<aF:=by rw[cZ];decide
theorem aH3 {m:mz}{x:Str}{k:Nat}(y:mtT m=some (x,k)){a:kS}{l:List kS}{s s':kR}{d:kS}(h:mx m a l s=.ok d s'):∃ r l0,a=.ref r/\s[r]?=some (.lst l0):=by
 have go:∀ {r:Nat} {f:List kS->kY kS},(match s[r]? with|some (.lst l)=>f l|_=>.bad)=.ok d s'->∃ l0,s[r]?=some (.lst l0):=λ {r f} h=>by
  cases e:s[r]? with
  | none=>rw[e]at h;exact fb h
  | some ob =>
   cases ob with
   | lst l0=>exact⟨l0,rfl⟩
   | _=>rw[e]at h;exact fb h
 unfold mx at h
 split at h
 ·obtain⟨l0,e⟩:=go h;exact⟨_,l0,rfl,e⟩
 ·obtain⟨l0,e⟩:=go h;exact⟨_,l0,rfl,e⟩
 ·obtain⟨l0,e⟩:=go h;exact⟨_,l0,rfl,e⟩
 ·obtain⟨l0,e⟩:=go h;exact⟨_,l0,rfl,e⟩
 ·obtain⟨l0,e⟩:=go h;exact⟨_,l0,rfl,e⟩
 ·exact fb h
theorem ba1:MtR X "list.append" (mtR Γ .append):=by
 intro F sh σ H x vs v us Q I rx Y h
 obtain⟨φ,s,a,l,d,s',R,ra,rl,ba,bl,C,q⟩:=h
 obtain⟨r,l0,rfl,e⟩:=aH3 (m:=.append) rfl C
 cases l with
 | nil=>exact fb C
 | cons y t =>
  cases t with
  | cons _ _=>exact fb C
  | nil =>
   simp only[mx,e]at C
   split at C
   case isFalse=>exact fb C
   rename_i hlt
   cases C
   obtain⟨z,rfl,rz⟩:=rl.one
   obtain⟨Z,h1,J⟩:=R.addr e
   have G:kT s.length l0=true:=by have:=R.wf r _ e;unfold kZ at this;exact this
   refine aw4 F sh σ H x [z] v us Q I rx Y ⟨φ r,Z,z,ra.refE,rfl,h1,by rw[J.length];have:=aO8;omega,?_⟩
   exact q.put R e (J.append (.cons rz .nil)) (zu G bl) rfl RV.nonI
structure MtOk (Γ:Gm)(X:Cx)(m:mz)(x:Str):Prop where
 ex:∃ id,PySem.Slot "list" x id/\typeOf (.builtin id)=pure (.type "method_descriptor")/\MtR X id (mtR Γ m)
theorem bz5 (z:X.K=Γ.K)(y:Room (lf+1) X.A){m:mz}{x:Str}{k:Nat}(h:mtT m=some (x,k)):MtOk Γ X m x:=by
 cases m<;>cases h
 ·exact⟨_,hX,PySem.F.type_list_append,ba1⟩
theorem bg6 {m:mz}{o:lJ}{es:lx}{ob:Expr}{C:List Expr}{x:Str}{ap cp:Pos}(G:CG Γ F n X ck)(hm:mtT m=some (x,C.length))(hab:aX3 ob=true)(hl:(ap.endLine==cp.line)=true)(ho:PE X ob (TEv Γ (kW F o)))
  (a2:mEs ck es C=true) (h:PEs Γ F X es C):EvT Γ X (.Call (.Attribute ob x ap) C [] cp) (kW F (.meth m o es)):=by
 refine .val ?_
 obtain⟨id,slot,a1,hr⟩:=(bz5 (Γ:=Γ) (X:=X) G.K (G.room.mono G.deep) hm).ex
 have hs:=ar7 a2
 have key:∀ σ H Q,TEv Γ (kW F (.meth m o es)) σ H Q->tBM Γ.K "list" (mtR Γ m) (TEv Γ (kW F o)) (TAv Γ (lA F es)) σ H Q:=λ σ H Q q=>by
  obtain⟨φ,ρ,s,d,s',E,R,z,q⟩:=q
  obtain⟨a,s1,e1,z⟩:=aa0 z
  obtain⟨l,s2,e2,z⟩:=aa0 z
  refine⟨φ,ρ,s,a,s1,E,R,e1,λ v φ1 H1 g1 l1 J r1 R1=>?_⟩
  obtain⟨r,l0,rfl,er⟩:=aH3 hm z
  rw[r1.refE]
  have hk:∀ φ2 H2,Gr φ1 s1 H1 φ2 s2 H2->tyV Γ.K "list" (.ref (φ1 r)) H1:=λ φ2 H2 g2=>aX5 R1 g2 (by unfold kX at J;exact of_decide_eq_true J) er
  have Y:TAv Γ (lA F es) σ H1 λ C H2=>mtR Γ m (.ref (φ1 r)) C H2 Q:=by
   refine⟨φ1,ρ,s1,l,s2,E.mono g1 l1,R1,e2,λ vs φ2 H2 g2 l2 b2 r2 R2=>?_⟩
   refine⟨φ2,s2,.ref r,l,d,s',R2,?_,r2,zm l2 _ J,b2,z,q.trans (g1.trans g2 l1) (am l1 l2)⟩
   have:=RV.mono g2 _ _ J r1
   rw[r1.refE]at this
   exact this
  refine⟨?_,Y⟩
  have hlt:r<s1.length:=by unfold kX at J;exact of_decide_eq_true J
  obtain⟨o0,e0⟩:∃ o0,s1[r]?=some o0:=⟨s1[r],ag hlt⟩
  have Z:=R1.obj r o0 e0
  cases o0 with
  | lst l0 =>
   obtain⟨C,h1,_⟩:=Z
   exact .inl ⟨rfl,C,SqL.of h1⟩
  | ro l0 =>
   obtain⟨C,h1,_⟩:=Z
   exact .inl ⟨rfl,C,h1.1⟩
  | dic _ =>
   obtain⟨o',eo,ek⟩:=DV.af7 G.fk es ρ s1 _ _ e2 r _ e0
   rw[er]at eo;cases eo;cases ek
  | dit _ =>
   obtain⟨o',eo,ek⟩:=DV.af7 G.fk es ρ s1 _ _ e2 r _ e0
   rw[er]at eo;cases eo;cases ek
  | ins _ _=>exact Z.elim
 cases C with
 | nil =>
  have p0:PE X (.Call (.Attribute ob x ap) [] [] cp) (bT4 X.K "list" (mtR Γ m) (TEv Γ (kW F o))):=bi2 cX slot a1 hr ho (ag8 hab) hl
  rw[G.K]at p0
  refine p0.imp λ σ H Q q=>?_
  cases es with
  | cons _ _=>exact h.elim
  | nil =>
   obtain⟨φ,ρ,s,d,s',E,R,z,k⟩:=key σ H Q q
   refine⟨φ,ρ,s,d,s',E,R,z,λ v φ1 H1 g1 l1 J r1 R1=>?_⟩
   obtain⟨h1,h2⟩:=k v φ1 H1 g1 l1 J r1 R1
   exact⟨h1,aG4 (TAv.eq (λ ρ s=>rfl) h2)⟩
 | cons y ys =>
  refine(aW8 G.K cX slot a1 hr ho (am2 h) (ag8 hab) ?_ hl (zd (hs y (aG ..))) (zo λ e he=>hs e (az _ he)).1).imp key
  rw[(zo hs).2]
  have:(y::ys).length<=1:=by
   unfold mtT at hm
   split at hm<;>first|(have:=aw hm;have:=congrArg Prod.snd this;simp at this;simp;omega)|cases hm
  simp only[gj,dX,kG]
  show(true&&decide ((y::ys).length+0+0<30))=true
  rw[gj]
  exact decide_eq_true (by omega)
end
section
variable {Γ:Gm} {F:lz} {n:Nat} {X:Cx} {ck:Ck} {σ:St} {H:Hp} {Q:VK}
theorem bv6 {o:lJ}{m:kU->kR->kY (List kS)}{ob a:Expr}{ap cp:Pos}(G:CG Γ F n X ck)(hab:aX3 ob=true)(hl:(ap.endLine==cp.line)=true)(ho:PE X ob (TEv Γ (kW F o)))(hs:shp a=true)(h:PE X a (TFv Γ m))(Y:∀ ρ s,DV.KR s (m ρ s)) :
  PE X (.Call (.Attribute ob "extend" ap) [a] [] cp) (TEv Γ (λ ρ s=>(kW F o ρ s).bind λ x s=>(m ρ s).bind λ q s=>DV.aZ0 x q s)):=by
 refine(aW8 G.K cX ed gk ay1 ho (zD h ad0 (zd hs)) (ag8 hab) ?_ hl (zd hs) rfl).imp λ σ H Q q=>?_
 ·rw[(zo (es:=[a]) λ e he=>by rw[aU.mp he];exact hs).2];rfl
 ·obtain⟨φ,ρ,s,d,s',E,R,y,q⟩:=q
  obtain⟨x,s1,e1,y⟩:=aa0 y
  obtain⟨l,s2,e2,y⟩:=aa0 y
  refine⟨φ,ρ,s,x,s1,E,R,e1,λ v φ1 H1 g1 l1 b1 r1 R1=>?_⟩
  cases x with
  | ref r =>
   have y:(match s2[r]? with
    | some (.lst m)=>if m.length+l.length<=k6 then DV.R.ok DV.D.non (s2.set r (.lst (m++l)))else .bad
    | _=>.bad)=.ok d s':=y
   cases e:s2[r]? with
   | none=>rw[e]at y;exact fb y
   | some ob' =>
    rw[e]at y
    cases ob' with
    | lst l0 =>
     have y:(if l0.length+l.length<=k6 then DV.R.ok DV.D.non (s2.set r (.lst (l0++l)))else .bad)=.ok d s':=y
     split at y
     case isFalse=>exact fb y
     rename_i a3
     cases y
     have hlt:r<s1.length:=by unfold kX at b1;exact of_decide_eq_true b1
     have a2:tyV Γ.K "list" (.ref (φ1 r)) H1:=by
      obtain⟨o0,e0⟩:∃ o0,s1[r]?=some o0:=⟨s1[r],ag hlt⟩
      have z:=R1.obj r o0 e0
      cases o0 with
      | lst l0 =>
       obtain⟨C,J,_⟩:=z
       exact .inl ⟨rfl,C,SqL.of J⟩
      | ro l0 =>
       obtain⟨C,J,_⟩:=z
       exact .inl ⟨rfl,C,J.1⟩
      | dic _ =>
       obtain⟨o',Z,ek⟩:=Y ρ s1 _ _ e2 r _ e0
       rw[e]at Z;cases Z;cases ek
      | dit _ =>
       obtain⟨o',Z,ek⟩:=Y ρ s1 _ _ e2 r _ e0
       rw[e]at Z;cases Z;cases ek
      | ins _ _=>exact z.elim
     rw[r1.refE]
     refine⟨a2,φ1,ρ,s1,l,s2,E.mono g1 l1,R1,e2,λ p ys φ2 H2 g2 l2 b2 hp h0 ho r2 R2=>?_⟩
     obtain⟨C,J,h2⟩:=R2.addr e
     have a1:kT s2.length l0=true:=by have:=R2.wf r _ e;unfold kZ at this;exact this
     refine⟨φ1 r,p,C,ys,rfl,rfl,by rw[<-g2.w.map r hlt];exact J,hp,by rw[h2.length,r2.length];have:=aO8;omega,?_⟩
     rw[<-g2.w.map r hlt]
     exact(q.trans (g1.trans g2 l1) (am l1 l2)).put R2 e (h2.append r2) (zu a1 b2) rfl RV.nonI
    | _=>exact fb y
  | _=>exact fb y
theorem bp8 {o:lJ}{m:kU->kR->kY kS}{ob a:Expr}{ap cp:Pos}(G:CG Γ F n X ck)(hab:aX3 ob=true)(hl:(ap.endLine==cp.line)=true)(ho:PE X ob (TEv Γ (kW F o)))(hs:shp a=true)(h:PE X a (TEv Γ m))(Z:∀ ρ s,DV.KR s (m ρ s)) :
  PE X (.Call (.Attribute ob "extend" ap) [a] [] cp) (TEv Γ (λ ρ s=>(kW F o ρ s).bind λ x s=>(m ρ s).bind λ q s=>DV.extS x q s)):=by
 refine(aW8 G.K cX ed gk ay1 ho (zD h ad0 (zd hs)) (ag8 hab) ?_ hl (zd hs) rfl).imp λ σ H Q q=>?_
 ·rw[(zo (es:=[a]) λ e he=>by rw[aU.mp he];exact hs).2];rfl
 ·obtain⟨φ,ρ,s,d,s',E,R,y,q⟩:=q
  obtain⟨x,s1,e1,y⟩:=aa0 y
  obtain⟨l,s2,e2,y⟩:=aa0 y
  obtain⟨k,z,rfl,ek,y⟩:∃ k z,l=.ref k/\s2[k]?=some (.lst z)/\DV.aZ0 x z s2=.ok d s':=by
   unfold DV.extS at y
   cases l with
   | ref k =>
    dsimp only at y
    cases e:s2[k]? with
    | none=>rw[e]at y;exact fb y
    | some ob' =>
     rw[e]at y
     cases ob' with
     | lst z=>exact⟨k,z,rfl,e,y⟩
     | _=>exact fb y
   | _=>exact fb y
  refine⟨φ,ρ,s,x,s1,E,R,e1,λ v φ1 H1 g1 l1 b1 r1 R1=>?_⟩
  cases x with
  | ref r =>
   have y:(match s2[r]? with
    | some (.lst m)=>if m.length+z.length<=k6 then DV.R.ok DV.D.non (s2.set r (.lst (m++z)))else .bad
    | _=>.bad)=.ok d s':=y
   cases e:s2[r]? with
   | none=>rw[e]at y;exact fb y
   | some ob' =>
    rw[e]at y
    cases ob' with
    | lst l0 =>
     have y:(if l0.length+z.length<=k6 then DV.R.ok DV.D.non (s2.set r (.lst (l0++z)))else .bad)=.ok d s':=y
     split at y
     case isFalse=>exact fb y
     rename_i a3
     cases y
     have hlt:r<s1.length:=by unfold kX at b1;exact of_decide_eq_true b1
     have a2:tyV Γ.K "list" (.ref (φ1 r)) H1:=by
      obtain⟨o0,e0⟩:∃ o0,s1[r]?=some o0:=⟨s1[r],ag hlt⟩
      have C:=R1.obj r o0 e0
      cases o0 with
      | lst l0 =>
       obtain⟨J,Y,_⟩:=C
       exact .inl ⟨rfl,J,SqL.of Y⟩
      | ro l0 =>
       obtain⟨J,Y,_⟩:=C
       exact .inl ⟨rfl,J,Y.1⟩
      | dic _ =>
       obtain⟨o',eo,ek⟩:=Z ρ s1 _ _ e2 r _ e0
       rw[e]at eo;cases eo;cases ek
      | dit _ =>
       obtain⟨o',eo,ek⟩:=Z ρ s1 _ _ e2 r _ e0
       rw[e]at eo;cases eo;cases ek
      | ins _ _=>exact C.elim
     rw[r1.refE]
     refine⟨a2,φ1,ρ,s1,.ref k,s2,E.mono g1 l1,R1,e2,λ v2 φ2 H2 g2 l2 b2 r2 R2=>?_⟩
     obtain⟨ys,hp,r3⟩:=R2.addr ek
     have bk:kT s2.length z=true:=by have:=R2.wf k _ ek;unfold kZ at this;exact this
     rw[r2.refE]
     obtain⟨J,Y,h2⟩:=R2.addr e
     have a1:kT s2.length l0=true:=by have:=R2.wf r _ e;unfold kZ at this;exact this
     refine⟨φ1 r,φ2 k,J,ys,rfl,rfl,by rw[<-g2.w.map r hlt];exact Y,hp,by rw[h2.length,r3.length];have:=aO8;omega,?_⟩
     rw[<-g2.w.map r hlt]
     exact(q.trans (g1.trans g2 l1) (am l1 l2)).put R2 e (h2.append r3) (zu a1 bk) rfl RV.nonI
    | _=>exact fb y
  | _=>exact fb y
theorem PIf.imp {e:List Expr}{t t':TT}(h:PIf X e t)(i:∀ σ H Q,t' σ H Q->t σ H Q):PIf X e t':=λ y s σ H Q I q=>h y s σ H Q I (i σ H Q q)
structure CompF (Γ:Gm)(X:Cx)(m:kU->kR->kY (List kS))(E:Expr):Prop where
 ex:∃ elt tgt iter ifs scope pos N' caps wi g tc te,E=.ListComp elt [⟨tgt,iter,ifs,0⟩] scope pos/\zG N' caps scope X.N X.env.scope=true/\PI X tgt iter wi /\
  (∀(C:Addr) (cells:List (Str×Addr)) (s:af) (H:Hp) (ex:List Addr),PG (zC X N' scope C cells s H ex) tgt g/\PIf (zC X N' scope C cells s H ex) ifs tc/\PE (zC X N' scope C cells s H ex) elt te) /\
  (∀ x,dz iter X.env x=pure x)/\∀ σ H Q,TFv Γ m σ H Q->tComp caps wi g tc te σ H Q
theorem CompF.pe {m:kU->kR->kY (List kS)}{E:Expr}(h:CompF Γ X m E)(hc:X.calm=true):PE X E (TFv Γ m):=by
 obtain⟨elt,G,iter,ifs,scope,pos,z,y,Z,g,tc,te,rfl,F,J,h3,Y,C⟩:=h.ex
 exact(aC4 z y F J hc h3 Y).imp C
theorem bu4 {tg:lD}{mI:kU->kR->kY lZ}{mc z:kU->kR->kY kS}{h:List (Option Nat)}{elt y iter i:Expr}{scope:Scope}{pos:Pos}(G:CG Γ F n X ck)(hm:aC0 ck tg y iter h scope=true)
  (Y:PI X y iter (TIv Γ mI)) (hc:∀ C cells s H ex,PT (zC X (ckC ck y h scope).N scope C cells s H ex) i (TTv Γ mc)) (Z:∀ C cells s H ex,PE (zC X (ckC ck y h scope).N scope C cells s H ex) elt (TEv Γ z)) :
  CompF Γ X (λ ρ s=>(mI ρ s).bind λ q s0=>if q.its.length<=k6 then lW (λ s=>lI s0 s q.src) (λ d ρ s=>match lr ρ tg d with
   | some ρ=>lc (mc ρ s) λ k s=>if k then(z ρ s).bind λ v s=>.ok (some v,ρ) s else .ok (none,ρ) s
   | none=>.bad) q.its (l6 ρ h) s0 else .bad) (.ListComp elt [⟨y,iter,[i],0⟩] scope pos):=by
 obtain⟨c1,c2,J⟩:=G.comp hm
 exact⟨elt,y,iter,[i],scope,pos,_,h,_,_,_,_,rfl,c1,Y,λ C cells s H ex=>⟨(J C cells s H ex).2,bq9 (hc C cells s H ex),Z C cells s H ex⟩,aA1 c2,λ σ H Q q=>aW0 q⟩
theorem bc3 {tg:lD}{mI:kU->kR->kY lZ}{J:kU->kR->kY kS}{h:List (Option Nat)}{elt y iter:Expr}{scope:Scope}{pos:Pos}(G:CG Γ F n X ck)(z:aC0 ck tg y iter h scope=true)
  (Z:PI X y iter (TIv Γ mI)) (he:∀ C cells s H ex,PE (zC X (ckC ck y h scope).N scope C cells s H ex) elt (TEv Γ J)) :
  CompF Γ X (λ ρ s=>(mI ρ s).bind λ q s0=>if q.its.length<=k6 then lW (λ s=>lI s0 s q.src) (λ d ρ s=>match lr ρ tg d with
   | some ρ=>(J ρ s).bind λ v s=>.ok (some v,ρ) s
   | none=>.bad) q.its (l6 ρ h) s0 else .bad) (.ListComp elt [⟨y,iter,[],0⟩] scope pos):=by
 obtain⟨c1,c2,Y⟩:=G.comp z
 refine⟨elt,y,iter,[],scope,pos,_,h,_,_,TTv Γ (λ ρ s=>.ok (.bl true) s),_,rfl,c1,Z,λ C cells s H ex=>⟨(Y C cells s H ex).2,aQ9.imp λ σ H Q q=>?_,he C cells s H ex⟩,aA1 c2,λ σ H Q q=>aW0 (TFv.eq (λ ρ s=>?_) q)⟩
 ·obtain⟨φ,ρ,s,b,s',E,R,z,q⟩:=q
  cases z
  exact q φ H (Gr.refl _ _ _) (ak _) R
 ·congr 1
theorem bn8 {tg:Expr}{e:lJ}{E:Expr}(G:CG Γ F n X ck)(h:PE X E (TEv Γ (kW F e))):PI X tg E (TIv Γ (mT F (.seq e))):=by
 refine(PI.or (bp0 G.K h) (PI.or (be6 G.K h) (bA2 h))).imp λ σ H R q=>bD0 (TIv.eq (λ ρ s=>rfl) q)
theorem aY4 {tg:Expr}{a:lJ}{l:Expr}{p pos:Pos}(G:CG Γ F n X ck)(hg:ck.gl "range"=true)(hs:shp l=true)(h:PE X l (TEv Γ (kW F a))):PI X tg (.Call (.Name "range" p) [l] [] pos) (TIv Γ (mT F (.rng1 a))) :=
 (aR5 (G.gl hg).1 (G.bi _ (by decide)) (zD h ad0 (zd hs)) (zd hs)).imp λ σ H R q=>bn1 (TIv.eq (λ ρ s=>rfl) q)
theorem bz3 (h:TEv Γ (λ ρ s=>lG (.dic []) s) σ H Q):bh6 σ H Q:=by
 obtain⟨φ,ρ,s,d,s',E,R,C,q⟩:=h
 obtain⟨rfl,rfl⟩:=zO C
 intro p y
 obtain⟨g,z⟩:=R.new (o:=.dic []) (u:=.dK []) y rfl λ φ' H' g e=>⟨[],e,rfl⟩
 exact q (.ref p) _ _ g (by simp) (by unfold kX;simp) (by unfold RV;simp) z
theorem bL6 {mk mv:kU->kR->kY kS}(h:TEv Γ (λ ρ s=>(mk ρ (s++[.dic []])).bind λ kd s1=>(mv ρ s1).bind λ C s2=>if kd.key=true/\s2[s.length]?=some (.dic [])then .ok (.ref s.length) (s2.set s.length (.dic [(kd,C)]))else .bad) σ H Q):bH2 [(TEv Γ mk,TEv Γ mv)] σ H Q:=by
 obtain⟨φ,ρ,s,d,s',E,R,z,q⟩:=h
 obtain⟨kd,s1,e1,z⟩:=aa0 z
 obtain⟨C,s2,e2,z⟩:=aa0 z
 split at z
 case isFalse=>exact fb z
 rename_i hc
 cases z
 intro p hp
 obtain⟨g0,R0⟩:=R.new (o:=.dic []) (u:=.dK []) hp rfl λ φ' H' g e=>⟨[],e,rfl⟩
 have l0:s.length<=(s++[DV.O.dic []]).length:=by simp
 refine⟨_,ρ,s++[DV.O.dic []],kd,s1,E.mono g0 l0,R0,e1,λ v1 φ1 H1 g1 l1 b1 r1 R1=>?_⟩
 refine⟨φ1,ρ,s1,C,s2,(E.mono g0 l0).mono g1 l1,R1,e2,λ F φ2 H2 G Y b2 r2 R2=>?_⟩
 have y:φ2 s.length=p:=by
  rw[G.w.map s.length (ao (by simp) l1),g1.w.map s.length (by simp)];simp
 obtain⟨k,hk⟩:=ai8 hc.1
 have ek:=az8 hk (RV.mono G kd v1 b1 r1)
 obtain⟨J,z1,z2⟩:=R2.obj s.length _ hc.2
 have z2:J=[]:=z2
 subst z2
 rw[y]at z1
 refine⟨z1,[(k,F)],by rw[ek];rfl,by simp,?_⟩
 have hb:(DV.O.dic [(kd,C)]).bnd s2.length=true:=by
  unfold kZ
  simp only[aO,bZ,kT,gi,aj]
  exact⟨zm Y _ b1,b2⟩
 obtain⟨Z,R3⟩:=R2.set (o:=.dic [(kd,C)]) (u:=.dK [(k,F)]) hc.2 rfl hb λ H' g e=>⟨_,e,k,F,[],rfl,hk,RV.monoW g _ _ b2 r2,rfl⟩
 rw[y]at Z R3
 have L:s.length<=s2.length:=am l0 (am l1 Y)
 have lt:s.length<s2.length:=ao (by simp) (am l1 Y)
 exact q (.ref p) _ _ (((g0.trans g1 l0).trans G (am l0 l1)).trans Z L) (by rw[a0];exact L) (by unfold kX;rw[a0];exact decide_eq_true lt) (by unfold RV;rw[y]) R3
theorem bu6 (h:TEv Γ (λ ρ s=>lG (.dit []) s) σ H Q):bj0 σ H Q:=by
 obtain⟨φ,ρ,s,d,s',E,R,C,q⟩:=h
 obtain⟨rfl,rfl⟩:=zO C
 intro p y
 obtain⟨g,z⟩:=R.new (o:=.dit []) (u:=.dT []) y rfl λ φ' H' g e=>⟨[],e,rfl⟩
 exact q (.ref p) _ _ g (by simp) (by unfold kX;simp) (by unfold RV;simp) z
theorem be2 {x y z d:kS}{s s':kR}(h:DV.bh5 x y z s=.ok d s'):∃ r l,x=.ref r/\s[r]?=some (.dit l)/\y.keyT=true/\d=(lw y l).getD z/\s'=s:=by
 unfold DV.bh5 at h
 split at h
 ·split at h
  ·split at h
   ·cases h;exact⟨_,_,rfl,by assumption,by assumption,rfl,rfl⟩
   ·exact fb h
  ·exact fb h
 ·exact fb h
theorem bE0 {o:lv}(h:o.kd=4):∃ l,o=.dit l:=by
 cases o with
 | dit l=>exact⟨l,rfl⟩
 | _=>cases h
theorem ba2 {o k e:lJ}{ob a b:Expr}{ap cp:Pos}(G:CG Γ F n X ck)(hab:aX3 ob=true)(hl:(ap.endLine==cp.line)=true)(s1:shp a=true)(s2:shp b=true)(ho:PE X ob (TEv Γ (kW F o)))(hk:PE X a (TEv Γ (kW F k)))(he:PE X b (TEv Γ (kW F e))) :
  EvT Γ X (.Call (.Attribute ob "get" ap) [a,b] [] cp) (kW F (.get2 o k e)):=by
 have a5:∀ x∈[a,b],shp x=true:=λ x hx=>by
  rcases aE.mp hx with z|z
  ·rw[z];exact s1
  ·rw[aU.mp z];exact s2
 refine .val ((ba6 (aB1 G.room) ho hk he ⟨ag8 hab,by rw[(zo a5).2];rfl,hl,by rw[zd s1,zd s2];rfl⟩).imp λ σ H Q q=>?_)
 obtain⟨φ,ρ,s,d,s',E,R,hm,q⟩:=q
 obtain⟨x,h,e1,C⟩:=aa0 hm
 obtain⟨y,t2,e2,J⟩:=aa0 C
 obtain⟨z,t3,e3,a2⟩:=aa0 J
 clear hm C J
 obtain⟨r,l,rfl,er,hy,rfl,rfl⟩:=be2 a2
 refine⟨φ,ρ,s,_,h,E,R,e1,λ v1 φ1 H1 g1 l1 b1 r1 R1=>?_⟩
 have hlt:r<h.length:=by unfold kX at b1;exact of_decide_eq_true b1
 obtain⟨o1,f1⟩:∃ o1,h[r]?=some o1:=⟨h[r],ag hlt⟩
 obtain⟨o2,f2,k2⟩:=DV.ze G.fk k ρ h _ _ e2 r _ f1
 obtain⟨o3,f3,k3⟩:=DV.ze G.fk e ρ t2 _ _ e3 r _ f2
 rw[er]at f3;cases f3
 obtain⟨l0,rfl⟩:=bE0 (k2.symm.trans k3.symm)
 obtain⟨a4,a1,_⟩:=R1.obj r _ f1
 refine⟨φ1 r,r1.refE,.inr ⟨a4,.inl a1⟩,φ1,ρ,h,y,t2,E.mono g1 l1,R1,e2,λ v2 φ2 H2 g2 l2 b2 r2 R2=>?_⟩
 have G2:=g1.trans g2 l1
 have L2:=am l1 l2
 refine⟨φ2,ρ,t2,z,_,E.mono G2 L2,R2,e3,λ v3 φ3 H3 g3 l3 b3 r3 Z=>?_⟩
 obtain⟨kk,Y⟩:=ae9 hy
 obtain⟨kb,ey,a7⟩:=as3 Y (RV.mono g3 y v2 b2 r2)
 subst ey
 obtain⟨a3,c1,c2⟩:=Z.obj r _ er
 have a6:φ3 r=φ1 r:=by rw[g3.w.map r (ao hlt l2),g2.w.map r hlt]
 rw[a6]at c1
 refine⟨au5 a3 kk,aq2.t c1 a7,?_⟩
 have hq:=q.trans (G2.trans g3 L2) (am L2 l3)
 rcases c2.val keyT_inj Y with⟨q1,q2⟩|⟨e',v',q1,q2,q3,q4⟩
 ·rw[q1]at hq;rw[q2];exact hq.here Z b3 r3
 ·rw[q1]at hq;rw[q2]
  have wf:=Z.wf _ _ er
  unfold kZ at wf
  rw[aj]at wf
  exact hq.here Z (aa2.mp wf.2 _ q4) q3
theorem RVL.ofGet {φ:Nat->Addr}{H:Hp}:∀ {l:List kS} {ys:List V},ys.length=l.length->(∀(i:Nat) (d:kS),l[i]?=some d->∃ x,ys[i]?=some x/\RV Γ φ H d x)->RVL Γ φ H l ys
 | [],ys,h,_=>by rw[bK.mp h];exact .nil
 | d::l,[],h,_=>by cases h
 | d::l,y::ys,h,k=>by
  obtain⟨x,e,r⟩:=k 0 d rfl
  cases e
  exact .cons r (RVL.ofGet (by simpa using h) λ i d e=>k (i+1) d e)
theorem bb4 {x:kS}{s s':kR}{l:List kS}(h:DV.bj7 x s=.ok l s'):∃ r l0,x=.ref r/\s[r]?=some (.dit l0)/\l0.length<=k6/\l=l0.map DV.bR8/\s'=s:=by
 unfold DV.bj7 at h
 split at h
 ·split at h
  ·split at h
   ·cases h;exact⟨_,_,rfl,by assumption,by assumption,rfl,rfl⟩
   ·exact fb h
  ·exact fb h
 ·exact fb h
theorem bJ0 {e:lJ}{q:ItT}(G:CG Γ F n X ck)(hc:bM3 ck q=true)(he:PE X q.ob (TEv Γ (kW F e))):PE X q.text (TFv Γ (mU F (.itm e))):=by
 unfold bM3 at hc
 simp only[aj,eF,decide_eq_true_eq]at hc
 obtain⟨⟨⟨⟨⟨⟨h1,h2⟩,h3⟩,h4⟩,h5⟩,h6⟩,⟨⟨h7,h8⟩,h9⟩,a3⟩:=hc
 refine(bG9 h2 (G.comp h1).1 G.calm h3 h4 he (ag8 h5) h6 h7 h8 h9 a3).imp λ σ H Q h=>?_
 obtain⟨φ,ρ,s,l,s',E,R,hm,k⟩:=h
 obtain⟨d,s1,e1,hm⟩:=aa0 hm
 obtain⟨r,l0,rfl,er,hl,rfl,rfl⟩:=bb4 hm
 refine⟨φ,ρ,s,.ref r,_,E,R,e1,λ v φ1 H1 g1 l1 b1 r1 R1=>?_⟩
 have ev:=r1.refE;subst ev
 obtain⟨y,a1,a2⟩:=R1.obj r _ er
 have J:=a2.length
 refine bG4 (K:=X.K) (σ:=σ) (Q:=λ v H'=>∃ a o y,H' a=some (.frz o (.dT y))/\(∀ o u,H a≠some (.frz o u))/\Q v (upd H' a (.dT y))) a1 (λ kv a5=>by obtain⟨d,hd⟩:=a2.keys kv a5;exact bg8 hd) (by rw[J];exact hl) λ D ys H2 o sm hD a8 hy ha C a6=>?_
 obtain⟨g2,R2⟩:=R1.same sm
 refine⟨φ1 r,o,y,ha,λ o u z=>?_,k D ys φ1 _ (g1.trans g2 l1) l1 ?_ (by rw[za a8];exact hy) ?_ (Off.new R1 hD) (.ofGet (by rw[C,J,au]) λ i d Y=>?_) R2⟩
 ·have:=g1.w.kp _ _ z rfl
  rw[a1]at this;cases this
 ·have wf:=R1.wf r _ er
  unfold kZ at wf
  rw[aj]at wf
  refine aa2.mpr λ d hd=>?_
  obtain⟨p,hp,rfl⟩:=aN.mp hd
  have Z:=aa2.mp wf.1 _ (aP (f:=(·.1)) hp)
  have c2:=aa2.mp wf.2 _ (aP (f:=(·.2)) hp)
  obtain⟨pk,pv⟩:=p
  cases pk with
  | tup ks =>
   show kX _ (.tup (ks++[pv]))=true
   unfold kX at Z ⊢
   exact zu Z (by unfold kT;rw[c2];rfl)
  | _=>rfl
 ·cases z:H D with
  | none=>rfl
  | some o=>exact absurd hD (g1.st D (by rw[z];simp))
 ·rw[aC]at Y
  cases q0:l0[i]? with
  | none=>rw[q0]at Y;cases Y
  | some p =>
   rw[q0]at Y
   cases Y
   obtain⟨pk,pv⟩:=p
   obtain⟨kk,v,Z,c2,c3⟩:=a2.get q0
   have a7:i<ys.length:=by rw[C,J];exact(ac.mp q0).1
   obtain⟨t,t1,t2,t3⟩:=a6 i kk v a7 Z
   obtain⟨ks,rfl,z,a4⟩:=ag0 c2
   have wf:=R1.wf r _ er
   unfold kZ at wf
   rw[aj]at wf
   have hv:=aa2.mp wf.2 _ (aP (f:=(·.2)) (aM q0))
   refine⟨.ref t,t2,?_⟩
   show RV Γ φ1 _ (.tup (ks++[pv])) (.ref t)
   exact RV.tupI (by rw[za (bs2 t3 ha (by nofun))];exact t3) ((aP2 a4 z.2.1).append (.cons (RV.mono g2 _ _ hv c3) .nil))
end
section
variable {Γ:Gm} {F:lz} {n:Nat}
theorem bB1 {X:Cx}{c:DV.Cn}{v:Const}{k:Nat}{pos:Pos}(h:mC c v=true):EvT Γ X (.Constant v k pos) (kW F (.cst c)):=by
 refine .val ?_
 unfold mC at h
 split at h
 ·exact bL7.imp λ σ H Q q=>ay0 (c:=.non) (λ _=>rfl) (λ _ _=>RV.nonI) (TEv.eq (λ ρ s=>rfl) q)
 ·rename_i b c
  have e:=eq_of_beq h
  subst e
  exact bR1.imp λ σ H Q q=>ay0 (c:=.bl b) (λ _=>rfl) (λ _ _=>RV.blI) (TEv.eq (λ ρ s=>rfl) q)
 ·rename_i i j
  have e:=of_decide_eq_true h
  subst e
  exact bL0.imp λ σ H Q q=>ay0 (c:=.int i) (λ _=>rfl) (λ _ _=>RV.intI) (TEv.eq (λ ρ s=>rfl) q)
 ·rename_i x y
  rw[aj]at h
  have e:=of_decide_eq_true h.1
  have e2:=of_decide_eq_true h.2
  subst e
  exact bC5.imp λ σ H Q q=>ay0 (c:=.str x) (λ _=>rfl) (λ _ _=>RV.strI (by unfold k6;omega)) (TEv.eq (λ ρ s=>rfl) q)
 ·cases h
theorem bv1 {X:Cx}{Z:Ck}{es:lx}{y:List Expr}{pos:Pos}(m:mEs Z es y=true)(hz:y.length<=1000)(h:PA X y (TAv Γ (lA F es))):PE X (.List y pos) (TFv Γ (mU F (.disp es))):=by
 refine(bi6 h).imp λ σ H Q q=>?_
 obtain⟨φ,ρ,s,l,s',E,R,G,q⟩:=q
 refine⟨φ,ρ,s,l,s',E,R,G,λ vs φ1 J g1 l1 Y r1 R1=>⟨by rw[r1.length,as0 G m];exact aF4 hz,λ p z=>?_⟩⟩
 obtain⟨C,R2⟩:=R1.same (H':=upd J p (.lst vs)) ((ad8.refl J).new z)
 refine q p vs φ1 _ (g1.trans C l1) l1 Y zb ?_ (Off.new R1 z) (RVL.mono C _ _ Y r1) R2
 cases e:H p with
 | none=>rfl
 | some o=>exact absurd z (g1.st p (by rw[e];simp))
theorem CompF.eq {X:Cx}{m m':kU->kR->kY (List kS)}{E:Expr}(c:CompF Γ X m E)(e:∀ ρ s,m' ρ s=m ρ s):CompF Γ X m' E:=by
 have:m'=m:=funext λ ρ=>funext λ s=>e ρ s
 subst this;exact c
theorem zg {a b:Bool}(h:(a&&b)=true):a=true/\b=true:=by rw[aj]at h;exact h
theorem bn7 {X:Cx}{z:Ck}{g:String}{p:Pos}(G:CG Γ F n X z)(h:z.gl (g:Str)=true):EvT Γ X (.Name (g:Str) p) (kW F (.glob g)):=by
 refine .val ?_
 obtain⟨g1,J,g3⟩:=G.gl h
 cases e:F.con g with
 | none =>
  intro C s σ H Q I q
  obtain⟨φ,ρ,s,d,s',E,R,y,q⟩:=q
  have y:(match F.con g with|some d=>DV.R.ok d s|none=>.bad)=.ok d s':=y
  rw[e]at y
  cases y
 | some d =>
  obtain⟨v,u,Y,Z,h3,h4⟩:=G.con g d e
  exact(br1 g1 Y Z J).imp λ σ H Q q=>ay0 (c:=d) h3 h4 (TEv.eq (λ ρ s=>by show(match F.con g with|some d=>DV.R.ok d s|none=>.bad)=DV.R.ok d s;rw[e]) q)
theorem bH7 {X:Cx}{y:Ck}{i:Nat}{x:Str}{p:Pos}(G:CG Γ F n X y)(h:y.var i x=true):EvT Γ X (.Name x p) (kW F (.var i)):=by
 refine .val ?_
 unfold Ck.var at h
 obtain⟨h,C⟩:=zg h
 obtain⟨h,h3⟩:=zg h
 obtain⟨z,J⟩:=zg h
 have e1:(x==("__debug__":Str))=false:=by simpa using h3
 have e2:(x==("__classdict__":Str))=false:=by simpa using C
 exact(ax7 (by rw[G.N];exact of_decide_eq_true z) (G.vis J) e1 e2).imp λ σ H Q q=>bD9 i (TEv.eq (λ ρ s=>rfl) q)
theorem bj1 {X:Cx}{y:Ck}{i:Nat}{x:Str}{p:Pos}(G:CG Γ F n X y)(h:y.var i x=true):PE X (.Name x p) (aX4 i):=by
 unfold Ck.var at h
 obtain⟨h,C⟩:=zg h
 obtain⟨h,h3⟩:=zg h
 obtain⟨z,J⟩:=zg h
 exact ax7 (by rw[G.N];exact of_decide_eq_true z) (G.vis J) (by simpa using h3) (by simpa using C)
theorem ap9 {G:Ck}:∀ {es:lP} {C:List Expr},by3 G es C=true->∀ x∈C,shp x=true
 | .nil,[],_,x,hx=>by cases hx
 | .nil,_::_,h,_,_=>ff h
 | .ex e es,[],h,_,_=>ff h
 | .ex e es,y::ys,h,x,hx=>by
  obtain⟨h,h3⟩:=zg h
  obtain⟨F,z⟩:=zg h
  rcases aE.mp hx with rfl|hx
  ·exact z
  ·exact ap9 h3 x hx
 | .lam _ _ es,[],h,_,_=>ff h
 | .lam _ _ es,y::ys,h,x,hx=>by
  obtain⟨h,h3⟩:=zg h
  obtain⟨F,z⟩:=zg h
  rcases aE.mp hx with rfl|hx
  ·exact z
  ·exact ap9 h3 x hx
 | .fn _ _,_,h,_,_=>ff h
theorem aF6 {C:Ck}:∀ {es:lP} {F:List Expr},by3 C es F=true->be3 es=true->∃ id z E,C.lk id z E=true
 | .nil,_,_,h=>by cases h
 | .ex e es,[],h,_=>ff h
 | .ex e es,y::ys,h,hl=>by
  obtain⟨h,h3⟩:=zg h
  exact aF6 h3 hl
 | .lam id z es,[],h,_=>ff h
 | .lam id z es,y::ys,h,_=>by
  obtain⟨h,h3⟩:=zg h
  obtain⟨G,J⟩:=zg h
  exact⟨id,z,y,G⟩
 | .fn _ _,_,h,_=>ff h
theorem aJ5 {X:Cx}{E:Expr}{m:kU->kR->kY kS}(h:∀ ρ s,m ρ s=.bad):EvT Γ X E m:=by
 refine⟨λ y s σ H Q I q=>?_,λ y s σ H Q I q=>?_⟩
 ·obtain⟨φ,ρ,s,d,s',E,R,z,q⟩:=q
  rw[h]at z;exact fb z
 ·obtain⟨φ,ρ,s,d,s',E,R,z,q⟩:=q
  rw[h]at z;exact fb z
inductive LK (Γ:Gm)(X:Cx)(m:kU->kR->kY (List kS))(E:Expr)(k:Nat):Prop where
 | c (h:CompF Γ X m E):LK Γ X m E k
 | f (hk:1<=k) (h:PE X E (TFv Γ m)):LK Γ X m E k
 | s (hk:k=2) (h:PE X E (TLv Γ m)):LK Γ X m E k
theorem bH9 {X:Cx}{m:kU->kR->kY (List kS)}{E:Expr}(h:LK Γ X m E 0):CompF Γ X m E:=by
 cases h with
 | c h=>exact h
 | f hk h=>omega
 | s hk h=>omega
theorem bq0 {X:Cx}{y:Ck}{m:kU->kR->kY (List kS)}{E:Expr}(G:CG Γ F n X y)(h:LK Γ X m E 1):PE X E (TFv Γ m):=by
 cases h with
 | c h=>exact h.pe G.calm
 | f hk h=>exact h
 | s hk h=>omega
theorem bT2 {X:Cx}{y:Ck}{m:kU->kR->kY (List kS)}{E:Expr}(G:CG Γ F n X y)(h:LK Γ X m E 2):PE X E (TLv Γ m):=by
 cases h with
 | c h=>exact(h.pe G.calm).imp λ σ H Q q=>aH1 q
 | f hk h=>exact h.imp λ σ H Q q=>aH1 q
 | s hk h=>exact h
theorem biOk_inv {z:Ck}{b:lC}{x:Str}{C:List Expr}{es:lx}(h:bN4 z b x C (mEs z es C) (mEs z es (C.take 1))=true) :
  (∃ k t a y J,biK b=some (k,t)/\C=[a,.Name y J]/\x=("isinstance":Str)/\y=t/\z.gl x=true/\z.gl y=true/\mEs z es [a]=true)\/∃ a ys,C=a::ys/\biT b=some x/\z.gl x=true/\mEs z es (a::ys)=true:=by
 unfold bN4 at h
 cases hk:biK b with
 | none =>
  rw[hk]at h
  cases C with
  | nil=>exact ff h
  | cons a ys =>
   obtain⟨h,h3⟩:=zg h
   obtain⟨F,G⟩:=zg h
   exact .inr ⟨a,ys,rfl,of_decide_eq_true F,G,h3⟩
 | some p =>
  rw[hk]at h
  cases C with
  | nil=>exact ff h
  | cons a ys=>cases ys with
   | nil=>exact ff h
   | cons b ys=>cases b with
    | Name y J=>cases ys with
     | nil =>
      obtain⟨h,Y⟩:=zg h
      obtain⟨h,Z⟩:=zg h
      obtain⟨h,h3⟩:=zg h
      obtain⟨F,G⟩:=zg h
      exact .inl ⟨p.1,p.2,a,y,J,rfl,rfl,of_decide_eq_true F,of_decide_eq_true h3,G,Z,Y⟩
     | cons _ _=>exact ff h
    | _=>exact ff h
theorem bf1 {E:Expr}{q:ItT}(h:bN1 E=some q):E=q.text:=by
 have C:∀ {p:Prop},(none:Option ItT)=some q->p:=λ h=>nomatch h
 cases E with
 | ListComp elt gs sc pos =>
  cases elt with
  | BinOp l op r p4 =>
   cases l with
   | Name x p1 =>
    cases op with
    | Add =>
     cases r with
     | Tuple ts k1 p3 =>
      cases ts with
      | cons t0 ts1 =>
       cases t0 with
       | Name y p2 =>
        cases ts1 with
        | nil =>
         cases gs with
         | cons g gs1 =>
          cases g with
          | mk tgt iter ifs z =>
           cases tgt with
           | Tuple us k2 p7 =>
            cases us with
            | cons u0 us1 =>
             cases u0 with
             | Name x2 p5 =>
              cases us1 with
              | cons u1 us2 =>
               cases u1 with
               | Name y2 p6 =>
                cases us2 with
                | nil =>
                 cases iter with
                 | Call f as kw cp =>
                  cases f with
                  | Attribute ob it ap =>
                   cases as with
                   | nil =>
                    cases kw with
                    | nil =>
                     cases ifs with
                     | nil =>
                      cases gs1 with
                      | nil =>
                       have h:(if x2=x/\y2=y/\it=("items":Str)/\z=0 then some (⟨x,y,ob,sc,p1,p2,p3,p4,p5,p6,p7,k1,k2,ap,cp,pos⟩:ItT)else none)=some q:=h
                       by_cases e:x2=x/\y2=y/\it=("items":Str)/\z=0
                       ·rw[if_pos e]at h;cases h;obtain⟨rfl,rfl,rfl,rfl⟩:=e;rfl
                       ·rw[if_neg e]at h;exact C h
                      | _=>exact C h
                     | _=>exact C h
                    | _=>exact C h
                   | _=>exact C h
                  | _=>exact C h
                 | _=>exact C h
                | _=>exact C h
               | _=>exact C h
              | _=>exact C h
             | _=>exact C h
            | _=>exact C h
           | _=>exact C h
         | _=>exact C h
        | _=>exact C h
       | _=>exact C h
      | _=>exact C h
     | _=>exact C h
    | _=>exact C h
   | _=>exact C h
  | _=>exact C h
 | _=>exact C h
mutual
theorem sE:∀(e:lJ) (E:Expr) (X:Cx) (z:Ck),CG Γ F n X z->mE z e E=true->EvT Γ X E (kW F e)
 | .var i,E,X,z,G,h=>by
  cases E with
  | Name x p =>
   exact bH7 G h
  | _=>exact ff h
 | .cst c,E,X,z,G,h=>by
  cases E with
  | Constant v k p =>
   exact bB1 h
  | _=>exact ff h
 | .glob g,E,X,z,G,h=>by
  cases E with
  | Name x p =>
   obtain⟨J,C⟩:=zg h
   have e:=of_decide_eq_true J
   subst e
   exact bn7 G C
  | _=>exact ff h
 | .bin op a b,E,X,z,G,h=>by
  cases E with
  | BinOp l o r pE =>
   obtain⟨h,h3⟩:=zg h
   obtain⟨J,C⟩:=zg h
   have e:=of_decide_eq_true J
   subst e
   exact bw6 G op (sE a _ X z G C) (sE b _ X z G h3)
  | _=>exact ff h
 | .neg a,E,X,z,G,h=>by
  cases E with
  | UnaryOp o l p =>
   cases o with
   | USub =>
    exact bs6 (sE a _ X z G h)
   | _=>exact ff h
  | _=>exact ff h
 | .not a,E,X,z,G,h=>by
  cases E with
  | UnaryOp o l p =>
   cases o with
   | Not =>
    exact bo0 (sE a _ X z G h)
   | _=>exact ff h
  | _=>exact ff h
 | .cmp op a b,E,X,z,G,h=>by
  cases E with
  | Compare l os rs pE =>
   cases os with
   | cons o os_0 =>
    cases os_0 with
    | nil =>
     cases rs with
     | cons r rs_0 =>
      cases rs_0 with
      | nil =>
       obtain⟨h,h3⟩:=zg h
       obtain⟨J,C⟩:=zg h
       have e:=of_decide_eq_true J
       subst e
       exact bs9 G op (ax8 h3) (sE a _ X z G C) (sE b _ X z G h3)
      | _=>exact ff h
     | _=>exact ff h
    | _=>exact ff h
   | _=>exact ff h
  | _=>exact ff h
 | .chain o p a b c,E,X,z,G,h=>by
  cases E with
  | Compare l os rs pE =>
   cases os with
   | cons o1 os_0 =>
    cases os_0 with
    | cons o2 os_1 =>
     cases os_1 with
     | nil =>
      cases rs with
      | cons m rs_0 =>
       cases rs_0 with
       | cons r rs_1 =>
        cases rs_1 with
        | nil =>
         obtain⟨h,Z⟩:=zg h
         obtain⟨h,Y⟩:=zg h
         obtain⟨h,h3⟩:=zg h
         obtain⟨J,C⟩:=zg h
         have e:=of_decide_eq_true J
         have e':=of_decide_eq_true C
         subst e
         subst e'
         exact aQ5 G o p (ax8 Z) (sE a _ X z G h3) (sE b _ X z G Y) (sE c _ X z G Z)
        | _=>exact ff h
       | _=>exact ff h
      | _=>exact ff h
     | _=>exact ff h
    | _=>exact ff h
   | _=>exact ff h
  | _=>exact ff h
 | .isN a,E,X,z,G,h=>by
  cases E with
  | Compare l os rs pE =>
   cases os with
   | cons o os1 =>
    cases o with
    | Is =>
     cases os1 with
     | nil =>
      cases rs with
      | cons r rs1 =>
       cases r with
       | Constant v k p1 =>
        cases v with
        | none =>
         cases rs1 with
         | nil =>
          exact bm8 (sE a _ X z G h)
         | _=>exact ff h
        | _=>exact ff h
       | _=>exact ff h
      | _=>exact ff h
     | _=>exact ff h
    | _=>exact ff h
   | _=>exact ff h
  | _=>exact ff h
 | .notN a,E,X,z,G,h=>by
  cases E with
  | Compare l os rs pE =>
   cases os with
   | cons o os1 =>
    cases o with
    | IsNot =>
     cases os1 with
     | nil =>
      cases rs with
      | cons r rs1 =>
       cases r with
       | Constant v k p1 =>
        cases v with
        | none =>
         cases rs1 with
         | nil =>
          exact bg2 (sE a _ X z G h)
         | _=>exact ff h
        | _=>exact ff h
       | _=>exact ff h
      | _=>exact ff h
     | _=>exact ff h
    | _=>exact ff h
   | _=>exact ff h
  | _=>exact ff h
 | .isB _ _,E,X,z,G,h=>ff h
 | .notB _ _,E,X,z,G,h=>ff h
 | .and a b,E,X,z,G,h=>by
  cases E with
  | BoolOp op vs p=>cases op with
   | And =>
    cases vs with
    | nil=>exact ff h
    | cons l vs=>cases vs with
     | nil=>exact ff h
     | cons r vs=>cases vs with
      | nil =>
       obtain⟨J,C⟩:=zg h
       exact bm6 (sE a _ X z G J) (sE b _ X z G C)
      | cons r2 vs =>
       obtain⟨J,C⟩:=zg h
       exact bl7 (sE a _ X z G J) (sE b _ X z G C)
   | _=>exact ff h
  | _=>exact ff h
 | .or a b,E,X,z,G,h=>by
  cases E with
  | BoolOp op vs p=>cases op with
   | Or =>
    cases vs with
    | nil=>exact ff h
    | cons l vs=>cases vs with
     | nil=>exact ff h
     | cons r vs=>cases vs with
      | nil =>
       obtain⟨J,C⟩:=zg h
       exact bF2 (sE a _ X z G J) (sE b _ X z G C)
      | cons r2 vs =>
       obtain⟨J,C⟩:=zg h
       exact bz7 (sE a _ X z G J) (sE b _ X z G C)
   | _=>exact ff h
  | _=>exact ff h
 | .ite c a b,E,X,z,G,h=>by
  cases E with
  | IfExp tE l r pE =>
   obtain⟨h,h3⟩:=zg h
   obtain⟨J,C⟩:=zg h
   exact bp4 (sE c _ X z G J) (sE a _ X z G C) (sE b _ X z G h3)
  | _=>exact ff h
 | .tup es,E,X,z,G,h=>by
  cases E with
  | Tuple xs k p =>
   obtain⟨J,C⟩:=zg h
   exact bv3 J (of_decide_eq_true C) (am2 (sEs es _ X z G J))
  | _=>exact ff h
 | .lst es,E,X,z,G,h=>by
  cases E with
  | List xs p =>
   obtain⟨J,C⟩:=zg h
   exact bu2 J (of_decide_eq_true C) (am2 (sEs es _ X z G J))
  | _=>exact ff h
 | .dic .nil .nil,E,X,z,G,h=>by
  cases E with
  | Dict a b p=>cases a with
   | nil=>cases b with
    | nil=>exact .val (bf6.imp λ σ H Q q=>bz3 (TEv.eq (λ ρ s=>rfl) q))
    | _=>exact ff h
   | cons x a=>cases x with
    | none=>exact ff h
    | some x=>cases a with
     | nil=>cases b with
      | nil=>exact ff h
      | cons y b=>cases b with
       | nil=>exact ff h
       | _=>exact ff h
     | _=>exact ff h
  | _=>exact ff h
 | .dic (.cons k .nil) (.cons v .nil),E,X,z,G,h=>by
  cases E with
  | Dict a b p=>cases a with
   | nil=>cases b with
    | nil=>exact ff h
    | _=>exact ff h
   | cons x a=>cases x with
    | none=>exact ff h
    | some x=>cases a with
     | nil=>cases b with
      | nil=>exact ff h
      | cons y b=>cases b with
       | nil =>
        obtain⟨J,C⟩:=zg h
        obtain⟨J,_⟩:=zg J
        obtain⟨J,_⟩:=zg J
        obtain⟨C,_⟩:=zg C
        obtain⟨C,_⟩:=zg C
        exact .val ((br7 (be7 (sE k _ X z G J).1 (sE v _ X z G C).1 bx7) rfl rfl (by nofun) (by show 1<=15;decide)).imp λ σ H Q q=>bL6 (TEv.eq (λ ρ s=>rfl) q))
       | _=>exact ff h
     | _=>exact ff h
  | _=>exact ff h
 | .dic .nil (.cons _ _),E,X,z,G,h=>aJ5 λ _ _=>rfl
 | .dic (.cons _ .nil) .nil,E,X,z,G,h=>aJ5 λ _ _=>rfl
 | .dic (.cons _ .nil) (.cons _ (.cons _ _)),E,X,z,G,h=>aJ5 λ _ _=>rfl
 | .dic (.cons _ (.cons _ _)) _,E,X,z,G,h=>aJ5 λ _ _=>rfl
 | .dicT,E,X,z,G,h=>by
  cases E with
  | Dict a b p=>cases a with
   | nil=>cases b with
    | nil=>exact .val (ba5.imp λ σ H Q q=>bu6 (TEv.eq (λ ρ s=>rfl) q))
    | _=>exact ff h
   | _=>exact ff h
  | _=>exact ff h
 | .get2 o k d,E,X,z,G,h=>by
  cases E with
  | Call fE xs kw cp =>
   cases fE with
   | Attribute ob x ap =>
    cases xs with
    | cons a xs_0 =>
     cases xs_0 with
     | cons b xs_1 =>
      cases xs_1 with
      | nil =>
       cases kw with
       | nil =>
        obtain⟨h,h8⟩:=zg h
        obtain⟨h,h7⟩:=zg h
        obtain⟨h,h6⟩:=zg h
        obtain⟨h,Z⟩:=zg h
        obtain⟨h,Y⟩:=zg h
        obtain⟨h,h3⟩:=zg h
        obtain⟨J,C⟩:=zg h
        have e:=of_decide_eq_true J
        subst e
        exact ba2 G C h3 h7 h8 (sE o _ X z G Y).1 (sE k _ X z G Z).1 (sE d _ X z G h6).1
       | _=>exact ff h
      | _=>exact ff h
     | _=>exact ff h
    | _=>exact ff h
   | _=>exact ff h
  | _=>exact ff h
 | .ix a b,E,X,z,G,h=>by
  cases E with
  | Subscript o i p =>
   obtain⟨J,C⟩:=zg h
   exact bz1 G (ax8 C) (sE a _ X z G J) (sE b _ X z G C)
  | _=>exact ff h
 | .slL a lo,E,X,z,G,h=>by
  cases E with
  | Subscript o i p =>
   cases i with
   | Slice lo hi st p2 =>
    cases lo with
    | some l =>
     cases hi with
     | none =>
      cases st with
      | none =>
       obtain⟨J,C⟩:=zg h
       exact bu9 G (sE a _ X z G J) (sE lo _ X z G C)
      | _=>exact ff h
     | _=>exact ff h
    | _=>exact ff h
   | _=>exact ff h
  | _=>exact ff h
 | .slU a hi,E,X,z,G,h=>by
  cases E with
  | Subscript o i p =>
   cases i with
   | Slice lo hi st p2 =>
    cases lo with
    | none =>
     cases hi with
     | some l =>
      cases st with
      | none =>
       obtain⟨J,C⟩:=zg h
       exact bm4 G (sE a _ X z G J) (sE hi _ X z G C)
      | _=>exact ff h
     | _=>exact ff h
    | _=>exact ff h
   | _=>exact ff h
  | _=>exact ff h
 | .slLU _ _ _,E,X,z,G,h=>ff h
 | .rev _,E,X,z,G,h=>ff h
 | .call f as,E,X,z,G,h=>by
  cases E with
  | Call fE xs kw p =>
   cases fE with
   | Name x pN =>
    cases kw with
    | nil =>
     obtain⟨h,h3⟩:=zg h
     obtain⟨J,C⟩:=zg h
     have e:=of_decide_eq_true J
     subst e
     exact bd9 G C h3 (sAs as _ X z G h3)
    | _=>exact ff h
   | _=>exact ff h
  | _=>exact ff h
 | .callC f as,E,X,z,G,h=>by
  cases E with
  | Call fE xs kw p =>
   cases fE with
   | Name x pN =>
    cases xs with
    | cons y ys =>
     cases kw with
     | nil =>
      obtain⟨h,h3⟩:=zg h
      obtain⟨h,Y⟩:=zg h
      obtain⟨J,C⟩:=zg h
      have e:=of_decide_eq_true J
      subst e
      obtain⟨id,a1,E',a2⟩:=aF6 h3 Y
      obtain⟨_,_,_,_,_,_,_,_,L⟩:=G.lam id a1 E' a2
      exact .val ((aP0 G C L.fn L.kd (ap9 h3) (bO4 as _ X z G h3)).imp λ σ H Q q=>TEv.eq (λ ρ s=>rfl) q)
     | _=>exact ff h
    | _=>exact ff h
   | _=>exact ff h
  | _=>exact ff h
 | .callV i es,E,X,z,G,h=>by
  cases E with
  | Call fE xs kw p =>
   cases fE with
   | Name x pN =>
    cases xs with
    | cons y ys =>
     cases kw with
     | nil =>
      obtain⟨J,C⟩:=zg h
      exact .val (aU9 G J (ar7 C) (am2 (sEs es _ X z G C)) (bj1 G J))
     | _=>exact ff h
    | _=>exact ff h
   | _=>exact ff h
  | _=>exact ff h
 | .bi b es,E,X,z,G,h=>by
  cases E with
  | Call fE xs kw p =>
   cases fE with
   | Name x pN =>
    cases kw with
    | nil =>
     have h:bN4 z b x xs (mEs z es xs) (mEs z es (xs.take 1))=true:=h
     rcases biOk_inv h with⟨k,t,a,y,py,hk,rfl,rfl,rfl,C,Y,Z⟩|⟨a,ys,rfl,J,C,h3⟩
     ·exact bt5 G hk C Y (sEs es _ X z G Z)
     ·exact bI5 G J C h3 (am2 (sEs es _ X z G h3))
    | _=>exact ff h
   | _=>exact ff h
  | _=>exact ff h
 | .mk k l,E,X,z,G,h=>by
  cases E with
  | ListComp e gs sc p =>
   obtain⟨J,C⟩:=zg h
   have e:=of_decide_eq_true J
   subst e
   exact .val (((bH9 (sL l _ X z G 0 C)).pe G.calm).imp λ σ H Q q=>aS1 (TEv.eq (λ ρ s=>rfl) q))
  | Call fE xs kw p =>
   cases fE with
   | Name x pN =>
    cases xs with
    | cons a xs_0 =>
     cases xs_0 with
     | nil =>
      cases kw with
      | nil =>
       obtain⟨h,Y⟩:=zg h
       obtain⟨C,h3⟩:=zg h
       rw[bP]at Y
       rcases Y with Y|Y
       ·obtain⟨Z,h6⟩:=zg Y
        exact .val ((bC9 G (of_decide_eq_true Z) C h3 (bT2 G (sL l _ X z G 2 h6))).imp λ σ H Q q=>TEv.eq (λ ρ s=>rfl) q)
       ·obtain⟨Z,h6⟩:=zg Y
        exact .val ((bB7 G (of_decide_eq_true Z) C h3 (bq0 G (sL l _ X z G 1 h6))).imp λ σ H Q q=>TEv.eq (λ ρ s=>rfl) q)
      | _=>exact ff h
     | _=>exact ff h
    | _=>exact ff h
   | _=>exact ff h
  | _=>exact ff h
 | .mks _ _,E,X,z,G,h=>ff h
 | .mkDs _ _ _,E,X,z,G,h=>ff h
 | .mkD k l d,E,X,z,G,h=>by
  cases E with
  | Call fE xs kw p =>
   cases fE with
   | Name x pN =>
    cases xs with
    | cons a xs_0 =>
     cases xs_0 with
     | nil =>
      cases kw with
      | cons kk kw1 =>
       cases kk with
       | mk ky de kp =>
        cases ky with
        | some y =>
         cases kw1 with
         | nil =>
          obtain⟨h,h7⟩:=zg h
          obtain⟨h,h6⟩:=zg h
          obtain⟨h,Z⟩:=zg h
          obtain⟨h,Y⟩:=zg h
          obtain⟨h,h3⟩:=zg h
          obtain⟨J,C⟩:=zg h
          have e:=of_decide_eq_true J
          have e2:=of_decide_eq_true C
          have e3:=of_decide_eq_true h3
          subst e e2 e3
          exact .val ((bC8 G Y Z (bq0 G (sL l _ X z G 1 h6)) (sE d _ X z G h7).1).imp λ σ H Q q=>TEv.eq (λ ρ s=>rfl) q)
         | _=>exact ff h
        | _=>exact ff h
      | _=>exact ff h
     | _=>exact ff h
    | _=>exact ff h
   | _=>exact ff h
  | _=>exact ff h
 | .meth m o es,E,X,z,G,h=>by
  cases E with
  | Call fE xs kw p =>
   cases fE with
   | Attribute ob x ap =>
    cases kw with
    | nil =>
     obtain⟨h,Z⟩:=zg h
     obtain⟨h,Y⟩:=zg h
     obtain⟨h,h3⟩:=zg h
     obtain⟨J,C⟩:=zg h
     exact bg6 G (of_decide_eq_true J) C h3 (sE o _ X z G Y).1 Z (sEs es _ X z G Z)
    | _=>exact ff h
   | _=>exact ff h
  | _=>exact ff h
 | .ext o l,E,X,z,G,h=>by
  cases E with
  | Call fE xs kw p =>
   cases fE with
   | Attribute ob x ap =>
    cases xs with
    | cons a xs_0 =>
     cases xs_0 with
     | nil =>
      cases kw with
      | nil =>
       obtain⟨h,h6⟩:=zg h
       obtain⟨h,Z⟩:=zg h
       obtain⟨h,Y⟩:=zg h
       obtain⟨h,h3⟩:=zg h
       obtain⟨J,C⟩:=zg h
       have e:=of_decide_eq_true J
       subst e
       exact .val ((bv6 G C h3 (sE o _ X z G Y).1 h6 (bq0 G (sL l _ X z G 1 Z)) (DV.aI3 G.fk l)).imp λ σ H Q q=>TEv.eq (λ ρ s=>rfl) q)
      | _=>exact ff h
     | _=>exact ff h
    | _=>exact ff h
   | _=>exact ff h
  | _=>exact ff h
 | .extS o e',E,X,z,G,h=>by
  cases E with
  | Call fE xs kw p =>
   cases fE with
   | Attribute ob x ap =>
    cases xs with
    | cons a xs_0 =>
     cases xs_0 with
     | nil =>
      cases kw with
      | nil =>
       obtain⟨h,h6⟩:=zg h
       obtain⟨h,Z⟩:=zg h
       obtain⟨h,Y⟩:=zg h
       obtain⟨h,h3⟩:=zg h
       obtain⟨J,C⟩:=zg h
       have e:=of_decide_eq_true J
       subst e
       exact .val ((bp8 G C h3 (sE o _ X z G Y).1 h6 (sE e' _ X z G Z).1 (DV.ze G.fk e')).imp λ σ H Q q=>TEv.eq (λ ρ s=>rfl) q)
      | _=>exact ff h
     | _=>exact ff h
    | _=>exact ff h
   | _=>exact ff h
  | _=>exact ff h
 | .join _ _,E,X,z,G,h=>ff h
theorem sEs:∀(es:lx) (y:List Expr) (X:Cx) (z:Ck),CG Γ F n X z->mEs z es y=true->PEs Γ F X es y
 | .nil,y,X,z,G,h=>by
  cases y with
  | nil =>
   exact trivial
  | _=>exact ff h
 | .cons e es,y,X,z,G,h=>by
  cases y with
  | cons x y =>
   obtain⟨h,h3⟩:=zg h
   obtain⟨C,J⟩:=zg h
   exact⟨⟨J,sE e _ X z G C⟩,sEs es _ X z G h3⟩
  | _=>exact ff h
theorem sAs:∀(es:lP) (y:List Expr) (X:Cx) (z:Ck),CG Γ F n X z->mAs z es y=true->PA X y (TAv Γ (lX F es))
 | .nil,y,X,z,G,h=>by
  cases y with
  | nil =>
   exact ad0.imp λ σ H Q q=>aG4 (TAv.eq (λ ρ s=>rfl) q)
  | _=>exact ff h
 | .ex e es,y,X,z,G,h=>by
  cases y with
  | cons x y =>
   obtain⟨h,h3⟩:=zg h
   obtain⟨C,J⟩:=zg h
   exact(aG0 J (sE e _ X z G C).1 (sAs es _ X z G h3)).imp λ σ H Q q=>TAv.eq (λ ρ s=>rfl) q
  | _=>exact ff h
 | .lam _ _ _,y,X,z,G,h=>ff h
 | .fn _ _,y,X,z,G,h=>ff h
theorem bO4:∀(es:lP) (y:List Expr) (X:Cx) (z:Ck),CG Γ F n X z->by3 z es y=true->PA X y (TAp Γ X.env.cells X.N (lX F es))
 | .nil,y,X,z,G,h=>by
  cases y with
  | nil =>
   exact ad0.imp λ σ H Q q=>bq5 (TAp.eq (λ ρ s=>rfl) q)
  | _=>exact ff h
 | .ex e es,y,X,z,G,h=>by
  cases y with
  | cons x y =>
   obtain⟨h,h3⟩:=zg h
   obtain⟨Y,C⟩:=zg h
   exact(zD (sE e _ X z G Y).1 (bO4 es _ X z G h3) (zd C)).imp λ σ H Q q=>bL2 (TAp.eq (λ ρ s=>rfl) q)
  | _=>exact ff h
 | .lam id caps es,y,X,z,G,h=>by
  cases y with
  | cons x y =>
   obtain⟨h,h3⟩:=zg h
   obtain⟨Y,C⟩:=zg h
   obtain⟨c,P,params,body,scope,pos,J,e,L⟩:=G.lam id caps _ Y
   have hnm:J.nm=none:=by
    cases q:J.nm with
    | none=>rfl
    | some p=>unfold lamText at e;rw[q]at e;rw[e]at C;cases C
   unfold lamText at e
   rw[hnm]at e
   dsimp only at e
   subst e
   rw[<-G.N]at L
   exact(bD7 L hnm (bO4 es _ X z G h3)).imp λ σ H Q q=>TAp.eq (λ ρ s=>rfl) q
  | _=>exact ff h
 | .fn _ _,y,X,z,G,h=>ff h
theorem sI:∀(i:DV.I) (E tg:Expr) (X:Cx) (y:Ck),CG Γ F n X y->mI y tg i E=true->PI X tg E (TIv Γ (mT F i))
 | .seq e,E,tg,X,y,G,h=>by
  obtain⟨z,C⟩:=zg h
  exact bn8 G (sE e _ X y G z).1
 | .rng1 a,E,tg,X,y,G,h=>by
  cases E with
  | Call fE xs kw p =>
   cases fE with
   | Name x pN =>
    cases xs with
    | cons l xs_0 =>
     cases xs_0 with
     | nil =>
      cases kw with
      | nil =>
       obtain⟨h,J⟩:=zg h
       obtain⟨h,h3⟩:=zg h
       obtain⟨z,C⟩:=zg h
       have e:=of_decide_eq_true z
       subst e
       exact aY4 G C J (sE a _ X y G h3).1
      | _=>exact ff h
     | _=>exact ff h
    | _=>exact ff h
   | _=>exact ff h
  | _=>exact ff h
 | .rng2 _ _,E,tg,X,y,G,h=>ff h
 | .rng3 _ _ _,E,tg,X,y,G,h=>ff h
 | .enum (.seq _),E,tg,X,y,G,h=>ff h
 | .enum (.rng1 _),E,tg,X,y,G,h=>ff h
 | .enum (.rng2 _ _),E,tg,X,y,G,h=>ff h
 | .enum (.rng3 _ _ _),E,tg,X,y,G,h=>ff h
 | .enum (.enum _),E,tg,X,y,G,h=>ff h
 | .enum (.zip _ _),E,tg,X,y,G,h=>ff h
 | .enum (.items _),E,tg,X,y,G,h=>ff h
 | .zip (.seq _) (.seq _),E,tg,X,y,G,h=>ff h
 | .zip (.seq _) (.rng1 _),E,tg,X,y,G,h=>ff h
 | .zip (.seq _) (.rng2 _ _),E,tg,X,y,G,h=>ff h
 | .zip (.seq _) (.rng3 _ _ _),E,tg,X,y,G,h=>ff h
 | .zip (.seq _) (.enum _),E,tg,X,y,G,h=>ff h
 | .zip (.seq _) (.zip _ _),E,tg,X,y,G,h=>ff h
 | .zip (.seq _) (.items _),E,tg,X,y,G,h=>ff h
 | .zip (.rng1 _) _,E,tg,X,y,G,h=>ff h
 | .zip (.rng2 _ _) _,E,tg,X,y,G,h=>ff h
 | .zip (.rng3 _ _ _) _,E,tg,X,y,G,h=>ff h
 | .zip (.enum _) _,E,tg,X,y,G,h=>ff h
 | .zip (.zip _ _) _,E,tg,X,y,G,h=>ff h
 | .zip (.items _) _,E,tg,X,y,G,h=>ff h
 | .items _,E,tg,X,y,G,h=>ff h
theorem sL:∀(l:DV.L) (E:Expr) (X:Cx) (y:Ck),CG Γ F n X y->∀ k,mL y k l E=true->LK Γ X (mU F l) E k
 | .comp tg it e caps,E,X,y,G,k,h=>by
  cases E with
  | ListComp elt gs scope p =>
   cases gs with
   | cons g gs1 =>
    cases g with
    | mk tgt iter ifs z =>
     cases ifs with
     | nil =>
      cases gs1 with
      | nil =>
       obtain⟨h,h3⟩:=zg h
       obtain⟨h,Y⟩:=zg h
       obtain⟨h0,J⟩:=zg h
       have Z:=of_decide_eq_true h0
       subst Z
       have c:=bc3 (pos:=p) G J (sI it _ _ X y G Y) λ C cells s H ex=>(sE e _ _ _ ((G.comp J).2.2 C cells s H ex).1 h3).1
       exact .c (c.eq λ ρ s=>rfl)
      | _=>exact ff h
     | _=>exact ff h
   | _=>exact ff h
  | _=>exact ff h
 | .compIf tg it i e caps,E,X,y,G,k,h=>by
  cases E with
  | ListComp elt gs scope p =>
   cases gs with
   | cons g gs1 =>
    cases g with
    | mk tgt iter ifs z =>
     cases ifs with
     | cons i1 ifs1 =>
      cases ifs1 with
      | nil =>
       cases gs1 with
       | nil =>
        obtain⟨h,h4⟩:=zg h
        obtain⟨h,h3⟩:=zg h
        obtain⟨h,Y⟩:=zg h
        obtain⟨h0,J⟩:=zg h
        have Z:=of_decide_eq_true h0
        subst Z
        have c:=bu4 (pos:=p) G J (sI it _ _ X y G Y) (λ C cells s H ex=>(sE i _ _ _ ((G.comp J).2.2 C cells s H ex).1 h3).2) λ C cells s H ex=>(sE e _ _ _ ((G.comp J).2.2 C cells s H ex).1 h4).1
        exact .c (c.eq λ ρ s=>rfl)
       | _=>exact ff h
      | _=>exact ff h
     | _=>exact ff h
   | _=>exact ff h
  | _=>exact ff h
 | .disp es,E,X,y,G,k,h=>by
  cases E with
  | List xs p =>
   obtain⟨h,Y⟩:=zg h
   obtain⟨h0,J⟩:=zg h
   exact .f (of_decide_eq_true h0) (bv1 J (of_decide_eq_true Y) (am2 (sEs es _ X y G J)))
  | _=>exact ff h
 | .seq e,E,X,y,G,k,h=>by
  obtain⟨h0,J⟩:=zg h
  exact .s (of_decide_eq_true h0) ((sE e _ X y G J).1.imp λ σ H Q q=>bK4 (TLv.eq (λ ρ s=>rfl) q))
 | .itm e,E,X,y,G,k,h=>by
  have h:(match bN1 E with|some q=>decide (1<=k)&&bM3 y q&&mE y e q.ob|none=>false)=true:=h
  cases hq:bN1 E with
  | none=>rw[hq]at h;exact ff h
  | some q =>
   rw[hq]at h
   obtain⟨h,h3⟩:=zg h
   obtain⟨J,Y⟩:=zg h
   rw[bf1 hq]
   exact .f (of_decide_eq_true J) (bJ0 G Y (sE e _ X y G h3).1)
end
end
section
variable {Γ:Gm} {F:lz} {n:Nat}
theorem ba0 {X:Cx}{Y:Ck}{m:kU->kR->kY (List kS)}{E:Expr}{x:Str}{i:Nat}{Z pos:Pos}(G:CG Γ F n X Y)(c:CompF Γ X m E)(hi:Y.N[i]?=some x)(hl:Y.loc x=true) :
  PS X (.Assign [.Name x Z] E pos) (aZ6 (TFv Γ m) (am8 i)):=by
 obtain⟨elt,C,iter,ifs,scope,p2,N',h,wi,g,tc,te,rfl,h1,h2,h3,h4,h5⟩:=c.ex
 obtain⟨l1,l2⟩:=G.loc hl
 have nd:X.N.Nodup:=by rw[G.N];exact G.nd
 have J:X.N[i]?=some x:=by rw[G.N];exact hi
 generalize hb:((X.env.blockKind==.function&&X.env.kindOf x==some .local&&Z.line==(Expr.ListComp elt [⟨C,iter,ifs,0⟩] scope p2).pos.line&&!(scope.names.any λ(n,k)=>n==x&&(k==.local||k==.cell))))=b
 have z:fA (.ListComp elt [⟨C,iter,ifs,0⟩] scope p2) (some (.Name x Z)) pos.line X.env=pure b:=by rw[<-hb];rfl
 have imp:∀ D σ H,aZ6 (TFv Γ m) (am8 i) D σ H->aZ6 (tComp h wi g tc te) (am8 i) D σ H:=λ D σ H q=>h5 _ _ _ q
 cases b with
 | true =>
  have y:X.env.scope.names.lookup x=some .local:=by
   simp only[aj]at hb
   exact eq_of_beq hb.1.1.2
  exact(aL5 N' h nd J y h1 h2 G.calm h3 h4 z).imp imp
 | false=>exact(bi5 nd J l1 (aC4 N' h h1 h2 G.calm h3 h4) z l2).imp imp
theorem bv0 {X:Cx}{y:Ck}{e:lJ}{v:Expr}{x:Str}{i:Nat}{px pos:Pos}(G:CG Γ F n X y)(C:y.N[i]?=some x)(hl:y.loc x=true)(h:mE y e v=true) :
  PS X (.Assign [.Name x px] v pos) (TSv Γ (DV.ex F (.asg (.one i) e))):=by
 obtain⟨l1,Z⟩:=G.loc hl
 have nd:X.N.Nodup:=by rw[G.N];exact G.nd
 have z:X.N[i]?=some x:=by rw[G.N];exact C
 by_cases hc:az3 v=true
 ·exact(bi5 nd z l1 (sE e v X y G h).1 (at2 hc) Z).imp λ D σ H q=>aO3 (tg:=.one i) (TSv.eq (λ ρ s=>rfl) q)
 ·have hs:=ax8 h
  cases v with
  | ListComp elt gs sc p =>
   cases e with
   | mk k l =>
    obtain⟨J,Y⟩:=zg h
    have e:=of_decide_eq_true J
    subst e
    exact(ba0 G (bH9 (sL l _ X y G 0 Y)) C hl).imp λ D σ H q=>be1 (tg:=.one i) (TSv.eq (λ ρ s=>rfl) q)
   | _=>exact ff h
  | SetComp _ _ _ _=>cases hs
  | DictComp _ _ _ _ _=>cases hs
  | _=>exact absurd rfl hc
theorem bb5 {T:List (Addr×Str)}{cells:List (Str×Addr)}{P:Addr}{q:Str}{name:Str}{params:bj}{body:List Stmt}{scope:Scope}{pos:Pos}{ix:Nat}{D0:Ends}{σ:St}{H:Hp}(hT:TabsH T H)(nd:(T.map (·.1)).Nodup)(hm:(P,q)∈T)
  (go:∀(f:Addr) (H':Hp),aT8 H H'->(∀ b,H b≠none->H' b≠none)->TabsH T H'->H f=none->(∃ Y pm G C,H' f=some (ar5 f (cA name q params body scope (ad1 cells scope.names []) .none .none Y pm none (.ref G) C))/\H' G=some (z0 G q))->D0.nx (σ.set ix (some (.ref f))) H') :
  bV6 cells P name q params body scope pos ix D0 σ H:=by
 obtain⟨ps,Z,ht,hc⟩:=hT _ hm
 refine⟨ps,Z,ht,λ hn G f Y pm C n1 n2 ne=>?_,λ cv e=>?_⟩
 ·have cP:G≠P:=λ z=>by rw[z,Z]at n1;cases n1
  have fP:f≠P:=λ z=>by rw[z,Z]at n2;cases n2
  have J:∀ b,b≠P->H b≠none->∀ o1 o2 o3,upd (upd (upd H P o1) G o2) f o3 b=H b:=λ b z1 z2 o1 o2 o3=>by
   rw[za λ z=>by subst z;exact z2 n2,za λ z=>by subst z;exact z2 n1,za z1]
  refine go f _ (λ b o d e=>?_) (λ b hb=>?_) (λ y hy=>?_) n2 ⟨Y,pm,G,C,zb,by rw[za ne,zb]⟩
  ·rw[J b (λ z=>by subst z;rw[Z]at e;cases e;exact d _ rfl) (by rw[e];simp)];exact e
  ·by_cases z:b=P
   ·subst z;rw[za (bL fP),za (bL cP),zb];simp
   ·rw[J b z hb];exact hb
  ·by_cases z:y.1=P
   ·have ey:y=(P,q):=by
     have:∀(l:List (Addr×Str)),(l.map (·.1)).Nodup->y∈l->(P,q)∈l->y=(P,q):=by
      intro l
      induction l with
      | nil=>intro _ h;simp at h
      | cons a l ih =>
       intro hn h1 h2
       rw[aO,dh]at hn
       rcases aE.mp h1 with e1|h1<;>rcases aE.mp h2 with e2|h2
       ·rw[e1,e2]
       ·exact absurd (by rw[<-e1,z];exact aP (f:=(·.1)) h2) hn.1
       ·exact absurd (by rw[<-e2,<-z];exact aP (f:=(·.1)) h1) hn.1
       ·exact ih hn.2 h1 h2
     exact this T nd hy hm
    subst ey
    refine⟨_,by rw[za (bL fP),za (bL cP),zb],?_,λ F cv e=>?_⟩
    ·rw[dM];exact TriplesOk_snoc _ _ _ _ ht
    ·rw[dM]at e
     rcases codeAmong_add _ ht e with e'|e'
     ·obtain⟨c2,e1,e2⟩:=hc F cv e'
      exact⟨c2,e1,by rw[J c2 (λ z=>by subst z;rw[Z]at e2;unfold z0 at e2;cases e2) (by rw[e2];simp)];exact e2⟩
     ·exact⟨G,e',by rw[za ne,zb]⟩
   ·obtain⟨qs,e1,e2,e3⟩:=hT y hy
    refine⟨qs,by rw[J y.1 z (by rw[e1];simp)];exact e1,e2,λ F cv e=>?_⟩
    obtain⟨c2,e4,e5⟩:=e3 F cv e
    exact⟨c2,e4,by rw[J c2 (λ z=>by subst z;rw[Z]at e5;unfold z0 at e5;cases e5) (by rw[e5];simp)];exact e5⟩
 ·obtain⟨G,e1,e2⟩:=hc pos cv e
  refine⟨G,e1,λ f Y pm C n=>go f _ (.of ((ad8.refl H).new n)) (λ b hb=>by
   by_cases z:b=f
   ·subst z;rw[zb];simp
   ·rw[za z];exact hb) (hT.new n) n ⟨Y,pm,G,C,zb,?_⟩⟩
  rw[za (zn e2 n)];exact e2
theorem aS5 (env : Env) : ∀ l : List Arg, (l.all λ y => y.annotation.isNone) = true -> iZ l env = []
 | [], _ => by unfold iZ; rfl
 | ⟨x,some a,p⟩::l,h=>by simp at h
 | ⟨x,none,p⟩::l,h=>by
  unfold iZ
  exact aS5 env l (by simpa using h)
theorem be4 {params:bj}(h:bt4 params=true)(env:Env):params.defaults=[]/\params.kw_defaults=[]/\annTrees params none env=[]:=by
 unfold bt4 at h
 split at h
 ·refine⟨rfl,rfl,?_⟩
  unfold annTrees
  simp only[Option.toList,bq]
  rw[aS5 env _ h];rfl
 ·cases h
theorem aD1 {α:Type}{o:Option α}{f:α->Bool}(h:o.any f=true):∃ a,o=some a/\f a=true:=by
 cases o with
 | none=>exact ff h
 | some a=>exact⟨a,rfl,h⟩
theorem bb6 {s:mR}{y:mB}{d:Nat×String×lJ×String×List Nat}(h:bS6 s y=some d):s=.und d.1/\y=.cons (.ret (.callC d.2.1 (.ex d.2.2.1 (.lam d.2.2.2.1 d.2.2.2.2 .nil)))) .nil:=by
 unfold bS6 at h
 split at h
 ·cases h;exact⟨rfl,rfl⟩
 ·cases h
theorem bf8 {S:List Stmt}{q:Str×bj×Expr×Pos×Scope×Pos×List Stmt}(h:bU3 S=some q):S=.FunctionDef q.1 q.2.1 [.Return (some q.2.2.1) q.2.2.2.1] [] none [] q.2.2.2.2.1 none q.1 q.2.2.2.2.2.1::q.2.2.2.2.2.2:=by
 have y:∀ {p:Prop},(none:Option (Str×bj×Expr×Pos×Scope×Pos×List Stmt))=some q->p:=λ h=>nomatch h
 cases S with
 | cons x xs =>
  cases x with
  | FunctionDef nm params body dl ret tp scope ts nm2 pos =>
   cases body with
   | cons b1 bs =>
    cases b1 with
    | Return v rp =>
     cases v with
     | some b =>
      cases bs with
      | nil =>
       cases dl with
       | nil =>
        cases ret with
        | none =>
         cases tp with
         | nil =>
          cases ts with
          | none =>
           have h:(if nm2=nm then some (nm,params,b,rp,scope,pos,xs)else none)=some q:=h
           by_cases e:nm2=nm
           ·rw[if_pos e]at h;cases h;rw[e]
           ·rw[if_neg e]at h;exact y h
          | _=>exact y h
         | _=>exact y h
        | _=>exact y h
       | _=>exact y h
      | _=>exact y h
     | _=>exact y h
    | _=>exact y h
   | _=>exact y h
  | _=>exact y h
 | _=>exact y h
theorem ba4 {C:Str}{S:List Stmt}{r:Str×Pos×Expr×Pos×Pos×Pos}(h:bW1 C S=some r):S=[.Return (some (.Call (.Name r.1 r.2.1) [r.2.2.1,.Name C r.2.2.2.1] [] r.2.2.2.2.1)) r.2.2.2.2.2]:=by
 have z:∀ {p:Prop},(none:Option (Str×Pos×Expr×Pos×Pos×Pos))=some r->p:=λ h=>nomatch h
 cases S with
 | cons x xs =>
  cases x with
  | Return v rp2 =>
   cases v with
   | some e =>
    cases e with
    | Call f as kw cp =>
     cases f with
     | Name g gp =>
      cases as with
      | cons a as1 =>
       cases as1 with
       | cons y as2 =>
        cases y with
        | Name x p2 =>
         cases as2 with
         | nil =>
          cases kw with
          | nil =>
           cases xs with
           | nil =>
            have h:(if x=C then some (g,gp,a,p2,cp,rp2)else none)=some r:=h
            by_cases e:x=C
            ·rw[if_pos e]at h;cases h;rw[e]
            ·rw[if_neg e]at h;exact z h
           | _=>exact z h
          | _=>exact z h
         | _=>exact z h
        | _=>exact z h
       | _=>exact z h
      | _=>exact z h
     | _=>exact z h
    | _=>exact z h
   | _=>exact z h
  | _=>exact z h
 | _=>exact z h
theorem bI9 {X:Cx}{ck:Ck}{s:mR}{ss:mB}{S:List Stmt}(G:CG Γ F n X ck)(hM:bG7 ck s ss S=true):PSs X S (TSv Γ (mV F (.cons s ss))):=by
 obtain⟨⟨i,g,e,id,y⟩,e1,hA⟩:=aD1 hM
 clear hM
 obtain⟨⟨Y,params,b,rp,scope,pos,xs⟩,e2,hB⟩:=aD1 hA
 clear hA
 obtain⟨⟨g',gp,a,p2,cp,d4⟩,e3,h⟩:=aD1 hB
 clear hB
 obtain⟨rfl,rfl⟩:=bb6 e1
 have e3:=ba4 e3
 have e2:=bf8 e2
 dsimp only at e2 e3 h ⊢
 subst e3
 subst e2
 clear e1
 obtain⟨h,c4⟩:=zg h
 obtain⟨h,a4⟩:=zg h
 obtain⟨h,h9⟩:=zg h
 obtain⟨h,h8⟩:=zg h
 obtain⟨h,h7⟩:=zg h
 obtain⟨h,h6⟩:=zg h
 obtain⟨h,h5⟩:=zg h
 obtain⟨h0,h2⟩:=zg h
 have h7:=of_decide_eq_true h7
 subst h7
 have h1:=of_decide_eq_true h0
 clear h0
 obtain⟨c,P,a8,b5,b2,d3,J,eE,L⟩:=G.lam id y _ h6
 obtain⟨pn,hnm⟩:∃ pn,J.nm=some pn:=by
  cases q:J.nm with
  | none=>unfold lamText at eE;rw[q]at eE;cases eE
  | some p=>exact⟨p,rfl⟩
 obtain⟨pa,pb⟩:=pn
 unfold lamText at eE
 rw[hnm]at eE
 dsimp only at eE
 cases eE
 rw[<-G.N]at L h1
 obtain⟨l1,l2⟩:=G.loc h2
 obtain⟨a1,a2,a3⟩:=be4 c4 X.env
 have c3:X.env.kindOf Y=some .local\/X.env.kindOf Y=some .cell:=l1
 have hq:j9 X.env Y Y=J.qual:=by
  rw[L.q]
  unfold LamI.own j9
  rw[hnm]
  rcases c3 with z|z<;>rw[z]<;>rfl
 have p1:=bJ3 (X:=X) (c:=c) (P:=P) (body:=[.Return (some b) rp]) (scope:=scope) (pos:=pos) (by rw[G.N];exact G.nd) h1 l1 L.code L.hd L.bm L.ck hq a1 a2 a3 l2
 have c2:PE X (.Name Y p2) (aX4 i):=bj1 G h5
 obtain⟨g1,g2,g3⟩:=G.gl h8
 rcases G.call g with hb|⟨fa,fd,ps,hF,b3,hk,hB⟩
 ·intro d0 sh σ H D I q
  obtain⟨φ,ρ,s,c,s',E,R,Z,q⟩:=q
  obtain⟨c1,s1,e1,Z⟩:=aa0 Z
  have e1:(match mW ρ i with|some ρ=>DV.R.ok (DV.Ct.next ρ) s|none=>.bad)=.ok c1 s1:=e1
  split at e1
  case h_2=>cases e1
  cases e1
  obtain⟨c1,s1,e1,Z⟩:=aa0 Z
  obtain⟨d1,s2,e1,C⟩:=aa0 e1
  obtain⟨l,s3,e1,C⟩:=aa0 e1
  obtain⟨d,s4,e4,C⟩:=aa0 C
  rw[hb]at e4;cases e4
 have hE:=(sE e _ X ck G h9).1
 have hA:PA X [a,.Name Y p2] (an1 (TEv Γ (kW F e)) (an1 (aX4 i) aX1)):=zD hE (zD c2 ad0 (zd rfl)) (zd a4)
 have p3:=aF8 (p:=gp) (pos:=cp) hF G.room g1 b3 hk hB L.fn hA g2 (zd a4) (zo (es:=[.Name Y p2]) λ z hz=>by rw[aU.mp hz];rfl).1
 refine(aj1 p1 (aj1 (aS9 p3) aC9)).imp λ D σ H q=>?_
 obtain⟨φ,ρ,s,c0,s',E,R,Z,q⟩:=q
 obtain⟨c1,s1,e1,Z⟩:=aa0 Z
 have e1:(match mW ρ i with|some ρ=>DV.R.ok (DV.Ct.next ρ) s|none=>.bad)=.ok c1 s1:=e1
 unfold mW at e1
 by_cases hil:i < ρ.length
 case neg=>rw[if_neg hil]at e1;cases e1
 rw[if_pos hil]at e1
 cases e1
 obtain⟨c1,s1,e1,Z⟩:=aa0 Z
 obtain⟨d1,s2,e1,C⟩:=aa0 e1
 cases C
 cases Z
 obtain⟨l,s3,e1,C⟩:=aa0 e1
 obtain⟨d2,s4,e4,C⟩:=aa0 C
 split at C
 case isFalse=>exact fb C
 rename_i hn
 cases C
 rw[aj]at hn
 obtain⟨x1,s5,e5,e1⟩:=aa0 e1
 obtain⟨y1,s6,e6,e1⟩:=aa0 e1
 cases e1
 have e6:(match lB (ρ.set i none) y with|some cs=>(lX F .nil (ρ.set i none) s5).bind λ l s=>DV.R.ok (DV.D.clo id cs::l) s|none=>DV.R.bad)=.ok y1 s3:=e6
 cases eg:lB (ρ.set i none) y with
 | none=>rw[eg]at e6;cases e6
 | some cs =>
  rw[eg]at e6
  cases e6
  refine bb5 R.tab L.nd L.tab λ f H' eS st tb hf ho=>?_
  obtain⟨a7,R1⟩:=R.sameT eS st tb
  have E1:RE Γ φ H' s.length (ρ.set i none) (σ.set i (some (.ref f))):=by
   have E0:=E.mono a7 (ak _)
   refine⟨by rw[a0,a0];exact E0.len,λ j d ej=>?_⟩
   by_cases z:i=j
   ·subst z
    rw[aV hil]at ej;cases ej
   ·rw[aR z]at ej
    obtain⟨q1,v,q2,q3⟩:=E0.val j d ej
    exact⟨q1,v,by rw[aR z];exact q2,q3⟩
  obtain⟨cap,a6,a5,hσ⟩:=aT1 E1 eg
  have a9:=(al8 eg).1
  have b7:ae7 H' f J (ad1 X.env.cells J.scope.names []):=by
   unfold ae7;rw[hnm];dsimp only;rw[L.p,L.b,L.s];exact ho
  refine⟨φ,ρ.set i none,s,x1,_,E1,R1,e5,λ v1 φ1 H1 g1 l1 b1 r1 b4=>?_⟩
  have b8:i < σ.length:=by rw[<-E.len];exact hil
  refine⟨.ref f,by rw[aV b8],?_⟩
  intro H2 ca
  obtain⟨gs,R2⟩:=b4.same ca.same
  have b0:=aa3 l1 cs a5
  have b6:∀ m,x1.bnd m=true->kT m cs=true->kT m [x1,.clo id cs]=true:=λ m z1 z2=>by
   simp only[kT,z1,gj,gi]
   unfold kX;exact z2
  have bl:=b6 _ b1 b0
  have pv:PVL Γ X.env.cells X.N (σ.set i (some (.ref f))) φ1 H1 [x1,.clo id cs] [v1,.ref f]:=by
   refine .cons (.inl r1) (.cons (.inr ⟨id,cs,rfl,f,J,rfl,L.lg,b7.kp g1.w.kp,by rw[a9,L.len],by rw[L.s];exact L.cl,cap,RVL.mono g1 cs cap a5 a6,λ i x v e1 e3=>?_⟩) .nil)
   have hi:i<y.length:=by rw[<-L.len];exact(ac.mp e1).1
   have hj:y[i]?=some y[i]:=ag hi
   exact⟨by rw[L.s];exact L.fr x (aM e1),y[i],L.at_ i _ x hj e1,hσ i _ v hj e3⟩
  refine⟨φ1,_,[x1,.clo id cs],_,_,R2,pv.caught ca L.kd bl,bl,e4,λ v φ' H3 g' l' b' r' R'=>?_⟩
  have hc:Cells X.env.cells H3:=ca.cells.kp g'.w.kp
  exact q φ' (ab1 X.env.cells H3) ((a7.trans g1 (ak _)).trans (Gr.caught ca g') l1) (am l1 l') (R'.dropC hc hn.2) v b' (RV.dropC hc _ v hn.1 r')
mutual
theorem sS:∀(st:mR) (S:Stmt) (X:Cx) (y:Ck),CG Γ F n X y->mS y st S=true->PS X S (TSv Γ (DV.ex F st))
 | .asg tg e,S,X,y,G,h=>by
  cases S with
  | Assign ts v p =>
   cases ts with
   | cons t ts1 =>
    cases ts1 with
    | nil =>
     obtain⟨h,h3⟩:=zg h
     obtain⟨C,z⟩:=zg h
     cases tg with
     | one i =>
      have h:=C
      cases t with
      | Name x px =>
       obtain⟨J,Z⟩:=zg h
       exact bv0 G (of_decide_eq_true J) Z z
      | _=>exact ff h
     | tup is =>
      obtain⟨J,Z⟩:=zg h3
      have h:=C
      cases t with
      | Tuple te tk tp=>exact(bk4 (sE e _ X y G z).1 (bo3 G C) (show fA v (some (.Tuple te tk tp)) p.line X.env=pure false from at2 Z) (aL7 J) rfl).imp λ D σ H q=>aO3 (TSv.eq (λ ρ s=>rfl) q)
      | _=>exact ff h
    | _=>exact ff h
   | _=>exact ff h
  | _=>exact ff h
 | .setIx o i e,S,X,y,G,h=>by
  cases S with
  | Assign ts v p2 =>
   cases ts with
   | cons tt ts1 =>
    cases tt with
    | Subscript ob ix p1 =>
     cases ts1 with
     | nil =>
      obtain⟨h,h5⟩:=zg h
      obtain⟨h,h4⟩:=zg h
      obtain⟨h,h3⟩:=zg h
      obtain⟨C,z⟩:=zg h
      have Y:=ax8 z
      refine(bk4 (sE e _ X y G h3).1 (bD1 (sE o _ X y G C).1 (sE i _ X y G z).1 (bG5 (aB1 G.room)) ?_) (show fA v (some (.Subscript ob ix p1)) p2.line X.env=pure false from at2 h4) (aM8 h5) ?_).imp λ D σ H q=>aX8 (TSv.eq (λ ρ s=>rfl) q)
      ·intro w
       cases ix<;>first|rfl|cases Y
      ·rfl
     | _=>exact ff h
    | _=>exact ff h
   | _=>exact ff h
  | _=>exact ff h
 | .aug _ _,S,X,y,G,h=>ff h
 | .ex e,S,X,y,G,h=>by
  cases S with
  | Expr v p =>
   obtain⟨C,z⟩:=zg h
   exact(bo6 (sE e _ X y G C).1 (at2 z)).imp λ D σ H q=>bq6 (TSv.eq (λ ρ s=>rfl) q)
  | _=>exact ff h
 | .ret e,S,X,y,G,h=>by
  cases S with
  | Return vo p =>
   cases vo with
   | some v =>
    exact(aS9 (sE e _ X y G h).1).imp λ D σ H q=>by5 (TSv.eq (λ ρ s=>rfl) q)
   | _=>exact ff h
  | _=>exact ff h
 | .retN,S,X,y,G,h=>ff h
 | .ite c a b,S,X,y,G,h=>by
  cases S with
  | If t l r p =>
   obtain⟨h,h3⟩:=zg h
   obtain⟨C,z⟩:=zg h
   exact(bR5 (sE c _ X y G C).2 (sSs a _ X y G z) (sSs b _ X y G h3)).imp λ D σ H q=>bP3 (TSv.eq (λ ρ s=>rfl) q)
  | _=>exact ff h
 | .whl c b,S,X,y,G,h=>by
  cases S with
  | While t l o p =>
   cases o with
   | nil =>
    obtain⟨C,z⟩:=zg h
    exact(bf2 (by rw[G.xe];exact jU) (sE c _ X y G C).2 (sSs b _ X y G z)).imp λ D σ H q=>bd8 (TSv.eq (λ ρ s=>rfl) q)
   | _=>exact ff h
  | _=>exact ff h
 | .for_ tg it b,S,X,y,G,h=>by
  cases S with
  | For tgt iter l o p =>
   cases o with
   | nil =>
    obtain⟨h,h3⟩:=zg h
    obtain⟨C,z⟩:=zg h
    exact(bI1 (by rw[G.xe];exact jU) G.calm (sI it _ _ X y G z) (bo3 G C) (sSs b _ X y G h3) (aA1 (bH4 z))).imp λ D σ H q=>bz4 (TSv.eq (λ ρ s=>rfl) q)
   | _=>exact ff h
  | _=>exact ff h
 | .pass,S,X,y,G,h=>ff h
 | .cont,S,X,y,G,h=>ff h
 | .brk,S,X,y,G,h=>ff h
 | .und _,S,X,y,G,h=>ff h
 | .raise,S,X,y,G,h=>be5.imp λ D σ H q=>by
  obtain⟨φ,ρ,s,c,s',E,R,hm,q⟩:=q
  cases hm
theorem sSs:∀(st:mB) (S:List Stmt) (X:Cx) (y:Ck),CG Γ F n X y->mSs y st S=true->PSs X S (TSv Γ (mV F st))
 | .nil,S,X,y,G,h=>by
  cases S with
  | nil =>
   exact aC9.imp λ D σ H q=>bt9 (m:=mV F .nil) (λ ρ s=>rfl) q
  | _=>exact ff h
 | .cons s ss,S,X,y,G,h=>by
  cases S with
  | cons x xs =>
   rcases(bP _ _).mp h with h|h
   ·exact bI9 G h
   obtain⟨z,C⟩:=zg h
   exact(aj1 (sS s _ X y G z) (sSs ss _ X y G C)).imp λ D σ H q=>bC1 (TSv.eq (λ ρ s=>rfl) q)
  | _=>exact ff h
end
end
section
variable {Γ:Gm}
theorem aC2 {φ φ1:Nat->Addr}{H y:Hp}{s s1:kR}(R:Rp Γ φ H s)(g:Gr φ s H φ1 s1 y)(ho:mY s s1=true){i:Nat}{o:lv}(z:i<s.length)(e:s1[i]?=some o):o.bnd s.length=true:=by
 unfold mY at ho
 have:=aX.mp ho i (cf.mpr z)
 rw[e,bP]at this
 rcases this with h|h
 ·exact R.wf i o (of_decide_eq_true h).symm
 ·exact h
theorem qj {s1:kR}{k i:Nat}{o:lv}(e:(s1.take k)[i]?=some o):i<k/\s1[i]?=some o:=by
 rw[jg]at e
 split at e
 ·exact⟨‹_›,e⟩
 ·cases e
theorem aL6 {φ φ1:Nat->Addr}{H h:Hp}{s s1:kR}(R:Rp Γ φ H s)(g:Gr φ s H φ1 s1 h)(R1:Rp Γ φ1 h s1)(ho:mY s s1=true):Gr φ s H φ1 (s1.take s.length) h/\Rp Γ φ1 h (s1.take s.length):=by
 have hl:(s1.take s.length).length=s.length:=by rw[bQ];have:=g.le;omega
 refine⟨⟨g.w,by rw[hl];exact ak _,λ i F C=>by rw[hl]at C;omega,λ i o y e e'=>g.kd i o y e (qj e').2,g.st,g.fr⟩,λ i j o y e e' m m' z=>R1.inj i j o y (qj e).2 (qj e').2 m m' z,λ i o e=>R1.obj i o (qj e).2,λ i o e=>?_,R1.tab⟩
 rw[hl]
 exact aC2 R g ho (qj e).1 (qj e).2
theorem aq8 {φ φ1:Nat->Addr}{H F:Hp}{s s1 s':kR}{v0 d:kS}{v:V}(R:Rp Γ φ H s)(g:Gr φ s H φ1 s1 F)(R1:Rp Γ φ1 F s1)(hb:v0.bnd s1.length=true)(r:RV Γ φ1 F v0 v)(h:DV.zH s v0 s1=.ok d s') :
  ∃ φ',Gr φ s H φ' s' F/\s.length<=s'.length/\d.bnd s'.length=true/\RV Γ φ' F d v/\Rp Γ φ' F s':=by
 have all:d=v0->s'=s1->∃ φ',Gr φ s H φ' s' F/\s.length<=s'.length/\d.bnd s'.length=true/\RV Γ φ' F d v/\Rp Γ φ' F s':=λ e1 e2=>by
  subst e1;subst e2
  exact⟨φ1,g,g.le,hb,r,R1⟩
 unfold DV.zH at h
 split at h
 case isFalse=>cases h;exact all rfl rfl
 rename_i ho
 obtain⟨gt,Rt⟩:=aL6 R g R1 ho
 have hl:(s1.take s.length).length=s.length:=by rw[bQ];have:=g.le;omega
 have tk:d=v0->s'=s1.take s.length->v0.bnd s.length=true->∃ φ',Gr φ s H φ' s' F/\s.length<=s'.length/\d.bnd s'.length=true/\RV Γ φ' F d v/\Rp Γ φ' F s':=λ e1 e2 b=>by
  subst e1;subst e2
  exact⟨φ1,gt,by rw[hl];exact ak _,by rw[hl];exact b,r,Rt⟩
 split at h
 ·rename_i k
  split at h
  ·cases h
   exact tk rfl rfl (by unfold kX;exact decide_eq_true ‹_›)
  ·rename_i hk
   split at h
   ·rename_i o J
    split at h
    ·rename_i G
     cases h
     have gw:Gw φ1 s.length F (λ i=>if i=s.length then φ1 k else φ1 i) F:=⟨λ i y=>if_neg (av y),Kp.refl _⟩
     have key:∀(i:Nat) (C:lv),(s1.take s.length++[o])[i]?=some C->(i<s.length/\s1[i]?=some C)\/(i=s.length/\C=o):=λ i C e=>by
      rcases fY i s.length with h|h|h
      ·rw[aK (by rw[hl];exact h)]at e;exact .inl (qj e)
      ·subst h
       rw[aY (by rw[hl];exact ak _),hl,kE]at e
       exact .inr ⟨rfl,(aw e).symm⟩
      ·rw[cH (by rw[aB,hl];simp;omega)]at e;cases e
     have z:(s1.take s.length++[o]).length=s.length+1:=by rw[aB,hl];rfl
     refine⟨λ i=>if i=s.length then φ1 k else φ1 i,⟨⟨λ i y=>?_,g.w.kp⟩,by rw[z];omega,λ i h1 h2=>?_,λ i oo C e e'=>?_,g.st,g.fr⟩,by rw[z];omega,by unfold kX;rw[z];exact decide_eq_true (eP _),?_,⟨λ i j Y Z a2 a1 mi mj e=>?_,λ i C e=>?_,λ i C e=>?_,R1.tab⟩⟩
     ·show(if i=s.length then φ1 k else φ1 i)=φ i
      rw[if_neg (av y)];exact g.w.map i y
     ·rw[z]at h2
      show H (if i=s.length then φ1 k else φ1 i)=none
      rw[if_pos (by omega)]
      exact g.new k (by omega) (ac.mp J).1
     ·rcases key i C e' with⟨_,e2⟩|⟨y,_⟩
      ·exact g.kd i oo C e e2
      ·have:=(ac.mp e).1;omega
     ·rw[r.refE]
      unfold RV
      show V.ref (φ1 k)=V.ref (if s.length=s.length then φ1 k else φ1 s.length)
      rw[if_pos rfl]
     ·rcases key i Y a2 with⟨y,ei⟩|⟨y,zi⟩<;>rcases key j Z a1 with⟨hj,ej⟩|⟨hj,zj⟩
      ·rw[if_neg (av y),if_neg (av hj)]at e
       exact R1.inj i j Y Z ei ej mi mj e
      ·rw[if_neg (av y),if_pos hj]at e
       subst zj
       have:=R1.inj i k Y _ ei J mi mj e
       omega
      ·rw[if_neg (av hj),if_pos y]at e
       subst zi
       have:=R1.inj k j _ Z J ej mi mj e
       omega
      ·rw[y,hj]
     ·rcases key i C e with⟨y,e⟩|⟨y,rfl⟩
      ·show RO Γ _ _ (if i=s.length then φ1 k else φ1 i) C
       rw[if_neg (av y)]
       exact(R1.obj i C e).mono gw (aC2 R g ho y e) λ _ u hu=>hu
      ·show RO Γ _ _ (if i=s.length then φ1 k else φ1 i) C
       rw[if_pos y]
       exact(R1.obj k _ J).mono gw G λ _ u hu=>hu
     ·rw[z]
      rcases key i C e with⟨y,e⟩|⟨_,rfl⟩
      ·exact zU (dD _) _ (aC2 R g ho y e)
      ·exact zU (dD _) _ G
    ·cases h;exact all rfl rfl
   ·exact fb h
 ·split at h
  ·cases h;exact tk rfl rfl ‹_›
  ·cases h;exact all rfl rfl
structure LamGood (J:LamI)(L:l8):Prop where
 sc:LamScope (J.ps++J.fr) J.ps J.fr J.scope
 ps:J.ps.length=L.ps
 fr:J.fr.length=L.cs
 m:mE (ck0 (J.ps++J.fr) J.scope) L.body J.body=true
 bind:∀(clos:List (Str×Addr)) (doc pm:Value) (c':Addr) (ctv:Value) (us:List Value),us.length=J.ps.length->eT (bW "<lambda>" J.qual J.params J.body J.scope clos pm (.ref c') ctv) ⟨us,[]⟩=pure (J.ps.zip us) /\
  ∀(nm:Str) (rp:Pos),eT (cA nm J.qual J.params [.Return (some J.body) rp] J.scope clos .none .none doc pm none (.ref c') ctv) ⟨us,[]⟩=pure (J.ps.zip us)
structure LkAt (Γ:Gm)(cds:List (Addr×Addr))(f:Str)(sc:Scope)(N:List Str)(fd:bJ)(id:String)(caps:List Nat)(params:bj)(body:Expr)(scope:Scope)(c P:Addr)(J:LamI):Prop where
 code:fd.code=.ref c
 cd:(c,P)∈cds
 ck:lamCheck scope sc=true
 fre:∀ x,scope.names.lookup x=some .free->sc.names.lookup x=some .cell
 cel:∀ y∈sc.names,y.2=.cell->sc.names.lookup y.1=some .cell
 df:∀ env,j8 params env=([],[])
 lg:Γ.lg id J
 q:J.qual=f ++ ".<locals>."++J.own
 p:J.params=params
 b:J.body=body
 s:J.scope=scope
 len:J.fr.length=caps.length
 at_:∀(i j:Nat) (x:Str),caps[i]?=some j->J.fr[i]?=some x->N[j]?=some x
 fr:∀ x∈J.fr,scope.names.lookup x=some .free
 tab:(P,J.qual)∈Γ.T
def bM4 (Γ:Gm)(cds:List (Addr×Addr))(f:Str)(sc:Scope)(N:List Str)(fd:bJ)(lk:String->List Nat->Expr->Bool):Prop :=
 ∀ id caps E,lk id caps E=true->∃ c P params body scope pos J,E=lamText J params body scope pos/\LkAt Γ cds f sc N fd id caps params body scope c P J
def Good (Γ:Gm)(cds:List (Addr×Addr))(mg:Str->Option Value)(f:String)(d:l9):Prop:=∃ st N ps a fd lk,DefAt Γ.K mg (f:Str) st ps a fd/\FnScope N ps (defScope st)/\ps.length=d.ps/\N.length=d.ps+d.vs/\mSs ⟨N,defScope st,lk⟩ d.body (zE st)=true/\bM4 Γ cds (f:Str) (defScope st) N fd lk
structure PrOk (Γ:Gm)(cds:List (Addr×Addr))(P:lu)(mg:Str->Option Value):Prop where
 df:∀ f d,P.df f=some d->Good Γ cds mg f d
 con:∀ x d,P.con x=some d->∃ v u,mg (x:Str)=some u/\RelV v u/\(∀ m,d.bnd m=true)/\∀ φ H,RV Γ φ H d v
 bi:∀ x∈bNames,mg x=none
 fa:∀(f:String) (a:Addr),Γ.fa f=some a->mg (f:Str)=some (.ref a)/\∃ oc od fd sl,Γ.K.lookup a=some ⟨oc,od,.func fd,sl⟩
 lg:∀ id J,Γ.lg id J->∃ L,P.lm id=some L/\LamGood J L
 nd:(Γ.T.map (·.1)).Nodup
noncomputable def aF3 (Γ : Gm) (prog : Program) (w : World) (mg : Str -> Option Value) (base : Heap) (F : DV.Fns) (n : Nat) : Prop := (∀ f : String, (∀ l s, F.call f l s = .bad) \/
      ∃ a fd ps, FnOk prog w Γ.K mg base CX0 n a fd ps (spV Γ (F.call f)) /\ mg (f : Str) = some (.ref a) /\ cu Γ.K (.ref a) = true /\ Binds Γ.K fd ps []) /\
  ∀(id : String) (J : LamI) (f : Addr) (cap : List V) (clos : List (Str × Addr)), Γ.lg id J -> cap.length = J.fr.length -> ClOk prog w Γ.K mg base n (λ H => CloAt H f J cap clos) f (spL Γ (F.lam id) cap)
theorem bf4 {φ:Nat->Addr}{H:Hp}{n k:Nat}{N:List Str}{l:List kS}{vs:List V}(r:RVL Γ φ H l vs)(b:kT n l=true)(hN:N.length=l.length+k):RE Γ φ H n (l.map some++aH k none) (ag2 N vs):=by
 have hl:=r.length
 refine⟨?_,λ i d e=>?_⟩
 ·unfold ag2;simp[hl,hN]
 ·by_cases hi:i<l.length
  ·rw[aK (by simpa using hi),aC]at e
   have e':l[i]?=some d:=by
    rw[ag hi]at e ⊢
    exact aw e
   obtain⟨v,e1,e2⟩:=r.get e'
   refine⟨aj3 b e',v,?_,e2⟩
   unfold ag2
   rw[aK (by rw[au,hl];exact hi),aC,e1];rfl
  ·rw[aY (by simpa using jF hi)]at e
   rw[gq]at e
   split at e<;>cases e
theorem bI7 {a3:List (Addr×Addr)}{P:lu}{prog:aI}{w:World}{mg:Str->Option Value}{F:Heap}(hP:PrOk Γ a3 P mg)(hb:∀ y∈a3,bX F y.1 y.2/\BM mg F)(n:Nat)(a1:aF3 Γ prog w mg F (la P n) (n+31))
  {f:String} {d:l9} (e:P.df f=some d) {st:Stmt} {N ps:List Str} {a:Addr} {fd:bJ} {lk:String->List Nat->Expr->Bool} (hD:DefAt Γ.K mg (f:Str) st ps a fd) (hS:FnScope N ps (defScope st)) (h1:ps.length=d.ps) (h2:N.length=d.ps+d.vs) (hm:mSs ⟨N,defScope st,lk⟩ d.body (zE st)=true) (hL:bM4 Γ a3 (f:Str) (defScope st) N fd lk) :
  FnOk prog w Γ.K mg F CX0 (n+1+31) a fd ps (spV Γ ((la P (n+1)).call f)):=by
 have Z:∀ vs H Q E,spV Γ ((la P (n+1)).call f) vs H Q E->vs.length=ps.length:=λ vs H Q E q=>by
  obtain⟨φ,s,l,d',s',R,r,b,hc,k⟩:=q
  simp only[la,e]at hc
  split at hc
  ·rw[r.length,h1];assumption
  ·exact fb hc
 have body:∀(Y:Value),(∀ id C E,lk id C E=true->fd.code=Y)->∀(A:aZ) (outer:List Env) (sh:af) (H:Hp) (vs:List V) (Q:VK) (E:XK),Room (n+31) (A.deeper (f9 (f:Str) (defScope st) sh.heap.objs.size a Y))->spV Γ ((la P (n+1)).call f) vs H Q E ->
   ∃ t,PSs (bb2 CX0 prog w Γ.K mg F N (f:Str) (defScope st) a Y A outer sh H E).nox (zE st) t/\t { nx:=λ _ H'=>Q .non H',rt:=Q } (ag2 N vs) H:=by
  intro Y a7 A outer sh H vs Q E hr q
  have G:CG Γ (la P n) (n+31) (bb2 CX0 prog w Γ.K mg F N (f:Str) (defScope st) a Y A outer sh H E).nox ⟨N,defScope st,lk⟩:=by
   refine⟨rfl,rfl,hS.nd,rfl,rfl,?_,hr,λ x k e=>.inl e,λ _ _=>rfl,hP.bi,a1.1,?_,λ id C E' a2=>?_,a1.2,hP.fa,DV.aj0 P n⟩
   ·show lf+1<=n+31
    unfold lf;omega
   ·have:(la P n).con=P.con:=by cases n<;>rfl
    rw[this];exact hP.con
   ·obtain⟨c,Pa,params,body,scope,pos,J,eE,L⟩:=hL id C E' a2
    obtain⟨a6,a5⟩:=hb _ L.cd
    refine⟨c,Pa,params,body,scope,pos,J,eE,⟨?_,a6,a5,L.ck,L.df _,L.lg,L.q,L.p,L.b,L.s,L.len,L.at_,L.fr,λ x hx=>?_,L.tab,hP.nd,λ _=>rfl,λ x c hx=>?_⟩⟩
    ·show Y=.ref c
     rw[<-a7 id C E' a2];exact L.code
    ·exact zN (L.fre x hx)
    ·rcases zw (ax hx)with z|z
     ·exact .inl (L.cel (x,.cell) z rfl)
     ·exact absurd z (by simp)
  refine⟨_,sSs d.body (zE st) _ ⟨N,defScope st,lk⟩ G hm,?_⟩
  obtain⟨φ,s,l,d',s',R,r,b,hc,k⟩:=q
  simp only[la,e]at hc
  split at hc
  case isFalse=>exact fb hc
  rename_i Z
  obtain⟨c,s1,e1,hc⟩:=aa0 hc
  refine⟨φ,l.map some++aH d.vs none,s,c,s1,bf4 r b (by rw[h2,Z]),R,e1,λ φ1 H1 g1 l1 R1=>?_⟩
  cases c with
  | ret v0 =>
   intro v hb rv
   obtain⟨φ',g',l',b',r',R'⟩:=aq8 R g1 R1 hb rv hc
   exact k v φ' H1 g' l' b' r' R'
  | next ρ =>
   intro σ' _
   obtain⟨φ',g',l',b',r',R'⟩:=aq8 (v0:=.non) R g1 R1 rfl RV.nonI hc
   exact k .non φ' H1 g' l' b' r' R'
  | cont ρ=>exact fb hc
  | brk ρ=>exact fb hc
 by_cases hl:∃ id C E,lk id C E=true
 ·obtain⟨id,C,E,a2⟩:=hl
  obtain⟨c,Pa,params,a4,scope,pos,J,eE,L⟩:=hL id C E a2
  exact hD.fn.okC L.code hS Z (body _ λ _ _ _ _=>L.code)
 ·exact hD.fn.ok hS Z (λ Y=>body Y λ id C E h=>absurd ⟨id,C,E,h⟩ hl)
theorem bm2 {b2:List (Addr×Addr)}{P:lu}{prog:aI}{w:World}{mg:Str->Option Value}{F:Heap}(hP:PrOk Γ b2 P mg)(n:Nat)(Z:aF3 Γ prog w mg F (la P n) (n+31))
  (id:String) (J:LamI) (f:Addr) (cap:List V) (C:List (Str×Addr)) (b3:Γ.lg id J) (a2:cap.length=J.fr.length) :
  ClOk prog w Γ.K mg F (n+1+31) (λ H=>CloAt H f J cap C) f (spL Γ ((la P (n+1)).lam id) cap):=by
 obtain⟨L,eL,LG⟩:=hP.lg id J b3
 have a3:∀ vs H Q E,spL Γ ((la P (n+1)).lam id) cap vs H Q E->vs.length=J.ps.length:=λ vs H Q E q=>by
  obtain⟨φ,s,cs,l,d,s',R,r,rc,b,bc,hc,k⟩:=q
  simp only[la,eL]at hc
  split at hc
  ·rename_i hh;rw[r.length,LG.ps];exact hh.1
  ·exact fb hc
 have main:∀(A:aZ) (outer:List Env) (sh:af) (H:Hp) (cd:Value) (vs:List V) (Q:VK),Room (n+31) (A.deeper (c7 J.qual J.scope sh.heap.objs.size f cd (aL (sh.heap.objs.size+1) J.scope.names C)))->Cells C H->(∀ b o,Γ.K.lookup b=some o->H b=none)->spL Γ ((la P (n+1)).lam id) cap vs H Q E0 ->
   ∃ t,PE (aD0 prog w Γ.K mg F (J.ps++J.fr) J.qual J.scope f cd C A outer sh H) J.body t/\t (vs.map some++cap.map some) (ab1 C H) λ v H'=>(∀ b,isC C b=true->H' b=none)->Q v (Put C H H'):=by
  intro A outer sh H cd vs Q hr z hK q
  have G:CG Γ (la P n) (n+31) (aD0 prog w Γ.K mg F (J.ps++J.fr) J.qual J.scope f cd C A outer sh H) (ck0 (J.ps++J.fr) J.scope):=by
   refine⟨rfl,rfl,LG.sc.nd,rfl,rfl,?_,hr,λ x k e=>.inl e,λ x e=>?_,hP.bi,Z.1,?_,λ _ _ _ h=>(by cases h),Z.2,hP.fa,DV.aj0 P n⟩
   ·show lf+1<=n+31
    unfold lf;omega
   ·show(J.scope.names.lookup x==some .cell)=true
    rw[show J.scope.names.lookup x=some .cell from e];rfl
   ·have:(la P n).con=P.con:=by cases n<;>rfl
    rw[this];exact hP.con
  refine⟨_,(sE L.body J.body _ (ck0 (J.ps++J.fr) J.scope) G LG.m).1,?_⟩
  obtain⟨φ,s,cs,l,d,s',R,r,rc,b,bc,hc,k⟩:=q
  simp only[la,eL]at hc
  split at hc
  case isFalse=>exact fb hc
  rename_i hh
  obtain⟨h1,h2,h3⟩:=hh
  rw[aj,aj]at h3
  obtain⟨⟨b0,a8⟩,a9⟩:=h3
  obtain⟨v0,s1,e1,hc⟩:=aa0 hc
  have RD:Rp Γ φ (ab1 C H) s:=R.dropC z a9
  have a7:RVL Γ φ (ab1 C H) (l++cs) (vs++cap):=(RVL.dropC z l vs b0 r).append (RVL.dropC z cs cap a8 rc)
  refine⟨φ,l.map some++cs.map some,s,v0,s1,⟨by simp[r.length,rc.length],λ i x ei=>?_⟩,RD,e1,λ v φ1 H1 g1 l1 b1 r1 R1 a1=>?_⟩
  ·rw[<-fg,aC]at ei
   have a5:(l++cs)[i]?=some x:=by
    cases q:(l++cs)[i]? with
    | none=>rw[q]at ei;cases ei
    | some y=>rw[q]at ei;cases ei;rfl
   obtain⟨u,e3,e4⟩:=a7.get a5
   refine⟨aj3 (zu b bc) a5,u,?_,e4⟩
   rw[<-fg,aC,e3];rfl
  ·obtain⟨φ',g',l',b',r',R'⟩:=aq8 RD g1 R1 b1 r1 hc
   have gp:=Gr.put z a1 hK R' g'
   obtain⟨gs,Rs⟩:=R'.same (aX0 (H:=H) a1)
   exact k v φ' _ gp l' b' (RV.mono gs d v b' r') Rs
 unfold CloAt
 cases q:J.nm with
 | none=>exact bt7 LG.sc a3 a2 (λ pm c' Y us a4=>(LG.bind C .none pm c' Y us a4).1) (λ A outer sh H cd vs Q hr hat hK q=>by
   obtain⟨pm,c',Y,_,_,z,_⟩:=hat
   exact main A outer sh H cd vs Q hr z hK q)
 | some p=>exact bs8 LG.sc a3 a2 (λ a6 pm c' Y us a4=>(LG.bind C a6 pm c' Y us a4).2 _ _) (λ A outer sh H cd vs Q hr hat hK q=>by
   obtain⟨a6,pm,c',Y,_,_,z,_⟩:=hat
   obtain⟨t,h1,h2⟩:=main A outer sh H cd vs Q hr z hK q
   exact⟨_,aj1 (aS9 h1) aC9,h2⟩)
theorem aN1 {C:List (Addr×Addr)}{P:lu}{prog:aI}{w:World}{mg:Str->Option Value}{h:Heap}(F:PrOk Γ C P mg)(hb:∀ y∈C,bX h y.1 y.2/\BM mg h):∀ n:Nat,aF3 Γ prog w mg h (la P n) (n+31)
 | 0=>⟨λ f=>.inl λ l s=>rfl,λ id J f cap z _ _=>⟨λ A outer s H us vs Q _ _ _ _ q=>by
   obtain⟨φ,s,cs,l,d,s',R,r,rc,b,bc,hc,k⟩:=q
   cases hc⟩⟩
 | n+1=>by
  have Z:aF3 Γ prog w mg h (la P n) (n+31):=aN1 F hb n
  refine⟨λ f=>?_,λ id J f cap z G Y=>bm2 F n Z id J f cap z G Y⟩
  cases e:P.df f with
  | none=>exact .inl λ l s=>by simp only[la,e]
  | some d =>
   obtain⟨st,N,ps,a,fd,lk,hD,hS,G,Y,hm,hL⟩:=F.df f d e
   exact .inr ⟨a,fd,ps,bI7 F hb n Z e hD hS G Y hm hL,hD.mg,hD.fn.kp,hD.bi⟩
def spT (Γ:Gm):Sp:=λ vs H Q _=>∃(a:Addr) (ns:List Int),vs=[.ref a]/\SqF Γ.K H a (ns.map V.int)/\ns.length<=63/\TabsH Γ.T H/\∀ H',Q (.bl true) H'
theorem aI6 {φ:Nat->Addr}{H:Hp}:∀ ns:List Int,RVL Γ φ H (ns.map DV.D.int) (ns.map V.int)
 | []=>.nil
 | n::ns=>.cons RV.intI (aI6 ns)
theorem aw9 {m:Nat}:∀ ns:List Int,kT m (ns.map DV.D.int)=true
 | []=>rfl
 | n::ns=>by rw[aO];unfold kT;rw[aw9 ns];rfl
theorem bH0 {P:lu}{k:Nat}(h:∀ ns:List Int,ns.length<=63->∃ s',(la P k).call "law" [.ref 0] [.ro (ns.map DV.D.int)]=.ok (.bl true) s')(vs:List V)(H:Hp)(Q:VK)(E:XK)(q:spT Γ vs H Q E):spV Γ ((la P k).call "law") vs H Q E:=by
 obtain⟨a,ns,rfl,y,hl,hT,z⟩:=q
 obtain⟨s',hs⟩:=h ns hl
 refine⟨λ _=>a,[.ro (ns.map DV.D.int)],[.ref 0],.bl true,s',⟨λ i j o C e e' m m' _=>?_,λ i o e=>?_,λ i o e=>?_,hT⟩,.cons RV.refI .nil,?_,hs,λ v φ' H' g l b r R=>?_⟩
 ·cases i with
  | zero=>cases e;cases m
  | succ i=>cases e
 ·cases i with
  | zero=>cases e;exact⟨_,y,aI6 ns⟩
  | succ i=>cases e
 ·cases i with
  | zero=>cases e;unfold kZ;exact aw9 ns
  | succ i=>cases e
 ·unfold kT kX kT;rfl
 ·rw[r.blE];exact z H'
theorem aF1 {y:List (Addr×Addr)}{mg:Str->Option Value}:∀ {tbl:List (String×l9)},(∀ p∈tbl,Good Γ y mg p.1 p.2)->∀ f d,tbl.lookup f=some d->Good Γ y mg f d
 | [],_,f,d,h=>by cases h
 | (g,e)::tbl,H,f,d,h=>by
  rw[bh]at h
  cases q:f==g with
  | true =>
   rw[q]at h
   cases h
   rw[eq_of_beq q]
   exact H (g,_) (aG ..)
  | false =>
   rw[q]at h
   exact aF1 (λ p z=>H p (az _ z)) f d h
def bc9 (Γ:Gm)(mg:Str->Option Value)(x:String)(d:kS):Prop:=∃ v u,mg (x:Str)=some u/\RelV v u/\(∀ m,d.bnd m=true)/\∀ φ H,RV Γ φ H d v
theorem aW7 {mg:Str->Option Value}:∀ {tbl:List (String×kS)},(∀ p∈tbl,bc9 Γ mg p.1 p.2)->∀ f d,tbl.lookup f=some d->bc9 Γ mg f d
 | [],_,f,d,h=>by cases h
 | (g,e)::tbl,H,f,d,h=>by
  rw[bh]at h
  cases q:f==g with
  | true =>
   rw[q]at h
   cases h
   rw[eq_of_beq q]
   exact H (g,_) (aG ..)
  | false =>
   rw[q]at h
   exact aW7 (λ p y=>H p (az _ y)) f d h
theorem bs5 {mg:Str->Option Value}{x:String}{i:Int}{t:Tok}(h:mg (x:Str)=some (.int i t)):bc9 Γ mg x (.int i):=⟨.int i,_,h,⟨t,rfl⟩,λ _=>rfl,λ _ _=>RV.intI⟩
inductive ConV (Γ:Gm):kS->Value->Prop where
 | int (i:Int) (t:Tok):ConV Γ (.int i) (.int i t)
 | str (x:List Nat) (t:Tok) (h:x.length<=1000):ConV Γ (.str x) (.str ⟨x.toArray⟩ t)
inductive ConL (Γ:Gm):List kS->List Value->Prop where
 | nil:ConL Γ [] []
 | cons {d v l vs} (a:ConV Γ d v) (b:ConL Γ l vs):ConL Γ (d::l) (v::vs)
theorem bs4 {mg:Str->Option Value}{x:String}{a:Addr}{o:Obj}{its:List Value}{n:Nat}{l:List kS}(h:mg (x:Str)=some (.ref a))(hk:Γ.K.lookup a=some o)(hc:o.cls=.type "tuple")(hd:o.data=.seq its.toArray n)(hz:its.length<=1000)
  (hl:ConL Γ l its) (G:k9 l=false:=by rfl):bc9 Γ mg x (.tup l):=by
 have key:∃ y,Vals y its/\(∀ m,kT m l=true)/\∀ φ H,RVL Γ φ H l y:=by
  clear hd hz G
  induction hl with
  | nil=>exact⟨[],.nil,λ _=>rfl,λ _ _=>.nil⟩
  | cons a b ih =>
   obtain⟨y,C,F,h3⟩:=ih
   cases a with
   | int i t=>exact⟨.int i::y,.cons ⟨t,rfl⟩ C,λ m=>by unfold kT;rw[F];rfl,λ φ H=>.cons RV.intI (h3 φ H)⟩
   | str x t h=>exact⟨.str ⟨x.toArray⟩::y,.cons ⟨t,rfl⟩ C,λ m=>by unfold kT;rw[F];rfl,λ φ H=>.cons (RV.strI (by unfold k6;omega)) (h3 φ H)⟩
 obtain⟨y,C,F,h3⟩:=key
 refine⟨.ref a,_,h,rfl,λ m=>by unfold kX;exact F m,λ φ H=>RV.tupC (.inr ⟨o,its.toArray,n,hk,hc,hd,?_,C⟩) (λ z=>by rw[G]at z;cases z) (h3 φ H)⟩
 rw[ar];exact aF4 hz
end
theorem aL0 {P:aI}{w:World}{K:ae}{mg mb:Str->Option Value}{k:Nat}{fa a:Addr}{fd:bJ}{x:Str}{sp:Sp}{C:af}{vs:List Value}{ns:List Int}{tabs:List (Addr×Addr)}
  (KX:K.In C.heap) (a9:C.heap.Ns bv mg) (hb:C.heap.Ns gD mb) (c2:∀ x:Str,x ≠ "__name__"->mb x=bo x) (b7:C.heap.NoLimit) (hg:C.gens=#[]) (c1:BM mg C.heap) (hT:ke tabs C.heap) (d2:kg K=true)
  (ha:C.heap.get? a=some { cls:=.type "list",data:=.seq vs.toArray }) (hi:jX vs ns) (hl:ns.length<=aF) (hr:Room k iH)
  (F:∀ Y:Heap,K.In Y->Y.Ns bv mg->BM mg Y->(∀ q∈tabs,bX Y q.1 q.2)->FnOk P w K mg Y CX0 k fa fd [x] sp) (a6:∀(s:af) (u:Value),jW s fd ⟨[u],[]⟩ [(x,u)])
  (c3:∀ H:Hp,(∀ q∈tabs,H q.2=some (.tbl #[]))->SqL K H a (ns.map V.int)->(∀ u,H a=some u->(∃ o xs,u=.frz o (.lst xs))\/∃ ps,u=.tbl ps)->sp [.ref a] H (λ v _=>v=.bl true) E0) :
  fR (model P w) iH (.call (.ref fa) ⟨[.ref a],[]⟩) (λ r s'=>r=.ok (.ret (.bool true))/\OldK C.heap s'.heap/\s'.os=C.os/\fQ s'.gens) C:=by
 have rv:=ax4 hi
 have a7:=hi.length
 have G:∀ b,b∈tabs.map (·.2)->C.heap.get? b=some (em #[]):=λ b h=>by
  obtain⟨q,hq,rfl⟩:=aN.mp h
  exact(hT q hq).2
 have a3:∀ H:Hp,(∀ b u,H b=some u->(b=a/\∃ o xs,u=.frz o (.lst xs))\/(b∈tabs.map (·.2)/\u=.tbl #[]))->(∀ q∈tabs,H q.2=some (.tbl #[]))->SqL K H a (ns.map V.int)->HOk P w H C.heap->(H a≠none->K.lookup a=none) ->
   fR (model P w) iH (.call (.ref fa) ⟨[.ref a],[]⟩) (λ r s'=>r=.ok (.ret (.bool true))/\OldK C.heap s'.heap/\s'.os=C.os/\fQ s'.gens) C:=by
  intro H hO d0 hS hok hK
  have un:∀ b o,C.heap.get? b=some o->o.cls≠.type "list"->(∀ vs,o.data≠.fields vs)->H b=none:=λ b o e n1 n2=>by
   cases q:H b with
   | none=>rfl
   | some u =>
    rcases hO b u q with⟨z,_⟩|⟨z,_⟩
    ·rw[z,ha]at e;cases e;exact absurd rfl n1
    ·rw[G b z]at e;cases e;exact absurd rfl (n2 #[])
  have Z:∀ {b:Addr} {m:Str->Option Value},C.heap.Ns b m->(aX2 C.heap H).Ns b m:=λ {b m} ⟨o,es,ep,e,d,r⟩=>by
   refine⟨o,es,ep,ai7 e ?_,d,r⟩
   cases q:H b with
   | none=>rfl
   | some u =>
    rcases hO b u q with⟨z,_⟩|⟨z,_⟩
    ·rw[z,ha]at e;cases e;cases d
    ·rw[G b z]at e;cases e;cases d
  have b0:K.In (aX2 C.heap H):=λ b o e=>ai7 (KX b o e) (by
   cases q:H b with
   | none=>rfl
   | some u =>
    rcases hO b u q with⟨z,_⟩|⟨z,_⟩
    ·subst z
     rw[hK (by rw[q];simp)]at e;cases e
    ·have e2:=KX b o e
     rw[G b z]at e2
     have h2:=aX.mp d2 (b,o) (PySem.W.mem_of_lookupK e)
     have e3:o=em #[]:=(aw e2).symm
     subst e3
     exact absurd (show false=true from h2) aJ)
  have hM:Mod K mg (aX2 C.heap H):=⟨b0,Z a9,⟨mb,Z hb,c2⟩,let⟨mc,h1,h2⟩:=b7;⟨mc,Z h1,h2⟩⟩
  have c4:BM mg (aX2 C.heap H):=by
   obtain⟨bm,ob,b1,b2,b3,b4,b5,b6⟩:=c1
   exact⟨bm,ob,b1,b2,ai7 b3 (un bm ob b3 (by rw[b4];nofun) (by rw[b6];nofun)),b4,b5,b6⟩
  have c0:∀ q∈tabs,bX (aX2 C.heap H) q.1 q.2:=λ q hq=>by
   obtain⟨o,d1,a8,tf,a4,tg,b8,text,tt,e1,r1,r2⟩:=(hT q hq).1
   refine⟨o,d1,a8,tf,a4,tg,b8,text,tt,ai7 e1 ?_,r1,r2⟩
   cases q2:H q.1 with
   | none=>rfl
   | some u =>
    rcases hO _ u q2 with⟨z,_⟩|⟨z,_⟩
    ·rw[z,ha]at e1;cases e1;exact absurd r1 (by simp)
    ·rw[G _ z]at e1;cases e1;exact absurd r1 (by simp)
  have e0:Env0 P w K mg (aX2 C.heap H) iH [] C H:=⟨rfl,hM,λ b o e=>bw2 e,Nat.le_of_eq (aR7 _ _),trivial,λ b hb=>absurd (show b∈([]:List Addr)from hb) (by simp),hok,.of_eq hg⟩
  refine ft ((F _ b0 (Z a9) c4 c0).run iH [] C H ⟨[.ref a],[]⟩ [.ref a] [.ref a] _ _ hr e0 (a6 C (.ref a)) (.cons rfl .nil) (c3 H d0 hS (λ u e=>(hO a u e).elim (λ z=>.inl z.2) (λ z=>.inr ⟨_,z.2⟩)))) λ r s' h=>?_
  cases r with
  | error e=>exact bB h
  | ok fl =>
   cases fl with
   | next=>exact bB h
   | brk=>exact bB h
   | cont=>exact bB h
   | ret u =>
    obtain⟨v,H',os,bare,a5,a2,r',q⟩:=h
    have q':v=.bl true:=q
    subst q'
    obtain rfl:u=Value.bool true:=r'
    have key:∀ b o,C.heap.get? b=some o->asItWas C.heap s'.heap b o/\∃ o',s'.heap.get? b=some o':=λ b o e=>by
     cases q:H b with
     | none =>
      have z:=a5.keep b o e q (by intro z;exact absurd (show b∈([]:List Addr)from z) (by simp)) (by simp)
      exact⟨.inl z,o,z⟩
     | some u =>
      rcases hO b u q with⟨_,ob,xs,z⟩|⟨z,z2⟩
      ·subst z
       have z2:=a5.frzs b ob _ q
       obtain⟨e1,_⟩:=hok b _ q
       obtain⟨e2,_⟩:=a2 b _ z2
       rw[e]at e1;cases e1
       exact⟨.inl e2,_,e2⟩
      ·subst z2
       obtain⟨a1,z3⟩:=a5.tbls b _ q
       have g:s'.heap.get? b=some { cls:=.none,data:=.fields (#[]++a1) }:=a2 b _ z3
       have e1:=G b z
       rw[e]at e1;cases e1
       obtain⟨p,hp,ep⟩:=aN.mp z
       refine⟨.inr (.inl ⟨?_,rfl,#[],a1,rfl,g⟩),_,g⟩
       have t:=((hT p hp).1.tab (hT p hp).2).isCodeTable
       rw[ep]at t
       exact t
    exact⟨rfl,⟨λ b o e=>(key b o e).1,λ b o e=>(key b o e).2⟩,os,bare⟩
 have tbl:∀ b,b∈tabs.map (·.2)->b≠a:=λ b h z=>by
  have e:=G b h
  rw[z,ha]at e;cases e
 cases hk:K.lookup a with
 | some o =>
  have e:=KX a o hk
  rw[ha]at e
  cases e
  refine a3 (λ b=>if b∈tabs.map (·.2)then some (.tbl #[])else none) (λ b u z=>?_) (λ q hq=>if_pos (aP hq)) (.inr ⟨_,vs.toArray,_,hk,rfl,rfl,rfl,by rw[ar,a7];exact hl,by simpa using rv⟩) (λ b u z=>?_) λ z=>?_
  ·by_cases hb:b∈tabs.map (·.2)
   ·have J:=(if_pos hb).symm.trans z
    cases J
    exact .inr ⟨hb,rfl⟩
   ·have J:=(if_neg hb).symm.trans z
    cases J
  ·by_cases hb:b∈tabs.map (·.2)
   ·have J:=(if_pos hb).symm.trans z
    cases J
    exact G b hb
   ·have J:=(if_neg hb).symm.trans z
    cases J
  ·exact absurd (if_neg λ y=>tbl a y rfl) z
 | none =>
  refine a3 (λ b=>if b=a then some (.frz { cls:=.type "list",data:=.seq vs.toArray } (.lst (ns.map V.int)))else if b∈tabs.map (·.2)then some (.tbl #[])else none) (λ b u z=>?_) (λ q hq=>?_) (.inl (.inr ⟨{ cls:=.type "list",data:=.seq vs.toArray },if_pos rfl⟩)) (λ b u z=>?_) λ _=>hk
  ·by_cases hb:b=a
   ·have J:=(if_pos hb).symm.trans z
    cases J
    exact .inl ⟨hb,_,_,rfl⟩
   ·have J:=(if_neg hb).symm.trans z
    by_cases hc:b∈tabs.map (·.2)
    ·rw[if_pos hc]at J;cases J;exact .inr ⟨hc,rfl⟩
    ·rw[if_neg hc]at J;cases J
  ·have hm:q.2∈tabs.map (·.2):=aP hq
   show(if _ then _ else if _ then _ else _)=_
   rw[if_neg (tbl _ hm),if_pos hm]
  ·by_cases hb:b=a
   ·have J:=(if_pos hb).symm.trans z
    cases J
    subst hb
    exact⟨ha,by rw[au];exact hl,vs,_,rv,ha⟩
   ·have J:=(if_neg hb).symm.trans z
    by_cases hc:b∈tabs.map (·.2)
    ·rw[if_pos hc]at J;cases J;exact G b hc
    ·rw[if_neg hc]at J;cases J
theorem aU4 {ts:List Addr}{l:dg}{n k:Nat}{q:aI}{loose:List Str}{XP:(Str->Option Value)->Heap->Prop}{YP:World->Heap->Prop}{d:DefRec}{K:Params->ae}{sp:ae->Sp}{x:Str}(names:List Str)
  (hn:l.most=some n) (a3:n<=aF) (a6:d.params.defaults=[]) (hr:Room k iH)
  (hY:∀(w:World) (h:Heap),YP w h->(K w.params).In h/\∀ P∈ts,h.get? P=some (em #[])) (a1:∀ w:World,bM0 (K w.params) names ts=true) (a5:∀ w:World,kg (K w.params)=true)
  (F:∀(w:World) (mg:Str->Option Value) (fa:Addr) (h:Heap),(K w.params).In h->h.Ns bv mg->mg d.name=some (.ref fa) ->
   ∃ fd:bJ,(∀(s:af) (u:Value),jW s fd ⟨[u],[]⟩ [(x,u)]) /\
    ∀ C:Heap,(K w.params).In C->C.Ns bv mg->BM mg C->bp1 (K w.params) names C->FnOk l.prog w (K w.params) mg C CX0 k fa fd [x] (sp (K w.params)))
  (a7:∀(K:ae) (H:Hp) (a:Addr) (ns:List Int),ns.length<=n->bw3 K names H->SqL K H a (ns.map V.int)->(∀ u,H a=some u->(∃ o xs,u=.frz o (.lst xs))\/∃ ps,u=.tbl ps)->sp K [.ref a] H (λ v _=>v=.bl true) E0) :
  kn q loose XP YP l.row.toRowW d [] (λ f vs=>jZ f vs):=by
 refine Att.attach_call hn a6 λ w s₀ s₁ mg mb fa o pm cd a9 a vs ns G Y ho hd b0 a8 a2 Z J hg=>?_
 obtain⟨KX,a4⟩:=hY w _ Y
 obtain⟨fd,hb,hF⟩:=F w mg fa _ KX G.T.g a8
 have hT:ke ((ax5 (K w.params) names).map (·.2)) s₁.heap:=λ p hp=>by
  obtain⟨y,hy,rfl⟩:=aN.mp hp
  obtain⟨h1,h2⟩:=ap5.mp hy
  have z:=aX.mp (a1 w) y.1 h1
  rw[h2]at z
  have z':(jH (K w.params) y.2.1 y.2.2&&ts.contains y.2.2)=true:=z
  rw[aj]at z'
  exact⟨PySem.W.codeHd_of_K KX z'.1,a4 _ (by simpa using z'.2)⟩
 have hm:∀ x∈names,∀ c P,bp (K w.params) x=some (c,P)->(c,P)∈(ax5 (K w.params) names).map (·.2):=λ x hx c P e=>aN.mpr ⟨(x,c,P),ap5.mpr ⟨hx,e⟩,rfl⟩
 refine aL0 (tabs:=(ax5 (K w.params) names).map (·.2)) KX G.T.g G.T.b G.T.builtins G.T.nolimit hg ?_ hT (a5 w) a2 Z (am J a3) hr (λ C k1 k2 k3 k4=>hF C k1 k2 k3 λ x hx c P e=>k4 _ (hm x hx c P e)) hb λ H hO hS hF=>a7 (K w.params) H a ns J (λ x hx c P e=>hO _ (hm x hx c P e)) hS hF
 obtain⟨bm,ob,h1,h2,h3,h4,h5,h6⟩:=G.T.bmain
 exact⟨bm,ob,h1,h2,h3,h4,h5,h6⟩
def spB (names:List Str)(K:ae):Sp:=λ vs H Q _=>∃(a:Addr) (ns:List Int),vs=[.ref a]/\SqF K H a (ns.map V.int)/\ns.length<=63/\bw3 K names H/\∀ H',Q (.bl true) H'
theorem bB0 {names:List Str}{K:ae}{H:Hp}{a:Addr}{ns:List Int}(hl:ns.length<=63)(hB:bw3 K names H)(y:SqL K H a (ns.map V.int))(F:∀ u,H a=some u->(∃ o C,u=.frz o (.lst C))\/∃ ps,u=.tbl ps):spB names K [.ref a] H (λ v _=>v=.bl true) E0:=by
 refine⟨a,ns,rfl,⟨y,λ H' k=>?_⟩,hl,hB,λ _=>rfl⟩
 rcases y with(h|⟨o,h⟩)|h
 ·rcases F _ h with⟨_,_,z⟩|⟨_,z⟩<;>cases z
 ·exact .inl (.inr ⟨o,k _ _ h rfl⟩)
 ·exact .inr h
def bX8 (P:lu):String->LamI->Prop:=λ id J=>∃ L,P.lm id=some L/\LamGood J L
noncomputable def sfx (x:Str):Str:=if x = "letter_table" then "least_fee" else "<lambda>"
noncomputable def bp2 (names:List Str)(K:ae):List (Addr×Str):=names.map λ x=>(((bp K x).getD (0,0)).2,x ++ ".<locals>."++sfx x)
noncomputable def by4 (names:List Str)(K:ae):List (Addr×Addr):=names.map λ x=>(bp K x).getD (0,0)
noncomputable def bR6 (K:ae)(f:String):Option Addr:=match eG K bv (f:Str)with
 | some (some (.ref a))=>(match K.lookup a with
  | some ⟨_,_,.func _,_⟩=>some a
  | _=>none)
 | _=>none
theorem aI2 {K:ae}{f:String}{a:Addr}(h:bR6 K f=some a):eG K bv (f:Str)=some (some (.ref a))/\∃ oc od y sl,K.lookup a=some ⟨oc,od,.func y,sl⟩:=by
 unfold bR6 at h
 split at h
 ·rename_i z e
  split at h
  ·rename_i oc od y sl e2
   cases h
   exact⟨e,_,_,_,_,e2⟩
  ·cases h
 ·cases h
noncomputable abbrev bg4 (names:List Str)(P:lu)(K:ae):Gm:=⟨K,bR6 K,bX8 P,bp2 names K⟩
theorem bQ1 {names:List Str}{P:lu}{K:ae}{h:Heap}{mg:Str->Option Value}(X:K.In h)(G:h.Ns bv mg):∀(f:String) (a:Addr),(bg4 names P K).fa f=some a->mg (f:Str)=some (.ref a)/\∃ oc od y sl,(bg4 names P K).K.lookup a=some ⟨oc,od,.func y,sl⟩:=λ f a e=>⟨dt X G (aI2 e).1,(aI2 e).2⟩
theorem aZ3 {names:List Str}{P:lu}{K:ae}(z:∀ x∈names,(bp K x).isSome=true){vs:List V}{H:Hp}{Q:VK}{E:XK}(q:spB names K vs H Q E):spT (bg4 names P K) vs H Q E:=by
 obtain⟨a,ns,e,C,hl,hB,y⟩:=q
 refine⟨a,ns,e,C,hl,TabsH.init λ p h=>?_,y⟩
 simp only[bp2,dH]at h
 obtain⟨x,hx,rfl⟩:=aN.mp h
 exact hB x hx _ _ (aq7 (z x hx))
theorem bi9 {names:List Str}{K:ae}{mg:Str->Option Value}{h:Heap}(z:∀ x∈names,(bp K x).isSome=true)(bm:BM mg h)(hc:bp1 K names h):∀ y∈by4 names K,bX h y.1 y.2/\BM mg h:=λ y hy=>by
 obtain⟨x,hx,rfl⟩:=aN.mp hy
 exact⟨hc x hx _ _ (aq7 (z x hx)),bm⟩
noncomputable def ar2:bj->Option (List Str)
 | ⟨[],args,none,[],[],none,[]⟩=>some (args.map (·.arg))
 | _=>none
theorem aB0 {p:bj}{ps:List Str}(h:ar2 p=some ps):∃ args,p=⟨[],args,none,[],[],none,[]⟩/\args.map (·.arg)=ps:=by
 unfold ar2 at h
 split at h
 ·exact⟨_,rfl,aw h⟩
 ·cases h
def bc8 (ps:List Str):Prop:=∀ params,ar2 params=some ps->∀(qual:Str) (body:Expr) (scope:Scope) (clos:List (Str×Addr)) (doc pm:Value) (c':Addr) (ctv:Value) (us:List Value),us.length=ps.length->eT (bW "<lambda>" qual params body scope clos pm (.ref c') ctv) ⟨us,[]⟩=pure (ps.zip us) /\
 ∀(nm:Str) (rp:Pos),eT (cA nm qual params [.Return (some body) rp] scope clos .none .none doc pm none (.ref c') ctv) ⟨us,[]⟩=pure (ps.zip us)
noncomputable def aU0 (ps fr:List Str)(sc:Scope):Bool:=decide (sc.kind=.function)&&!sc.isCoroutine&&!sc.isGenerator&&decide ((ps++fr).Nodup)&&(ps.all λ x=>decide (sc.names.lookup x=some .local)||decide (sc.names.lookup x=some .cell))&&(fr.all λ x=>decide (sc.names.lookup x=some .free))&&(sc.names.all λ y=>!decide (y.2=.cell)||decide (sc.names.lookup y.1=some .cell))
theorem aS4 {ps fr:List Str}{sc:Scope}(h:aU0 ps fr sc=true):LamScope (ps++fr) ps fr sc:=by
 unfold aU0 at h
 simp only[aj,decide_eq_true_eq,eF,aX,bP]at h
 obtain⟨⟨⟨⟨⟨⟨F,J⟩,h3⟩,Y⟩,C⟩,G⟩,h7⟩:=h
 exact⟨F,J,h3,Y,rfl,C,G,λ y hy e=>by
  rcases h7 y hy with z|z
  ·rw[e]at z;simp at z
  ·exact z⟩
noncomputable def bL8 (scope sc:Scope):Bool:=scope.names.all λ y=>!decide (scope.names.lookup y.1=some .free)||decide (sc.names.lookup y.1=some .cell)
theorem bc0 {scope sc:Scope}(h:bL8 scope sc=true):∀ x,scope.names.lookup x=some .free->sc.names.lookup x=some .cell:=λ x hx=>by
 have:=aX.mp h (x,.free) (ax hx)
 simp only[bP,eF,decide_eq_false_iff_not,decide_eq_true_eq]at this
 rcases this with z|z
 ·exact absurd hx z
 ·exact z
noncomputable def lkB (sc:Scope)(N:List Str)(caps:List Nat)(params:bj)(body:Expr)(scope:Scope)(t:l8×List Str×List Str):Bool :=
 decide (ar2 params=some t.2.1)&&decide (caps.map (λ j=>N[j]?)=t.2.2.map some)&&lamCheck scope sc&&bL8 scope sc&&aU0 t.2.1 t.2.2 scope&&decide (t.2.1.length=t.1.ps)&&decide (t.2.2.length=t.1.cs)&&mE (ck0 (t.2.1++t.2.2) scope) t.1.body body
noncomputable def lkG (f:Str)(sc:Scope)(N:List Str)(tab:List (String×l8×List Str×List Str))(id:String)(caps:List Nat)(E:Expr):Bool:=match tab.lookup id,E with
 | some t,.Lambda params body scope _=>decide (sfx f = "<lambda>")&&lkB sc N caps params body scope t
 | some t,.NamedExpr (.Name nm _) (.Lambda params body scope p1) p2=>decide (sfx f=nm)&&decide (p1=p2)&&lkB sc N caps params body scope t
 | _,_=>false
theorem bt3 {names:List Str}{P:lu}{K:ae}{f:Str}{sc:Scope}{N:List Str}{fd:bJ}{tab:List (String×l8×List Str×List Str)}(hf:f∈names)(F:fd.code=.ref ((bp K f).getD (0,0)).1)(Y:∀ y∈sc.names,y.2=.cell->sc.names.lookup y.1=some .cell)
  (J:∀ id t,tab.lookup id=some t->P.lm id=some t.1/\bc8 t.2.1):bM4 (bg4 names P K) (by4 names K) f sc N fd (lkG f sc N tab):=by
 intro id z E h
 have C:∀(t:l8×List Str×List Str) (params:bj) (body:Expr) (scope:Scope) (G:Option (Str×Pos)),tab.lookup id=some t->lkB sc N z params body scope t=true->(match G with|none => "<lambda>" | some p=>p.1)=sfx f ->
   LkAt (bg4 names P K) (by4 names K) f sc N fd id z params body scope ((bp K f).getD (0,0)).1 ((bp K f).getD (0,0)).2 ⟨f ++ ".<locals>."++sfx f,params,body,scope,t.2.1,t.2.2,G⟩:=λ t params body scope G e h hs=>by
  obtain⟨L,ps,fr⟩:=t
  unfold lkB at h
  simp only[aj,decide_eq_true_eq]at h
  obtain⟨⟨⟨⟨⟨⟨⟨h1,h2⟩,h3⟩,h4⟩,h5⟩,h6⟩,h7⟩,h8⟩:=h
  obtain⟨hL,hB⟩:=J id _ e
  obtain⟨args,rfl,a2⟩:=aB0 h1
  have Z:fr.length=z.length:=by have:=congrArg io h2;simpa using this.symm
  have S:=aS4 h5
  refine⟨F,aN.mpr ⟨f,hf,rfl⟩,h3,bc0 h4,Y,λ env=>rfl,⟨L,hL,⟨S,h6,h7,h8,λ a3 a5 pm c' a4 us a1=>hB _ h1 _ _ _ _ _ _ _ _ _ a1⟩⟩,?_,rfl,rfl,rfl,Z,λ i j x e1 e2=>?_,S.frs,aN.mpr ⟨f,hf,rfl⟩⟩
  ·show f ++ ".<locals>."++sfx f=f ++ ".<locals>."++LamI.own _
   unfold LamI.own
   rw[<-hs]<;>rfl
  ·have e3:(z.map (λ j=>N[j]?))[i]?=some (N[j]?):=by rw[aC,e1];rfl
   rw[h2,aC,e2]at e3
   exact(aw e3).symm
 unfold lkG at h
 split at h
 case h_3=>cases h
 ·rename_i t params body scope pos e
  rw[aj]at h
  exact⟨_,_,params,body,scope,pos,_,rfl,C t params body scope none e h.2 (of_decide_eq_true h.1).symm⟩
 ·rename_i t G rp params body scope p1 p2 e
  rw[aj,aj]at h
  have ep:=of_decide_eq_true h.1.2
  subst ep
  exact⟨_,_,params,body,scope,p1,_,rfl,C t params body scope (some (G,rp)) e h.2 (of_decide_eq_true h.1.1).symm⟩
theorem aV5 {names:List Str}{P:lu}{K:ae}{f:Str}{sc:Scope}{N:List Str}{y:bJ}:bM4 (bg4 names P K) (by4 names K) f sc N y (λ _ _ _=>false):=λ _ _ _ h=>by cases h
theorem bS3 {names:List Str}{P:lu}{K:ae}:∀ id J,(bg4 names P K).lg id J->∃ L,P.lm id=some L/\LamGood J L:=λ _ _ h=>h
theorem bR3 {P:lu}{tab:List (String×l8×List Str×List Str)}(h:∀ p∈tab,P.lm p.1=some p.2.1/\bc8 p.2.2.1):∀ id t,tab.lookup id=some t->P.lm id=some t.1/\bc8 t.2.1:=by
 induction tab with
 | nil=>intro id t e;cases e
 | cons y l ih =>
  intro id t e
  rw[bh]at e
  cases q:id==y.1 with
  | true =>
   rw[q]at e
   cases e
   rw[eq_of_beq q]
   exact h y (aG ..)
  | false =>
   rw[q]at e
   exact ih (λ p z=>h p (az _ z)) id t e
def bX0 (K:ae)(n:Str)(st:Stmt):Prop:=∃(f:Addr) (od an:Option Addr) (sl:Array (Option Value)) (oc kV dc pm cd ct:Value),eG K bv n=some (some (.ref f)) /\
 K.lookup f=some ⟨oc,od,.func (c6 n n (defArgs st) (zE st) (defScope st) .none kV dc pm an cd ct),sl⟩/\fG K cd n=true/\cu K (.ref f)=true
def bU4 (n:Str)(st:Stmt)(ps:List Str):Prop:=∀(kV doc pm:Value) (an:Option Addr) (cdv ct:Value) (us:List Value),us.length=ps.length->eT (c6 n n (defArgs st) (zE st) (defScope st) .none kV doc pm an cdv ct) ⟨us,[]⟩=pure (ps.zip us)
theorem bd0 {Q:List Value->Prop}(h:Q [])(us:List Value)(hl:us.length=0):Q us:=by
 cases us with
 | nil=>exact h
 | cons _ _=>cases hl
theorem bdS {k:Nat}{Q:List Value->Prop}(h:∀ a us,us.length=k->Q (a::us))(us:List Value)(hl:us.length=k+1):Q us:=by
 cases us with
 | nil=>cases hl
 | cons a us=>exact h a us (Nat.succ.inj hl)
theorem bd1 {Q:List Value->Prop}(h:∀ a,Q [a]):∀ us:List Value,us.length=1->Q us:=bdS λ a=>bd0 (h a)
theorem bd2 {Q:List Value->Prop}(h:∀ a b,Q [a,b]):∀ us:List Value,us.length=2->Q us:=bdS λ a=>bd1 (h a)
theorem bd3 {Q:List Value->Prop}(h:∀ a b c,Q [a,b,c]):∀ us:List Value,us.length=3->Q us:=bdS λ a=>bd2 (h a)
theorem bd4 {Q:List Value->Prop}(h:∀ a b c d,Q [a,b,c,d]):∀ us:List Value,us.length=4->Q us:=bdS λ a=>bd3 (h a)
theorem bd5 {Q:List Value->Prop}(h:∀ a b c d e,Q [a,b,c,d,e]):∀ us:List Value,us.length=5->Q us:=bdS λ a=>bd4 (h a)
def DT (names:List Str)(P:lu)(n:String)(d:l9)(st:Stmt):Prop:=∃ N ps,FnScope N ps (defScope st)/\ps.length=d.ps/\N.length=d.ps+d.vs/\bU4 n st ps/\(mSs ⟨N,defScope st,λ _ _ _=>false⟩ d.body (zE st)=true \/
 ((n:Str)∈names/\∃ tab,mSs ⟨N,defScope st,lkG n (defScope st) N tab⟩ d.body (zE st)=true/\(∀ y∈(defScope st).names,y.2=.cell->(defScope st).names.lookup y.1=some .cell)/\∀ p∈tab,P.lm p.1=some p.2.1/\bc8 p.2.2.1))
theorem good_of {names:List Str}{P:lu}{K:ae}{h:Heap}{mg:Str->Option Value}{n:String}{d:l9}{st:Stmt}(X:K.In h)(G:h.Ns bv mg)(hT:∀ x∈names,(bp K x).isSome=true)(hD:bX0 K n st)(hd:DT names P n d st):Good (bg4 names P K) (by4 names K) mg n d:=by
 obtain⟨f,od,an,sl,oc,kV,dc,Z,cd,ct,a,l,c,k⟩:=hD
 obtain⟨N,ps,z,C,h3,J,y⟩:=hd
 have F:=bk6 (st:=st) l c k
 have D:DefAt K mg n st ps f _:=⟨F,dt X G a,F.binds J⟩
 rcases y with y|⟨hn,tab,y,Y,h7⟩
 ·exact⟨_,_,_,_,_,_,D,z,C,h3,y,aV5⟩
 ·exact⟨_,_,_,_,_,_,D,z,C,h3,y,bt3 hn (PySem.W.law_code X G (aq7 (hT _ hn)) (dt X G a) (X _ _ l) rfl) Y (bR3 h7)⟩
end L2
end
noncomputable section
namespace DV
noncomputable def ay5:Df:=⟨"_law_bag",2,3,(.cons (.asg (.one 2) (.cst (.int 0))) (.cons (.ite (.cmp .lt (.var 1) (.bi .len (.cons (.var 0) .nil))) (.cons (.asg (.one 2) (.bi .abs (.cons (.ix (.var 0) (.var 1)) .nil))) .nil) .nil) (.cons (.asg (.one 3) (.bin .add (.bin .mul (.cst (.int 7919)) (.var 1)) (.cst (.int 17)))) (.cons (.for_ (.one 4) (.rng1 (.bi .min2 (.cons (.bi .len (.cons (.var 0) .nil)) (.cons (.cst (.int 60)) .nil)))) (.cons (.asg (.one 3) (.bin .mod (.bin .add (.bin .add (.bin .mul (.var 3) (.cst (.int 48271))) (.bin .mod (.ix (.var 0) (.var 4)) (.cst (.int 2147483647)))) (.var 4)) (.cst (.int 2147483629)))) .nil)) (.cons (.ite (.cmp .lt (.var 2) (.bin .pow (.cst (.int 10)) (.cst (.int 18)))) (.cons (.asg (.one 2) (.cst (.int 0))) .nil) .nil) (.cons (.ret (.lst (.cons (.var 2) (.cons (.var 3) .nil)))) .nil))))))⟩
noncomputable def ac4:Df:=⟨"_law_take",2,3,(.cons (.ite (.cmp .gt (.ix (.var 0) (.cst (.int 0))) (.cst (.int 0))) (.cons (.asg (.one 2) (.bin .mod (.ix (.var 0) (.cst (.int 0))) (.var 1))) (.cons (.setIx (.var 0) (.cst (.int 0)) (.bin .fdiv (.ix (.var 0) (.cst (.int 0))) (.var 1))) (.cons (.ret (.var 2)) .nil))) .nil) (.cons (.asg (.one 3) (.cst (.int 0))) (.cons (.asg (.one 4) (.cst (.int 1))) (.cons (.whl (.cmp .lt (.var 4) (.var 1)) (.cons (.setIx (.var 0) (.cst (.int 1)) (.bin .mod (.bin .add (.bin .mul (.ix (.var 0) (.cst (.int 1))) (.cst (.int 48271))) (.cst (.int 7919))) (.cst (.int 2147483647)))) (.cons (.asg (.one 3) (.bin .add (.bin .mul (.var 3) (.cst (.int 1073741789))) (.bin .mod (.bin .mul (.bin .fdiv (.ix (.var 0) (.cst (.int 1))) (.cst (.int 8))) (.cst (.int 69621))) (.cst (.int 1073741789))))) (.cons (.asg (.one 4) (.bin .mul (.var 4) (.cst (.int 1073741789)))) .nil)))) (.cons (.ret (.bin .mod (.var 3) (.var 1))) .nil)))))⟩
noncomputable def ad3:Df:=⟨"_law_rooms",2,1,(.cons (.asg (.one 2) (.call "_law_take" (.ex (.var 0) (.ex (.bin .shl (.cst (.int 1)) (.var 1)) .nil)))) (.cons (.ret (.mk .tuple (.compIf (.one 0) (.rng1 (.var 1)) (.cmp .eq (.bin .mod (.bin .fdiv (.var 1) (.bin .shl (.cst (.int 1)) (.var 0))) (.cst (.int 2))) (.cst (.int 1))) (.var 0) [none,some 2]))) .nil))⟩
noncomputable def aa4:Df:=⟨"letters_of",1,0,(.cons (.ret (.slU (.glob "LETTERS") (.ix (.var 0) (.cst (.int 0))))) .nil)⟩
noncomputable def ah3:Df:=⟨"_law_word",3,2,(.cons (.asg (.one 3) (.cst (.str []))) (.cons (.for_ (.one 4) (.rng1 (.call "_law_take" (.ex (.var 0) (.ex (.bin .add (.var 2) (.cst (.int 1))) .nil)))) (.cons (.asg (.one 3) (.bin .add (.var 3) (.ix (.cst (.str [97,98,99])) (.call "_law_take" (.ex (.var 0) (.ex (.var 1) .nil)))))) .nil)) (.cons (.ret (.var 3)) .nil)))⟩
noncomputable def ab6:Df:=⟨"rooms_of",1,0,(.cons (.ret (.ix (.var 0) (.cst (.int 1)))) .nil)⟩
noncomputable def ab3:Df:=⟨"begins_of",1,0,(.cons (.ret (.ix (.var 0) (.cst (.int 2)))) .nil)⟩
noncomputable def ac2:Df:=⟨"ends_of",1,0,(.cons (.ret (.ix (.var 0) (.cst (.int 3)))) .nil)⟩
noncomputable def ab5:Df:=⟨"doors_of",1,0,(.cons (.ret (.ix (.var 0) (.cst (.int 4)))) .nil)⟩
noncomputable def ab4:Df:=⟨"_law_whole",3,0,(.cons (.ret (.and (.bi .isInt (.cons (.var 0) .nil)) (.and (.not (.bi .isBool (.cons (.var 0) .nil))) (.chain .le .le (.var 1) (.var 0) (.var 2))))) .nil)⟩
noncomputable def aa8:Df:=⟨"check_pair",2,0,(.cons (.ite (.cmp .ne (.call "letters_of" (.ex (.var 0) .nil)) (.call "letters_of" (.ex (.var 1) .nil))) (.cons .raise .nil) .nil) .nil)⟩
noncomputable def aa7:Df:=⟨"check_rooms",1,0,(.cons (.ite (.cmp .gt (.var 0) (.glob "MOST_ROOMS")) (.cons .raise .nil) .nil) .nil)⟩
noncomputable def ac3:Df:=⟨"brought",5,6,(.cons (.asg (.one 5) .dicT) (.cons (.for_ (.tup [6,7,8,9]) (.seq (.var 4)) (.cons (.asg (.one 10) (.tup (.cons (.var 6) (.cons (.var 7) (.cons (.var 8) .nil))))) (.cons (.setIx (.var 5) (.var 10) (.bi .min2 (.cons (.var 9) (.cons (.get2 (.var 5) (.var 10) (.var 9)) .nil)))) .nil))) (.cons (.ret (.tup (.cons (.bi .len (.cons (.call "letters_of" (.ex (.var 0) .nil)) .nil)) (.cons (.var 1) (.cons (.var 2) (.cons (.var 3) (.cons (.mk .tuple (.itm (.var 5))) .nil))))))) .nil)))⟩
noncomputable def ae5:Df:=⟨"_law_sized",4,5,(.cons (.asg (.one 4) (.call "_law_take" (.ex (.var 0) (.ex (.cst (.int 13)) .nil)))) (.cons (.ite (.cmp .eq (.call "_law_take" (.ex (.var 0) (.ex (.cst (.int 8)) .nil))) (.cst (.int 7))) (.cons (.asg (.one 4) (.call "_law_take" (.ex (.var 0) (.ex (.cst (.int 76)) .nil)))) .nil) .nil) (.cons (.asg (.one 5) (.lst .nil)) (.cons (.for_ (.one 6) (.rng1 (.var 4)) (.cons (.asg (.one 7) (.call "_law_take" (.ex (.var 0) (.ex (.var 2) .nil)))) (.cons (.asg (.one 8) (.ix (.cst (.str [97,98,99])) (.call "_law_take" (.ex (.var 0) (.ex (.var 1) .nil))))) (.cons (.ex (.meth .append (.var 5) (.cons (.tup (.cons (.var 7) (.cons (.var 8) (.cons (.call "_law_take" (.ex (.var 0) (.ex (.var 2) .nil))) (.cons (.call "_law_take" (.ex (.var 0) (.ex (.bin .add (.var 3) (.cst (.int 1))) .nil))) .nil))))) .nil))) .nil)))) (.cons (.ret (.tup (.cons (.var 1) (.cons (.var 2) (.cons (.call "_law_rooms" (.ex (.var 0) (.ex (.var 2) .nil))) (.cons (.call "_law_rooms" (.ex (.var 0) (.ex (.var 2) .nil))) (.cons (.mk .tuple (.seq (.var 5))) .nil))))))) .nil)))))⟩
noncomputable def ac5:Df:=⟨"_law_words",2,6,(.cons (.asg (.one 2) (.lst (.cons (.cst (.str [])) .nil))) (.cons (.asg (.one 3) (.lst (.cons (.cst (.str [])) .nil))) (.cons (.for_ (.one 4) (.rng1 (.cst (.int 3))) (.cons (.asg (.one 5) (.lst .nil)) (.cons (.for_ (.one 6) (.seq (.var 3)) (.cons (.ex (.ext (.var 5) (.comp (.one 0) (.seq (.slU (.cst (.str [97,98,99])) (.var 1))) (.bin .add (.var 1) (.var 0)) [none,some 6]))) .nil)) (.cons (.ex (.extS (.var 2) (.var 5))) (.cons (.asg (.one 3) (.var 5)) .nil))))) (.cons (.for_ (.one 7) (.seq (.lst (.cons (.cst (.int 12)) (.cons (.cst (.int 12)) (.cons (.cst (.int 200)) .nil))))) (.cons (.ex (.meth .append (.var 2) (.cons (.call "_law_word" (.ex (.var 0) (.ex (.var 1) (.ex (.var 7) .nil)))) .nil))) .nil)) (.cons (.ret (.var 2)) .nil)))))⟩
noncomputable def ac1:Df:=⟨"_law_price",2,7,(.cons (.asg (.one 2) (.mk .list (.comp (.one 0) (.rng1 (.ix (.var 0) (.cst (.int 1)))) (.ix (.lst (.cons (.cst .non) (.cons (.cst (.int 0)) .nil))) (.bi .int (.cons (.cmp .isin (.var 0) (.ix (.var 1) (.cst (.int 2)))) .nil))) [none,some 0]))) (.cons (.for_ (.one 3) (.seq (.var 1)) (.cons (.asg (.one 4) (.mk .list (.comp (.one 0) (.seq (.var 2)) (.cst .non) [none]))) (.cons (.for_ (.tup [5,6,7,8]) (.seq (.ix (.var 0) (.cst (.int 4)))) (.cons (.ite (.and (.cmp .eq (.var 6) (.var 3)) (.notN (.ix (.var 2) (.var 5)))) (.cons (.ite (.or (.isN (.ix (.var 4) (.var 7))) (.cmp .lt (.bin .add (.ix (.var 2) (.var 5)) (.var 8)) (.ix (.var 4) (.var 7)))) (.cons (.setIx (.var 4) (.var 7) (.bin .add (.ix (.var 2) (.var 5)) (.var 8))) .nil) .nil) .nil) .nil) .nil)) (.cons (.asg (.one 2) (.var 4)) .nil)))) (.cons (.ret (.mkD .min (.compIf (.one 0) (.seq (.ix (.var 0) (.cst (.int 3)))) (.notN (.ix (.var 1) (.var 0))) (.ix (.var 1) (.var 0)) [none,some 2]) (.cst .non))) .nil)))⟩
noncomputable def ab0:Df:=⟨"_law_are_rooms",2,2,(.cons (.ite (.not (.bi .isTup (.cons (.var 0) .nil))) (.cons (.ret (.cst (.bl false))) .nil) .nil) (.cons (.asg (.one 2) (.neg (.cst (.int 1)))) (.cons (.for_ (.one 3) (.seq (.var 0)) (.cons (.ite (.not (.call "_law_whole" (.ex (.var 3) (.ex (.bin .add (.var 2) (.cst (.int 1))) (.ex (.bin .sub (.var 1) (.cst (.int 1))) .nil))))) (.cons (.ret (.cst (.bl false))) .nil) .nil) (.cons (.asg (.one 2) (.var 3)) .nil))) (.cons (.ret (.cst (.bl true))) .nil))))⟩
noncomputable def aa9:Df:=⟨"_law_is_door",3,0,(.cons (.ite (.or (.not (.bi .isTup (.cons (.var 0) .nil))) (.or (.cmp .ne (.bi .len (.cons (.var 0) .nil)) (.cst (.int 4))) (.or (.not (.bi .isStr (.cons (.ix (.var 0) (.cst (.int 1))) .nil))) (.cmp .ne (.bi .len (.cons (.ix (.var 0) (.cst (.int 1))) .nil)) (.cst (.int 1)))))) (.cons (.ret (.cst (.bl false))) .nil) .nil) (.cons (.ite (.or (.not (.call "_law_whole" (.ex (.ix (.var 0) (.cst (.int 0))) (.ex (.cst (.int 0)) (.ex (.bin .sub (.var 2) (.cst (.int 1))) .nil))))) (.not (.call "_law_whole" (.ex (.ix (.var 0) (.cst (.int 2))) (.ex (.cst (.int 0)) (.ex (.bin .sub (.var 2) (.cst (.int 1))) .nil)))))) (.cons (.ret (.cst (.bl false))) .nil) .nil) (.cons (.ret (.and (.cmp .isin (.ix (.var 0) (.cst (.int 1))) (.slU (.cst (.str [97,98,99])) (.var 1))) (.call "_law_whole" (.ex (.ix (.var 0) (.cst (.int 3))) (.ex (.cst (.int 0)) (.ex (.cst (.int 3)) .nil)))))) .nil)))⟩
noncomputable def aa6:Df:=⟨"_law_is_machine",2,0,(.cons (.ite (.or (.not (.bi .isTup (.cons (.var 0) .nil))) (.or (.cmp .ne (.bi .len (.cons (.var 0) .nil)) (.cst (.int 5))) (.not (.call "_law_whole" (.ex (.ix (.var 0) (.cst (.int 0))) (.ex (.var 1) (.ex (.var 1) .nil))))))) (.cons (.ret (.cst (.bl false))) .nil) .nil) (.cons (.ite (.or (.not (.call "_law_whole" (.ex (.ix (.var 0) (.cst (.int 1))) (.ex (.cst (.int 1)) (.ex (.cst (.int 5)) .nil))))) (.or (.not (.bi .isTup (.cons (.ix (.var 0) (.cst (.int 4))) .nil))) (.cmp .gt (.bi .len (.cons (.ix (.var 0) (.cst (.int 4))) .nil)) (.cst (.int 75))))) (.cons (.ret (.cst (.bl false))) .nil) .nil) (.cons (.ite (.or (.not (.call "_law_are_rooms" (.ex (.ix (.var 0) (.cst (.int 2))) (.ex (.ix (.var 0) (.cst (.int 1))) .nil)))) (.not (.call "_law_are_rooms" (.ex (.ix (.var 0) (.cst (.int 3))) (.ex (.ix (.var 0) (.cst (.int 1))) .nil))))) (.cons (.ret (.cst (.bl false))) .nil) .nil) (.cons (.ret (.mk .all (.comp (.one 0) (.seq (.ix (.var 0) (.cst (.int 4)))) (.call "_law_is_door" (.ex (.var 0) (.ex (.var 1) (.ex (.ix (.var 2) (.cst (.int 1))) .nil)))) [none,some 1,some 0]))) .nil))))⟩
noncomputable def ad9:Df:=⟨"moved",2,0,(.cons (.ret (.mk .tuple (.comp (.one 0) (.seq (.var 0)) (.bin .add (.var 0) (.var 1)) [none,some 1]))) .nil)⟩
noncomputable def aa5:Df:=⟨"doors_beside",2,2,(.cons (.asg (.one 2) (.call "rooms_of" (.ex (.var 0) .nil))) (.cons (.asg (.one 3) (.mk .list (.comp (.tup [0,1,2,3]) (.seq (.call "doors_of" (.ex (.var 1) .nil))) (.tup (.cons (.bin .add (.var 0) (.var 4)) (.cons (.var 1) (.cons (.bin .add (.var 2) (.var 4)) (.cons (.var 3) .nil))))) [none,none,none,none,some 2]))) (.cons (.ret (.bin .add (.mk .list (.seq (.call "doors_of" (.ex (.var 0) .nil)))) (.var 3))) .nil)))⟩
noncomputable def ad4:Df:=⟨"lesser",2,3,(.cons (.ex (.call "check_pair" (.ex (.var 0) (.ex (.var 1) .nil)))) (.cons (.asg (.one 2) (.call "rooms_of" (.ex (.var 0) .nil))) (.cons (.ex (.call "check_rooms" (.ex (.bin .add (.var 2) (.call "rooms_of" (.ex (.var 1) .nil))) .nil))) (.cons (.asg (.one 3) (.bin .add (.call "begins_of" (.ex (.var 0) .nil)) (.call "moved" (.ex (.call "begins_of" (.ex (.var 1) .nil)) (.ex (.var 2) .nil))))) (.cons (.asg (.one 4) (.bin .add (.call "ends_of" (.ex (.var 0) .nil)) (.call "moved" (.ex (.call "ends_of" (.ex (.var 1) .nil)) (.ex (.var 2) .nil))))) (.cons (.ret (.call "brought" (.ex (.var 0) (.ex (.bin .add (.var 2) (.call "rooms_of" (.ex (.var 1) .nil))) (.ex (.var 3) (.ex (.var 4) (.ex (.call "doors_beside" (.ex (.var 0) (.ex (.var 1) .nil))) .nil))))))) .nil))))))⟩
noncomputable def ac0:Df:=⟨"_law_least",1,0,(.cons (.ret (.mkD .min (.compIf (.one 0) (.seq (.var 0)) (.notN (.var 0)) (.var 0) [none]) (.cst .non))) .nil)⟩
noncomputable def ac6:Df:=⟨"_law_right",4,1,(.cons (.ite (.not (.call "_law_is_machine" (.ex (.var 0) (.ex (.ix (.var 1) (.cst (.int 0))) .nil)))) (.cons (.ret (.cst (.bl false))) .nil) .nil) (.cons (.for_ (.one 4) (.seq (.var 3)) (.cons (.ite (.cmp .ne (.call "_law_price" (.ex (.var 0) (.ex (.var 4) .nil))) (.call "_law_least" (.ex (.lst (.cons (.call "_law_price" (.ex (.var 1) (.ex (.var 4) .nil))) (.cons (.call "_law_price" (.ex (.var 2) (.ex (.var 4) .nil))) .nil))) .nil))) (.cons (.ret (.cst (.bl false))) .nil) .nil) .nil)) (.cons (.ret (.cst (.bl true))) .nil)))⟩
noncomputable def ab8:Df:=⟨"law",1,6,(.cons (.asg (.one 1) (.call "_law_bag" (.ex (.var 0) (.ex (.cst (.int 0)) .nil)))) (.cons (.asg (.one 2) (.bin .add (.cst (.int 1)) (.call "_law_take" (.ex (.var 1) (.ex (.cst (.int 3)) .nil))))) (.cons (.asg (.one 3) (.bin .add (.cst (.int 1)) (.call "_law_take" (.ex (.var 1) (.ex (.cst (.int 4)) .nil))))) (.cons (.asg (.one 4) (.call "_law_sized" (.ex (.var 1) (.ex (.var 2) (.ex (.var 3) (.ex (.cst (.int 3)) .nil)))))) (.cons (.asg (.one 1) (.call "_law_bag" (.ex (.var 0) (.ex (.cst (.int 1)) .nil)))) (.cons (.asg (.one 5) (.call "_law_sized" (.ex (.var 1) (.ex (.var 2) (.ex (.bin .add (.cst (.int 1)) (.call "_law_take" (.ex (.var 1) (.ex (.bin .sub (.cst (.int 5)) (.var 3)) .nil)))) (.ex (.cst (.int 3)) .nil)))))) (.cons (.asg (.one 6) (.call "_law_words" (.ex (.call "_law_bag" (.ex (.var 0) (.ex (.cst (.int 2)) .nil))) (.ex (.var 2) .nil)))) (.cons (.ite (.not (.call "_law_right" (.ex (.call "lesser" (.ex (.var 4) (.ex (.var 5) .nil))) (.ex (.var 4) (.ex (.var 5) (.ex (.var 6) .nil)))))) (.cons (.ret (.cst (.bl false))) .nil) .nil) (.cons (.ite (.and (.cmp .lt (.var 3) (.cst (.int 3))) (.not (.call "_law_right" (.ex (.call "lesser" (.ex (.var 4) (.ex (.var 4) .nil))) (.ex (.var 4) (.ex (.var 4) (.ex (.slL (.var 6) (.neg (.cst (.int 3)))) .nil))))))) (.cons (.ret (.cst (.bl false))) .nil) .nil) (.cons (.ret (.call "_law_right" (.ex (.call "lesser" (.ex (.var 5) (.ex (.var 4) .nil))) (.ex (.var 5) (.ex (.var 4) (.ex (.slL (.var 6) (.neg (.cst (.int 3)))) .nil)))))) .nil))))))))))⟩
noncomputable def bY2:Df:=⟨"_law_on",3,5,(.cons (.asg (.one 3) (.mk .list (.comp (.one 0) (.seq (.var 2)) (.cst .non) [none]))) (.cons (.for_ (.tup [4,5,6,7]) (.seq (.ix (.var 0) (.cst (.int 4)))) (.cons (.ite (.and (.cmp .eq (.var 5) (.var 1)) (.notN (.ix (.var 2) (.var 4)))) (.cons (.ite (.or (.isN (.ix (.var 3) (.var 6))) (.cmp .lt (.bin .add (.ix (.var 2) (.var 4)) (.var 7)) (.ix (.var 3) (.var 6)))) (.cons (.setIx (.var 3) (.var 6) (.bin .add (.ix (.var 2) (.var 4)) (.var 7))) .nil) .nil) .nil) .nil) .nil)) (.cons (.ret (.var 3)) .nil)))⟩
class Has (P:Pr)(d:Df):Prop where
 eq:P.df d.name=some d
class HasC (P:Pr)(x:String)(v:D):Prop where
 eq:P.con x=some v
noncomputable def fin (s:Sto)(c:Ct)(s':Sto):R D:=match c with
 | .ret v=>zH s v s'
 | .next _=>zH s .non s'
 | _=>.bad
@[simp] theorem fin_ret (s:Sto) (v:D) (s':Sto):fin s (.ret v) s'=zH s v s':=rfl
@[simp] theorem fin_next (s:Sto) (ρ:Env) (s':Sto):fin s (.next ρ) s'=zH s .non s':=rfl
theorem zh {P:Pr}(d:Df)[h:Has P d]{n:Nat}{l:List D}{s:Sto}(hl:l.length=d.ps) :
  (aa1 P (n+1)).call d.name l s=(exs (aa1 P n) d.body (l.map some++aH d.vs none) s).bind (fin s):=by
 simp only[aa1,h.eq,hl,if_true]
 rfl
theorem aO6 {P:Pr}{x:String}{v:D}[h:HasC P x v]{n:Nat}:(aa1 P n).con x=some v:=by
 cases n<;>exact h.eq
theorem az4 (s t:Sto):aq1 s (s++t)=true:=by
 unfold aq1
 rw[aX]
 intro i h
 rw[cf]at h
 rw[aK h]
 simp
theorem au6 (s t:Sto)(r:Nat)(o:O)(h:o.bnd s.length=true):aq1 s (s.set r o++t)=true:=by
 unfold aq1
 rw[aX]
 intro i y
 rw[cf]at y
 rw[aK (by rw[a0];exact y)]
 by_cases e:r=i
 ·subst e;rw[aV y];simp[h]
 ·rw[aR e];simp
theorem qu {s t:Sto}{d:D}(h:∀ n,d.bnd n=true)(hr:∀ r,d≠.ref r):zH s d (s++t)=.ok d s:=by
 unfold zH
 rw[az4,if_pos rfl]
 cases d with
 | ref r=>exact absurd rfl (hr r)
 | _=>simp[h]
theorem zq {s:Sto}{d:D}(h:∀ n,d.bnd n=true)(hr:∀ r,d≠.ref r):zH s d s=.ok d s:=by
 have:=qu (s:=s) (t:=[]) h hr
 rwa [bq]at this
theorem az7 {s t:Sto}{d:D}{r:Nat}{o:O}(h:∀ n,d.bnd n=true)(hr:∀ r,d≠.ref r)(ho:o.bnd s.length=true):zH s d (s.set r o++t)=.ok d (s.set r o):=by
 unfold zH
 rw[au6 s t r o ho,if_pos rfl]
 have e:(s.set r o++t).take s.length=s.set r o:=by rw[eZ (by simp),eD (by simp)]
 cases d with
 | ref r=>exact absurd rfl (hr r)
 | _=>simp only[h,if_true,e]
theorem qw {s:Sto}{d:D}{r:Nat}{o:O}(h:∀ n,d.bnd n=true)(hr:∀ r,d≠.ref r)(ho:o.bnd s.length=true):zH s d (s.set r o)=.ok d (s.set r o):=by
 have:=az7 (s:=s) (t:=[]) (r:=r) h hr ho
 rwa [bq]at this
theorem az1 {s t u:Sto}{o:O}(ho:o.bnd s.length=true):zH s (.ref (s.length+t.length)) (s++(t++o::u))=.ok (.ref s.length) (s++[o]):=by
 unfold zH
 rw[az4,if_pos rfl]
 simp[ho,aY]
@[simp] theorem bD5 {s:Sto} {i:Int}:zH s (.int i) s=.ok (.int i) s:=zq (λ _=>rfl) (by nofun)
@[simp] theorem aZ4 {s:Sto} {i:Bool}:zH s (.bl i) s=.ok (.bl i) s:=zq (λ _=>rfl) (by nofun)
@[simp] theorem ax2 {s:Sto}:zH s .non s=.ok .non s:=zq (λ _=>rfl) (by nofun)
@[simp] theorem bL9 {s:Sto} {x:List Nat}:zH s (.str x) s=.ok (.str x) s:=zq (λ _=>rfl) (by nofun)
theorem qt {c:Env->Sto->R D}{g:Env->Sto->R Ct}:∀ {n:Nat} {ρ:Env} {s:Sto},qF c g n ρ s≠.bad->qF c g (n+1) ρ s=qF c g n ρ s
 | 0,_,_,h=>absurd rfl h
 | n+1,ρ,s,h=>by
  rw[show qF c g (n+1+1) ρ s=tru (c ρ s) (λ b s=>if b then(g ρ s).bind λ y s=>match y with
   | .next ρ=>qF c g (n+1) ρ s|.cont ρ=>qF c g (n+1) ρ s|.brk ρ=>.ok (.next ρ) s|.ret d=>.ok (.ret d) s else .ok (.next ρ) s)from rfl]
  have e:qF c g (n+1) ρ s=tru (c ρ s) (λ b s=>if b then(g ρ s).bind λ y s=>match y with
   | .next ρ=>qF c g n ρ s|.cont ρ=>qF c g n ρ s|.brk ρ=>.ok (.next ρ) s|.ret d=>.ok (.ret d) s else .ok (.next ρ) s):=rfl
  rw[e]at h ⊢
  unfold tru at h ⊢
  cases hc:c ρ s with
  | exc _ _=>rfl
  | bad=>rfl
  | ok d s1 =>
   rw[hc]at h
   cases d with
   | bl b =>
    cases b with
    | false=>rfl
    | true =>
     simp only[R.bind_ok,if_true]at h ⊢
     cases hg:g ρ s1 with
     | exc _ _=>rfl
     | bad=>rfl
     | ok y s2 =>
      rw[hg]at h
      simp only[R.bind_ok]at h ⊢
      cases y with
      | next ρ'=>exact qt h
      | cont ρ'=>exact qt h
      | _=>rfl
   | _=>rfl
theorem zX {c:Env->Sto->R D}{g:Env->Sto->R Ct}{n:Nat}{ρ:Env}{s:Sto}(h:qF c g n ρ s≠.bad):∀ k,qF c g (n+k) ρ s=qF c g n ρ s
 | 0=>rfl
 | k+1=>by
  have e:=zX h k
  rw[<-Nat.add_assoc,qt (by rw[e];exact h),e]
theorem bz6 {c:Env->Sto->R D}{g:Env->Sto->R Ct}{n:Nat}{ρ:Env}{s:Sto}{r:Ct}{t:Sto}(h:qF c g n ρ s=.ok r t):whl c g ρ s=.ok r t:=by
 have hb:qF c g n ρ s≠.bad:=by rw[h];nofun
 have hx:∃ n,qF c g n ρ s≠.bad:=⟨n,hb⟩
 unfold whl
 rw[dif_pos hx]
 have y:=zX hx.choose_spec n
 have z:=zX hb hx.choose
 rw[<-y,gO,z,h]
theorem bf7 {c:Env->Sto->R D}{g:Env->Sto->R Ct}{ρ ρ':Env}{s s1 s':Sto}(hc:c ρ s=.ok (.bl true) s1)(hg:g ρ s1=.ok (.next ρ') s'):whl c g ρ s=whl c g ρ' s':=by
 have key:∀ n,qF c g (n+1) ρ s=qF c g n ρ' s':=λ n=>by
  show tru (c ρ s) _=_
  rw[hc,tru_bl,if_pos rfl,hg];rfl
 unfold whl
 by_cases hx:∃ n,qF c g n ρ' s'≠.bad
 ·have hy:∃ n,qF c g n ρ s≠.bad:=⟨hx.choose+1,by rw[key];exact hx.choose_spec⟩
  rw[dif_pos hx,dif_pos hy]
  have h:=zX hy.choose_spec (hx.choose+1)
  have y:=zX (n:=hx.choose+1) (ρ:=ρ) (s:=s) (by rw[key];exact hx.choose_spec) hy.choose
  rw[<-h,gO,y,key]
 ·have hy:¬ ∃ n,qF c g n ρ s≠.bad:=λ⟨n,hn⟩=>by
   cases n with
   | zero=>exact hn rfl
   | succ n=>exact hx ⟨n,by rw[<-key];exact hn⟩
  rw[dif_neg hx,dif_neg hy]
theorem bo8 {c:Env->Sto->R D}{g:Env->Sto->R Ct}{ρ:Env}{s s1:Sto}(hc:c ρ s=.ok (.bl false) s1):whl c g ρ s=.ok (.next ρ) s1 :=
 bz6 (n:=1) (by show tru (c ρ s) _=_;rw[hc,tru_bl];rfl)
theorem aS8 {ok:Sto->Bool}{g:D->Env->Sto->R Ct}(P:Nat->Env->Sto->Prop):∀(l:List D) (k:Nat) (ρ:Env) (s:Sto),
  P k ρ s->(∀(j:Nat) (ρ:Env) (s:Sto),j<=l.length->P (k+j) ρ s->ok s=true)->(∀(j:Nat) (d:D) (ρ:Env) (s:Sto),l[j]?=some d->P (k+j) ρ s->∃ ρ' s',(g d ρ s=.ok (.next ρ') s'\/g d ρ s=.ok (.cont ρ') s')/\P (k+j+1) ρ' s') ->
  ∃ ρ' s',aM9 ok g l ρ s=.ok (.next ρ') s'/\P (k+l.length) ρ' s'
 | [],k,ρ,s,h,o,_=>⟨ρ,s,by show(if ok s then _ else _)=_;rw[if_pos (o 0 ρ s (ak _) h)],h⟩
 | d::l,k,ρ,s,h,o,t=>by
  have ho:=o 0 ρ s (cO _) h
  obtain⟨ρ1,s1,hg,y⟩:=t 0 d ρ s rfl h
  obtain⟨ρ2,s2,e,C⟩:=aS8 P l (k+1) ρ1 s1 y (λ j ρ' s' hj z=>o (j+1) ρ' s' (by simpa using hj) (by rwa [show k+(j+1)=k+1+j by omega])) λ j d' ρ' s' hj z=>by
   have:=t (j+1) d' ρ' s' (by simpa using hj) (by rwa [show k+(j+1)=k+1+j by omega])
   rwa [show k+(j+1)+1=k+1+j+1 by omega]at this
  refine⟨ρ2,s2,?_,by rwa [aW,show k+(l.length+1)=k+1+l.length by omega]⟩
  show(if ok s then _ else _)=_
  rw[if_pos ho]
  rcases hg with hg|hg<;>(rw[hg];exact e)
noncomputable def Nx (Q:Env->Sto->Prop):R Ct->Prop
 | .ok (.next ρ) s=>Q ρ s
 | .ok (.cont ρ) s=>Q ρ s
 | _=>False
@[simp] theorem bQ7 (Q:Env->Sto->Prop) (ρ:Env) (s:Sto):Nx Q (.ok (.next ρ) s)=Q ρ s:=rfl
@[simp] theorem bR7 (Q:Env->Sto->Prop) (ρ:Env) (s:Sto):Nx Q (.ok (.cont ρ) s)=Q ρ s:=rfl
theorem qz {Q:Env->Sto->Prop}{r:R Ct}{ρ:Env}{s:Sto}(e:r=.ok (.next ρ) s)(h:Q ρ s):Nx Q r:=by rw[e];exact h
theorem Nx.out {Q:Env->Sto->Prop}:∀ {r:R Ct},Nx Q r->∃ ρ s,(r=.ok (.next ρ) s\/r=.ok (.cont ρ) s)/\Q ρ s
 | .ok (.next ρ) s,h=>⟨ρ,s,.inl rfl,h⟩
 | .ok (.cont ρ) s,h=>⟨ρ,s,.inr rfl,h⟩
 | .ok (.ret _) _,h=>h.elim
 | .ok (.brk _) _,h=>h.elim
 | .exc _ _,h=>h.elim
 | .bad,h=>h.elim
noncomputable def Tst (A B:Sto->Prop):R D->Prop
 | .ok (.bl false) s=>A s
 | .ok (.bl true) s=>B s
 | _=>False
@[simp] theorem bk0 (A B:Sto->Prop) (b:Bool) (s:Sto):Tst A B (.ok (.bl b) s)=if b then B s else A s:=by cases b<;>rfl
theorem Tst.out {A B:Sto->Prop}:∀ {r:R D},Tst A B r->(∃ s,r=.ok (.bl false) s/\A s)\/∃ s,r=.ok (.bl true) s/\B s
 | .ok (.bl false) s,h=>.inl ⟨s,rfl,h⟩
 | .ok (.bl true) s,h=>.inr ⟨s,rfl,h⟩
 | .ok .non _,h=>h.elim
 | .ok (.int _) _,h=>h.elim
 | .ok (.str _) _,h=>h.elim
 | .ok (.tup _) _,h=>h.elim
 | .ok (.ref _) _,h=>h.elim
 | .ok (.fn _) _,h=>h.elim
 | .ok (.clo _ _) _,h=>h.elim
 | .exc _ _,h=>h.elim
 | .bad,h=>h.elim
theorem bf0 {c:Env->Sto->R D}{g:Env->Sto->R Ct}{ρ ρ':Env}{s s1 s':Sto}(hc:c ρ s=.ok (.bl true) s1)(hg:g ρ s1=.ok (.cont ρ') s'):whl c g ρ s=whl c g ρ' s':=by
 have key:∀ n,qF c g (n+1) ρ s=qF c g n ρ' s':=λ n=>by
  show tru (c ρ s) _=_
  rw[hc,tru_bl,if_pos rfl,hg];rfl
 unfold whl
 by_cases hx:∃ n,qF c g n ρ' s'≠.bad
 ·have hy:∃ n,qF c g n ρ s≠.bad:=⟨hx.choose+1,by rw[key];exact hx.choose_spec⟩
  rw[dif_pos hx,dif_pos hy]
  have h:=zX hy.choose_spec (hx.choose+1)
  have y:=zX (n:=hx.choose+1) (ρ:=ρ) (s:=s) (by rw[key];exact hx.choose_spec) hy.choose
  rw[<-h,gO,y,key]
 ·have hy:¬ ∃ n,qF c g n ρ s≠.bad:=λ⟨n,hn⟩=>by
   cases n with
   | zero=>exact hn rfl
   | succ n=>exact hx ⟨n,by rw[<-key];exact hn⟩
  rw[dif_neg hx,dif_neg hy]
theorem bA4 {c:Env->Sto->R D}{g:Env->Sto->R Ct}(P:Nat->Env->Sto->Prop)(Q:Env->Sto->Prop)
  (step:∀ k ρ s,P k ρ s->Tst (λ s1=>Q ρ s1) (λ s1=>Nx (λ ρ' s'=>∃ y,y<k/\P y ρ' s') (g ρ s1)) (c ρ s)) :
  ∀(k:Nat) (ρ:Env) (s:Sto),P k ρ s->∃ ρ' s',whl c g ρ s=.ok (.next ρ') s'/\Q ρ' s':=by
 intro k
 induction k using Nat.strongRecOn with
 | _ k ih =>
  intro ρ s h
  rcases(step k ρ s h).out with⟨s1,hc,hq⟩|⟨s1,hc,hn⟩
  ·exact⟨ρ,s1,bo8 hc,hq⟩
  ·obtain⟨ρ',s',hg,y,hk,z⟩:=hn.out
   rcases hg with hg|hg
   ·rw[bf7 hc hg];exact ih y hk ρ' s' z
   ·rw[bf0 hc hg];exact ih y hk ρ' s' z
theorem aY5 {c:Env->Sto->R D}{g:Env->Sto->R Ct}{ρ:Env}{s:Sto}{α:Type}{f:Ct->Sto->R α}{W:R α->Prop}(P:Nat->Env->Sto->Prop)(Q:Env->Sto->Prop)(k:Nat)(h:P k ρ s)
  (step:∀ k ρ s,P k ρ s->Tst (λ s1=>Q ρ s1) (λ s1=>Nx (λ ρ' s'=>∃ y,y<k/\P y ρ' s') (g ρ s1)) (c ρ s))
  (z:∀ ρ' s',Q ρ' s'->W (f (.next ρ') s')):W ((whl c g ρ s).bind f):=by
 obtain⟨ρ',s',e,q⟩:=bA4 P Q step k ρ s h
 rw[e]
 exact z ρ' s' q
theorem bc6 {c:Env->Sto->R D}{g:Env->Sto->R Ct}{ρ:Env}{s:Sto}{α:Type}{f:Ct->Sto->R α}{x:R α}(P:Nat->Env->Sto->Prop)(Q:Env->Sto->Prop)(k:Nat)(h:P k ρ s)
  (step:∀ k ρ s,P k ρ s->Tst (λ s1=>Q ρ s1) (λ s1=>Nx (λ ρ' s'=>∃ y,y<k/\P y ρ' s') (g ρ s1)) (c ρ s))
  (z:∀ ρ' s',Q ρ' s'->f (.next ρ') s'=x):(whl c g ρ s).bind f=x:=aY5 (W:=(·=x)) P Q k h step z
theorem zM {ok:Sto->Bool}{g:D->Env->Sto->R Ct}{l:List D}{ρ:Env}{s:Sto}{α:Type}{f:Ct->Sto->R α}{W:R α->Prop}(P:Nat->Env->Sto->Prop)(h:P 0 ρ s)
  (o:∀(j:Nat) (ρ:Env) (s:Sto),j<=l.length->P j ρ s->ok s=true) (step:∀(j:Nat) (d:D) (ρ:Env) (s:Sto),l[j]?=some d->P j ρ s->Nx (P (j+1)) (g d ρ s))
  (z:∀ ρ' s',P l.length ρ' s'->W (f (.next ρ') s')):W ((aM9 ok g l ρ s).bind f):=by
 obtain⟨ρ',s',e,q⟩:=aS8 P l 0 ρ s h (λ j ρ s hj y=>o j ρ s hj (by rwa [gR]at y)) (λ j d ρ s hj y=>by
  rw[gR]at y ⊢
  exact(step j d ρ s hj y).out)
 rw[e]
 rw[gR]at q
 exact z ρ' s' q
theorem aG2 {ok:Sto->Bool}{g:D->Env->Sto->R Ct}{l:List D}{ρ:Env}{s:Sto}{α:Type}{f:Ct->Sto->R α}{x:R α}(P:Nat->Env->Sto->Prop)(h:P 0 ρ s)
  (o:∀(j:Nat) (ρ:Env) (s:Sto),j<=l.length->P j ρ s->ok s=true) (step:∀(j:Nat) (d:D) (ρ:Env) (s:Sto),l[j]?=some d->P j ρ s->Nx (P (j+1)) (g d ρ s))
  (y:∀ ρ' s',P l.length ρ' s'->f (.next ρ') s'=x):(aM9 ok g l ρ s).bind f=x:=zM (W:=(·=x)) P h o step y
section
variable {F:Fns} {ρ:Env} {s:Sto}
@[simp] theorem qe (i:Nat):ev F (.var i) ρ s=aT4 ρ i s:=rfl
@[simp] theorem ev_cst (c:Cn):ev F (.cst c) ρ s=.ok c.d s:=rfl
@[simp] theorem ev_bin (op:BOp) (a b:E):ev F (.bin op a b) ρ s=(ev F a ρ s).bind λ x s=>(ev F b ρ s).bind λ y s=>qB op x y s:=rfl
@[simp] theorem ev_not (a:E):ev F (.not a) ρ s=tru (ev F a ρ s) λ b s=>.ok (.bl (!b)) s:=rfl
@[simp] theorem ev_cmp (op:COp) (a b:E):ev F (.cmp op a b) ρ s=(ev F a ρ s).bind λ x s=>(ev F b ρ s).bind λ y s=>qo op x y s:=rfl
@[simp] theorem bM1 (o p:COp) (a b c:E):ev F (.chain o p a b c) ρ s=(ev F a ρ s).bind λ x s=>(ev F b ρ s).bind λ y s=>tru (qo o x y s) λ k s=>if k then(ev F c ρ s).bind λ z s=>qo p y z s else .ok (.bl false) s:=rfl
@[simp] theorem ev_isN (a:E):ev F (.isN a) ρ s=(ev F a ρ s).bind λ x s=>.ok (.bl (decide (x=.non))) s:=rfl
@[simp] theorem ev_notN (a:E):ev F (.notN a) ρ s=(ev F a ρ s).bind λ x s=>.ok (.bl (!decide (x=.non))) s:=rfl
@[simp] theorem ev_and (a b:E):ev F (.and a b) ρ s=tru (ev F a ρ s) λ c s=>if c then tru (ev F b ρ s) λ c s=>.ok (.bl c) s else .ok (.bl false) s:=rfl
@[simp] theorem ev_or (a b:E):ev F (.or a b) ρ s=tru (ev F a ρ s) λ c s=>if c then .ok (.bl true) s else tru (ev F b ρ s) λ c s=>.ok (.bl c) s:=rfl
@[simp] theorem ev_ite (c a b:E):ev F (.ite c a b) ρ s=tru (ev F c ρ s) λ k s=>if k then ev F a ρ s else ev F b ρ s:=rfl
@[simp] theorem ev_tup (es:Es):ev F (.tup es) ρ s=(evs F es ρ s).bind λ l s=>.ok (.tup l) s:=rfl
@[simp] theorem ev_lst (es:Es):ev F (.lst es) ρ s=(evs F es ρ s).bind λ l s=>ac8 (.lst l) s:=rfl
@[simp] theorem ev_ix (a b:E):ev F (.ix a b) ρ s=(ev F a ρ s).bind λ x s=>(ev F b ρ s).bind λ y s=>ixM x y s:=rfl
@[simp] theorem ev_call (f:String) (h:As):ev F (.call f h) ρ s=(ap4 F h ρ s).bind λ l s=>F.call f l s:=rfl
@[simp] theorem bM6 (f:String) (h:As):ev F (.callC f h) ρ s=(ap4 F h ρ s).bind λ l s=>(F.call f l s).bind λ d s'=>if(d.ncl&&s'.all O.ncl)=true then .ok d s' else .bad:=rfl
@[simp] theorem ev_bi (b:Bi) (es:Es):ev F (.bi b es) ρ s=(evs F es ρ s).bind λ l s=>bi b l s:=rfl
@[simp] theorem ev_mk (k:Mk) (it:L):ev F (.mk k it) ρ s=(evL F it ρ s).bind λ q s=>mk k q s:=rfl
@[simp] theorem ev_mkD (k:Mk) (it:L) (d:E):ev F (.mkD k it d) ρ s=(evL F it ρ s).bind λ q s=>(ev F d ρ s).bind λ d s=>mkD k q d s:=rfl
@[simp] theorem ev_mks (k:Mk) (e:E):ev F (.mks k e) ρ s=(ev F e ρ s).bind λ x s=>(by0 x s).bind λ q s=>mk k q s:=rfl
@[simp] theorem ev_mkDs (k:Mk) (e d:E):ev F (.mkDs k e d) ρ s=(ev F e ρ s).bind λ x s=>(ev F d ρ s).bind λ z s=>(by0 x s).bind λ q s=>mkD k q z s:=rfl
@[simp] theorem ev_meth (m:Mt) (o:E) (es:Es):ev F (.meth m o es) ρ s=(ev F o ρ s).bind λ x s=>(evs F es ρ s).bind λ l s=>meth m x l s:=rfl
@[simp] theorem bo9 (o e:E):ev F (.extS o e) ρ s=(ev F o ρ s).bind λ x s=>(ev F e ρ s).bind λ y s=>extS x y s:=rfl
@[simp] theorem bV1 (a:E):ev F (.rev a) ρ s=(ev F a ρ s).bind λ x s=>bV3 x s:=rfl
@[simp] theorem by9 (o:E) (it:L):ev F (.ext o it) ρ s=(ev F o ρ s).bind λ x s=>(evL F it ρ s).bind λ q s=>aZ0 x q s:=rfl
@[simp] theorem evs_nil:evs F .nil ρ s=.ok [] s:=rfl
@[simp] theorem evs_cons (e:E) (es:Es):evs F (.cons e es) ρ s=(ev F e ρ s).bind λ d s=>(evs F es ρ s).bind λ l s=>.ok (d::l) s:=rfl
@[simp] theorem evas_nil:ap4 F .nil ρ s=.ok [] s:=rfl
@[simp] theorem evas_ex (e:E) (h:As):ap4 F (.ex e h) ρ s=(ev F e ρ s).bind λ d s=>(ap4 F h ρ s).bind λ l s=>.ok (d::l) s:=rfl
@[simp] theorem bR0 (f:String) (h:As):ap4 F (.fn f h) ρ s=(ap4 F h ρ s).bind λ l s=>.ok (.fn f::l) s:=rfl
@[simp] theorem evI_seq (e:E):evI F (.seq e) ρ s=(ev F e ρ s).bind λ d s=>ah4 d s:=rfl
@[simp] theorem bN3 (es:Es):evL F (.disp es) ρ s=evs F es ρ s:=rfl
@[simp] theorem evL_seq (e:E):evL F (.seq e) ρ s=(ev F e ρ s).bind λ d s=>bx4 d s:=rfl
noncomputable def bp5 (x:D):M Sq:=λ s=>match x with|.int i=>if -W62<=i/\i<W62 then .ok ⟨ae6 0 i,[]⟩ s else .bad|_=>.bad
@[simp] theorem evI_rng1 (a:E):evI F (.rng1 a) ρ s=(ev F a ρ s).bind λ x s=>bp5 x s:=rfl
theorem ag1 {i:Int}(h0:-W62<=i)(h:i<W62):bp5 (.int i) s=.ok ⟨ae6 0 i,[]⟩ s:=by unfold bp5;simp only[h0,h,and_self,if_true]
noncomputable def nxt (F:Fns)(ss:Ss)(c:Ct)(s:Sto):R Ct:=match c with|.next ρ=>exs F ss ρ s|c=>.ok c s
@[simp] theorem qg (h:Ss) (ρ:Env) (s:Sto):nxt F h (.next ρ) s=exs F h ρ s:=rfl
@[simp] theorem nxt_ret (h:Ss) (d:D) (s:Sto):nxt F h (.ret d) s=.ok (.ret d) s:=rfl
@[simp] theorem nxt_cont (h:Ss) (ρ:Env) (s:Sto):nxt F h (.cont ρ) s=.ok (.cont ρ) s:=rfl
@[simp] theorem exs_nil:exs F .nil ρ s=.ok (.next ρ) s:=rfl
@[simp] theorem qi (st:S) (h:Ss):exs F (.cons st h) ρ s=(ex F st ρ s).bind (nxt F h):=rfl
noncomputable def bS9 (ρ:Option Env)(s:Sto):R Ct:=match ρ with|some ρ=>.ok (.next ρ) s|none=>.bad
@[simp] theorem setC_some (ρ:Env) (s:Sto):bS9 (some ρ) s=.ok (.next ρ) s:=rfl
@[simp] theorem ex_asg (tg:Tg) (e:E):ex F (.asg tg e) ρ s=(ev F e ρ s).bind λ d s=>bS9 (ac7 ρ tg d) s:=rfl
@[simp] theorem ex_setIx (o i e:E):ex F (.setIx o i e) ρ s=(ev F e ρ s).bind λ d s=>(ev F o ρ s).bind λ x s=>(ev F i ρ s).bind λ y s=>(setIx x y d s).bind λ _ s=>.ok (.next ρ) s:=rfl
@[simp] theorem ex_ex (e:E):ex F (.ex e) ρ s=(ev F e ρ s).bind λ _ s=>.ok (.next ρ) s:=rfl
@[simp] theorem ex_ret (e:E):ex F (.ret e) ρ s=(ev F e ρ s).bind λ d s=>.ok (.ret d) s:=rfl
@[simp] theorem bT7:ex F .retN ρ s=.ok (.ret .non) s:=rfl
@[simp] theorem ex_ite (c:E) (a b:Ss):ex F (.ite c a b) ρ s=tru (ev F c ρ s) λ k s=>if k then exs F a ρ s else exs F b ρ s:=rfl
@[simp] theorem ex_whl (c:E) (b:Ss):ex F (.whl c b) ρ s=whl (ev F c) (exs F b) ρ s:=rfl
noncomputable def turn (F:Fns)(tg:Tg)(b:Ss)(d:D)(ρ:Env)(s:Sto):R Ct:=match ac7 ρ tg d with
 | some ρ=>exs F b ρ s
 | none=>.bad
@[simp] theorem ex_for (tg:Tg) (it:I) (b:Ss):ex F (.for_ tg it b) ρ s=(evI F it ρ s).bind λ q s0=>aM9 (λ s=>chk s0 s q.src) (turn F tg b) q.its ρ s0:=rfl
@[simp] theorem ex_cont:ex F .cont ρ s=.ok (.cont ρ) s:=rfl
@[simp] theorem ex_und (i:Nat):ex F (.und i) ρ s=bS9 (ae2 ρ i) s:=rfl
@[simp] theorem ex_pass:ex F .pass ρ s=.ok (.next ρ) s:=rfl
@[simp] theorem zP (i:Nat) (d:D):ac7 ρ (.one i) d=aD6 ρ i d:=rfl
@[simp] theorem bindT_tup (is:List Nat) (l:List D):ac7 ρ (.tup is) (.tup l)=ak7 ρ is l:=rfl
@[simp] theorem setVs_nil:ak7 ρ [] []=some ρ:=rfl
@[simp] theorem setVs_cons (i:Nat) (is:List Nat) (d:D) (l:List D):ak7 ρ (i::is) (d::l)=(aD6 ρ i d).bind λ ρ=>ak7 ρ is l:=rfl
@[simp] theorem qd (d:D) (ρ:Env):aT4 (some d::ρ) 0 s=.ok d s:=rfl
@[simp] theorem z9 (x:Option D) (ρ:Env) (i:Nat):aT4 (x::ρ) (i+1) s=aT4 ρ i s:=by unfold aT4;rw[List.getElem?_cons_succ]
@[simp] theorem setV_0 (d:D) (x:Option D) (ρ:Env):aD6 (x::ρ) 0 d=some (some d::ρ):=rfl
@[simp] theorem setV_s (d:D) (x:Option D) (ρ:Env) (i:Nat):aD6 (x::ρ) (i+1) d=(aD6 ρ i d).map (x::·):=by
 unfold aD6
 by_cases h:i < ρ.length
 ·rw[if_pos (by simpa using h),if_pos h];rfl
 ·rw[if_neg (by simpa using h),if_neg h];rfl
@[simp] theorem unsetV_0 (x:Option D) (ρ:Env):ae2 (x::ρ) 0=some (none::ρ):=rfl
@[simp] theorem unsetV_s (x:Option D) (ρ:Env) (i:Nat):ae2 (x::ρ) (i+1)=(ae2 ρ i).map (x::·):=by
 unfold ae2
 by_cases h:i < ρ.length
 ·rw[if_pos (by simpa using h),if_pos h];rfl
 ·rw[if_neg (by simpa using h),if_neg h];rfl
@[simp] theorem Cn_int (i:Int):(Cn.int i).d=.int i:=rfl
@[simp] theorem Cn_bl (i:Bool):(Cn.bl i).d=.bl i:=rfl
@[simp] theorem Cn_str (i:List Nat):(Cn.str i).d=.str i:=rfl
@[simp] theorem Cn_non:Cn.non.d=.non:=rfl
@[simp] theorem add_int (a b:Int):qB .add (.int a) (.int b) s=.ok (.int (a+b)) s:=rfl
@[simp] theorem sub_int (a b:Int):qB .sub (.int a) (.int b) s=.ok (.int (a - b)) s:=rfl
theorem ag4 {a b:Int}(h:mulOk a b=true):qB .mul (.int a) (.int b) s=.ok (.int (a*b)) s:=by show(if mulOk a b then _ else _:M D) s=_;rw[if_pos h];rfl
theorem bq1 {a b:Int}(h:a.natAbs<2^64):mulOk a b=true:=by unfold mulOk;simp[h]
theorem aq6 {a b:Int}(h:b.natAbs<2^64):mulOk a b=true:=by unfold mulOk;simp[h]
theorem am4 {a b:Int}(h:0<b):qB .mod (.int a) (.int b) s=.ok (.int (a % b)) s:=by show(if 0<b then _ else _:M D) s=_;rw[if_pos h];rfl
theorem bw4:(10:Int)^200<=(DIVL:Int):=by unfold DIVL;decide +kernel
theorem at0 {a b:Int}(h:0<b)(y:b<10^200):qB .fdiv (.int a) (.int b) s=.ok (.int (a / b)) s:=by show(if 0<b/\b<(DIVL:Int)then _ else _:M D) s=_;rw[if_pos ⟨h,Int.lt_of_lt_of_le y bw4⟩];rfl
theorem aW9 {a b:Int}(h:0<=b/\b<=1000000/\a.natAbs<2^64):qB .pow (.int a) (.int b) s=.ok (.int (a^b.toNat)) s:=by show(if _ then _ else _:M D) s=_;rw[if_pos h];rfl
@[simp] theorem lt_int (a b:Int):qo .lt (.int a) (.int b) s=.ok (.bl (decide (a<b))) s:=rfl
@[simp] theorem le_int (a b:Int):qo .le (.int a) (.int b) s=.ok (.bl (decide (a<=b))) s:=rfl
@[simp] theorem gt_int (a b:Int):qo .gt (.int a) (.int b) s=.ok (.bl (decide (b<a))) s:=rfl
@[simp] theorem ge_int (a b:Int):qo .ge (.int a) (.int b) s=.ok (.bl (decide (b<=a))) s:=rfl
@[simp] theorem eq_int (a b:Int):qo .eq (.int a) (.int b) s=.ok (.bl (decide (a=b))) s:=rfl
@[simp] theorem ne_int (a b:Int):qo .ne (.int a) (.int b) s=.ok (.bl (!decide (a=b))) s:=rfl
@[simp] theorem alloc_eq (o:O):ac8 o s=.ok (.ref s.length) (s++[o]):=rfl
@[simp] theorem aN9 (l:List D):bi .len [.tup l] s=.ok (.int l.length) s:=rfl
@[simp] theorem bx5 (l:List Nat):bi .len [.str l] s=.ok (.int l.length) s:=rfl
theorem bG6 {r:Nat}{l:List D}(h:s[r]?=some (.ro l)):bi .len [.ref r] s=.ok (.int l.length) s:=by simp only[bi,bi1,by2,h]
@[simp] theorem bO7 (i:Int):bi .abs [.int i] s=.ok (.int (if i<0 then -i else i)) s:=rfl
@[simp] theorem bN6 (a b:Int):bi .min2 [.int a,.int b] s=.ok (.int (if b<a then b else a)) s:=rfl
@[simp] theorem bM8 (a b:Int):bi .max2 [.int a,.int b] s=.ok (.int (if b > a then b else a)) s:=rfl
@[simp] theorem bJ9 (a:Int):bi .isInt [.int a] s=.ok (.bl true) s:=rfl
@[simp] theorem bx9 (a:Int):bi .isBool [.int a] s=.ok (.bl false) s:=rfl
@[simp] theorem bA6 (l:List D):bi .isTup [.tup l] s=.ok (.bl true) s:=rfl
theorem bE8 {r:Nat}{l:List D}{j:Nat}{d:D}(h:s[r]?=some (.ro l))(hj:l[j]?=some d):ixM (.ref r) (.int (j:Int)) s=.ok d s:=by
 have hl:j<l.length:=(ac.mp hj).1
 have e:l[j]=d:=(ac.mp hj).2
 simp[ixM,h,ixn,hl,e]
theorem at6 {r:Nat}{l:List D}{j:Nat}{d:D}(h:s[r]?=some (.lst l))(hj:l[j]?=some d):ixM (.ref r) (.int (j:Int)) s=.ok d s:=by
 have hl:j<l.length:=(ac.mp hj).1
 have e:l[j]=d:=(ac.mp hj).2
 simp[ixM,h,ixn,hl,e]
theorem ix_tup {l:List D}{j:Nat}{d:D}(hj:l[j]?=some d):ixM (.tup l) (.int (j:Int)) s=.ok d s:=by
 have hl:j<l.length:=(ac.mp hj).1
 have e:l[j]=d:=(ac.mp hj).2
 simp[ixM,ixn,hl,e]
theorem bn0 {r:Nat}{l:List D}{j:Nat}{v:D}(h:s[r]?=some (.lst l))(hl:j<l.length):setIx (.ref r) (.int (j:Int)) v s=.ok () (s.set r (.lst (l.set j v))):=by
 simp[setIx,h,ixn,hl]
theorem ap3 {r:Nat}{l:List D}{v:D}(h:s[r]?=some (.lst l))(hl:l.length<LIM):meth .append (.ref r) [v] s=.ok .non (s.set r (.lst (l++[v]))):=by
 simp[meth,h,hl]
end
theorem aA8 (s t:Sto)(b:Bool):∃ s',zH s (.bl b) t=.ok (.bl b) s':=by
 unfold zH
 by_cases h:aq1 s t=true
 ·rw[if_pos h];exact⟨_,rfl⟩
 ·rw[if_neg h];exact⟨_,rfl⟩
def Yes (r:R D):Prop:=∃ s',r=.ok (.bl true) s'
theorem aw1 (s t:Sto):Yes (zH s (.bl true) t):=aA8 s t true
theorem af2 {a b:Int}{j:Nat}{d:D}(h:(ae6 a b)[j]?=some d):(j:Int)<b - a/\d=.int (a+j):=by
 have hj:=(ac.mp h).1
 simp only[ae6,au,jA]at hj
 unfold ae6 at h
 rw[aC,fm hj]at h
 exact⟨by omega,(aw h).symm⟩
def bR2 (P:Pr)(k:Nat):Prop:=∀ ns:List Int,ns.length<=63->Yes ((aa1 P k).call "law" [.ref 0] [.ro (ns.map D.int)])
noncomputable def qp:Option Int->D
 | none=>.non
 | some i=>.int i
@[simp] theorem au4:qp none=.non:=rfl
@[simp] theorem aU8 (i:Int):qp (some i)=.int i:=rfl
@[simp] theorem aG5 (p:Option Int) (n:Nat):(qp p).bnd n=true:=by cases p<;>rfl
theorem aJ4 (p:Option Int)(r:Nat):qp p≠.ref r:=by cases p<;>nofun
@[simp] theorem bx8 {s:Sto} {p:Option Int}:zH s (qp p) s=.ok (qp p) s:=zq (aG5 p) (aJ4 p)
noncomputable def zt (b:Nat×Nat):O:=.lst [.int b.1,.int b.2]
@[simp] theorem bM7 (b:Nat×Nat) (n:Nat):(zt b).bnd n=true:=rfl
noncomputable def tkW (many:Nat):Nat->Nat->Nat->Nat->Nat×Nat
 | 0,mix,num,_=>(num,mix)
 | n+1,mix,num,room=>if room<many then tkW many n ((mix*48271+7919) % 2147483647) (num*1073741789+(mix*48271+7919) % 2147483647 / 8*69621 % 1073741789) (room*1073741789)else(num,mix)
noncomputable def tk (b:Nat×Nat)(many:Nat):Nat×(Nat×Nat) :=
 if 0<b.1 then(b.1 % many,(b.1 / many,b.2))else let r:=tkW many 12 b.2 0 1;(r.1 % many,(b.1,r.2))
theorem bT9 (b:Nat×Nat){many:Nat}(h:0<many):(tk b many).1<many:=by
 unfold tk
 split
 ·exact Nat.mod_lt _ h
 ·exact Nat.mod_lt _ h
theorem aV0 {many:Nat}{k y z room:Nat}(h:many<=room):tkW many k y z room=(z,y):=by
 cases k with
 | zero=>rfl
 | succ k=>unfold tkW;rw[if_neg (by omega)]
theorem bc5 {many:Nat}{k y z room:Nat}(h:room<many):tkW many (k+1) y z room=tkW many k ((y*48271+7919) % 2147483647) (z*1073741789+(y*48271+7919) % 2147483647 / 8*69621 % 1073741789) (room*1073741789):=by
 conv=>lhs;unfold tkW
 rw[if_pos h]
theorem br2 {P:Pr}[Has P ac4](n:Nat)(b:Nat×Nat)(many:Nat)(h0:0<many)(h:many<=10^90)(s:Sto)(r:Nat)(hs:s[r]?=some (zt b)) :
  (aa1 P (n+1)).call "_law_take" [.ref r,.int many] s=.ok (.int (tk b many).1) (s.set r (zt (tk b many).2)):=by
 refine(zh ac4 rfl).trans ?_
 obtain⟨c,m⟩:=b
 have hr:r<s.length:=(ac.mp hs).1
 have G:(0:Int)<(many:Int):=by omega
 have J:(many:Int)<10^200:=by
  have:(10:Int)^90<10^200:=by decide +kernel
  have:((many:Nat):Int)<=((10^90:Nat):Int):=by exact_mod_cast h
  omega
 by_cases hc:0<c
 ·have F:s[r]?=some (.lst [.int c,.int m]):=hs
  simp[ac4,ixM,F,ixn,hc,am4 G,at0 G J,setIx,tk]
  exact qw (λ _=>rfl) (by nofun) rfl
 ·have Z:c=0:=by omega
  subst Z
  have F:s[r]?=some (.lst [.int 0,.int m]):=hs
  simp[ac4,ixM,F,ixn]
  refine bc6 (λ k ρ t=>∃ y z room:Nat,ρ=[some (.ref r),some (.int many),none,some (.int z),some (.int room)]/\t=s.set r (zt (0,y))/\many<=room*1073741789^k/\tkW many k y z room=tkW many 12 m 0 1)
   (λ ρ t=>∃ room:Nat,ρ=[some (.ref r),some (.int many),none,some (.int (tkW many 12 m 0 1).1),some (.int room)]/\t=s.set r (zt (0,(tkW many 12 m 0 1).2))) 12 ⟨m,0,1,by simp,?_,?_,rfl⟩ ?_ ?_
  ·have e:s[r]=zt (0,m):=(ac.mp hs).2
   rw[<-e,eK]
  ·refine am h ?_
   decide +kernel
  ·rintro k ρ t ⟨y,z,room,rfl,rfl,C,Y⟩
   by_cases hlt:room<many
   ·simp only[ev_cmp,qe,qd,z9,R.bind_ok,lt_int,bk0,ju,hlt,decide_true,if_true]
    cases k with
    | zero=>simp at C;omega
    | succ k =>
     have h1:(s.set r (zt (0,y)))[r]?=some (.lst [.int 0,.int y]):=by rw[aV hr];rfl
     have m1:∀ a:Int,mulOk a 48271=true:=λ a=>aq6 (by decide)
     have m2:∀ a:Int,mulOk a 1073741789=true:=λ a=>aq6 (by decide)
     have m3:∀ a:Int,mulOk a 69621=true:=λ a=>aq6 (by decide)
     refine qz ?_ ⟨k,eP k,(y*48271+7919) % 2147483647,z*1073741789+(y*48271+7919) % 2147483647 / 8*69621 % 1073741789,room*1073741789,rfl,rfl,?_,?_⟩
     ·simp[ixM,h1,ixn,ag4 (m1 _),am4,setIx,hr,ag4 (m2 _),ag4 (m3 _),at0,zt]
     ·rw[kH]at C
      rw[Nat.mul_assoc,kD 1073741789];exact C
     ·rw[<-Y,bc5 hlt]
   ·simp only[ev_cmp,qe,qd,z9,R.bind_ok,lt_int,bk0,ju,hlt,decide_false,if_false,bG]
    refine⟨room,?_,?_⟩
    ·rw[<-Y,aV0 (by omega)]
    ·rw[<-Y,aV0 (by omega)]
  ·rintro ρ t ⟨room,rfl,rfl⟩
   simp[am4 G,tk]
   exact qw (λ _=>rfl) (by nofun) rfl
noncomputable def bg9 (at_:Int)(ns:List Int):Nat->Int
 | 0=>7919*at_+17
 | k+1=>(bg9 at_ ns k*48271+(ns.getD k 0) % 2147483647+k) % 2147483629
theorem bn9 (at_:Int)(h:0<=at_)(ns:List Int):∀ k,0<=bg9 at_ ns k
 | 0=>by unfold bg9;omega
 | k+1=>by unfold bg9;exact Int.emod_nonneg _ (by decide)
noncomputable def cellF (ns:List Int)(at_:Nat):Nat:=if 10^18<=(ns.getD at_ 0).natAbs then(ns.getD at_ 0).natAbs else 0
noncomputable def bh2 (ns:List Int)(at_:Nat):Nat×Nat:=(cellF ns at_,(bg9 at_ ns (min ns.length 60)).toNat)
theorem aP3 {P:Pr}[Has P ay5](n:Nat)(ns:List Int)(at_:Nat)(s:Sto)(r:Nat)(hs:s[r]?=some (.ro (ns.map D.int)))(hl:ns.length<=63) :
  (aa1 P (n+1)).call "_law_bag" [.ref r,.int at_] s=.ok (.ref s.length) (s++[zt (bh2 ns at_)]):=by
 refine(zh ay5 rfl).trans ?_
 have m1:∀ a:Int,mulOk 7919 a=true:=λ a=>bq1 (by decide)
 have m2:∀ a:Int,mulOk a 48271=true:=λ a=>aq6 (by decide)
 have y:bi .len [.ref r] s=.ok (.int ns.length) s:=by rw[bG6 hs,au]
 have C:∀(c:Int),(c<10^18->cellF ns at_=0)->(10^18<=c->(cellF ns at_:Int)=c) ->
   (exs (aa1 P n) (.cons (.asg (.one 3) (.bin .add (.bin .mul (.cst (.int 7919)) (.var 1)) (.cst (.int 17)))) (.cons (.for_ (.one 4) (.rng1 (.bi .min2 (.cons (.bi .len (.cons (.var 0) .nil)) (.cons (.cst (.int 60)) .nil)))) (.cons (.asg (.one 3) (.bin .mod (.bin .add (.bin .add (.bin .mul (.var 3) (.cst (.int 48271))) (.bin .mod (.ix (.var 0) (.var 4)) (.cst (.int 2147483647)))) (.var 4)) (.cst (.int 2147483629)))) .nil)) (.cons (.ite (.cmp .lt (.var 2) (.bin .pow (.cst (.int 10)) (.cst (.int 18)))) (.cons (.asg (.one 2) (.cst (.int 0))) .nil) .nil) (.cons (.ret (.lst (.cons (.var 2) (.cons (.var 3) .nil)))) .nil)))) [some (.ref r),some (.int at_),some (.int c),none,none] s).bind (fin s)=.ok (.ref s.length) (s++[zt (bh2 ns at_)]):=by
  intro c h1 h2
  simp[ag4 (m1 _),y]
  have hk:(if(60:Int)<(ns.length:Int)then 60 else(ns.length:Int))=((min ns.length 60:Nat):Int):=by omega
  rw[hk,ag1 (by unfold W62;omega) (by unfold W62;omega)]
  simp only[R.bind_ok]
  refine aG2 (λ j ρ t=>t=s/\∃ x,ρ=[some (.ref r),some (.int at_),some (.int c),some (.int (bg9 at_ ns j)),x]) ⟨rfl,none,rfl⟩ (λ _ _ _ _ _=>rfl) ?_ ?_
  ·rintro j d ρ t hj ⟨rfl,x,rfl⟩
   have Y:j<min ns.length 60:=by have:=(ac.mp hj).1;simpa [ae6]using this
   have hd:d=.int (j:Int):=by simpa [ae6,Y]using hj.symm
   subst hd
   refine qz ?_ ⟨rfl,some (.int (j:Int)),rfl⟩
   have hx:ixM (.ref r) (.int (j:Int)) t=.ok (.int (ns.getD j 0)) t:=bE8 hs (by simp[show j<ns.length by omega])
   simp[turn,ag4 (m2 _),hx,am4,bg9]
  ·rintro ρ t ⟨rfl,x,rfl⟩
   have G:(ae6 0 ((min ns.length 60:Nat):Int)).length=min ns.length 60:=by simp[ae6]
   rw[G]
   have Z:=bn9 at_ (by omega) ns (min ns.length 60)
   have z:∀ F,(F:Int)=cellF ns at_->zH t (.ref t.length) (t++[.lst [.int F,.int (bg9 at_ ns (min ns.length 60))]])=.ok (.ref t.length) (t++[zt (bh2 ns at_)]):=by
    intro F J
    have:=az1 (s:=t) (t:=[]) (u:=[]) (o:=zt (bh2 ns at_)) rfl
    simp only[dX,kG,bO]at this
    rw[<-this]
    simp[zt,bh2,J,fj Z]
   by_cases h:c<10^18
   ·have h':c<1000000000000000000:=h
    simp[aW9,h']
    exact z 0 (by rw[h1 h];rfl)
   ·have h':¬ c<1000000000000000000:=h
    simp[aW9,h']
    exact z c (h2 (by omega)).symm
 by_cases hat:at_<ns.length
 ·have hx:ixM (.ref r) (.int at_) s=.ok (.int (ns.getD at_ 0)) s:=bE8 hs (by simp[hat])
  have e:=C (if ns.getD at_ 0<0 then -ns.getD at_ 0 else ns.getD at_ 0) (by unfold cellF;intro h;rw[if_neg (by omega)]) (by unfold cellF;intro h;rw[if_pos (by omega)];omega)
  rw[<-e]
  simp[ay5,y,hat,hx]
 ·have e:=C 0 (by unfold cellF;intro h;rw[if_neg];rw[be,cH (by omega)];decide) (by intro h;exact absurd h (by decide))
  rw[<-e]
  simp[ay5,y,hat]
theorem aj8 {s t:Sto}{r:Nat}{o:O}(h:r<s.length):(s++t).set r o=s.set r o++t:=by rw[hJ,if_pos h]
theorem zI {s t:Sto}{r:Nat}{o:O}(h:s[r]?=some o):(s++t)[r]?=some o:=by
 rw[aK (ac.mp h).1];exact h
theorem qk {s:Sto}{r:Nat}{o:O}(h:r<s.length):(s.set r o)[r]?=some o:=aV h
theorem bg5 {P : Pr} [Has P ac4] (n : Nat) (b : Nat × Nat) (many : Int) (h0 : 0 < many) (h : many <= 10 ^ 90) (s : Sto) (r : Nat) (hs : s[r]? = some (zt b)) :
    (aa1 P (n + 1)).call "_law_take" [.ref r, .int many] s = .ok (.int (tk b many.toNat).1) (s.set r (zt (tk b many.toNat).2)) := by
  have := br2 n b many.toNat (P := P) (by omega) (by have : many <= ((10 ^ 90 : Nat) : Int) := (by simpa using h); omega) s r hs
  rwa [show((many.toNat : Nat) : Int) = many by omega]at this
noncomputable def bd (b:Nat×Nat):Nat×(Nat×Nat) :=
 let x0:=tk b 3
 let x1:=tk x0.2 13
 let x2:=tk x1.2 1000000000
 let x3:=tk x2.2 1000000000000000000000000000000
 let i:=tk x3.2 4
 ([x0.1,x1.1,x2.1,x3.1].getD i.1 0,i.2)
section
variable {F:Fns} {ρ:Env} {s:Sto}
noncomputable def af6 (F:Fns)(tg:Tg)(e:E)(d:D)(ρ:Env)(s:Sto):R (Option D×Env):=match ac7 ρ tg d with
 | some ρ=>(ev F e ρ s).bind λ v s=>.ok (some v,ρ) s
 | none=>.bad
noncomputable def aB6 (F:Fns)(tg:Tg)(c e:E)(d:D)(ρ:Env)(s:Sto):R (Option D×Env):=match ac7 ρ tg d with
 | some ρ=>tru (ev F c ρ s) λ k s=>if k then(ev F e ρ s).bind λ v s=>.ok (some v,ρ) s else .ok (none,ρ) s
 | none=>.bad
@[simp] theorem ai9 (tg:Tg) (it:I) (e:E) (h:List (Option Nat)):evL F (.comp tg it e h) ρ s=(evI F it ρ s).bind λ q s0=>if q.its.length<=LIM then ad7 (λ s=>chk s0 s q.src) (af6 F tg e) q.its (qc ρ h) s0 else .bad:=rfl
@[simp] theorem ao8 (tg:Tg) (it:I) (c e:E) (h:List (Option Nat)):evL F (.compIf tg it c e h) ρ s=(evI F it ρ s).bind λ q s0=>if q.its.length<=LIM then ad7 (λ s=>chk s0 s q.src) (aB6 F tg c e) q.its (qc ρ h) s0 else .bad:=rfl
@[simp] theorem bK0 (a h:E):ev F (.slU a h) ρ s=(ev F a ρ s).bind λ x s=>(ev F h ρ s).bind λ y s=>match y with|.int i=>slM x none (some i) s|_=>.bad:=rfl
@[simp] theorem bW3 (a h:E):ev F (.slL a h) ρ s=(ev F a ρ s).bind λ x s=>(ev F h ρ s).bind λ y s=>match y with|.int i=>slM x (some i) none s|_=>.bad:=rfl
end
theorem zT {ok:Sto->Bool}{g:D->Env->Sto->R (Option D×Env)}(P:Env->Sto->Prop)(f:D->Option D):∀(l:List D) (ρ:Env) (s:Sto),P ρ s ->
  (∀ ρ s,P ρ s->ok s=true)->(∀ d∈l,∀ ρ s,P ρ s->∃ ρ' s',g d ρ s=.ok (f d,ρ') s'/\P ρ' s')->∃ ρ' s',ad7 ok g l ρ s=.ok (l.filterMap f) s'/\P ρ' s'
 | [],ρ,s,h,o,_=>⟨ρ,s,by unfold ad7;rw[if_pos (o ρ s h)];rfl,h⟩
 | d::l,ρ,s,h,o,st=>by
  obtain⟨ρ1,s1,e1,y⟩:=st d (aG ..) ρ s h
  obtain⟨ρ2,s2,e2,z⟩:=zT P f l ρ1 s1 y o λ x hx=>st x (az _ hx)
  refine⟨ρ2,s2,?_,z⟩
  unfold ad7
  rw[if_pos (o ρ s h),e1]
  simp only[R.bind_ok]
  rw[e2,bU]
  cases f d<;>rfl
theorem z4 {P:Pr}[Has P ac4](n:Nat){s:Sto}{r:Nat}(hs:∃ b,s[r]?=some (zt b))(many:Int)(h0:0<many)(h:many<=10^90) :
  ∃(k:Nat) (b:Nat×Nat),(k:Int)<many/\(aa1 P (n+1)).call "_law_take" [.ref r,.int many] s=.ok (.int k) (s.set r (zt b)):=by
 obtain⟨b,hb⟩:=hs
 have:=bT9 b (many:=many.toNat) (by omega)
 exact⟨(tk b many.toNat).1,(tk b many.toNat).2,by omega,bg5 n b many h0 h s r hb⟩
theorem ag5 {k:Int}(h:k<=1000):k<=10^90:=Int.le_trans h (by decide)
theorem aA2 {s:Sto}{r:Nat}{b:Nat×Nat}(h:r<s.length):∃ y,(s.set r (zt b))[r]?=some (zt y):=⟨b,qk h⟩
theorem aE9 {s:Sto}{r:Nat}(h:∃ b,s[r]?=some (zt b)):r<s.length:=by obtain⟨b,hb⟩:=h;exact(ac.mp hb).1
theorem aW6 {k:Int}{s:Sto}(h:0<=k/\k<=1000000):qB .shl (.int 1) (.int k) s=.ok (.int (1*2^k.toNat)) s:=by
 show(if 0<=k/\k<=1000000/\(1:Int).natAbs<2^64 then _ else _:M D) s=_
 rw[if_pos ⟨h.1,h.2,by decide⟩];rfl
theorem zr {l:List D}(h:∀ d∈l,∀ n,d.bnd n=true)(n:Nat):D.bndL n l=true:=by
 induction l with
 | nil=>rfl
 | cons d l ih=>unfold D.bndL;rw[h d (aG ..),ih λ x hx=>h x (az _ hx)];rfl
noncomputable def au0 (bits:Nat):D->Option D
 | .int i=>if(bits:Int) / (1*2^i.toNat) % 2=1 then some (.int i)else none
 | _=>none
theorem aN7 {h:Nat}{l:List D}:∀ d∈l.filterMap (au0 h),∀ n,d.bnd n=true:=λ d hd n=>by
 obtain⟨x,hx,e⟩:=c5.mp hd
 cases x with
 | int i =>
  simp only[au0]at e
  split at e
  ·cases e;rfl
  ·cases e
 | _=>cases e
theorem aM5 {P:Pr}[Has P ac4][Has P ad3](n:Nat){s:Sto}{r:Nat}(hs:∃ b,s[r]?=some (zt b))(k:Int)(h0:0<=k)(h:k<=5) :
  ∃(y:Nat) (b:Nat×Nat),(aa1 P (n+2)).call "_law_rooms" [.ref r,.int k] s=.ok (.tup ((ae6 0 k).filterMap (au0 y))) (s.set r (zt b)):=by
 have J:(aa1 P (n+2)).call "_law_rooms" [.ref r,.int k] s=_:=zh ad3 (n:=n+1) rfl
 have hr:=aE9 hs
 have hp:(1:Int)*2^k.toNat<=32:=by
  have:k.toNat<=5:=by omega
  have C:(2:Nat)^k.toNat<=2^5:=iD (by decide) this
  have h3:((2^k.toNat:Nat):Int)<=32:=by exact_mod_cast C
  rw[fZ];simpa using h3
 have F:(0:Int)<1*2^k.toNat:=by rw[fZ];exact Int.pow_pos (by decide)
 obtain⟨y,b,hb,eb⟩:=z4 (P:=P) n hs (1*2^k.toNat) F (ag5 (by omega))
 rw[J]
 simp only[ad3,qi,ex_asg,ev_call,evas_ex,evas_nil,qe,ev_bin,ev_cst,Cn_int,aO,bZ,bS,bO,qd,z9,R.bind_ok,aW6 ⟨h0,by omega⟩,eb,zP]
 simp only[aH,setV_s,setV_0,dm,setC_some,R.bind_ok,qg,qi,exs_nil,ex_ret,ev_mk,ao8,evI_rng1,qe,qd,z9]
 rw[ag1 (by unfold W62;omega) (by unfold W62;omega)]
 simp only[R.bind_ok]
 rw[if_pos (by simp[ae6];unfold LIM;omega)]
 have key:∃(ρ':Env) (s':Sto),ad7 (λ G=>chk (s.set r (zt b)) G []) (aB6 (aa1 P (n+1)) (.one 0) (.cmp .eq (.bin .mod (.bin .fdiv (.var 1) (.bin .shl (.cst (.int 1)) (.var 0))) (.cst (.int 2))) (.cst (.int 1))) (.var 0)) (ae6 0 k) (qc [some (.ref r),some (.int k),some (.int y)] [none,some 2]) (s.set r (zt b))=.ok ((ae6 0 k).filterMap (au0 y)) s'/\(s'=s.set r (zt b)/\∃ x,ρ'=[x,some (D.int y)]):=by
  refine zT (λ ρ u=>u=s.set r (zt b)/\∃ x,ρ=[x,some (.int y)]) (au0 y) (ae6 0 k) _ _ ⟨rfl,none,rfl⟩ (λ _ _ _=>rfl) ?_
  rintro d hd ρ u ⟨rfl,x,rfl⟩
  obtain⟨j,hj⟩:=iE hd
  obtain⟨C,rfl⟩:=af2 hj
  refine⟨[some (.int (0+j)),some (.int y)],_,?_,rfl,_,rfl⟩
  have Z:j<5:=by omega
  have a1:(1:Int)*2^((0:Int)+j).toNat<=32:=by
   have:((0:Int)+j).toNat<=5:=by omega
   have C:(2:Nat)^((0:Int)+j).toNat<=2^5:=iD (by decide) this
   have h3:((2^((0:Int)+j).toNat:Nat):Int)<=32:=by exact_mod_cast C
   rw[fZ];simpa using h3
  have z:(0:Int)<1*2^((0:Int)+j).toNat:=by rw[fZ];exact Int.pow_pos (by decide)
  unfold aB6
  simp only[zP,setV_0,ev_cmp,ev_bin,qe,ev_cst,Cn_int,qd,z9,R.bind_ok]
  rw[aW6 ⟨by omega,by omega⟩]
  simp only[R.bind_ok]
  rw[at0 z (by omega)]
  simp only[R.bind_ok]
  rw[am4 (by decide)]
  simp only[R.bind_ok,eq_int,tru_bl]
  simp[au0]
  split<;>rfl
 obtain⟨ρ',s',e,Y⟩:=key
 rw[e]
 obtain⟨rfl,_⟩:=Y
 refine⟨y,b,?_⟩
 simp only[R.bind_ok,mk,nxt_ret,fin_ret]
 exact qw (λ m=>by unfold D.bnd;exact zr aN7 m) (by nofun) rfl
theorem bh8 {k:Nat}(h:k<3)(s:Sto):ixM (.str [97,98,99]) (.int (k:Int)) s=.ok (.str [97+k]) s:=by
 match k,h with
 | 0,_=>rfl
 | 1,_=>rfl
 | 2,_=>rfl
theorem ar3 {P:Pr}[Has P ac4](n:Nat){s t:Sto}{r:Nat}(hr:r<s.length)(b:Nat×Nat)(many:Int)(h0:0<many)(h:many<=10^90) :
  ∃(k:Nat) (y:Nat×Nat),(k:Int)<many/\(aa1 P (n+1)).call "_law_take" [.ref r,.int many] (s.set r (zt b)++t)=.ok (.int k) (s.set r (zt y)++t):=by
 obtain⟨k,y,z,C⟩:=z4 (P:=P) n (s:=s.set r (zt b)++t) (r:=r) ⟨b,zI (qk hr)⟩ many h0 h
 refine⟨k,y,z,?_⟩
 rw[C,aj8 (by rw[a0];exact hr),db]
theorem bJ1 {s t:Sto}{r:Nat}{b:Nat×Nat}{l:List D}{v:D}(h:l.length<LIM):meth .append (.ref s.length) [v] (s.set r (zt b)++(.lst l::t))=.ok .non (s.set r (zt b)++(.lst (l++[v])::t)):=by
 rw[ap3 (l:=l) (by rw[aY (by simp)];simp) h]
 congr 1
 rw[hJ,if_neg (by simp)]
 simp
theorem aB8 {a b:List Nat}{s:Sto}(h:a.length+b.length<=LIM):qB .add (.str a) (.str b) s=.ok (.str (a++b)) s:=by
 show(if a.length+b.length<=LIM then _ else _:M D) s=_;rw[if_pos h];rfl
def Lts (L:Nat)(w:List Nat):Prop:=∀ c∈w,97<=c/\c<97+L
theorem rep_len (l:List Nat):∀ n,(rep n l).length=l.length*n
 | 0=>by simp[rep]
 | n+1=>by simp[rep,rep_len l n,jP];omega
noncomputable def bK7 (L:Nat)(d:D):Bool:=match d with
 | .str w=>decide (w.length<=200)&&w.all λ c=>decide (97<=c/\c<97+L)
 | _=>false
theorem bu7 {P:Pr}{x:String}{v:D}[HasC P x v]{n:Nat}{ρ:Env}{s:Sto}:ev (aa1 P n) (.glob x) ρ s=.ok v s:=by
 show(match(aa1 P n).con x with|some d=>R.ok d s|none=>.bad)=_
 rw[aO6 (v:=v)]
noncomputable abbrev aC5:List D:=[.str [97],.str [98],.str [99]]
theorem bq3 {L:Nat}(h:L<=3)(s:Sto):slM (.tup aC5) none (some (L:Int)) s=.ok (.tup (aC5.take L)) s:=by
 match L,h with
 | 0,_=>rfl
 | 1,_=>rfl
 | 2,_=>rfl
 | 3,_=>rfl
theorem ag6 {P:Pr}[Has P aa4][HasC P "LETTERS" (.tup aC5)](n:Nat){L:Nat}(h:L<=3)(l:List D)(s:Sto):(aa1 P (n+1)).call "letters_of" [.tup (.int L::l)] s=.ok (.tup (aC5.take L)) s:=by
 refine(zh aa4 rfl).trans ?_
 have y:ixM (.tup (.int L::l)) (.int ((0:Nat):Int)) s=.ok (.int L) s:=ix_tup rfl
 simp -implicitDefEqProofs [aa4,bu7 (v:=.tup aC5)]
 rw[show(0:Int)=((0:Nat):Int)from rfl,y]
 simp only[R.bind_ok]
 rw[bq3 h]
 simp -implicitDefEqProofs
 match L,h with
 | 0,_=>exact zq (λ _=>rfl) (by nofun)
 | 1,_=>exact zq (λ _=>rfl) (by nofun)
 | 2,_=>exact zq (λ _=>rfl) (by nofun)
 | 3,_=>exact zq (λ _=>rfl) (by nofun)
theorem aC7 {a b:D}{s:Sto}:qo .isin a b s=(inM a b s).bind λ r s=>.ok (.bl r) s:=rfl
@[simp] theorem bV8 {F:Fns} {ρ:Env} {s:Sto} (a:E):ev F (.neg a) ρ s=(ev F a ρ s).bind λ x s=>match x with|.int i=>.ok (.int (-i)) s|_=>.bad:=rfl
structure Dr where
 a:Nat
 l:Nat
 b:Nat
 t:Nat
noncomputable def Dr.d (x:Dr):D:=.tup [.int x.a,.str [x.l],.int x.b,.int x.t]
structure Mc where
 L:Nat
 R:Nat
 bg:List Nat
 en:List Nat
 ds:List Dr
noncomputable def zK (l:List Nat):List D:=l.map λ(k:Nat)=>D.int (k:Int)
noncomputable def Mc.ps (m:Mc):List D:=[.int m.L,.int m.R,.tup (zK m.bg),.tup (zK m.en),.tup (m.ds.map Dr.d)]
noncomputable def Mc.d (m:Mc):D:=.tup m.ps
structure Dr.Ok (m:Mc)(x:Dr):Prop where
 a:x.a<m.R
 l:97<=x.l/\x.l<97+m.L
 b:x.b<m.R
 t:x.t<4
structure Mc.Ok (m:Mc):Prop where
 L1:1<=m.L
 L3:m.L<=3
 R1:1<=m.R
 R5:m.R<=5
 bg:(∀ k∈m.bg,k<m.R)/\m.bg.Pairwise (· < ·)
 en:(∀ k∈m.en,k<m.R)/\m.en.Pairwise (· < ·)
 ds:(∀ x∈m.ds,x.Ok m)/\m.ds.length<=75
theorem zR {l:List Nat}:∀ d∈zK l,∀ n,d.bnd n=true:=λ d hd n=>by
 obtain⟨c,_,rfl⟩:=aN.mp hd;rfl
theorem am1 {l:List Dr}:∀ d∈l.map Dr.d,∀ n,d.bnd n=true:=λ d hd n=>by
 obtain⟨c,_,rfl⟩:=aN.mp hd;rfl
theorem bn3 {m:Mc}:∀ d∈m.ps,∀ n,d.bnd n=true:=λ d hd n=>by
 simp only[Mc.ps,aE,cc,or_false]at hd
 rcases hd with rfl|rfl|rfl|rfl|rfl
 ·rfl
 ·rfl
 ·unfold D.bnd;exact zr zR n
 ·unfold D.bnd;exact zr zR n
 ·unfold D.bnd;exact zr am1 n
theorem bz8 (m:Mc)(n:Nat):m.d.bnd n=true:=by unfold Mc.d D.bnd;exact zr bn3 n
noncomputable def aH2 (bits k:Nat):List Nat:=(bz k).filter λ i=>decide (bits / 2^i % 2=1)
theorem aT3 (h k:Nat):(∀ i∈aH2 h k,i<k)/\(aH2 h k).Pairwise (· < ·) :=
 ⟨λ i y=>cf.mp (gY.mp y).1,kN _ List.pairwise_lt_range⟩
theorem bb1 (y:Nat)(k:Nat):(ae6 0 (k:Int)).filterMap (au0 y)=zK (aH2 y k):=by
 unfold ae6 aH2 zK
 simp only[jy,bD]
 rw[bN]
 induction (bz k)with
 | nil=>rfl
 | cons i l ih =>
  rw[bU,List.filter_cons]
  have e:((y:Int) / (1*2^((0:Int)+(i:Int)).toNat) % 2=1)↔(y / 2^i % 2=1):=by
   rw[fZ,show((0:Int)+(i:Int)).toNat=i by omega]
   have:((y:Int) / 2^i % 2)=((y / 2^i % 2:Nat):Int):=by simp
   rw[this];omega
  simp only[dS,au0]
  by_cases h:y / 2^i % 2=1
  ·rw[if_pos (e.mpr h)]
   simp only[h,decide_true,if_true,aO]
   rw[<-ih,jB]
  ·rw[if_neg λ z=>h (e.mp z)]
   simp only[h,decide_false]
   exact ih
theorem aI4 {P:Pr}[Has P ac4][Has P ad3](n:Nat){s:Sto}{r:Nat}(hs:∃ b,s[r]?=some (zt b))(k:Nat)(h:k<=5) :
  ∃(l:List Nat) (b:Nat×Nat),((∀ i∈l,i<k)/\l.Pairwise (· < ·))/\(aa1 P (n+2)).call "_law_rooms" [.ref r,.int k] s=.ok (.tup (zK l)) (s.set r (zt b)):=by
 obtain⟨y,b,e⟩:=aM5 (P:=P) n hs k (by omega) (by omega)
 rw[bb1]at e
 exact⟨_,b,aT3 y k,e⟩
section
variable {P:Pr}
theorem aq5 {l:List D}{s:Sto}(j:Nat){d:D}(h:l[j]?=some d):ixM (.tup l) (.int (j:Int)) s=.ok d s:=ix_tup h
theorem ixL (m:Mc)(s:Sto):ixM m.d (.int 0) s=.ok (.int m.L) s:=aq5 0 rfl
theorem ixR (m:Mc)(s:Sto):ixM m.d (.int 1) s=.ok (.int m.R) s:=aq5 1 rfl
theorem ixB (m:Mc)(s:Sto):ixM m.d (.int 2) s=.ok (.tup (zK m.bg)) s:=aq5 2 rfl
theorem ixE (m:Mc)(s:Sto):ixM m.d (.int 3) s=.ok (.tup (zK m.en)) s:=aq5 3 rfl
theorem ixD (m:Mc)(s:Sto):ixM m.d (.int 4) s=.ok (.tup (m.ds.map Dr.d)) s:=aq5 4 rfl
theorem qC [Has P ab6](n:Nat)(m:Mc)(s:Sto):(aa1 P (n+1)).call "rooms_of" [m.d] s=.ok (.int m.R) s:=by
 refine(zh ab6 rfl).trans ?_
 simp -implicitDefEqProofs [ab6,ixR]
theorem al5 {s:Sto}{l:List D}(h:∀ d∈l,∀ n,d.bnd n=true):zH s (.tup l) s=.ok (.tup l) s:=zq (λ n=>by unfold D.bnd;exact zr h n) (by nofun)
theorem ah6 [Has P ab3](n:Nat)(m:Mc)(s:Sto):(aa1 P (n+1)).call "begins_of" [m.d] s=.ok (.tup (zK m.bg)) s:=by
 refine(zh ab3 rfl).trans ?_
 simp -implicitDefEqProofs [ab3,ixB,al5 zR]
theorem ao6 [Has P ac2](n:Nat)(m:Mc)(s:Sto):(aa1 P (n+1)).call "ends_of" [m.d] s=.ok (.tup (zK m.en)) s:=by
 refine(zh ac2 rfl).trans ?_
 simp -implicitDefEqProofs [ac2,ixE,al5 zR]
theorem ak8 [Has P ab5](n:Nat)(m:Mc)(s:Sto):(aa1 P (n+1)).call "doors_of" [m.d] s=.ok (.tup (m.ds.map Dr.d)) s:=by
 refine(zh ab5 rfl).trans ?_
 simp -implicitDefEqProofs [ab5,ixD,al5 am1]
@[simp] theorem bQ2 (a b:Nat) (s:Sto):qo .ne (.str [a]) (.str [b]) s=.ok (.bl (!decide (a=b))) s:=by
 show(match eqv s DEEP (.str [a]) (.str [b])with|some r=>R.ok (D.bl (!r)) s|none=>.bad)=_
 have:eqv s DEEP (.str [a]) (.str [b])=some ([a]==[b]):=rfl
 rw[this]
 have e:([a]==[b])=decide (a=b):=by rw[fh];simp
 rw[e]
@[simp] theorem bv4 (a b:Nat) (s:Sto):qo .eq (.str [a]) (.str [b]) s=.ok (.bl (decide (a=b))) s:=by
 show(match eqv s DEEP (.str [a]) (.str [b])with|some r=>R.ok (D.bl r) s|none=>.bad)=_
 have:eqv s DEEP (.str [a]) (.str [b])=some ([a]==[b]):=rfl
 rw[this]
 have e:([a]==[b])=decide (a=b):=by rw[fh];simp
 rw[e]
theorem bQ6 (x:Dr)(s:Sto):ixM x.d (.int 0) s=.ok (.int x.a) s:=aq5 0 rfl
theorem bP4 (x:Dr)(s:Sto):ixM x.d (.int 1) s=.ok (.str [x.l]) s:=aq5 1 rfl
theorem bP8 (x:Dr)(s:Sto):ixM x.d (.int 2) s=.ok (.int x.b) s:=aq5 2 rfl
theorem bU0 (x:Dr)(s:Sto):ixM x.d (.int 3) s=.ok (.int x.t) s:=aq5 3 rfl
end
noncomputable def ab7 (S:Int->Prop):Option Int->Prop
 | none=>∀ c,¬ S c
 | some c=>S c/\∀ c',S c'->c<=c'
theorem ab7.eq {S z:Int->Prop}{o y:Option Int}(h:ab7 S o)(h':ab7 z y)(e:∀ c,S c↔z c):o=y:=by
 cases o with
 | none =>
  cases y with
  | none=>rfl
  | some c=>exact absurd ((e c).mpr h'.1) (h c)
 | some c =>
  cases y with
  | none=>exact absurd ((e c).mp h.1) (h' c)
  | some c' =>
   have C:=h.2 c' ((e c').mpr h'.1)
   have F:=h'.2 c ((e c).mp h.1)
   rw[show c=c' by omega]
theorem ab7.congr {S z:Int->Prop}{o:Option Int}(h:ab7 S o)(e:∀ c,S c↔z c):ab7 z o:=by
 cases o with
 | none=>exact λ c hc=>h c ((e c).mpr hc)
 | some c=>exact⟨(e c).mp h.1,λ y hc=>h.2 y ((e y).mpr hc)⟩
noncomputable def minO:Option Int->Option Int->Option Int
 | none,x=>x
 | some a,none=>some a
 | some a,some b=>if b<a then some b else some a
theorem ab7.or {S C:Int->Prop}{o y:Option Int}(h:ab7 S o)(h':ab7 C y):ab7 (λ c=>S c\/C c) (minO o y):=by
 cases o with
 | none =>
  cases y with
  | none=>exact λ c hc=>hc.elim (h c) (h' c)
  | some b=>exact⟨.inr h'.1,λ c hc=>hc.elim (λ z=>absurd z (h c)) (h'.2 c)⟩
 | some a =>
  cases y with
  | none=>exact⟨.inl h.1,λ c hc=>hc.elim (h.2 c) (λ z=>absurd z (h' c))⟩
  | some b =>
   show ab7 _ (if b<a then some b else some a)
   by_cases hlt:b<a
   ·rw[if_pos hlt]
    exact⟨.inr h'.1,λ c hc=>hc.elim (λ z=>by have:=h.2 c z;omega) (h'.2 c)⟩
   ·rw[if_neg hlt]
    exact⟨.inl h.1,λ c hc=>hc.elim (h.2 c) (λ z=>by have:=h'.2 c z;omega)⟩
theorem ab7.add {S:Int->Prop}{o:Option Int}(h:ab7 S o)(k:Int):ab7 (λ c=>∃ y,S y/\c=y+k) (o.map (·+k)):=by
 cases o with
 | none=>rintro c ⟨y,h',_⟩;exact h y h'
 | some a=>exact⟨⟨a,h.1,rfl⟩,by rintro c ⟨y,h',rfl⟩;have:=h.2 y h';show a+k<=y+k;omega⟩
noncomputable def Wk (ds:List Dr):List Nat->Nat->Nat->Int->Prop
 | [],p,q,c=>p=q/\c=0
 | x::w,p,q,c=>∃ d∈ds,d.a=p/\d.l=x/\∃ c':Int,Wk ds w d.b q c'/\c=(d.t:Int)+c'
theorem as8 {ds:List Dr}{x:Nat}:∀ {w:List Nat} {p q:Nat} {c:Int},Wk ds (w++[x]) p q c↔∃ d∈ds,d.l=x/\d.b=q/\∃ z:Int,Wk ds w p d.a z/\c=z+(d.t:Int)
 | [],p,q,c=>by
  constructor
  ·rintro⟨d,hd,rfl,hx,z,⟨F,C⟩,rfl⟩
   exact⟨d,hd,hx,F,0,⟨rfl,rfl⟩,by omega⟩
  ·rintro⟨d,hd,hx,hb,z,⟨F,C⟩,rfl⟩
   exact⟨d,hd,F.symm,hx,0,⟨hb,rfl⟩,by omega⟩
 | y::w,p,q,c=>by
  constructor
  ·rintro⟨d,hd,ha,hy,z,h,rfl⟩
   obtain⟨e,G,hx,hb,c2,C,rfl⟩:=as8.mp h
   exact⟨e,G,hx,hb,d.t+c2,⟨d,hd,ha,hy,c2,C,rfl⟩,by omega⟩
  ·rintro⟨e,G,hx,hb,z,⟨d,hd,ha,hy,c2,C,rfl⟩,rfl⟩
   exact⟨d,hd,ha,hy,c2+e.t,as8.mpr ⟨e,G,hx,hb,c2,C,rfl⟩,by omega⟩
noncomputable def Dr.turn (x:Dr):Dr:=⟨x.b,x.l,x.a,x.t⟩
def Mc.Wk (m:Mc)(w:List Nat)(c:Int):Prop:=∃ p∈m.bg,∃ q∈m.en,DV.Wk m.ds w p q c
noncomputable def Mc.turn (m:Mc):Mc:=⟨m.L,m.R,m.en,m.bg,m.ds.map Dr.turn⟩
noncomputable def ae8 (row:List (Option Int)):List D:=row.map qp
theorem aE7 (h:List (Option Int)):(ae8 h).length=h.length:=au ..
theorem aD4 {y:List (Option Int)}{k:Nat}{o:Option Int}(h:y[k]?=some o):(ae8 y)[k]?=some (qp o):=by unfold ae8;rw[aC,h];rfl
theorem aH6 {s T:Sto}{k:Nat}{o:O}(h:s.length<=k):(s++T).set k o=s++T.set (k - s.length) o:=by rw[hJ,if_neg (by omega)]
def am7 (S:Nat->Int->Prop)(row:List (Option Int)):Prop:=∀ k o,row[k]?=some o->ab7 (S k) o
theorem az6 {s:Sto}{k:Nat}:∀ {l:List Nat},inL s (.int k) (zK l)=some (decide (k∈l))
 | []=>rfl
 | a::l=>by
  have y:=az6 (s:=s) (k:=k) (l:=l)
  have e:eqv s DEEP (.int (a:Int)) (.int (k:Int))=some ((a:Int)==(k:Int)):=rfl
  show(match eqv s DEEP (.int (a:Int)) (.int (k:Int)),inL s (.int k) (zK l)with|some a,some b=>some (a||b)|_,_=>none)=_
  rw[e,y]
  show some (((a:Int)==(k:Int))||decide (k∈l))=some _
  congr 1
  rw[fh]
  simp
  constructor
  ·rintro(h|h)
   ·exact .inl (by omega)
   ·exact .inr h
  ·rintro(h|h)
   ·exact .inl (by omega)
   ·exact .inr h
theorem bf3 {s:Sto}{k:Nat}{l:List Nat}:inM (.int k) (.tup (zK l)) s=.ok (decide (k∈l)) s:=by unfold inM;simp only[az6]
theorem aR6 (b:Bool)(s:Sto):bi .int [.bl b] s=.ok (.int (if b then 1 else 0)) s:=by cases b<;>rfl
theorem an8:∀ l:List Int,qf (l.map D.int)=some l
 | []=>rfl
 | a::l=>by rw[aO];unfold qf;rw[an8 l];rfl
theorem au9:∀(l:List Int) (a:Int),(l.foldl min a=a\/l.foldl min a∈l)/\l.foldl min a<=a/\∀ y∈l,l.foldl min a<=y
 | [],a=>⟨.inl rfl,eV _,λ y hy=>by cases hy⟩
 | b::l,a=>by
  obtain⟨C,F,h3⟩:=au9 l (min a b)
  rw[di]
  refine⟨?_,by omega,λ y hy=>?_⟩
  ·rcases C with h|h
   ·rw[h]
    rcases jz a b with z|z
    ·left;omega
    ·right;rw[show min a b=b by omega];exact aG ..
   ·exact .inr (az _ h)
  ·rcases aE.mp hy with z|z
   ·rw[z];omega
   ·exact h3 y z
theorem aM0 (l:List Int):ab7 (λ c=>c∈l) (minI l):=by
 cases l with
 | nil=>exact λ c hc=>by cases hc
 | cons a l =>
  obtain⟨C,F,h3⟩:=au9 l a
  refine⟨?_,λ y hy=>?_⟩
  ·rcases C with h|h
   ·rw[h];exact aG ..
   ·exact az _ h
  ·rcases aE.mp hy with z|z
   ·rw[z];exact F
   ·exact h3 y z
theorem bo1 (l:List Int)(s:Sto):mkD .min (l.map D.int) .non s=.ok (qp (minI l)) s:=by
 unfold mkD
 simp only[an8]
 cases minI l<;>rfl
def bl3 (m:Mc)(w:List Nat)(s:Sto)(x:R D):Prop:=∃ o,ab7 (m.Wk w) o/\x=.ok (qp o) s
def ar9 (S:Nat->Int->Prop)(x:Nat)(ds:List Dr)(k:Nat)(c:Int):Prop:=∃ d∈ds,d.l=x/\d.b=k/\∃ c':Int,S d.a c'/\c=c'+(d.t:Int)
theorem au3 {S:Nat->Int->Prop}{x:Nat}{ds:List Dr}{d:Dr}{F:List (Option Int)}(h:am7 (ar9 S x ds) F)(hn:∀ y,¬(d.l=x/\S d.a y)):am7 (ar9 S x (ds++[d])) F:=λ k o hk=>by
 refine(h k o hk).congr λ c=>?_
 constructor
 ·rintro⟨e,C,r⟩;exact⟨e,aQ.mpr (.inl C),r⟩
 ·rintro⟨e,C,hl,hb,y,hs,r⟩
  rcases aQ.mp C with z|z
  ·exact⟨e,z,hl,hb,y,hs,r⟩
  ·rw[aU.mp z]at hl hs;exact absurd ⟨hl,hs⟩ (hn y)
theorem aP1 {S:Nat->Int->Prop}{x:Nat}{ds:List Dr}{d:Dr}{C:List (Option Int)}{i:Int}(h:am7 (ar9 S x ds) C)(hx:d.l=x)(F:ab7 (S d.a) (some i)){o:Option Int}(ho:C[d.b]?=some o) :
  am7 (ar9 S x (ds++[d])) (C.set d.b (minO o (some (i+d.t)))):=λ k G hk=>by
 have hlt:d.b<C.length:=(ac.mp ho).1
 by_cases e:d.b=k
 ·subst e
  rw[aV hlt]at hk
  cases hk
  refine((h _ o ho).or (F.add d.t)).congr λ c=>?_
  constructor
  ·rintro(⟨e,y,r⟩|r)
   ·exact⟨e,aQ.mpr (.inl y),r⟩
   ·exact⟨d,aQ.mpr (.inr (aU.mpr rfl)),hx,rfl,r⟩
  ·rintro⟨e,y,hl,hb,r⟩
   rcases aQ.mp y with z|z
   ·exact .inl ⟨e,z,hl,hb,r⟩
   ·rw[aU.mp z]at r;exact .inr r
 ·rw[aR e]at hk
  refine(h k G hk).congr λ c=>?_
  constructor
  ·rintro⟨e,y,r⟩;exact⟨e,aQ.mpr (.inl y),r⟩
  ·rintro⟨e',y,hl,hb,r⟩
   rcases aQ.mp y with z|z
   ·exact⟨e',z,hl,hb,r⟩
   ·rw[aU.mp z]at hb;exact absurd hb e
def aq0 (m:Mc)(w:List Nat)(k:Nat)(c:Int):Prop:=∃ p∈m.bg,Wk m.ds w p k c
theorem aQ4 {m:Mc}{w:List Nat}{x k:Nat}{c:Int}:ar9 (aq0 m w) x m.ds k c↔aq0 m (w++[x]) k c:=by
 constructor
 ·rintro⟨d,hd,hl,hb,y,⟨p,z,h⟩,rfl⟩
  exact⟨p,z,as8.mpr ⟨d,hd,hl,hb,y,h,rfl⟩⟩
 ·rintro⟨p,z,h⟩
  obtain⟨d,hd,hl,hb,y,C,rfl⟩:=as8.mp h
  exact⟨d,hd,hl,hb,y,⟨p,z,C⟩,rfl⟩
theorem aw3 {m:Mc}{w:List Nat}{C:List (Option Int)}(J:C.length=m.R)(Z:∀ k∈m.en,k<m.R)(h:am7 (aq0 m w) C):ab7 (m.Wk w) (minI (m.en.filterMap λ q=>C.getD q none)):=by
 have at_:∀ q∈m.en,∃ o,C[q]?=some o/\C.getD q none=o/\ab7 (aq0 m w q) o:=λ q hq=>by
  have hlt:q<C.length:=by rw[J];exact Z q hq
  exact⟨C[q],ag hlt,by simp[List.getD,hlt],h q _ (ag hlt)⟩
 have F:∀ c,c∈(m.en.filterMap λ q=>C.getD q none)↔∃ q∈m.en,C.getD q none=some c:=λ c=>c5
 have hl:=aM0 (m.en.filterMap λ q=>C.getD q none)
 cases e:minI (m.en.filterMap λ q=>C.getD q none)with
 | none =>
  rw[e]at hl
  rintro c ⟨p,G,q,hq,hw⟩
  obtain⟨o,h1,Y,h3⟩:=at_ q hq
  cases o with
  | none=>exact h3 c ⟨p,G,hw⟩
  | some y=>exact hl y ((F y).mpr ⟨q,hq,Y⟩)
 | some z =>
  rw[e]at hl
  obtain⟨q,hq,hz⟩:=(F z).mp hl.1
  refine⟨?_,λ c hc=>?_⟩
  ·obtain⟨o,h1,Y,h3⟩:=at_ q hq
   rw[Y]at hz;subst hz
   obtain⟨p,G,hw⟩:=h3.1
   exact⟨p,G,q,hq,hw⟩
  ·obtain⟨p,G,q,hq,hw⟩:=hc
   obtain⟨o,h1,Y,h3⟩:=at_ q hq
   cases o with
   | none=>exact absurd ⟨p,G,hw⟩ (h3 c)
   | some y =>
    have h4:=h3.2 c ⟨p,G,hw⟩
    have h5:=hl.2 y ((F y).mpr ⟨q,hq,Y⟩)
    omega
theorem zy {α β:Type}{f g:α->Option β}:∀ {l:List α},(∀ x∈l,f x=g x)->l.filterMap f=l.filterMap g
 | [],_=>rfl
 | a::l,h=>by rw[bU,bU,h a (aG ..),zy λ x hx=>h x (az _ hx)]
theorem ap7 {P:Pr}[Has P ac1](n:Nat){m:Mc}(hm:m.Ok)(w:List Nat)(hw:w.length<=1000)(s:Sto):bl3 m w s ((aa1 P (n+1)).call "_law_price" [m.d,.str w] s):=by
 have e0:(aa1 P (n+1)).call "_law_price" [m.d,.str w] s=_:=zh ac1 (n:=n) rfl
 rw[e0]
 have h5:=hm.R5
 simp -implicitDefEqProofs [ac1,ixR]
 rw[ag1 (by unfold W62;omega) (by unfold W62;omega)]
 simp only[R.bind_ok]
 rw[if_pos (by simp[ae6];unfold LIM;omega)]
 obtain⟨ρ1,s1,e1,T1,d3⟩:=zT (ok:=λ a2=>chk s a2 []) (g:=af6 (aa1 P n) (.one 0) (.ix (.lst (.cons (.cst .non) (.cons (.cst (.int 0)) .nil))) (.bi .int (.cons (.cmp .isin (.var 0) (.ix (.var 1) (.cst (.int 2)))) .nil)))) (λ ρ u=>∃ T,u=s++T/\∃ x,ρ=[x,some m.d])
  (λ d=>match d with|.int i=>some (qp (if i.toNat∈m.bg then some 0 else none))|_=>none) (ae6 0 m.R) (qc [some m.d,some (.str w),none,none,none,none,none,none,none] [none,some 0]) s ⟨[],by simp,none,rfl⟩ (λ _ _ _=>rfl) (by
   rintro d hd ρ u ⟨T,rfl,x,rfl⟩
   obtain⟨j,hj⟩:=iE hd
   obtain⟨e7,rfl⟩:=af2 hj
   rw[jB]
   have b3:=bf3 (s:=s++T++[.lst [.non,.int 0]]) (k:=j) (l:=m.bg)
   have hl:(s++T++[O.lst [.non,.int 0]])[(s++T).length]?=some (.lst [.non,.int 0]):=by simp
   by_cases hb:j∈m.bg
   ·have a9:ixM (.ref (s++T).length) (.int 1) (s++T++[O.lst [.non,.int 0]])=.ok (.int 0) _:=at6 (j:=1) hl rfl
    refine⟨[some (.int j),some m.d],s++T++[.lst [.non,.int 0]],?_,T++[.lst [.non,.int 0]],by simp,_,rfl⟩
    unfold af6
    simp -implicitDefEqProofs only[zP,setV_0,ev_ix,ev_lst,evs_cons,evs_nil,ev_cst,Cn_non,Cn_int,R.bind_ok,alloc_eq,ev_bi,ev_cmp,qe,qd,z9,ixB,aC7,b3,hb,decide_true,aR6,if_true,a9,bD,aU8]
   ·have a9:ixM (.ref (s++T).length) (.int 0) (s++T++[O.lst [.non,.int 0]])=.ok .non _:=at6 (j:=0) hl rfl
    refine⟨[some (.int j),some m.d],s++T++[.lst [.non,.int 0]],?_,T++[.lst [.non,.int 0]],by simp,_,rfl⟩
    unfold af6
    simp -implicitDefEqProofs only[zP,setV_0,ev_ix,ev_lst,evs_cons,evs_nil,ev_cst,Cn_non,Cn_int,R.bind_ok,alloc_eq,ev_bi,ev_cmp,qe,qd,z9,ixB,aC7,b3,hb,decide_false,aR6,if_false,bG,a9,bD,au4])
 obtain⟨rfl,x1,rfl⟩:=d3
 have b5:(ae6 0 (m.R:Int)).filterMap (λ d=>match d with|.int i=>some (qp (if i.toNat∈m.bg then some 0 else none))|_=>none)=ae8 ((bz m.R).map λ k=>if k∈m.bg then some 0 else none):=by
  unfold ae6 ae8
  rw[bN,dH,<-cI]
  simp only[jy,bD]
  refine zy λ k _=>?_
  simp only[dS,jB,bD]
 rw[b5]at e1
 rw[e1]
 simp -implicitDefEqProofs [mk]
 have sW:ah4 (.str w) (s++(T1++[O.lst (ae8 (List.map (λ k=>if k∈m.bg then some 0 else none) (bz m.R)))]))=.ok ⟨w.map λ c=>.str [c],[]⟩ _:=rfl
 rw[sW]
 simp only[R.bind_ok]
 refine zM (W:=bl3 m w s) (λ j ρ u=>∃(T:Sto) (k2:Nat) (C:List (Option Int)) (x3 x4 x5 x6 x7 x8:Option D),u=s++T/\s.length<=k2/\u[k2]?=some (.lst (ae8 C))/\C.length=m.R/\am7 (aq0 m (w.take j)) C/\ρ=[some m.d,some (.str w),some (.ref k2),x3,x4,x5,x6,x7,x8])
  ⟨_,s.length+T1.length,(bz m.R).map (λ k=>if k∈m.bg then some 0 else none),_,_,_,_,_,_,rfl,by omega,by rw[<-bV,<-aB];simp,by simp,?_,rfl⟩ (λ _ _ _ _ _=>rfl) ?_ ?_
 ·intro k o hk
  rw[aC]at hk
  by_cases hkR:k<m.R
  ·rw[fm hkR]at hk
   cases hk
   show ab7 _ (if k∈m.bg then some 0 else none)
   by_cases hb:k∈m.bg
   ·rw[if_pos hb]
    exact⟨⟨k,hb,rfl,rfl⟩,by rintro c ⟨p,_,_,rfl⟩;omega⟩
   ·rw[if_neg hb]
    rintro c ⟨p,hp,rfl,_⟩;exact hb hp
  ·rw[cH (by simp;omega)]at hk;cases hk
 ·rintro j d ρ u hj ⟨T,k2,C,x3,x4,x5,x6,x7,x8,rfl,c4,g2,Z,a4,rfl⟩
  obtain⟨c,hc,rfl⟩:∃ c,w[j]?=some c/\d=.str [c]:=by
   rw[aC]at hj
   cases e:w[j]? with
   | none=>rw[e]at hj;cases hj
   | some c=>rw[e]at hj;cases hj;exact⟨c,rfl,rfl⟩
  have d4:k2<(s++T).length:=(ac.mp g2).1
  have sq:ah4 (.ref k2) (s++T)=.ok ⟨ae8 C,[k2]⟩ (s++T):=by simp only[ah4,g2]
  obtain⟨ρ2,s2,e2,b7,_⟩:=zT (ok:=λ a2=>chk (s++T) a2 [k2]) (g:=af6 (aa1 P n) (.one 0) (.cst .non)) (λ ρ u=>u=s++T/\∃ x,ρ=[x]) (λ _=>some .non) (ae8 C) (qc [some m.d,some (.str w),some (.ref k2),some (.str [c]),x4,x5,x6,x7,x8] [none]) (s++T) ⟨rfl,none,rfl⟩ (λ _ _ h=>by rw[h.1];simp[chk]) (by
   rintro d _ ρ u ⟨rfl,x,rfl⟩
   exact⟨[some d],s++T,by unfold af6;simp -implicitDefEqProofs,rfl,_,rfl⟩)
  subst b7
  have b6:(ae8 C).filterMap (λ _=>some D.non)=ae8 (C.map λ _=>none):=by
   unfold ae8
   rw[dH,bN,<-cI]
   exact zy λ _ _=>rfl
  rw[b6]at e2
  have d1:(ae8 C).length<=LIM:=by rw[aE7,Z];unfold LIM;omega
  have sD:∀ S,ah4 (.tup (m.ds.map Dr.d)) S=.ok ⟨m.ds.map Dr.d,[]⟩ S:=λ _=>rfl
  conv=>arg 2;simp -implicitDefEqProofs [turn,sq,d1,e2,mk,ixD,sD]
  rw[<-bV,<-aB]
  have d0:(s++T++[O.lst (ae8 (C.map λ _=>none))])[(s++T).length]?=some (.lst (ae8 (C.map λ _=>none))):=by simp
  have b4:s.length<=(s++T).length:=by simp
  generalize e4:(s++T).length=k4 at *
  have c2:w.take j++[c]=w.take (j+1):=by
   have hlt:j<w.length:=(ac.mp hc).1
   have e:w[j]=c:=(ac.mp hc).2
   rw[<-e,dU]
  refine zM (W:=Nx _) (λ i ρ v=>∃(F:Sto) (G:List (Option Int)) (y5 y6 y7 y8:Option D),v=s++F/\v[k2]?=some (.lst (ae8 C))/\v[k4]?=some (.lst (ae8 G))/\G.length=m.R/\am7 (ar9 (aq0 m (w.take j)) c (m.ds.take i)) G/\ρ=[some m.d,some (.str w),some (.ref k2),some (.str [c]),some (.ref k4),y5,y6,y7,y8])
   ⟨T++[.lst (ae8 (C.map λ _=>none))],C.map λ _=>none,_,_,_,_,by simp,zI g2,d0,by simp[Z],?_,rfl⟩ (λ _ _ _ _ _=>rfl) ?_ ?_
  ·intro k o hk
   rw[aC]at hk
   cases e:C[k]? with
   | none=>rw[e]at hk;cases hk
   | some _ =>
    rw[e]at hk;cases hk
    rintro c' ⟨d,hd,_⟩
    rw[kh]at hd;cases hd
  ·rintro i d ρ v hi ⟨F,G,y5,y6,y7,y8,rfl,a6,g4,a1,Y,rfl⟩
   obtain⟨x,hx,rfl⟩:∃ x,m.ds[i]?=some x/\d=x.d:=by
    rw[aC]at hi
    cases e:m.ds[i]? with
    | none=>rw[e]at hi;cases hi
    | some x=>rw[e]at hi;cases hi;exact⟨x,rfl,rfl⟩
   have hok:=hm.ds.1 x (aM hx)
   have a5:m.ds.take (i+1)=m.ds.take i++[x]:=by
    have hlt:i<m.ds.length:=(ac.mp hx).1
    have e:m.ds[i]=x:=(ac.mp hx).2
    rw[<-e,dU]
   obtain⟨oa,ha⟩:∃ o,C[x.a]?=some o:=⟨C[x.a]'(by rw[Z];exact hok.a),ag _⟩
   obtain⟨ob,hb⟩:∃ o,G[x.b]?=some o:=⟨G[x.b]'(by rw[a1];exact hok.b),ag _⟩
   have ia:ixM (.ref k2) (.int x.a) (s++F)=.ok (qp oa) (s++F):=at6 a6 (aD4 ha)
   have ib:ixM (.ref k4) (.int x.b) (s++F)=.ok (qp ob) (s++F):=at6 g4 (aD4 hb)
   have d2:k2≠k4:=by omega
   have b8:k4<(s++F).length:=(ac.mp g4).1
   have a3:x.d=.tup [.int x.a,.str [x.l],.int x.b,.int x.t]:=rfl
   have stay:am7 (ar9 (aq0 m (w.take j)) c (m.ds.take (i+1))) G->∃(b2:Sto) (J:List (Option Int)) (z5 z6 z7 z8:Option D),s++F=s++b2/\(s++F)[k2]?=some (.lst (ae8 C))/\(s++F)[k4]?=some (.lst (ae8 J))/\J.length=m.R/\am7 (ar9 (aq0 m (w.take j)) c (m.ds.take (i+1))) J/\[some m.d,some (.str w),some (.ref k2),some (.str [c]),some (.ref k4),some (.int x.a),some (.str [x.l]),some (.int x.b),some (.int x.t)]=[some m.d,some (.str w),some (.ref k2),some (.str [c]),some (.ref k4),z5,z6,z7,z8]:=λ h=>⟨F,G,_,_,_,_,rfl,a6,g4,a1,h,rfl⟩
   by_cases hl:x.l=c
   ·cases oa with
    | none =>
     refine qz (ρ:=[some m.d,some (.str w),some (.ref k2),some (.str [c]),some (.ref k4),some (.int x.a),some (.str [x.l]),some (.int x.b),some (.int x.t)]) (s:=s++F) ?_ (stay ?_)
     ·simp -implicitDefEqProofs only[turn,a3,bindT_tup,setVs_cons,setVs_nil,setV_s,setV_0,dm,Option.bind_some,qi,exs_nil,ex_ite,ev_and,ev_cmp,qe,qd,z9,R.bind_ok,bv4,hl,decide_true,tru_bl,if_true,ev_notN,ev_ix,ia,au4,iX,if_false,bG,qg]
     ·rw[a5]
      refine au3 Y λ c' b1=>?_
      exact a4 x.a none ha c' b1.2
    | some y =>
     have b0:=aP1 Y hl (a4 x.a (some y) ha) hb
     have a7:setIx (.ref k4) (.int x.b) (.int (y+x.t)) (s++F)=.ok () ((s++F).set k4 (.lst (ae8 (G.set x.b (some (y+x.t)))))):=by
      rw[bn0 g4 (by rw[aE7,a1];exact hok.b)]
      unfold ae8
      rw[List.map_set];rfl
     have a8:minO ob (some (y+x.t))=some (y+x.t)->∃(b2:Sto) (J:List (Option Int)) (z5 z6 z7 z8:Option D),(s++F).set k4 (.lst (ae8 (G.set x.b (some (y+x.t)))))=s++b2/\((s++F).set k4 (.lst (ae8 (G.set x.b (some (y+x.t))))))[k2]?=some (.lst (ae8 C))/\((s++F).set k4 (.lst (ae8 (G.set x.b (some (y+x.t))))))[k4]?=some (.lst (ae8 J))/\J.length=m.R/\am7 (ar9 (aq0 m (w.take j)) c (m.ds.take (i+1))) J/\[some m.d,some (.str w),some (.ref k2),some (.str [c]),some (.ref k4),some (.int x.a),some (.str [x.l]),some (.int x.b),some (.int x.t)]=[some m.d,some (.str w),some (.ref k2),some (.str [c]),some (.ref k4),z5,z6,z7,z8]:=λ h =>
      ⟨_,G.set x.b (some (y+x.t)),_,_,_,_,aH6 b4,by rw[aR (bL d2)];exact a6,qk b8,by simp[a1],by rw[a5,<-h];exact b0,rfl⟩
     cases ob with
     | none =>
      refine qz (ρ:=[some m.d,some (.str w),some (.ref k2),some (.str [c]),some (.ref k4),some (.int x.a),some (.str [x.l]),some (.int x.b),some (.int x.t)]) (s:=(s++F).set k4 (.lst (ae8 (G.set x.b (some (y+x.t)))))) ?_ (a8 rfl)
      simp -implicitDefEqProofs [turn,a3,hl,ia,ib,a7]
     | some z =>
      by_cases hlt:y+x.t<z
      ·refine qz (ρ:=[some m.d,some (.str w),some (.ref k2),some (.str [c]),some (.ref k4),some (.int x.a),some (.str [x.l]),some (.int x.b),some (.int x.t)]) (s:=(s++F).set k4 (.lst (ae8 (G.set x.b (some (y+x.t)))))) ?_ (a8 (by show(if y+(x.t:Int)<z then _ else _)=_;rw[if_pos hlt]))
       simp -implicitDefEqProofs [turn,a3,hl,ia,ib,a7,hlt]
      ·refine qz (ρ:=[some m.d,some (.str w),some (.ref k2),some (.str [c]),some (.ref k4),some (.int x.a),some (.str [x.l]),some (.int x.b),some (.int x.t)]) (s:=s++F) ?_ (stay ?_)
       ·simp -implicitDefEqProofs [turn,a3,hl,ia,ib,hlt]
       ·rw[a5]
        have e:minO (some z) (some (y+(x.t:Int)))=some z:=by show(if y+(x.t:Int)<z then _ else _)=_;rw[if_neg hlt]
        rw[e]at b0
        have e2:G.set x.b (some z)=G:=by
         have e5:x.b<G.length:=(ac.mp hb).1
         have e3:G[x.b]=some z:=(ac.mp hb).2
         rw[<-e3,eK]
        rwa [e2]at b0
   ·refine qz (ρ:=[some m.d,some (.str w),some (.ref k2),some (.str [c]),some (.ref k4),some (.int x.a),some (.str [x.l]),some (.int x.b),some (.int x.t)]) (s:=s++F) ?_ (stay ?_)
    ·simp -implicitDefEqProofs [turn,a3,hl]
    ·rw[a5]
     exact au3 Y λ c' b1=>hl b1.1
  ·rintro ρ v ⟨F,G,y5,y6,y7,y8,rfl,a6,g4,a1,Y,rfl⟩
   rw[au,gC]at Y
   refine qz (ρ:=[some m.d,some (.str w),some (.ref k4),some (.str [c]),some (.ref k4),y5,y6,y7,y8]) (s:=s++F) (by simp -implicitDefEqProofs) ⟨F,k4,G,_,_,_,_,_,_,rfl,b4,g4,a1,?_,rfl⟩
   intro k o hk
   rw[<-c2]
   exact(Y k o hk).congr λ c=>aQ4
 ·rintro ρ u ⟨T,k2,C,x3,x4,x5,x6,x7,x8,rfl,c4,g2,Z,a4,rfl⟩
  rw[au,gC]at a4
  have sE:ah4 (.tup (zK m.en)) (s++T)=.ok ⟨zK m.en,[]⟩ (s++T):=rfl
  have e6:m.en.length<=5:=by
   have nd:m.en.Nodup:=hm.en.2.imp (λ h=>av h)
   have:=cY (l₂:=bz m.R) nd (λ x hx=>cf.mpr (hm.en.1 x hx))
   simp at this;omega
  obtain⟨ρ3,s3,e3,c3,_⟩:=zT (ok:=λ a2=>chk (s++T) a2 []) (g:=aB6 (aa1 P n) (.one 0) (.notN (.ix (.var 1) (.var 0))) (.ix (.var 1) (.var 0))) (λ ρ u=>u=s++T/\∃ x,ρ=[x,some (.ref k2)]) (λ d=>match d with|.int i=>(C.getD i.toNat none).map D.int|_=>none) (zK m.en) (qc [some m.d,some (.str w),some (.ref k2),x3,x4,x5,x6,x7,x8] [none,some 2]) (s++T) ⟨rfl,none,rfl⟩ (λ _ _ h=>rfl) (by
   rintro d hd ρ u ⟨rfl,x,rfl⟩
   obtain⟨q,hq,rfl⟩:=aN.mp hd
   have hlt:q<C.length:=by rw[Z];exact hm.en.1 q hq
   have ix:=at6 (s:=s++T) g2 (aD4 (ag hlt))
   refine⟨[some (.int q),some (.ref k2)],s++T,?_,rfl,_,rfl⟩
   have hg:C.getD ((q:Int).toNat) none=C[q]:=by simp[List.getD,hlt]
   unfold aB6
   simp only[hg]
   cases e:C[q]with
   | none=>rw[e]at ix;simp -implicitDefEqProofs [ix]
   | some y=>rw[e]at ix;simp -implicitDefEqProofs [ix])
  subst c3
  have c1:(zK m.en).filterMap (λ d=>match d with|.int i=>(C.getD i.toNat none).map D.int|_=>none)=(m.en.filterMap λ q=>C.getD q none).map D.int:=by
   unfold zK
   rw[bN,List.map_filterMap]
   exact zy λ q _=>rfl
  rw[c1]at e3
  refine⟨_,aw3 Z hm.en.1 a4,?_⟩
  have c0:(zK m.en).length<=LIM:=by unfold zK;rw[au];unfold LIM;omega
  simp -implicitDefEqProofs [ixE,sE,c0,e3,bo1]
  exact qu (aG5 _) (aJ4 _)
theorem good_of {L:Nat}{w:List Nat}(h:w.length<=200)(hw:Lts L w):bK7 L (.str w)=true:=by
 unfold bK7
 simp only[h,decide_true,gj,aX,decide_eq_true_eq]
 exact hw
@[simp] theorem bS0 {F:Fns} {ρ:Env} {s:Sto} (a h C:E):ev F (.slLU a h C) ρ s=(ev F a ρ s).bind λ x s=>(ev F h ρ s).bind λ y s=>match y with|.int i=>(ev F C ρ s).bind (λ z s=>match z with|.int j=>slM x (some i) (some j) s|_=>.bad)|_=>.bad:=rfl
@[simp] theorem bN9 {F:Fns} {ρ:Env} {s:Sto} (e:E):evI F (.enum (.seq e)) ρ s=(ev F e ρ s).bind λ d s=>(aZ9 d s).bind λ q s=>.ok ⟨bo7 0 q.its,q.src⟩ s:=rfl
def McL (L Rm:Nat)(s:Sto)(r:Nat)(x:R D):Prop:=∃(m:Mc) (b:Nat×Nat),m.Ok/\m.L=L/\m.R=Rm/\x=.ok m.d (s.set r (zt b))
theorem aJ6 {P : Pr} [Has P ac4] [Has P ad3] [Has P ae5] (n : Nat) {s : Sto} {r L Rm : Nat} (hL1 : 1 <= L) (hL3 : L <= 3) (hR1 : 1 <= Rm) (hR5 : Rm <= 5) (hs : ∃ b, s[r]? = some (zt b)) : McL L Rm s r ((aa1 P (n + 3)).call "_law_sized" [.ref r, .int L, .int Rm, .int 3] s) := by
  have e0 : (aa1 P (n + 3)).call "_law_sized" [.ref r, .int L, .int Rm, .int 3] s = _ := zh ae5 (n := n + 2) rfl
  have hr := aE9 hs
  obtain⟨m1, b3, hm1, e3⟩ := z4 (P := P) (n + 1) hs 13 (by decide) (by decide)
  obtain⟨m2, b4, hm2, e4⟩ := z4 (P := P) (n + 1) (aA2 (b := b3) hr) 8 (by decide) (by decide)
  rw[db]at e4
  obtain⟨m3, b5, hm3, e5⟩ := z4 (P := P) (n + 1) (aA2 (b := b4) hr) 76 (by decide) (by decide)
  rw[db]at e5
  rw[e0]
  simp -implicitDefEqProofs [ae5, e3, e4]
  obtain ⟨many, bb, hmany, hif⟩ : ∃ (many : Nat) (bb : Nat × Nat), many <= 75 /\ (if (m2 : Int) = 7 then
                      ((aa1 P (n + 2)).call "_law_take" [D.ref r, D.int 76] (List.set s r (zt b4))).bind λ d s =>
                        R.ok
                          (Ct.next [some (D.ref r), some (D.int L), some (D.int Rm), some (D.int 3), some d, none, none, none, none]) s
                    else
                      R.ok
                        (Ct.next
                          [some (D.ref r), some (D.int L), some (D.int Rm), some (D.int 3), some (D.int ↑m1), none, none, none, none])
                        (List.set s r (zt b4))) = .ok (.next [some (.ref r), some (.int L), some (.int Rm), some (.int 3), some (.int many), none, none, none, none]) (s.set r (zt bb)) := by
    by_cases h7 : (m2 : Int) = 7
    · exact⟨m3, b5, by omega, by rw[if_pos h7, e5]; rfl⟩
    · exact⟨m1, b4, by omega, by rw[if_neg h7]⟩
  rw[hif]
  simp -implicitDefEqProofs
  rw[ag1 (by unfold W62; omega) (by unfold W62; omega)]
  simp only[R.bind_ok]
  refine zM (W := McL L Rm s r) (λ j ρ u => ∃(b : Nat × Nat) (l : List Dr) (x y z : Option D), (∀ d ∈ l, d.Ok ⟨L, Rm, [], [], []⟩) /\ l.length = j /\ ρ = [some (.ref r), some (.int L), some (.int Rm), some (.int 3), some (.int many), some (.ref s.length), x, y, z] /\ u = s.set r (zt b) ++ [.lst (l.map Dr.d)]) ⟨bb, [], none, none, none, by simp, rfl, rfl, rfl⟩ (λ _ _ _ _ _ => rfl) ?_ ?_
  · rintro j d ρ u hj ⟨b, l, x, y, z, hl, hlen, rfl, rfl⟩
    obtain⟨hj2, rfl⟩ := af2 hj
    obtain⟨k1, c1, hk1, f1⟩ := ar3 (P := P) (n + 1) (t := [.lst (l.map Dr.d)]) hr b Rm (by omega) (ag5 (by omega))
    obtain⟨k2, c2, hk2, f2⟩ := ar3 (P := P) (n + 1) (t := [.lst (l.map Dr.d)]) hr c1 L (by omega) (ag5 (by omega))
    obtain⟨k3, c3, hk3, f3⟩ := ar3 (P := P) (n + 1) (t := [.lst (l.map Dr.d)]) hr c2 Rm (by omega) (ag5 (by omega))
    obtain⟨k4, c4, hk4, f4⟩ := ar3 (P := P) (n + 1) (t := [.lst (l.map Dr.d)]) hr c3 4 (by decide) (by decide)
    refine qz (ρ := [some (.ref r), some (.int L), some (.int Rm), some (.int 3), some (.int many), some (.ref s.length), some (.int j), some (.int k1), some (.str [97 + k2])]) (s := s.set r (zt c4) ++ [.lst ((l ++ [(⟨k1, 97 + k2, k3, k4⟩ : Dr)]).map Dr.d)]) ?_ ⟨c4, l ++ [(⟨k1, 97 + k2, k3, k4⟩ : Dr)], _, _, _, ?_, ?_, rfl, rfl⟩
    · simp -implicitDefEqProofs [turn, f1, f2, f3, f4, bh8 (show k2 < 3 by omega)]
      rw[bJ1 (by unfold LIM; simp; omega)]
      rfl
    · intro d hd
      rcases aQ.mp hd with h|h
      · exact hl d h
      · rw[aU.mp h]; constructor <;> simp only <;> omega
    · simp[hlen]
  · rintro ρ u ⟨b, l, x, y, z, hl, hlen, rfl, rfl⟩
    obtain⟨l1, c1, g1, f1⟩ := aI4 (P := P) n (s := s.set r (zt b) ++ [.lst (l.map Dr.d)]) (r := r) ⟨b, zI (qk hr)⟩ Rm (by omega)
    rw[aj8 (by rw[a0]; exact hr), db]at f1
    obtain⟨l2, c2, g2, f2⟩ := aI4 (P := P) n (s := s.set r (zt c1) ++ [.lst (l.map Dr.d)]) (r := r) ⟨c1, zI (qk hr)⟩ Rm (by omega)
    rw[aj8 (by rw[a0]; exact hr), db]at f2
    have hl3 : (s.set r (zt c2) ++ [O.lst (l.map Dr.d)])[s.length]? = some (.lst (l.map Dr.d)) := by rw[aY (by simp)]; simp
    have hll : l.length <= 75 := by
      rw[hlen]; simp[ae6]; omega
    simp -implicitDefEqProofs [f1, f2, bx4, hl3, mk]
    refine⟨⟨L, Rm, l1, l2, l⟩, c2, ⟨hL1, hL3, hR1, hR5, g1, g2, λ x hx => ?_, hll⟩, rfl, rfl, ?_⟩
    · have := hl x hx
      exact⟨this.a, this.l, this.b, this.t⟩
    · exact az7 (bz8 ⟨L, Rm, l1, l2, l⟩) (by nofun) rfl
theorem ag3 {P:Pr}[Has P ab4](n:Nat)(i y z:Int)(s:Sto):(aa1 P (n+1)).call "_law_whole" [.int i,.int y,.int z] s=.ok (.bl (decide (y<=i)&&decide (i<=z))) s:=by
 refine(zh ab4 rfl).trans ?_
 by_cases h:y<=i<;>simp -implicitDefEqProofs [ab4,h]
theorem ah9 {P:Pr}[Has P ab4][Has P ab0](n:Nat){l:List Nat}{k:Nat}(h:(∀ i∈l,i<k)/\l.Pairwise (· < ·))(s:Sto):(aa1 P (n+2)).call "_law_are_rooms" [.tup (zK l),.int k] s=.ok (.bl true) s:=by
 have F:(aa1 P (n+2)).call "_law_are_rooms" [.tup (zK l),.int k] s=_:=zh ab0 (n:=n+1) rfl
 rw[F]
 have C:ah4 (.tup (zK l)) s=.ok ⟨zK l,[]⟩ s:=rfl
 simp -implicitDefEqProofs [ab0,C]
 refine aG2 (λ j ρ t=>t=s/\∃(a:Int) (x:Option D),ρ=[some (.tup (zK l)),some (.int k),some (.int a),x]/\(∀ i∈l.drop j,a<(i:Int))) ⟨rfl,-1,none,rfl,λ i _=>by omega⟩ (λ _ _ _ _ _=>rfl) ?_ ?_
 ·rintro j d ρ t hj ⟨rfl,a,x,rfl,ha⟩
  obtain⟨i,hi,rfl⟩:∃ i,l[j]?=some i/\d=.int (i:Int):=by
   unfold zK at hj
   rw[aC]at hj
   cases e:l[j]? with
   | none=>rw[e]at hj;cases hj
   | some i=>rw[e]at hj;cases hj;exact⟨i,rfl,rfl⟩
  have hlt:j<l.length:=(ac.mp hi).1
  have hij:l[j]=i:=(ac.mp hi).2
  have hd:l.drop j=i::l.drop (j+1):=by rw[<-hij,dJ hlt]
  have G:a+1<=(i:Int):=by have:=ha i (by rw[hd];exact aG ..);omega
  have J:(i:Int)<=(k:Int) - 1:=by have:=h.1 i (aM hi);omega
  refine qz (ρ:=[some (.tup (zK l)),some (.int k),some (.int i),some (.int i)]) (s:=t) ?_ ⟨rfl,i,_,rfl,λ y hy=>?_⟩
  ·simp -implicitDefEqProofs [turn,ag3 (P:=P) n,G,J]
  ·have z:=h.2
   rw[<-List.take_append_drop j l,e8]at z
   have:=z.2.1
   rw[hd,ji]at this
   have:=this.1 y hy
   omega
 ·rintro ρ t ⟨rfl,a,x,rfl,_⟩
  simp -implicitDefEqProofs
theorem aA4 {P:Pr}[Has P ab4][Has P aa9](n:Nat){m:Mc}(y:m.Ok){x:Dr}(hx:x.Ok m)(s:Sto):(aa1 P (n+2)).call "_law_is_door" [x.d,.int m.L,.int m.R] s=.ok (.bl true) s:=by
 have Z:(aa1 P (n+2)).call "_law_is_door" [x.d,.int m.L,.int m.R] s=_:=zh aa9 (n:=n+1) rfl
 rw[Z]
 have z:x.d=.tup [.int x.a,.str [x.l],.int x.b,.int x.t]:=rfl
 have Y:=bQ6 x
 have F:=bP4 x
 have J:=bP8 x
 have G:=bU0 x
 rw[z]at Y F J G ⊢
 have ha:=hx.a;have hb:=hx.b;have ht:=hx.t;have hl:=hx.l
 have iS:bi .isStr [.str [x.l]] s=.ok (.bl true) s:=rfl
 have C:slM (.str [97,98,99]) none (some (m.L:Int)) s=.ok (.str ([97,98,99].take m.L)) s:=by
  have h3:=y.L3
  show R.ok (D.str (ah0 [97,98,99] none (some (m.L:Int)))) s=_
  unfold ah0
  simp only[loB,hiB,sbd,eC,kI]
  rw[if_pos (by omega),bD]
  show R.ok (D.str (List.take (min m.L 3) [97,98,99])) s=_
  rw[jV h3]
 have h:inM (.str [x.l]) (.str ([97,98,99].take m.L)) s=.ok true s:=by
  show R.ok (decide (x.l∈[97,98,99].take m.L)) s=_
  have h1:=y.L1
  have h3:=y.L3
  have:x.l∈[97,98,99].take m.L:=by
   rcases(show m.L=1\/m.L=2\/m.L=3 by omega)with e|e|e<;>(rw[e]at hl ⊢;simp;omega)
  rw[decide_eq_true this]
 have q1:(x.a:Int)<=(m.R:Int) - 1:=by omega
 have q2:(x.b:Int)<=(m.R:Int) - 1:=by omega
 have q3:(x.t:Int)<=3:=by omega
 simp -implicitDefEqProofs [aa9,Y,F,J,G,iS,ag3 (P:=P) n,q1,q2,q3,C,aC7,h]
theorem an4 {P:Pr}[Has P ab4][Has P ab0][Has P aa9][Has P aa6](n:Nat){m:Mc}(h:m.Ok)(s:Sto):(aa1 P (n+3)).call "_law_is_machine" [m.d,.int m.L] s=.ok (.bl true) s:=by
 have e0:(aa1 P (n+3)).call "_law_is_machine" [m.d,.int m.L] s=_:=zh aa6 (n:=n+2) rfl
 rw[e0]
 have iT:bi .isTup [m.d] s=.ok (.bl true) s:=rfl
 have Y:bi .len [m.d] s=.ok (.int 5) s:=rfl
 have y:bi .isTup [.tup (m.ds.map Dr.d)] s=.ok (.bl true) s:=rfl
 have z:bi .len [.tup (m.ds.map Dr.d)] s=.ok (.int m.ds.length) s:=by rw[aN9,au]
 have h1:=h.R1;have h5:=h.R5;have a1:=h.ds.2
 have q1:(1:Int)<=(m.R:Int):=by omega
 have q2:(m.R:Int)<=5:=by omega
 have q3:¬((75:Int)<(m.ds.length:Int)):=by omega
 have Z:ah4 (.tup (m.ds.map Dr.d)) s=.ok ⟨m.ds.map Dr.d,[]⟩ s:=rfl
 obtain⟨ρ1,s1,e1,rfl,_⟩:=zT (ok:=λ F=>chk s F []) (g:=af6 (aa1 P (n+2)) (.one 0) (.call "_law_is_door" (.ex (.var 0) (.ex (.var 1) (.ex (.ix (.var 2) (.cst (.int 1))) .nil))))) (λ ρ u=>u=s/\∃ a,ρ=[a,some (.int m.L),some m.d]) (λ _=>some (.bl true)) (m.ds.map Dr.d) (qc [some m.d,some (.int m.L)] [none,some 1,some 0]) s ⟨rfl,none,rfl⟩ (λ _ _ _=>rfl) (by
  rintro d hd ρ u ⟨rfl,a,rfl⟩
  obtain⟨x,hx,rfl⟩:=aN.mp hd
  exact⟨[some x.d,some (.int m.L),some m.d],u,by unfold af6;simp -implicitDefEqProofs [ixR,aA4 (P:=P) n h (h.ds.1 x hx)],rfl,_,rfl⟩)
 have C:(m.ds.map Dr.d).length<=LIM:=by rw[au];unfold LIM;omega
 have G:ai3 ((m.ds.map Dr.d).filterMap λ _=>some (D.bl true))=some (m.ds.map λ _=>true):=by
  rw[bN]
  generalize m.ds=l
  induction l with
  | nil=>rfl
  | cons a l ih=>rw[bU];simp only[dS];unfold ai3;rw[ih];rfl
 have J:(m.ds.map λ _=>true).all id=true:=by simp
 simp -implicitDefEqProofs only[aa6,qi,exs_nil,aO,bZ,bS,bO,aH,ex_ite,ev_or,ev_not,ev_bi,evs_cons,evs_nil,qe,qd,z9,R.bind_ok,iT,tru_bl,iX,if_false,bG,ev_cmp,Y,ev_cst,Cn_int,ne_int,decide_true,ev_call,evas_ex,evas_nil,ev_ix,ixL,ag3 (P:=P) (n+1),eV,gi,ixR,q1,q2,ixD,y,z,gt_int,q3,decide_false,ixB,ixE,ah9 (P:=P) n h.bg,ah9 (P:=P) n h.en,qg,ex_ret,ev_mk,ai9,evI_seq,Z,C,if_true,e1,mk,G,J,nxt_ret,fin_ret,aZ4]
def WL (B:Nat)(l:List D):Prop:=∀ d∈l,∃ w:List Nat,d=.str w/\w.length<=B
theorem WL.app {B:Nat}{l m:List D}(h:WL B l)(y:WL B m):WL B (l++m):=λ d hd=>(aQ.mp hd).elim (h d) (y d)
theorem WL.mono {B C:Nat}{l:List D}(h:WL B l)(y:B<=C):WL C l:=λ d hd=>by obtain⟨w,e,hw⟩:=h d hd;exact⟨w,e,by omega⟩
theorem WL.bnd {B:Nat}{l:List D}(h:WL B l):∀ d∈l,∀ n,d.bnd n=true:=λ d hd n=>by obtain⟨w,rfl,_⟩:=h d hd;rfl
def bA5 (s:Sto)(r B:Nat)(x:R D):Prop:=∃(w:List Nat) (b:Nat×Nat),w.length<=B/\x=.ok (.str w) (s.set r (zt b))
theorem bf5 {P:Pr}[Has P ac4][Has P ah3](n:Nat){s:Sto}{r L:Nat}(F:1<=L)(y:L<=3)(hs:∃ b,s[r]?=some (zt b))(B:Nat)(hB:B<=500):bA5 s r B ((aa1 P (n+2)).call "_law_word" [.ref r,.int L,.int B] s):=by
 have z:(aa1 P (n+2)).call "_law_word" [.ref r,.int L,.int B] s=_:=zh ah3 (n:=n+1) rfl
 have hr:=aE9 hs
 obtain⟨a,C,ha,e1⟩:=z4 (P:=P) n hs ((B:Int)+1) (by omega) (ag5 (by omega))
 rw[z]
 simp -implicitDefEqProofs [ah3,e1]
 rw[ag1 (by unfold W62;omega) (by unfold W62;omega)]
 simp only[R.bind_ok]
 refine zM (W:=bA5 s r B) (λ j ρ u=>∃(b:Nat×Nat) (w:List Nat) (x:Option D),w.length=j/\ρ=[some (.ref r),some (.int L),some (.int B),some (.str w),x]/\u=s.set r (zt b)) ⟨C,[],none,rfl,rfl,rfl⟩ (λ _ _ _ _ _=>rfl) ?_ ?_
 ·rintro j d ρ u hj ⟨b,w,x,hl,rfl,rfl⟩
  obtain⟨h,rfl⟩:=af2 hj
  obtain⟨k,c,hk,f⟩:=z4 (P:=P) n (aA2 (b:=b) hr) L (by omega) (ag5 (by omega))
  rw[db]at f
  refine qz (ρ:=[some (.ref r),some (.int L),some (.int B),some (.str (w++[97+k])),some (.int j)]) (s:=s.set r (zt c)) ?_ ⟨c,_,_,by simp[hl],rfl,rfl⟩
  simp -implicitDefEqProofs [turn,f,bh8 (show k<3 by omega)]
  rw[aB8 (by unfold LIM;simp;omega)]
  rfl
 ·rintro ρ u ⟨b,w,x,hl,rfl,rfl⟩
  simp -implicitDefEqProofs
  refine⟨w,b,?_,qw (λ _=>rfl) (by nofun) rfl⟩
  rw[hl];simp[ae6];omega
theorem aU2 {S:Sto}{k:Nat}{l m:List D}(h:S[k]?=some (.lst l))(hl:l.length+m.length<=LIM):aZ0 (.ref k) m S=.ok .non (S.set k (.lst (l++m))):=by
 simp only[aZ0,h,hl,if_true]
theorem bg7 {S:Sto}{k q:Nat}{l m:List D}(h:S[k]?=some (.lst l))(hq:S[q]?=some (.lst m))(hl:l.length+m.length<=LIM):extS (.ref k) (.ref q) S=.ok .non (S.set k (.lst (l++m))):=by
 simp only[extS,hq];exact aU2 h hl
theorem bL1 {L:Nat}(h3:L<=3)(s:Sto):slM (.str [97,98,99]) none (some (L:Int)) s=.ok (.str ([97,98,99].take L)) s:=by
 show R.ok (D.str (ah0 [97,98,99] none (some (L:Int)))) s=_
 unfold ah0
 simp only[loB,hiB,sbd,eC,kI]
 rw[if_pos (by omega),bD]
 show R.ok (D.str (List.take (min L 3) [97,98,99])) s=_
 rw[jV h3]
def aR8 (s:Sto)(r:Nat)(x:R D):Prop:=∃(b:Nat×Nat) (ws:List D),WL 200 ws/\x=.ok (.ref s.length) (s.set r (zt b)++[.lst ws])
theorem aL1 {s T:Sto}{r:Nat}{b:Nat×Nat}{ws:List D}(h:WL 200 ws)(hT:(s.set r (zt b)++T)[s.length]?=some (.lst ws)):zH s (.ref s.length) (s.set r (zt b)++T)=.ok (.ref s.length) (s.set r (zt b)++[.lst ws]):=by
 have y:(s.set r (zt b)++T).take s.length=s.set r (zt b):=by rw[eZ (by simp),eD (by simp)]
 unfold zH
 rw[if_pos (au6 s T r (zt b) rfl)]
 simp only
 rw[if_neg (by omega),hT]
 simp only
 rw[if_pos (show(O.lst ws).bnd s.length=true from zr h.bnd _),y]
theorem aZ7 {P:Pr}[Has P ac4][Has P ah3][Has P ac5](n:Nat){s:Sto}{r L:Nat}(hL:1<=L)(a6:L<=3)(hs:∃ b,s[r]?=some (zt b)):aR8 s r ((aa1 P (n+3)).call "_law_words" [.ref r,.int L] s):=by
 have e0:(aa1 P (n+3)).call "_law_words" [.ref r,.int L] s=_:=zh ac5 (n:=n+2) rfl
 have hr:=aE9 hs
 rw[e0]
 simp -implicitDefEqProofs [ac5]
 rw[ag1 (by decide) (by decide)]
 simp only[R.bind_ok]
 refine zM (W:=aR8 s r) (λ j ρ u=>j<=3/\∃(T:Sto) (C:Nat) (ws J:List D) (x4 x5 x6 x7:Option D),u=s++T/\u[s.length]?=some (.lst ws)/\s.length<C/\u[C]?=some (.lst J)/\WL 200 ws/\ws.length<=1+27*j/\WL j J/\J.length<=3^j/\ρ=[some (.ref r),some (.int L),some (.ref s.length),some (.ref C),x4,x5,x6,x7])
  ⟨by omega,[.lst [.str []],.lst [.str []]],s.length+1,[.str []],[.str []],_,_,_,_,rfl,by simp,by omega,by rw[aY (by omega),show s.length+1 - s.length=1 by omega];rfl,λ d hd=>⟨[],by simpa using hd,by simp⟩,by simp,λ d hd=>⟨[],by simpa using hd,by simp⟩,by simp,rfl⟩ (λ _ _ _ _ _=>rfl) ?_ ?_
 ·rintro j d ρ u hj ⟨f2,T,C,ws,J,x4,x5,x6,x7,rfl,g2,c2,g3,a3,a1,b3,d4,rfl⟩
  obtain⟨f1,rfl⟩:=af2 hj
  have e2:j<3:=by omega
  have f4:3^j<=9:=by
   rcases(show j=0\/j=1\/j=2 by omega)with e|e|e<;>rw[e]<;>decide
  have e4:C<(s++T).length:=(ac.mp g3).1
  have sq:∀ o,ah4 (.ref C) (s++(T++[o]))=.ok ⟨J,[C]⟩ (s++(T++[o])):=λ o=>by
   have:(s++(T++[o]))[C]?=some (.lst J):=by rw[<-bV];exact zI g3
   simp only[ah4,this]
  conv=>arg 2;simp -implicitDefEqProofs [turn,sq]
  rw[<-bV,<-aB]
  have d1:(s++T++[O.lst []])[(s++T).length]?=some (.lst []):=by simp
  have f3:s.length<(s++T).length:=by omega
  have b4:(s++(T++[O.lst []]))[C]?=some (.lst J):=by rw[<-bV];exact zI g3
  generalize f0:(s++T).length=k5 at *
  refine zM (W:=Nx _) (λ i ρ v=>∃(h:Sto) (Y:List D) (y6:Option D),v=s++h/\v[s.length]?=some (.lst ws)/\v[C]?=some (.lst J)/\v[k5]?=some (.lst Y)/\WL (j+1) Y/\Y.length<=3*i/\i<=J.length/\ρ=[some (.ref r),some (.int L),some (.ref s.length),some (.ref C),some (.int (j:Int)),some (.ref k5),y6,x7])
   ⟨T++[.lst []],[],_,by simp,zI g2,zI g3,d1,λ d hd=>(by cases hd),by simp,by omega,rfl⟩ (λ i ρ v _ ⟨_,_,_,_,_,h3,_⟩=>by simp[chk,h3,b4]) ?_ ?_
  ·rintro i d ρ v hi ⟨h,Y,y6,rfl,y,a7,G,Z,b8,b1,rfl⟩
   obtain⟨w,rfl,a1⟩:=b3 d (aM hi)
   have e1:i<J.length:=(ac.mp hi).1
   have sS:ah4 (.str ([97,98,99].take L)) (s++h)=.ok ⟨([97,98,99].take L).map λ c=>.str [c],[]⟩ (s++h):=rfl
   obtain⟨ρ3,s3,e3,c4,_⟩:=zT (ok:=λ c3=>chk (s++h) c3 []) (g:=af6 (aa1 P (n+2)) (.one 0) (.bin .add (.var 1) (.var 0))) (λ ρ u=>u=s++h/\∃ x,ρ=[x,some (.str w)]) (λ d=>match d with|.str c=>some (.str (w++c))|_=>none) (([97,98,99].take L).map λ c=>.str [c]) (qc [some (.ref r),some (.int L),some (.ref s.length),some (.ref C),some (.int (j:Int)),some (.ref k5),some (.str w),x7] [none,some 6]) (s++h) ⟨rfl,none,rfl⟩ (λ _ _ _=>rfl) (by
    rintro d hd ρ u ⟨rfl,x,rfl⟩
    obtain⟨c,_,rfl⟩:=aN.mp hd
    refine⟨[some (.str [c]),some (.str w)],s++h,?_,rfl,_,rfl⟩
    unfold af6
    simp -implicitDefEqProofs only[zP,setV_0,ev_bin,qe,qd,z9,R.bind_ok]
    rw[aB8 (by simp;unfold LIM;omega)]
    rfl)
   subst c4
   have c1:(([97,98,99].take L).map λ c=>D.str [c]).filterMap (λ d=>match d with|.str c=>some (D.str (w++c))|_=>none)=([97,98,99].take L).map λ c=>D.str (w++[c]):=by
    rw[bN,<-cI]
    exact zy λ _ _=>rfl
   rw[c1]at e3
   have a2:([97,98,99].take L).length=L:=by rw[bQ];simp;omega
   have d2:(([97,98,99].take L).map λ c=>D.str [c]).length<=LIM:=by rw[au,a2];unfold LIM;omega
   have a4:=aU2 (m:=([97,98,99].take L).map λ c=>D.str (w++[c])) G (by rw[au,a2];unfold LIM;omega)
   have b2:k5<(s++h).length:=(ac.mp G).1
   refine qz (ρ:=[some (.ref r),some (.int L),some (.ref s.length),some (.ref C),some (.int (j:Int)),some (.ref k5),some (.str w),x7]) (s:=(s++h).set k5 (.lst (Y++([97,98,99].take L).map λ c=>D.str (w++[c])))) ?_ ⟨_,_,_,aH6 (by omega),by rw[aR (by omega)];exact y,by rw[aR (by omega)];exact a7,qk b2,Z.app λ d hd=>?_,?_,by omega,rfl⟩
   ·simp -implicitDefEqProofs only[turn,zP,setV_s,setV_0,dm,qi,exs_nil,ex_ex,by9,qe,qd,z9,R.bind_ok,ai9,evI_seq,bK0,ev_cst,Cn_str,bL1 a6,sS,d2,if_true,e3,a4,qg]
   ·obtain⟨c,_,rfl⟩:=aN.mp hd
    exact⟨_,rfl,by simp;omega⟩
   ·rw[aB,au,a2];omega
  ·rintro ρ v ⟨h,Y,y6,rfl,y,a7,G,Z,b8,b1,rfl⟩
   have a4:=bg7 y G (by unfold LIM;omega)
   have a5:s.length<(s++h).length:=(ac.mp y).1
   have e5:3^(j+1)=3^j*3:=kH ..
   have d3:WL 200 Y:=Z.mono (by omega)
   refine qz (ρ:=[some (.ref r),some (.int L),some (.ref s.length),some (.ref k5),some (.int (j:Int)),some (.ref k5),y6,x7]) (s:=(s++h).set s.length (.lst (ws++Y))) ?_ ⟨by omega,_,k5,ws++Y,Y,_,_,_,_,aH6 (ak _),qk a5,by omega,by rw[aR (by omega)];exact G,a3.app d3,by rw[aB];omega,Z,?_,rfl⟩
   ·simp -implicitDefEqProofs only[qg,qi,exs_nil,ex_ex,bo9,qe,qd,z9,R.bind_ok,a4,ex_asg,zP,setV_s,setV_0,dm,setC_some]
   ·omega
 ·rintro ρ u ⟨_,T,C,ws,J,x4,x5,x6,x7,rfl,g2,c2,g3,a3,a1,b3,d4,rfl⟩
  have b6:(ae6 0 (3:Int)).length=3:=by decide
  rw[b6]at a1
  simp -implicitDefEqProofs
  have g7:(s++(T++[O.lst [D.int 12,D.int 12,D.int 200]]))[s.length+T.length]?=some (.lst [D.int 12,D.int 12,D.int 200]):=by
   rw[<-bV,<-aB];simp
  have sq:ah4 (.ref (s.length+T.length)) (s++(T++[O.lst [D.int 12,D.int 12,D.int 200]]))=.ok ⟨[D.int 12,D.int 12,D.int 200],[s.length+T.length]⟩ (s++(T++[O.lst [D.int 12,D.int 12,D.int 200]])):=by simp only[ah4,g7]
  rw[sq]
  simp only[R.bind_ok]
  have e7:s.length<s.length+T.length:=by
   have:=(ac.mp g2).1
   simpa using this
  have d0:(s++(T++[O.lst [D.int 12,D.int 12,D.int 200]]))[s.length]?=some (.lst ws):=by rw[<-bV];exact zI g2
  obtain⟨b0,c0⟩:=hs
  have b5:s.set r (zt b0)=s:=by
   have e:s[r]=zt b0:=(ac.mp c0).2
   rw[<-e,eK]
  generalize s.length+T.length=k7 at *
  refine zM (W:=aR8 s r) (λ i ρ v=>∃(b:Nat×Nat) (h:Sto) (z:List D) (y7:Option D),v=s.set r (zt b)++h/\v[s.length]?=some (.lst z)/\v[k7]?=some (.lst [D.int 12,D.int 12,D.int 200])/\WL 200 z/\z.length<=100+i/\ρ=[some (.ref r),some (.int L),some (.ref s.length),some (.ref C),x4,x5,x6,y7])
   ⟨b0,_,ws,_,by rw[b5],d0,g7,a3,by omega,rfl⟩ (λ i ρ v _ ⟨_,_,_,_,_,_,h7,_⟩=>by simp[chk,h7,g7]) ?_ ?_
  ·rintro i d ρ v hi ⟨b,h,z,y7,rfl,y,a9,F,a8,rfl⟩
   obtain⟨B,hB,rfl⟩:∃ B:Nat,B<=200/\d=.int (B:Int):=by
    have hd:=aM hi
    simp only[aE,cc,or_false]at hd
    rcases hd with rfl|rfl|rfl
    ·exact⟨12,by decide,rfl⟩
    ·exact⟨12,by decide,rfl⟩
    ·exact⟨200,by decide,rfl⟩
   have e6:i<3:=(ac.mp hi).1
   obtain⟨w,b',hw,ew⟩:=bf5 (P:=P) n (s:=s.set r (zt b)++h) hL a6 ⟨b,zI (qk hr)⟩ B (by omega)
   rw[aj8 (by rw[a0];exact hr),db]at ew
   have hsr:s.length≠r:=by omega
   have gg:∀ k,k≠r->(s.set r (zt b')++h)[k]?=(s.set r (zt b)++h)[k]?:=λ k hk=>by
    have e:s.set r (zt b')++h=(s.set r (zt b)++h).set r (zt b'):=by rw[aj8 (by rw[a0];exact hr),db]
    rw[e,aR (bL hk)]
   have b7:=ap3 (v:=.str w) ((gg _ hsr).trans y) (by unfold LIM;omega)
   have a5:s.length<(s.set r (zt b')++h).length:=(ac.mp ((gg _ hsr).trans y)).1
   refine qz (ρ:=[some (.ref r),some (.int L),some (.ref s.length),some (.ref C),x4,x5,x6,some (.int B)]) (s:=(s.set r (zt b')++h).set s.length (.lst (z++[.str w]))) ?_ ⟨b',h.set (s.length - (s.set r (zt b')).length) (.lst (z++[.str w])),z++[.str w],_,aH6 (by simp),qk a5,by rw[aR (by omega),gg k7 (by omega)];exact a9,F.app λ d hd=>⟨w,aU.mp hd,by omega⟩,by simp;omega,rfl⟩
   simp -implicitDefEqProofs only[turn,zP,setV_s,setV_0,dm,qi,exs_nil,ex_ex,ev_meth,evs_cons,evs_nil,ev_call,evas_ex,evas_nil,qe,qd,z9,R.bind_ok,ew,b7,qg]
  ·rintro ρ v ⟨b,h,z,y7,rfl,y,a9,F,a8,rfl⟩
   simp -implicitDefEqProofs
   exact⟨b,z,F,aL1 F y⟩
end DV
end
local macro_rules | `(tactic| tbr_iter [$xs,*]) => `(tactic| simp -implicitDefEqProofs only [DV.qi, DV.exs_nil, DV.ex_asg, DV.ex_ite, DV.ex_ret, DV.ex_ex, DV.ex_for, DV.ex_whl, DV.ex_setIx, DV.ex_cont, DV.ex_pass, DV.ex_und, DV.qe, DV.ev_cst, DV.ev_bin, DV.ev_not, DV.ev_cmp, DV.ev_and, DV.ev_or, DV.ev_ite, DV.ev_tup, DV.ev_lst, DV.ev_ix, DV.ev_call, DV.ev_bi, DV.ev_mk, DV.ev_mkD, DV.ev_mks, DV.ev_mkDs, DV.ev_meth, DV.ev_isN, DV.ev_notN, DV.evs_nil, DV.evs_cons, DV.evas_nil, DV.evas_ex, DV.evI_seq, DV.evI_rng1, DV.evL_seq, DV.Cn_bl, DV.Cn_int, DV.Cn_non, DV.Cn_str, DV.R.bind_ok, DV.zP, DV.bindT_tup, DV.setVs_nil, DV.setVs_cons, DV.setV_s, DV.setV_0, DV.unsetV_s, DV.unsetV_0, DV.qd, DV.z9, Option.map_some, Option.bind_some, DV.setC_some, DV.qg, DV.nxt_ret, DV.nxt_cont, DV.fin_ret, DV.fin_next, DV.add_int, DV.sub_int, DV.lt_int, DV.le_int, DV.gt_int, DV.ge_int, DV.eq_int, DV.ne_int, DV.alloc_eq, DV.tru_bl, if_true, if_false, Bool.false_eq_true, decide_true, decide_false, Bool.not_true, Bool.not_false, $[$xs:term],*])
noncomputable section
namespace DV
noncomputable def Dr.way (x:Dr):Nat×Nat×Nat:=(x.a,x.l,x.b)
noncomputable def Dr.wd (x:Dr):D:=.tup [.int x.a,.str [x.l],.int x.b]
noncomputable def Dr.en (x:Dr):D×D:=(x.wd,.int x.t)
theorem aI7 {x y:Dr}:y.wd=x.wd↔y.way=x.way:=by
 constructor
 ·intro h
  unfold Dr.wd at h
  simp only[D.tup.injEq,List.cons.injEq,D.int.injEq,D.str.injEq,and_true]at h
  unfold Dr.way
  rw[show y.a=x.a by omega,h.2.1,show y.b=x.b by omega]
 ·intro h
  unfold Dr.way at h
  simp only[i4]at h
  unfold Dr.wd
  rw[h.1,h.2.1,h.2.2]
theorem aD5 (x:Dr):∀ ds:List Dr,look x.wd (ds.map Dr.en)=(ds.find? λ y=>decide (y.way=x.way)).map λ y=>.int y.t
 | []=>rfl
 | y::ds=>by
  rw[aO,cM]
  unfold look
  show(if y.wd=x.wd then some (D.int y.t)else look x.wd (ds.map Dr.en))=_
  by_cases h:y.way=x.way
  ·rw[if_pos (aI7.mpr h),decide_eq_true h];rfl
  ·rw[if_neg (λ z=>h (aI7.mp z)),decide_eq_false h,aD5 x ds]
noncomputable def aj4 (x:Dr)(ds:List Dr):Nat:=match ds.find? λ y=>decide (y.way=x.way)with
 | some y=>if y.t<x.t then y.t else x.t
 | none=>x.t
noncomputable def bk1 (x:Dr)(ds:List Dr):List Dr:=match ds.find? λ y=>decide (y.way=x.way)with
 | some _=>ds.map λ z=>if z.way=x.way then⟨z.a,z.l,z.b,aj4 x ds⟩else z
 | none=>ds++[x]
theorem bp6 (x:Dr)(ds:List Dr):ap1 x.wd (.int (aj4 x ds)) (ds.map Dr.en)=(bk1 x ds).map Dr.en:=by
 unfold ap1
 rw[aD5]
 unfold bk1
 generalize C:aj4 x ds=v
 unfold aj4 at C
 cases e:ds.find? λ y=>decide (y.way=x.way)with
 | none =>
  rw[e]at C
  subst C
  simp only[Option.map_none,je,bG,if_false,fg]
  rfl
 | some y =>
  simp only[dm,fJ,if_true,dH]
  refine List.map_congr_left λ z _=>?_
  show(if z.wd=x.wd then(z.wd,D.int v)else z.en)=_
  simp only[dS]
  by_cases h:z.way=x.way
  ·rw[if_pos (aI7.mpr h),if_pos h];rfl
  ·rw[if_neg (λ q=>h (aI7.mp q)),if_neg h]
structure Br (pre ds:List Dr):Prop where
 sub:∀ y∈ds,y∈pre
 dom:∀ x∈pre,∃ y∈ds,y.way=x.way/\y.t<=x.t
 nd:ds.Pairwise λ x y=>x.way≠y.way
theorem Br.nil:Br [] []:=⟨λ y h=>(by cases h),λ y h=>(by cases h),List.Pairwise.nil⟩
theorem Br.step {pre ds:List Dr}(h:Br pre ds)(x:Dr):Br (pre++[x]) (bk1 x ds):=by
 unfold bk1
 cases e:ds.find? λ y=>decide (y.way=x.way)with
 | none =>
  have hn:∀ y∈ds,y.way≠x.way:=λ y hy z=>by
   have:=List.find?_eq_none.mp e y hy
   simp[z]at this
  refine⟨λ y hy=>?_,λ d hd=>?_,?_⟩
  ·rcases aQ.mp hy with z|z
   ·exact bE _ (h.sub y z)
   ·exact aS _ z
  ·rcases aQ.mp hd with z|z
   ·obtain⟨y,G,J⟩:=h.dom d z
    exact⟨y,bE _ G,J⟩
   ·rw[aU.mp z]
    exact⟨x,aS _ (aU.mpr rfl),rfl,ak _⟩
  ·rw[e8]
   exact⟨h.nd,List.pairwise_singleton _ _,λ a ha b hb=>by rw[aU.mp hb];exact hn a ha⟩
 | some y =>
  have hy:y∈ds:=List.mem_of_find?_eq_some e
  have C:y.way=x.way:=by have:=List.find?_some e;simpa using this
  have hf:aj4 x ds=if y.t<x.t then y.t else x.t:=by unfold aj4;rw[e]
  have one:∀ z∈ds,z.way=x.way->z=y:=λ z hz q=>by
   have key:∀ l:List Dr,(l.Pairwise λ x y=>x.way≠y.way)->z∈l->y∈l->z=y:=by
    intro l
    induction l with
    | nil=>intro _ G;cases G
    | cons a l ih =>
     intro Z G J
     rw[ji]at Z
     rcases aE.mp G with z1|z1<;>rcases aE.mp J with z2|z2
     ·rw[z1,z2]
     ·exact absurd (by rw[<-z1,q,C]) (Z.1 y z2)
     ·exact absurd (by rw[<-z2,q,C]) (Z.1 z z1)
     ·exact ih Z.2 z1 z2
   exact key ds h.nd hz hy
  refine⟨λ d hd=>?_,λ d hd=>?_,?_⟩
  ·obtain⟨z,hz,rfl⟩:=aN.mp hd
   by_cases q:z.way=x.way
   ·rw[if_pos q,one z hz q,hf]
    by_cases hlt:y.t<x.t
    ·rw[if_pos hlt];exact bE _ (h.sub y hy)
    ·rw[if_neg hlt]
     have:(⟨y.a,y.l,y.b,x.t⟩:Dr)=x:=by
      unfold Dr.way at C
      simp only[i4]at C
      rw[C.1,C.2.1,C.2.2]
     rw[this];exact aS _ (aU.mpr rfl)
   ·rw[if_neg q];exact bE _ (h.sub z hz)
  ·have Y:∀ z∈ds,∃ F∈ds.map (λ z=>if z.way=x.way then(⟨z.a,z.l,z.b,aj4 x ds⟩:Dr)else z),F.way=z.way/\F.t<=z.t/\(z.way=x.way->F.t<=x.t):=λ z hz=>by
    refine⟨_,aP hz,?_⟩
    by_cases q:z.way=x.way
    ·rw[if_pos q,one z hz q,hf]
     refine⟨rfl,?_,λ _=>?_⟩<;>simp only<;>split<;>omega
    ·rw[if_neg q];exact⟨rfl,ak _,λ z=>absurd z q⟩
   rcases aQ.mp hd with z|z
   ·obtain⟨y',G,J,h3⟩:=h.dom d z
    obtain⟨F,g1,g2,g3,_⟩:=Y y' G
    exact⟨F,g1,g2.trans J,am g3 h3⟩
   ·rw[aU.mp z]
    obtain⟨F,g1,g2,_,g4⟩:=Y y hy
    exact⟨F,g1,g2.trans C,g4 C⟩
  ·rw[f6]
   refine h.nd.imp λ {a b} q=>?_
   have:∀ z:Dr,(if z.way=x.way then(⟨z.a,z.l,z.b,aj4 x ds⟩:Dr)else z).way=z.way:=λ z=>by split<;>rfl
   rw[this,this];exact q
theorem ab7.br {S z:Int->Prop}{o:Option Int}(F:∀ c,z c->S c)(C:∀ c,S c->∃ y,z y/\y<=c)(h:ab7 z o):ab7 S o:=by
 cases o with
 | none=>exact λ c hc=>by obtain⟨y,h3,_⟩:=C c hc;exact h y h3
 | some a=>exact⟨F a h.1,λ c hc=>by obtain⟨y,h3,G⟩:=C c hc;have:=h.2 y h3;omega⟩
theorem Br.wk {pre ds:List Dr}(h:Br pre ds):∀ {w:List Nat} {p q:Nat} {c:Int},(Wk ds w p q c->Wk pre w p q c)/\(Wk pre w p q c->∃ F,Wk ds w p q F/\F<=c)
 | [],p,q,c=>⟨λ z=>z,λ z=>⟨c,z,eV _⟩⟩
 | x::w,p,q,c=>by
  refine⟨?_,?_⟩
  ·rintro⟨d,hd,ha,hl,F,hw,rfl⟩
   exact⟨d,h.sub d hd,ha,hl,F,h.wk.1 hw,rfl⟩
  ·rintro⟨d,hd,ha,hl,F,hw,rfl⟩
   obtain⟨y,hy,C,G⟩:=h.dom d hd
   unfold Dr.way at C
   simp only[i4]at C
   obtain⟨c2,h3,J⟩:=h.wk.2 hw
   exact⟨y.t+c2,⟨y,hy,C.1.trans ha,C.2.1.trans hl,c2,by rw[C.2.2];exact h3,rfl⟩,by omega⟩
theorem Br.least {pre ds:List Dr}(h:Br pre ds){L R:Nat}{bg en w:List Nat}{o:Option Int}(hl:ab7 (Mc.Wk ⟨L,R,bg,en,ds⟩ w) o):ab7 (Mc.Wk ⟨L,R,bg,en,pre⟩ w) o :=
 hl.br (λ c ⟨p,y,q,hq,k⟩=>⟨p,y,q,hq,h.wk.1 k⟩) λ c ⟨p,y,q,hq,k⟩=>by
  obtain⟨z,C,F⟩:=h.wk.2 k
  exact⟨z,⟨p,y,q,hq,C⟩,F⟩
theorem Br.few {pre ds:List Dr}(h:Br pre ds){L R:Nat}(F:R<=5)(J:L<=3)(y:∀ x∈pre,x.a<R/\(97<=x.l/\x.l<97+L)/\x.b<R):ds.length<=75:=by
 have nd:(ds.map λ x:Dr=>x.a*15+(x.l - 97)*5+x.b).Nodup:=by
  show List.Pairwise _ _
  rw[f6]
  refine ku (λ {a b} ha hb q z=>q ?_) h.nd
  have G:=y a (h.sub a ha)
  have Y:=y b (h.sub b hb)
  unfold Dr.way
  have e1:a.a=b.a:=by omega
  have e2:a.l=b.l:=by omega
  have C:a.b=b.b:=by omega
  rw[e1,e2,C]
 have:=cY (l₂:=bz 75) nd (λ c hc=>by
  obtain⟨x,hx,rfl⟩:=aN.mp hc
  have:=y x (h.sub x hx)
  exact cf.mpr (by omega))
 simpa using this
@[simp] theorem bS5 {F:Fns} {ρ:Env} {s:Sto}:ev F .dicT ρ s=.ok (.ref s.length) (s++[.dit []]):=rfl
@[simp] theorem bw0 {F:Fns} {ρ:Env} {s:Sto} (o k d:E):ev F (.get2 o k d) ρ s=(ev F o ρ s).bind λ x s=>(ev F k ρ s).bind λ y s=>(ev F d ρ s).bind λ z s=>bh5 x y z s:=rfl
@[simp] theorem bx1 {F:Fns} {ρ:Env} {s:Sto} (e:E):evL F (.itm e) ρ s=(ev F e ρ s).bind λ d s=>bj7 d s:=rfl
theorem aU1 (x:Dr):x.wd.keyT=true:=rfl
theorem bG0 (ds:List Dr):(ds.map Dr.en).map bR8=ds.map Dr.d:=by rw[dH];rfl
theorem br6 {s:Sto}{l:List (D×D)}{k e:D}(hk:k.keyT=true):bh5 (.ref s.length) k e (s++[.dit l])=.ok ((look k l).getD e) (s++[.dit l]):=by
 have h:(s++[O.dit l])[s.length]?=some (.dit l):=by simp
 simp only[bh5,h,hk,if_true]
theorem bn6 {s:Sto}{l:List (D×D)}{k e:D}(hk:k.keyT=true)(hl:l.length<LIM):setIx (.ref s.length) k e (s++[.dit l])=.ok () (s++[.dit (ap1 k e l)]):=by
 have h:(s++[O.dit l])[s.length]?=some (.dit l):=by simp
 simp only[setIx,h,hk,hl,decide_true,Bool.and_self,if_true]
 congr 1
 simp
theorem bv2 {s:Sto}{ds:List Dr}(hl:ds.length<=LIM):bj7 (.ref s.length) (s++[.dit (ds.map Dr.en)])=.ok (ds.map Dr.d) (s++[.dit (ds.map Dr.en)]):=by
 have h:(s++[O.dit (ds.map Dr.en)])[s.length]?=some (.dit (ds.map Dr.en)):=by simp
 simp only[bj7,h,au,hl,if_true,bG0]
theorem bu3 (x:Dr)(ds:List Dr)(s:Sto):bi .min2 [.int x.t,(look x.wd (ds.map Dr.en)).getD (.int x.t)] s=.ok (.int (aj4 x ds)) s:=by
 rw[aD5]
 unfold aj4
 cases e:ds.find? λ y=>decide (y.way=x.way)with
 | none=>show R.ok (D.int (if(x.t:Int)<x.t then _ else _)) s=_;rw[if_neg (by omega)]
 | some y =>
  show R.ok (D.int (if(y.t:Int)<x.t then(y.t:Int)else x.t)) s=_
  by_cases h:y.t<x.t
  ·rw[if_pos (by omega)];simp only[h,if_true]
  ·rw[if_neg (by omega)];simp only[h,if_false]
theorem ba3 (x:Dr)(ds:List Dr):(bk1 x ds).length<=ds.length+1:=by
 unfold bk1
 split
 ·rw[au];omega
 ·rw[aB];exact ak _
def BrR (m:Mc)(Rm:Int)(B E:List D)(ds:List Dr)(s:Sto)(x:R D):Prop:=∃ ds',Br ds ds'/\x=.ok (.tup [.int m.L,.int Rm,.tup B,.tup E,.tup (ds'.map Dr.d)]) s
theorem aM1 {P:Pr}[Has P aa4][HasC P "LETTERS" (.tup aC5)][Has P ac3](n:Nat){m:Mc}(hm:m.Ok)(Rm:Int){B E:List D}(hB:∀ d∈B,∀ n,d.bnd n=true)(hE:∀ d∈E,∀ n,d.bnd n=true){ds:List Dr}(a4:ds.length<=10000){s:Sto}{k:Nat}(hk:s[k]?=some (.lst (ds.map Dr.d))) :
  BrR m Rm B E ds s ((aa1 P (n+2)).call "brought" [m.d,.int Rm,.tup B,.tup E,.ref k] s):=by
 have e0:(aa1 P (n+2)).call "brought" [m.d,.int Rm,.tup B,.tup E,.ref k] s=_:=zh ac3 (n:=n+1) rfl
 rw[e0]
 have sq:ah4 (.ref k) (s++[.dit []])=.ok ⟨ds.map Dr.d,[k]⟩ (s++[.dit []]):=by simp only[ah4,zI hk]
 simp -implicitDefEqProofs [ac3,sq]
 refine zM (W:=BrR m Rm B E ds s) (λ j ρ t=>∃(h:List Dr) (x6 x7 C J z:Option D),Br (ds.take j) h/\h.length<=j/\j<=ds.length/\ρ=[some m.d,some (.int Rm),some (.tup B),some (.tup E),some (.ref k),some (.ref s.length),x6,x7,C,J,z]/\t=s++[.dit (h.map Dr.en)])
  ⟨[],_,_,_,_,_,by rw[kh];exact .nil,ak _,cO _,rfl,rfl⟩ (λ j ρ t _ ⟨_,_,_,_,_,_,_,_,_,_,ht⟩=>by rw[ht];simp[chk,zI hk]) ?_ ?_
 ·rintro j d ρ t hj ⟨h,x6,x7,C,J,z,hb,y,Y,rfl,rfl⟩
  obtain⟨x,hx,rfl⟩:∃ x,ds[j]?=some x/\d=x.d:=by
   rw[aC]at hj
   cases e:ds[j]? with
   | none=>rw[e]at hj;cases hj
   | some x=>rw[e]at hj;cases hj;exact⟨x,rfl,rfl⟩
  have hlt:j<ds.length:=(ac.mp hx).1
  have a3:ds.take (j+1)=ds.take j++[x]:=by
   have e:ds[j]=x:=(ac.mp hx).2
   rw[<-e,dU]
  have g1:=br6 (s:=s) (l:=h.map Dr.en) (e:=.int x.t) (aU1 x)
  have g2:=bu3 x h (s++[.dit (h.map Dr.en)])
  have F:=bn6 (s:=s) (l:=h.map Dr.en) (e:=.int (aj4 x h)) (aU1 x) (by rw[au];unfold LIM;omega)
  rw[bp6]at F
  have il:=ba3 x h
  refine qz (ρ:=[some m.d,some (.int Rm),some (.tup B),some (.tup E),some (.ref k),some (.ref s.length),some (.int x.a),some (.str [x.l]),some (.int x.b),some (.int x.t),some x.wd]) (s:=s++[.dit ((bk1 x h).map Dr.en)]) ?_ ⟨bk1 x h,_,_,_,_,_,by rw[a3];exact hb.step x,by omega,hlt,rfl,rfl⟩
  have a2:x.d=.tup [.int x.a,.str [x.l],.int x.b,.int x.t]:=rfl
  have G:x.wd=.tup [.int x.a,.str [x.l],.int x.b]:=rfl
  rw[G]at g1 g2 F ⊢
  tbr_iter [turn,a2,bw0,g1,g2,F]
 ·rintro ρ t ⟨h,x6,x7,C,J,z,hb,y,Y,rfl,rfl⟩
  rw[au,gC]at hb
  rw[au]at y
  have hL:=ag6 (P:=P) n (L:=m.L) hm.L3 [.int m.R,.tup (zK m.bg),.tup (zK m.en),.tup (m.ds.map Dr.d)] (s++[.dit (h.map Dr.en)])
  have Z:(aa1 P (n+1)).call "letters_of" [m.d] (s++[.dit (h.map Dr.en)])=.ok (.tup (aC5.take m.L)) _:=hL
  have a1:((aC5.take m.L).length:Int)=(m.L:Int):=by
   rw[bQ]
   have:=hm.L3
   show((min m.L 3:Nat):Int)=_
   omega
  have g:=bv2 (s:=s) (ds:=h) (by unfold LIM;omega)
  refine⟨h,hb,?_⟩
  tbr_iter [qg,Z,aN9,a1,bx1,g,mk]
  refine qu (λ n=>?_) (by nofun)
  unfold D.bnd
  refine zr (λ d hd n=>?_) n
  simp only[aE,cc,or_false]at hd
  rcases hd with rfl|rfl|rfl|rfl|rfl
  ·rfl
  ·rfl
  ·unfold D.bnd;exact zr hB n
  ·unfold D.bnd;exact zr hE n
  ·unfold D.bnd;exact zr am1 n
noncomputable def Dr.mv (k:Nat)(x:Dr):Dr:=⟨x.a+k,x.l,x.b+k,x.t⟩
noncomputable def qA (k:Nat)(ds es:List Dr):List Dr:=ds++es.map (Dr.mv k)
theorem qx {k:Nat}{ds es:List Dr}(h:∀ d∈ds,d.a<k/\d.b<k):∀ {w:List Nat} {p q:Nat} {c:Int},p<k->(Wk (qA k ds es) w p q c↔Wk ds w p q c)
 | [],p,q,c,_=>Iff.rfl
 | x::w,p,q,c,hp=>by
  constructor
  ·rintro⟨d,hd,ha,hl,y,hw,rfl⟩
   rcases aQ.mp hd with z|z
   ·exact⟨d,z,ha,hl,y,(qx h (h d z).2).mp hw,rfl⟩
   ·obtain⟨e,_,rfl⟩:=aN.mp z
    have:e.a+k=p:=ha
    omega
  ·rintro⟨d,hd,ha,hl,y,hw,rfl⟩
   exact⟨d,bE _ hd,ha,hl,y,(qx h (h d hd).2).mpr hw,rfl⟩
theorem qh {k:Nat}{ds es:List Dr}(h:∀ d∈ds,d.a<k/\d.b<k):∀ {w:List Nat} {p q:Nat} {c:Int},(Wk (qA k ds es) w (p+k) q c↔∃ y,q=y+k/\Wk es w p y c)
 | [],p,q,c=>by
  constructor
  ·rintro⟨rfl,rfl⟩;exact⟨p,rfl,rfl,rfl⟩
  ·rintro⟨y,rfl,rfl,rfl⟩;exact⟨rfl,rfl⟩
 | x::w,p,q,c=>by
  constructor
  ·rintro⟨d,hd,ha,hl,C,hw,rfl⟩
   rcases aQ.mp hd with z|z
   ·have:=(h d z).1;omega
   ·obtain⟨e,G,rfl⟩:=aN.mp z
    obtain⟨y,F,J⟩:=(qh h (p:=e.b)).mp hw
    exact⟨y,F,e,G,by have:e.a+k=p+k:=ha;omega,hl,C,J,rfl⟩
  ·rintro⟨y,F,e,G,ha,hl,C,J,rfl⟩
   exact⟨e.mv k,aS _ (aP G),by show e.a+k=_;omega,hl,C,(qh h (p:=e.b)).mpr ⟨y,F,J⟩,rfl⟩
theorem bi3 {k:Nat}{ds:List Dr}(h:∀ d∈ds,d.a<k/\d.b<k):∀ {w:List Nat} {p q:Nat} {c:Int},p<k->Wk ds w p q c->q<k
 | [],p,q,c,hp,⟨e,_⟩=>by omega
 | x::w,p,q,c,hp,⟨d,hd,_,_,c',hw,_⟩=>bi3 h (h d hd).2 hw
noncomputable def mvN (k:Nat)(l:List Nat):List Nat:=l.map (·+k)
noncomputable def bm0 (m1 m2:Mc):Mc:=⟨m1.L,m1.R+m2.R,m1.bg++mvN m1.R m2.bg,m1.en++mvN m1.R m2.en,qA m1.R m1.ds m2.ds⟩
theorem Mc.Ok.low {m:Mc}(h:m.Ok):∀ d∈m.ds,d.a<m.R/\d.b<m.R:=λ d hd=>⟨(h.ds.1 d hd).a,(h.ds.1 d hd).b⟩
theorem aS7 {C m2:Mc}(h:C.Ok)(w:List Nat)(c:Int):(bm0 C m2).Wk w c↔C.Wk w c\/m2.Wk w c:=by
 constructor
 ·rintro⟨p,F,q,hq,hw⟩
  rcases aQ.mp F with z|z
  ·have J:=h.bg.1 p z
   have G:=(qx h.low J).mp hw
   have a2:=bi3 h.low J G
   rcases aQ.mp hq with y|y
   ·exact .inl ⟨p,z,q,y,G⟩
   ·obtain⟨q',_,e⟩:=aN.mp y;omega
  ·obtain⟨p',Z,rfl⟩:=aN.mp z
   obtain⟨q',rfl,a1⟩:=(qh h.low).mp hw
   rcases aQ.mp hq with y|y
   ·have:=h.en.1 _ y;omega
   ·obtain⟨q2,Y,e⟩:=aN.mp y
    have:q2=q':=by simpa using e
    subst this
    exact .inr ⟨p',Z,q2,Y,a1⟩
 ·rintro(⟨p,F,q,hq,hw⟩|⟨p,F,q,hq,hw⟩)
  ·exact⟨p,bE _ F,q,bE _ hq,(qx h.low (h.bg.1 p F)).mpr hw⟩
  ·exact⟨p+C.R,aS _ (aP (f:=(·+C.R)) F),q+C.R,aS _ (aP (f:=(·+C.R)) hq),(qh h.low).mpr ⟨q,rfl,hw⟩⟩
theorem av3 {k r:Nat}{l y:List Nat}(h:(∀ i∈l,i<k)/\l.Pairwise (· < ·))(h':(∀ i∈y,i<r)/\y.Pairwise (· < ·)):(∀ i∈l++mvN k y,i<k+r)/\(l++mvN k y).Pairwise (· < ·):=by
 refine⟨λ i C=>?_,?_⟩
 ·rcases aQ.mp C with z|z
  ·have:=h.1 i z;omega
  ·obtain⟨j,hj,rfl⟩:=aN.mp z
   have:=h'.1 j hj
   show j+k<_;omega
 ·rw[e8]
  refine⟨h.2,?_,λ a ha b hb=>?_⟩
  ·unfold mvN
   rw[f6]
   exact h'.2.imp λ q=>by omega
  ·obtain⟨j,hj,rfl⟩:=aN.mp hb
   have:=h.1 a ha
   show a<j+k;omega
theorem aK7 {L k r:Nat}{h C:Mc}(G:h.Ok)(Y:C.Ok)(J:h.L=C.L):∀ x∈qA h.R h.ds C.ds,x.a<h.R+C.R/\(97<=x.l/\x.l<97+h.L)/\x.b<h.R+C.R/\x.t<4:=λ x hx=>by
 rcases aQ.mp hx with z|z
 ·have q:=G.ds.1 x z
  have:=q.a;have:=q.b
  exact⟨by omega,q.l,by omega,q.t⟩
 ·obtain⟨y,hy,rfl⟩:=aN.mp z
  have q:=Y.ds.1 y hy
  have Z:=q.a;have qb:=q.b;have F:=q.l
  exact⟨by show y.a+h.R<_;omega,by rw[J];exact F,by show y.b+h.R<_;omega,q.t⟩
theorem Br.okM {L R:Nat}{bg en:List Nat}{pre ds:List Dr}(hb:Br pre ds)(L1:1<=L)(L3:L<=3)(R1:1<=R)(R5:R<=5)(z:(∀ k∈bg,k<R)/\bg.Pairwise (· < ·))(y:(∀ k∈en,k<R)/\en.Pairwise (· < ·))
  (h:∀ x∈pre,x.a<R/\(97<=x.l/\x.l<97+L)/\x.b<R/\x.t<4):(⟨L,R,bg,en,ds⟩:Mc).Ok :=
 ⟨L1,L3,R1,R5,z,y,λ x hx=>by
  have:=h x (hb.sub x hx)
  exact⟨this.1,this.2.1,this.2.2.1,this.2.2.2⟩,hb.few R5 L3 λ x hx=>⟨(h x hx).1,(h x hx).2.1,(h x hx).2.2.1⟩⟩
section
variable {P:Pr}
theorem bA9 {L:Nat}(h3:L<=3)(s:Sto):qo .ne (.tup (aC5.take L)) (.tup (aC5.take L)) s=.ok (.bl false) s:=by
 rcases(show L=0\/L=1\/L=2\/L=3 by omega)with e|e|e|e<;>subst e<;>rfl
theorem as9 [Has P aa4][HasC P "LETTERS" (.tup aC5)][Has P aa8](n:Nat){h y:Mc}(z:h.Ok)(C:h.L=y.L)(s:Sto):(aa1 P (n+2)).call "check_pair" [h.d,y.d] s=.ok .non s:=by
 have G:(aa1 P (n+2)).call "check_pair" [h.d,y.d] s=_:=zh aa8 (n:=n+1) rfl
 rw[G]
 have J:(aa1 P (n+1)).call "letters_of" [h.d] s=.ok (.tup (aC5.take h.L)) s:=ag6 (P:=P) n z.L3 [.int h.R,.tup (zK h.bg),.tup (zK h.en),.tup (h.ds.map Dr.d)] s
 have F:(aa1 P (n+1)).call "letters_of" [y.d] s=.ok (.tup (aC5.take h.L)) s:=by
  have:=ag6 (P:=P) n (L:=y.L) (by rw[<-C];exact z.L3) [.int y.R,.tup (zK y.bg),.tup (zK y.en),.tup (y.ds.map Dr.d)] s
  rw[C];exact this
 tbr_iter [aa8,aO,bZ,bS,bO,aH,J,F,bA9 z.L3,ax2]
theorem an3 [HasC P "MOST_ROOMS" (.int 5)][Has P aa7](n:Nat){r:Int}(h:r<=5)(s:Sto):(aa1 P (n+1)).call "check_rooms" [.int r] s=.ok .non s:=by
 have y:(aa1 P (n+1)).call "check_rooms" [.int r] s=_:=zh aa7 (n:=n) rfl
 rw[y]
 have hg:ev (aa1 P n) (.glob "MOST_ROOMS") [some (.int r)] s=.ok (.int 5) s:=by
  show(match(aa1 P n).con "MOST_ROOMS" with|some d=>R.ok d s|none=>.bad)=_
  rw[aO6 (v:=.int 5)]
 have hn:¬((5:Int)<r):=by omega
 tbr_iter [aa7,aO,bZ,bS,bO,aH,hg,hn,ax2]
theorem aF7 [Has P ad9](n:Nat)(l:List Nat)(hl:l.length<=1000)(k:Nat)(s:Sto):(aa1 P (n+1)).call "moved" [.tup (zK l),.int k] s=.ok (.tup (zK (mvN k l))) s:=by
 have F:(aa1 P (n+1)).call "moved" [.tup (zK l),.int k] s=_:=zh ad9 (n:=n) rfl
 rw[F]
 have C:ah4 (.tup (zK l)) s=.ok ⟨zK l,[]⟩ s:=rfl
 obtain⟨ρ1,s1,e1,rfl,_⟩:=zT (ok:=λ h=>chk s h []) (g:=af6 (aa1 P n) (.one 0) (.bin .add (.var 0) (.var 1))) (λ ρ u=>u=s/\∃ a,ρ=[a,some (.int k)]) (λ d=>match d with|.int i=>some (.int (i+k))|_=>none) (zK l) (qc [some (.tup (zK l)),some (.int k)] [none,some 1]) s ⟨rfl,none,rfl⟩ (λ _ _ _=>rfl) (by
  rintro d hd ρ u ⟨rfl,a,rfl⟩
  obtain⟨i,_,rfl⟩:=aN.mp hd
  exact⟨[some (.int i),some (.int k)],u,by unfold af6;simp -implicitDefEqProofs,rfl,_,rfl⟩)
 have y:(zK l).filterMap (λ d=>match d with|.int i=>some (.int (i+k))|_=>none)=zK (mvN k l):=by
  unfold zK mvN
  rw[bN,dH,<-cI]
  exact zy λ i _=>by simp[dS]
 rw[y]at e1
 have z:(zK l).length<=LIM:=by unfold zK;rw[au];unfold LIM;omega
 tbr_iter [ad9,aO,bZ,bS,bO,aH,ai9,C,z,e1,mk]
 exact zq (λ n=>by unfold D.bnd;exact zr zR n) (by nofun)
theorem ak5 [Has P ab6][Has P ab5][Has P aa5](n:Nat){h y:Mc}(h1:h.Ok)(J:y.Ok)(s:Sto):(aa1 P (n+2)).call "doors_beside" [h.d,y.d] s=.ok (.ref s.length) (s++[.lst ((qA h.R h.ds y.ds).map Dr.d)]):=by
 have Z:(aa1 P (n+2)).call "doors_beside" [h.d,y.d] s=_:=zh aa5 (n:=n+1) rfl
 rw[Z]
 have Y:ah4 (.tup (y.ds.map Dr.d)) s=.ok ⟨y.ds.map Dr.d,[]⟩ s:=rfl
 obtain⟨ρ1,s1,e1,rfl,_⟩:=zT (ok:=λ G=>chk s G []) (g:=af6 (aa1 P (n+1)) (.tup [0,1,2,3]) (.tup (.cons (.bin .add (.var 0) (.var 4)) (.cons (.var 1) (.cons (.bin .add (.var 2) (.var 4)) (.cons (.var 3) .nil)))))) (λ ρ u=>u=s/\∃ a b c d,ρ=[a,b,c,d,some (.int h.R)]) (λ d=>match d with|.tup [.int a,b,.int c,d]=>some (.tup [.int (a+h.R),b,.int (c+h.R),d])|_=>none) (y.ds.map Dr.d) (qc [some h.d,some y.d,some (.int h.R),none] [none,none,none,none,some 2]) s ⟨rfl,none,none,none,none,rfl⟩ (λ _ _ _=>rfl) (by
  rintro d hd ρ u ⟨rfl,a,b,c,e,rfl⟩
  obtain⟨x,_,rfl⟩:=aN.mp hd
  exact⟨[some (.int x.a),some (.str [x.l]),some (.int x.b),some (.int x.t),some (.int h.R)],u,by unfold af6;simp -implicitDefEqProofs [show x.d=.tup [.int x.a,.str [x.l],.int x.b,.int x.t]from rfl],rfl,_,_,_,_,rfl⟩)
 have C:(y.ds.map Dr.d).filterMap (λ d=>match d with|.tup [.int a,b,.int c,d]=>some (.tup [.int (a+h.R),b,.int (c+h.R),d])|_=>none)=(y.ds.map (Dr.mv h.R)).map Dr.d:=by
  rw[bN,dH,<-cI]
  exact zy λ x _=>by simp[dS,Dr.d,Dr.mv]
 rw[C]at e1
 have F:(y.ds.map Dr.d).length<=LIM:=by rw[au];have:=J.ds.2;unfold LIM;omega
 have d2:=ak8 (P:=P) n (m:=y) (s:=s1)
 have d1:=λ u=>ak8 (P:=P) n (m:=h) (s:=u)
 have r1:=qC (P:=P) n (m:=h) (s:=s1)
 have ls:∀ u,bx4 (.tup (h.ds.map Dr.d)) u=.ok (h.ds.map Dr.d) u:=λ _=>rfl
 have ad:qB .add (.ref (s1.length+1)) (.ref s1.length) (s1++[O.lst ((y.ds.map (Dr.mv h.R)).map Dr.d)]++[O.lst (h.ds.map Dr.d)])=.ok (.ref (s1.length+2)) (s1++([O.lst ((y.ds.map (Dr.mv h.R)).map Dr.d),O.lst (h.ds.map Dr.d)]++[.lst ((qA h.R h.ds y.ds).map Dr.d)])):=by
  have g1:(s1++[O.lst ((y.ds.map (Dr.mv h.R)).map Dr.d)]++[O.lst (h.ds.map Dr.d)])[s1.length+1]?=some (.lst (h.ds.map Dr.d)):=by
   rw[aY (by simp)];simp
  have g2:(s1++[O.lst ((y.ds.map (Dr.mv h.R)).map Dr.d)]++[O.lst (h.ds.map Dr.d)])[s1.length]?=some (.lst ((y.ds.map (Dr.mv h.R)).map Dr.d)):=by
   rw[aK (by simp)];simp
  have hz:(h.ds.map Dr.d).length+((y.ds.map (Dr.mv h.R)).map Dr.d).length<=LIM:=by
   simp only[au]
   have:=h1.ds.2;have:=J.ds.2;unfold LIM;omega
  simp only[qB,g1,g2,hz,if_true,alloc_eq]
  congr 1
  ·simp
  ·simp[qA]
 have z:(s1++[O.lst ((y.ds.map (Dr.mv h.R)).map Dr.d)]).length=s1.length+1:=by simp
 tbr_iter [aa5,aO,bZ,bS,bO,aH,r1,d2,ai9,Y,F,e1,mk,evL_seq,d1,ls,z,ad]
 exact az1 (t:=[O.lst ((y.ds.map (Dr.mv h.R)).map Dr.d),O.lst (h.ds.map Dr.d)]) (u:=[]) (by show D.bndL _ _=true;exact zr am1 _)
end
noncomputable def minP:Option Int->Option Int->Option Int
 | none,b=>b
 | some a,none=>some a
 | some a,some b=>some (min a b)
theorem ab7.orP {S T:Int->Prop}{a b:Option Int}(h:ab7 S a)(h':ab7 T b):ab7 (λ c=>S c\/T c) (minP a b):=by
 cases a with
 | none=>cases b with
  | none=>exact λ c hc=>hc.elim (h c) (h' c)
  | some j=>exact⟨.inr h'.1,λ c hc=>hc.elim (λ z=>absurd z (h c)) (h'.2 c)⟩
 | some i=>cases b with
  | none=>exact⟨.inl h.1,λ c hc=>hc.elim (h.2 c) λ z=>absurd z (h' c)⟩
  | some j =>
   refine⟨?_,λ c hc=>?_⟩
   ·show S (min i j)\/T (min i j)
    rcases jz i j with z|z
    ·rw[Int.min_eq_left z];exact .inl h.1
    ·rw[Int.min_eq_right z];exact .inr h'.1
   ·show min i j<=c
    rcases hc with z|z
    ·have:=h.2 c z;omega
    ·have:=h'.2 c z;omega
section
variable {P:Pr}
theorem aS6 [Has P ac0](n:Nat)(a b:Option Int){s:Sto}{k:Nat}(hk:s[k]?=some (.lst [qp a,qp b])):(aa1 P (n+1)).call "_law_least" [.ref k] s=.ok (qp (minP a b)) s:=by
 have F:(aa1 P (n+1)).call "_law_least" [.ref k] s=_:=zh ac0 (n:=n) rfl
 rw[F]
 have y:ah4 (.ref k) s=.ok ⟨[qp a,qp b],[k]⟩ s:=by simp only[ah4,hk]
 have hc:chk s s [k]=true:=by simp[chk,hk]
 have hl:([qp a,qp b]:List D).length<=LIM:=by unfold LIM;show 2<=_;omega
 have g:∀ o:Option Int,∀ x:Option D,aB6 (aa1 P n) (.one 0) (.notN (.var 0)) (.var 0) (qp o) [x] s=.ok (o.map D.int,[some (qp o)]) s:=λ o x=>by
  cases o<;>rfl
 have z:2<=LIM:=hl
 have co:ad7 (λ h=>chk s h [k]) (aB6 (aa1 P n) (.one 0) (.notN (.var 0)) (.var 0)) [qp a,qp b] [none] s=.ok ([a,b].filterMap (kQ D.int)) s:=by
  simp only[ad7,hc,if_true,g,R.bind]
  cases a<;>cases b<;>rfl
 have C:mkD .min ([a,b].filterMap (kQ D.int)) .non s=.ok (qp (minP a b)) s:=by cases a<;>cases b<;>rfl
 tbr_iter [ac0,aO,bZ,bS,bO,aH,ao8,y,hl,co,qc,C]
 cases minP a b<;>exact zq (λ _=>rfl) (by nofun)
def LsR (m1 m2:Mc)(s:Sto)(x:R D):Prop:=∃ m:Mc,m.Ok/\m.L=m1.L/\(∀ w o,ab7 (m.Wk w) o->ab7 (λ c=>m1.Wk w c\/m2.Wk w c) o)/\x=.ok m.d s
theorem aj9 [Has P aa4][HasC P "LETTERS" (.tup aC5)][HasC P "MOST_ROOMS" (.int 5)][Has P aa8][Has P aa7][Has P ab6][Has P ab3][Has P ac2][Has P ab5][Has P ad9][Has P aa5][Has P ac3][Has P ad4](n:Nat){z C:Mc}(F:z.Ok)(G:C.Ok)(Y:z.L=C.L)(hR:z.R+C.R<=5)(s:Sto):LsR z C s ((aa1 P (n+3)).call "lesser" [z.d,C.d] s):=by
 have e0:(aa1 P (n+3)).call "lesser" [z.d,C.d] s=_:=zh ad4 (n:=n+2) rfl
 rw[e0]
 have a1:=as9 (P:=P) n F Y s
 have a2:=qC (P:=P) (n+1) z s
 have a3:=qC (P:=P) (n+1) C s
 have a4:=an3 (P:=P) (n+1) (r:=(z.R:Int)+C.R) (by omega) s
 have a5:=ah6 (P:=P) (n+1) z s
 have a6:=ah6 (P:=P) (n+1) C s
 have a7:=ao6 (P:=P) (n+1) z s
 have a8:=ao6 (P:=P) (n+1) C s
 have J:∀ {r:Nat} {l:List Nat},r<=5->(∀ i∈l,i<r)/\l.Pairwise (· < ·)->l.length<=5:=λ {r l} hr h=>by
  have:=cY (l₂:=bz r) (h.2.imp λ q=>av q) λ i hi=>cf.mpr (h.1 i hi)
  rw[jA]at this;omega
 have l1:=J F.R5 F.bg
 have l2:=J G.R5 G.bg
 have l3:=J F.R5 F.en
 have l4:=J G.R5 G.en
 have a9:=aF7 (P:=P) (n+1) C.bg (by omega) z.R s
 have b1:=aF7 (P:=P) (n+1) C.en (by omega) z.R s
 have Z:∀(x y:List Nat),x.length<=5->y.length<=5->qB .add (.tup (zK x)) (.tup (zK (mvN z.R y))) s=.ok (.tup (zK (x++mvN z.R y))) s:=λ x y hx hy=>by
  have:(zK x).length+(zK (mvN z.R y)).length<=LIM:=by
   unfold zK mvN;simp only[au];unfold LIM;omega
  simp only[qB,this,if_true]
  congr 1
  simp[zK]
 have b2:=ak5 (P:=P) n F G s
 obtain⟨ds,hb,b3⟩:=aM1 (P:=P) n F ((z.R:Int)+C.R) (B:=zK (z.bg++mvN z.R C.bg)) (E:=zK (z.en++mvN z.R C.en)) zR zR (ds:=qA z.R z.ds C.ds) (by
  unfold qA;rw[aB,au];have:=F.ds.2;have:=G.ds.2;omega) (s:=s++[.lst ((qA z.R z.ds C.ds).map Dr.d)]) (k:=s.length) (by simp)
 refine⟨⟨z.L,z.R+C.R,z.bg++mvN z.R C.bg,z.en++mvN z.R C.en,ds⟩,hb.okM F.L1 F.L3 (by have:=F.R1;omega) hR (av3 F.bg G.bg) (av3 F.en G.en) (aK7 (L:=0) (k:=0) (r:=0) F G Y),rfl,λ w o ho=>(hb.least ho).congr (aS7 F w),?_⟩
 have hM:(⟨z.L,z.R+C.R,z.bg++mvN z.R C.bg,z.en++mvN z.R C.en,ds⟩:Mc).d=.tup [.int z.L,.int ((z.R:Int)+C.R),.tup (zK (z.bg++mvN z.R C.bg)),.tup (zK (z.en++mvN z.R C.en)),.tup (ds.map Dr.d)]:=by
  show D.tup [.int z.L,.int ((z.R+C.R:Nat):Int),_,_,_]=_
  rw[Int.natCast_add]
 rw[hM]
 tbr_iter [ad4,aO,bZ,bS,bO,aH,a1,a2,a3,a4,a5,a6,a7,a8,a9,b1,Z _ _ l1 l2,Z _ _ l3 l4,b2,b3]
 refine qu (λ n=>?_) (by nofun)
 unfold D.bnd
 refine zr (λ d hd n=>?_) n
 simp only[aE,cc,or_false]at hd
 rcases hd with rfl|rfl|rfl|rfl|rfl
 ·rfl
 ·rfl
 ·unfold D.bnd;exact zr zR n
 ·unfold D.bnd;exact zr zR n
 ·unfold D.bnd;exact zr am1 n
end
theorem bF5 (p:Option Int)(s:Sto):qo .ne (qp p) (qp p) s=.ok (.bl false) s:=by
 cases p with
 | none=>rfl
 | some i =>
  show(match eqv s DEEP (.int i) (.int i)with|some r=>R.ok (D.bl (!r)) s|none=>.bad)=_
  have:eqv s DEEP (.int i) (.int i)=some (i==i):=rfl
  rw[this];simp
def Tru (s:Sto)(x:R D):Prop:=x=.ok (.bl true) s
section
variable {P:Pr}
theorem aj7 [Has P ab4][Has P ab0][Has P aa9][Has P aa6][Has P ac1][Has P ac0][Has P ac6](n:Nat){m h F:Mc}(Y:m.Ok)(h1:h.Ok)(h2:F.Ok)(hL:m.L=h.L)(hw:∀ w o,ab7 (m.Wk w) o->ab7 (λ c=>h.Wk w c\/F.Wk w c) o){s:Sto}{k:Nat}{ws:List D}(G:WL 200 ws)(hk:s[k]?=some (.lst ws)):Tru s ((aa1 P (n+4)).call "_law_right" [m.d,h.d,F.d,.ref k] s):=by
 have e0:(aa1 P (n+4)).call "_law_right" [m.d,h.d,F.d,.ref k] s=_:=zh ac6 (n:=n+3) rfl
 rw[e0]
 have J:=an4 (P:=P) n Y s
 rw[hL]at J
 have ix:ixM h.d (.int 0) s=.ok (.int h.L) s:=rfl
 have sq:ah4 (.ref k) s=.ok ⟨ws,[k]⟩ s:=by simp only[ah4,hk]
 simp -implicitDefEqProofs [ac6,J,ix,sq]
 refine zM (W:=Tru s) (λ j ρ t=>∃ T x,t=s++T/\ρ=[some m.d,some h.d,some F.d,some (.ref k),x]) ⟨[],_,by simp,rfl⟩ (λ _ _ _ _ ⟨T,_,ht,_⟩=>by rw[ht];simp[chk,zI hk,hk]) ?_ ?_
 ·rintro j d ρ t hj ⟨T,x,rfl,rfl⟩
  obtain⟨w,rfl,a2⟩:=G d (aM hj)
  obtain⟨o,l0,Z⟩:=ap7 (P:=P) (n+2) Y w (by omega) (s++T)
  obtain⟨z,l1,p1⟩:=ap7 (P:=P) (n+2) h1 w (by omega) (s++T)
  obtain⟨C,l2,p2⟩:=ap7 (P:=P) (n+2) h2 w (by omega) (s++T)
  have:o=minP z C:=(hw w o l0).eq (l1.orP l2) λ c=>Iff.rfl
  subst this
  have p3:=aS6 (P:=P) (n+2) z C (s:=s++T++[.lst [qp z,qp C]]) (k:=(s++T).length) (by simp)
  have p4:=bF5 (minP z C) (s++T++[.lst [qp z,qp C]])
  refine qz (ρ:=[some m.d,some h.d,some F.d,some (.ref k),some (.str w)]) (s:=s++T++[.lst [qp z,qp C]]) ?_ ⟨T++[.lst [qp z,qp C]],_,by rw[bV],rfl⟩
  have y:(s++T).length=s.length+T.length:=aB
  rw[y]at p3
  tbr_iter [turn,Z,p1,p2,alloc_eq,y,p3,p4]
 ·rintro ρ t ⟨T,x,rfl,rfl⟩
  simp -implicitDefEqProofs
  exact qu (λ _=>rfl) (by nofun)
theorem bT8 [Has P ab8][Has P ay5][Has P ac4][Has P ad3][Has P ae5][Has P ah3][Has P ac5][Has P ac1][Has P ab4][Has P ab0][Has P aa9][Has P aa6][Has P ac0][Has P ac6]
  [Has P aa4] [HasC P "LETTERS" (.tup aC5)] [HasC P "MOST_ROOMS" (.int 5)] [Has P aa8] [Has P aa7] [Has P ab6] [Has P ab3] [Has P ac2] [Has P ab5] [Has P ad9] [Has P aa5] [Has P ac3] [Has P ad4] (n:Nat):bR2 P (n+5):=by
 intro ns hl
 have e0:(aa1 P (n+5)).call "law" [.ref 0] [.ro (ns.map D.int)]=_:=zh ab8 (n:=n+4) rfl
 rw[e0]
 have c0:([.ro (ns.map D.int)]:Sto)[0]?=some (.ro (ns.map D.int)):=rfl
 have F:=aP3 (P:=P) (n+3) ns 0 [.ro (ns.map D.int)] 0 c0 hl
 generalize bh2 ns 0=b0 at F
 have a9:∃ b,([.ro (ns.map D.int),zt b0]:Sto)[1]?=some (zt b):=⟨b0,rfl⟩
 obtain⟨a,b1,ha,e1⟩:=z4 (P:=P) (n+3) a9 3 (by decide) (by decide)
 obtain⟨c,b2,hc,e2⟩:=z4 (P:=P) (n+3) (s:=[.ro (ns.map D.int),zt b1]) (r:=1) ⟨b1,rfl⟩ 4 (by decide) (by decide)
 obtain⟨m1,b3,z,a1,c3,e3⟩:=aJ6 (P:=P) (n+1) (L:=a+1) (Rm:=c+1) (s:=[.ro (ns.map D.int),zt b2]) (r:=1) (by omega) (by omega) (by omega) (by omega) ⟨b2,rfl⟩
 rw[show((a+1:Nat):Int)=1+(a:Int)by omega,show((c+1:Nat):Int)=1+(c:Int)by omega]at e3
 have h:=aP3 (P:=P) (n+3) ns 1 [.ro (ns.map D.int),zt b3] 0 rfl hl
 generalize bh2 ns 1=b4 at h
 obtain⟨e,b5,he,e4⟩:=z4 (P:=P) (n+3) (s:=[.ro (ns.map D.int),zt b3,zt b4]) (r:=2) ⟨b4,rfl⟩ (5 - (1+(c:Int))) (by omega) (by omega)
 obtain⟨m2,b6,J,a4,c4,e5⟩:=aJ6 (P:=P) (n+1) (L:=a+1) (Rm:=e+1) (s:=[.ro (ns.map D.int),zt b3,zt b5]) (r:=2) (by omega) (by omega) (by omega) (by omega) ⟨b5,rfl⟩
 rw[show((a+1:Nat):Int)=1+(a:Int)by omega,show((e+1:Nat):Int)=1+(e:Int)by omega]at e5
 have y:=aP3 (P:=P) (n+3) ns 2 [.ro (ns.map D.int),zt b3,zt b6] 0 rfl hl
 generalize bh2 ns 2=b7 at y
 obtain⟨b8,ws,a2,e6⟩:=aZ7 (P:=P) (n+1) (L:=a+1) (s:=[.ro (ns.map D.int),zt b3,zt b6,zt b7]) (r:=3) (by omega) (by omega) ⟨b7,rfl⟩
 rw[show((a+1:Nat):Int)=1+(a:Int)by omega]at e6
 simp -implicitDefEqProofs at F h y e1 e2 e3 e4 e5 e6
 generalize hS:([.ro (ns.map D.int),zt b3,zt b6,zt b8,.lst ws]:Sto)=S at e6
 have hg:S[4]?=some (.lst ws):=by rw[<-hS];rfl
 obtain⟨A,hA,a8,c1,f1⟩:=aj9 (P:=P) (n+1) z J (a1.trans a4.symm) (by omega) S
 have g1:=aj7 (P:=P) n hA z J a8 c1 a2 hg
 unfold Tru at g1
 have a3:WL 200 (ah0 ws (some (-3)) none):=λ d hd=>a2 d (by unfold ah0 at hd;exact iB (iC hd))
 have sl:∀ T,slM (.ref 4) (some (-3)) none (S++T)=.ok (.ref (S.length+T.length)) (S++T++[.lst (ah0 ws (some (-3)) none)]):=λ T=>by
  simp only[slM,zI hg,alloc_eq,aB]
 have G:∀ T,∃ C:Mc,(aa1 P (n+4)).call "lesser" [m2.d,m1.d] (S++T)=.ok C.d (S++T)/\(aa1 P (n+4)).call "_law_right" [C.d,m2.d,m1.d,.ref (S.length+T.length)] (S++T++[.lst (ah0 ws (some (-3)) none)])=.ok (.bl true) (S++T++[.lst (ah0 ws (some (-3)) none)]):=λ T=>by
  obtain⟨C,hC,a5,a7,Y⟩:=aj9 (P:=P) (n+1) J z (a4.trans a1.symm) (by omega) (S++T)
  exact⟨C,Y,aj7 (P:=P) n hC J z a5 a7 a3 (by rw[<-aB];simp)⟩
 by_cases h3:1+(c:Int)<3
 ·obtain⟨B,hB,c2,a6,f2⟩:=aj9 (P:=P) (n+1) z z rfl (by omega) S
  have g2:=aj7 (P:=P) n hB z z c2 a6 (s:=S++[.lst (ah0 ws (some (-3)) none)]) (k:=S.length) a3 (by simp)
  unfold Tru at g2
  have s2:=sl []
  obtain⟨C,Y,Z⟩:=G [.lst (ah0 ws (some (-3)) none)]
  have s3:=sl [.lst (ah0 ws (some (-3)) none)]
  rw[bq]at s2
  simp -implicitDefEqProofs at s2 s3 Z Y
  simp -implicitDefEqProofs [ab8,F,e1,e2,e3,h,e4,e5,y,e6,hS,f1,g1,h3,f2,s2,g2,Y,s3,Z]
  exact aw1 _ _
 ·obtain⟨C,Y,Z⟩:=G []
  have s3:=sl []
  rw[bq]at Y Z s3
  simp -implicitDefEqProofs at s3 Z
  simp -implicitDefEqProofs [ab8,F,e1,e2,e3,h,e4,e5,y,e6,hS,f1,g1,h3,Y,s3,Z]
  exact aw1 _ _
end
end DV
end
local macro_rules | `(tactic| walk_at "sc") => `(tactic| exact ⟨rfl, rfl, rfl, by decide +kernel, rfl, by decide +kernel, by decide +kernel⟩)
local macro_rules | `(tactic| walk_at "df") => `(tactic| (dsimp only; exact ⟨_, _, _, _, _, _, _, _, _, _, by k_is, by k_is, by k_is, by k_is⟩))
noncomputable section
namespace My
open PySem L2
noncomputable def top (i:Nat):Stmt:=PySem.Challenge.pw_leasttolls_k54_lesser.main.body.getD i (.Pass ⟨0,0,0,0⟩)
noncomputable def ae1:List Str:=[]
noncomputable abbrev s_letters_of:Stmt:=top 7
noncomputable abbrev ao5:Stmt:=top 8
noncomputable abbrev am0:Stmt:=top 9
noncomputable abbrev av4:Stmt:=top 10
noncomputable abbrev ap0:Stmt:=top 11
noncomputable abbrev ah1:Stmt:=top 13
noncomputable abbrev af3:Stmt:=top 14
noncomputable abbrev av5:Stmt:=top 15
noncomputable abbrev aV9:Stmt:=top 16
noncomputable abbrev ae3:Stmt:=top 17
noncomputable abbrev aG1:Stmt:=top 18
noncomputable abbrev an5:Stmt:=top 20
noncomputable abbrev aj5:Stmt:=top 21
noncomputable abbrev ai1:Stmt:=top 22
noncomputable abbrev ag9:Stmt:=top 23
noncomputable abbrev al4:Stmt:=top 24
noncomputable abbrev ah7:Stmt:=top 25
noncomputable abbrev ah8:Stmt:=top 26
noncomputable abbrev ah2:Stmt:=top 27
noncomputable abbrev ad6:Stmt:=top 28
noncomputable abbrev ae4:Stmt:=top 29
noncomputable abbrev ad2:Stmt:=top 30
noncomputable abbrev ai0:Stmt:=top 31
noncomputable abbrev ah5:Stmt:=top 32
noncomputable abbrev ay7:Stmt:=top 33
noncomputable def tb:List (String×l9×Stmt):=[("letters_of",DV.aa4,s_letters_of),("rooms_of",DV.ab6,ao5),("begins_of",DV.ab3,am0),("ends_of",DV.ac2,av4),("doors_of",DV.ab5,ap0),("check_pair",DV.aa8,ah1),("check_rooms",DV.aa7,af3),("brought",DV.ac3,av5),("moved",DV.ad9,aV9),("doors_beside",DV.aa5,ae3),("lesser",DV.ad4,aG1),("_law_bag",DV.ay5,an5),("_law_take",DV.ac4,aj5),("_law_rooms",DV.ad3,ai1),("_law_sized",DV.ae5,ag9),("_law_word",DV.ah3,al4),("_law_words",DV.ac5,ah7),("_law_price",DV.ac1,ah8),("_law_whole",DV.ab4,ah2),("_law_are_rooms",DV.ab0,ad6),("_law_is_door",DV.aa9,ae4),("_law_is_machine",DV.aa6,ad2),("_law_least",DV.ac0,ai0),("_law_right",DV.ac6,ah5),("law",DV.ab8,ay7)]
noncomputable def bO6:List (String×kS):=[("LETTERS",.tup [.str [97],.str [98],.str [99]]),("MOST_ROOMS",.int (5))]
noncomputable def bY0:List (String×l8):=[]
noncomputable def tbl:List (String×l9):=tb.map λ p=>(p.1,p.2.1)
noncomputable def P:lu:=⟨λ f=>tbl.lookup f,λ f=>bY0.lookup f,λ x=>bO6.lookup x⟩
instance:DV.HasC P "LETTERS" (.tup [.str [97],.str [98],.str [99]]):=⟨rfl⟩
instance:DV.HasC P "MOST_ROOMS" (.int (5)):=⟨rfl⟩
instance:DV.Has P DV.aa4:=⟨rfl⟩
instance:DV.Has P DV.ab6:=⟨rfl⟩
instance:DV.Has P DV.ab3:=⟨rfl⟩
instance:DV.Has P DV.ac2:=⟨rfl⟩
instance:DV.Has P DV.ab5:=⟨rfl⟩
instance:DV.Has P DV.aa8:=⟨rfl⟩
instance:DV.Has P DV.aa7:=⟨rfl⟩
instance:DV.Has P DV.ac3:=⟨rfl⟩
instance:DV.Has P DV.ad9:=⟨rfl⟩
instance:DV.Has P DV.aa5:=⟨rfl⟩
instance:DV.Has P DV.ad4:=⟨rfl⟩
instance:DV.Has P DV.ay5:=⟨rfl⟩
instance:DV.Has P DV.ac4:=⟨rfl⟩
instance:DV.Has P DV.ad3:=⟨rfl⟩
instance:DV.Has P DV.ae5:=⟨rfl⟩
instance:DV.Has P DV.ah3:=⟨rfl⟩
instance:DV.Has P DV.ac5:=⟨rfl⟩
instance:DV.Has P DV.ac1:=⟨rfl⟩
instance:DV.Has P DV.ab4:=⟨rfl⟩
instance:DV.Has P DV.ab0:=⟨rfl⟩
instance:DV.Has P DV.aa9:=⟨rfl⟩
instance:DV.Has P DV.aa6:=⟨rfl⟩
instance:DV.Has P DV.ac0:=⟨rfl⟩
instance:DV.Has P DV.ac6:=⟨rfl⟩
instance:DV.Has P DV.ab8:=⟨rfl⟩
theorem at8:DT ae1 P "letters_of" DV.aa4 s_letters_of:=⟨["machine"],["machine"],by walk_at "sc",rfl,rfl,λ _ _ _ _ _ _=>bd1 (λ _=>rfl),.inl (by decide +kernel)⟩
theorem aK1:DT ae1 P "rooms_of" DV.ab6 ao5:=⟨["machine"],["machine"],by walk_at "sc",rfl,rfl,λ _ _ _ _ _ _=>bd1 (λ _=>rfl),.inl (by decide +kernel)⟩
theorem aA3:DT ae1 P "begins_of" DV.ab3 am0:=⟨["machine"],["machine"],by walk_at "sc",rfl,rfl,λ _ _ _ _ _ _=>bd1 (λ _=>rfl),.inl (by decide +kernel)⟩
theorem aQ6:DT ae1 P "ends_of" DV.ac2 av4:=⟨["machine"],["machine"],by walk_at "sc",rfl,rfl,λ _ _ _ _ _ _=>bd1 (λ _=>rfl),.inl (by decide +kernel)⟩
theorem aL8:DT ae1 P "doors_of" DV.ab5 ap0:=⟨["machine"],["machine"],by walk_at "sc",rfl,rfl,λ _ _ _ _ _ _=>bd1 (λ _=>rfl),.inl (by decide +kernel)⟩
theorem az5:DT ae1 P "check_pair" DV.aa8 ah1:=⟨["one", "other"],["one", "other"],by walk_at "sc",rfl,rfl,λ _ _ _ _ _ _=>bd2 (λ _ _=>rfl),.inl (by decide +kernel)⟩
theorem ar8:DT ae1 P "check_rooms" DV.aa7 af3:=⟨["rooms"],["rooms"],by walk_at "sc",rfl,rfl,λ _ _ _ _ _ _=>bd1 (λ _=>rfl),.inl (by decide +kernel)⟩
theorem aW3:DT ae1 P "brought" DV.ac3 av5:=⟨["one", "rooms", "begins", "ends", "doors", "fees", "start", "letter", "goal", "fee", "way"],["one", "rooms", "begins", "ends", "doors"],by walk_at "sc",rfl,rfl,λ _ _ _ _ _ _=>bd5 (λ _ _ _ _ _=>rfl),.inl (by decide +kernel)⟩
theorem br3:DT ae1 P "moved" DV.ad9 aV9:=⟨["rooms", "by"],["rooms", "by"],by walk_at "sc",rfl,rfl,λ _ _ _ _ _ _=>bd2 (λ _ _=>rfl),.inl (by decide +kernel)⟩
theorem am9:DT ae1 P "doors_beside" DV.aa5 ae3:=⟨["one", "other", "by", "moved_doors"],["one", "other"],by walk_at "sc",rfl,rfl,λ _ _ _ _ _ _=>bd2 (λ _ _=>rfl),.inl (by decide +kernel)⟩
theorem aZ5:DT ae1 P "lesser" DV.ad4 aG1:=⟨["one", "other", "by", "begins", "ends"],["one", "other"],by walk_at "sc",rfl,rfl,λ _ _ _ _ _ _=>bd2 (λ _ _=>rfl),.inl (by decide +kernel)⟩
theorem aJ9:DT ae1 P "_law_bag" DV.ay5 an5:=⟨["_law_script", "_law_at", "_law_cell", "_law_mix", "_law_k"],["_law_script", "_law_at"],by walk_at "sc",rfl,rfl,λ _ _ _ _ _ _=>bd2 (λ _ _=>rfl),.inl (by decide +kernel)⟩
theorem aC3:DT ae1 P "_law_take" DV.ac4 aj5:=⟨["_law_bag_here", "_law_many", "_law_digit", "_law_number", "_law_room"],["_law_bag_here", "_law_many"],by walk_at "sc",rfl,rfl,λ _ _ _ _ _ _=>bd2 (λ _ _=>rfl),.inl (by decide +kernel)⟩
theorem av0:DT ae1 P "_law_rooms" DV.ad3 ai1:=⟨["_law_bag_here", "_law_many", "_law_bits"],["_law_bag_here", "_law_many"],by walk_at "sc",rfl,rfl,λ _ _ _ _ _ _=>bd2 (λ _ _=>rfl),.inl (by decide +kernel)⟩
theorem aA0:DT ae1 P "_law_sized" DV.ae5 ag9:=⟨["_law_bag_here", "_law_letters", "_law_rooms_here", "_law_most", "_law_many", "_law_doors", "_law_k", "_law_start", "_law_letter"],["_law_bag_here", "_law_letters", "_law_rooms_here", "_law_most"],by walk_at "sc",rfl,rfl,λ _ _ _ _ _ _=>bd4 (λ _ _ _ _=>rfl),.inl (by decide +kernel)⟩
theorem aC8:DT ae1 P "_law_word" DV.ah3 al4:=⟨["_law_bag_here", "_law_letters", "_law_most", "_law_word_here", "_law_k"],["_law_bag_here", "_law_letters", "_law_most"],by walk_at "sc",rfl,rfl,λ _ _ _ _ _ _=>bd3 (λ _ _ _=>rfl),.inl (by decide +kernel)⟩
theorem aw6:DT ae1 P "_law_words" DV.ac5 ah7:=⟨["_law_bag_here", "_law_letters", "_law_words_here", "_law_ahead", "_law_size", "_law_further", "_law_word_here", "_law_most"],["_law_bag_here", "_law_letters"],by walk_at "sc",rfl,rfl,λ _ _ _ _ _ _=>bd2 (λ _ _=>rfl),.inl (by decide +kernel)⟩
theorem ax1:DT ae1 P "_law_price" DV.ac1 ah8:=⟨["_law_machine", "_law_word_here", "_law_here", "_law_letter", "_law_there", "_law_start", "_law_sign", "_law_goal", "_law_cost"],["_law_machine", "_law_word_here"],by walk_at "sc",rfl,rfl,λ _ _ _ _ _ _=>bd2 (λ _ _=>rfl),.inl (by decide +kernel)⟩
theorem av6:DT ae1 P "_law_whole" DV.ab4 ah2:=⟨["_law_thing", "_law_low", "_law_high"],["_law_thing", "_law_low", "_law_high"],by walk_at "sc",rfl,rfl,λ _ _ _ _ _ _=>bd3 (λ _ _ _=>rfl),.inl (by decide +kernel)⟩
theorem ai2:DT ae1 P "_law_are_rooms" DV.ab0 ad6:=⟨["_law_thing", "_law_rooms_here", "_law_ahead", "_law_room"],["_law_thing", "_law_rooms_here"],by walk_at "sc",rfl,rfl,λ _ _ _ _ _ _=>bd2 (λ _ _=>rfl),.inl (by decide +kernel)⟩
theorem am6:DT ae1 P "_law_is_door" DV.aa9 ae4:=⟨["_law_thing", "_law_letters", "_law_rooms_here"],["_law_thing", "_law_letters", "_law_rooms_here"],by walk_at "sc",rfl,rfl,λ _ _ _ _ _ _=>bd3 (λ _ _ _=>rfl),.inl (by decide +kernel)⟩
theorem ag7:DT ae1 P "_law_is_machine" DV.aa6 ad2:=⟨["_law_thing", "_law_letters"],["_law_thing", "_law_letters"],by walk_at "sc",rfl,rfl,λ _ _ _ _ _ _=>bd2 (λ _ _=>rfl),.inl (by decide +kernel)⟩
theorem ax0:DT ae1 P "_law_least" DV.ac0 ai0:=⟨["_law_prices"],["_law_prices"],by walk_at "sc",rfl,rfl,λ _ _ _ _ _ _=>bd1 (λ _=>rfl),.inl (by decide +kernel)⟩
theorem au7:DT ae1 P "_law_right" DV.ac6 ah5:=⟨["_law_found", "_law_one", "_law_other", "_law_words_here", "_law_word_here"],["_law_found", "_law_one", "_law_other", "_law_words_here"],by walk_at "sc",rfl,rfl,λ _ _ _ _ _ _=>bd4 (λ _ _ _ _=>rfl),.inl (by decide +kernel)⟩
theorem bh7:FnScope ["_law_script", "_law_bag_here", "_law_letters", "_law_rooms_here", "_law_one", "_law_other", "_law_words_here"] ["_law_script"] (defScope ay7):=by walk_at "sc"
theorem bJ6:mSs ⟨["_law_script", "_law_bag_here", "_law_letters", "_law_rooms_here", "_law_one", "_law_other", "_law_words_here"],defScope ay7,λ _ _ _=>false⟩ DV.ab8.body (zE ay7)=true:=by decide +kernel
theorem bJ2:bU4 "law" ay7 ["_law_script"]:=λ _ _ _ _ _ _=>bd1 λ _=>rfl
theorem bO2:DT ae1 P "law" DV.ab8 ay7:=⟨_,_,bh7,rfl,rfl,bJ2,.inl bJ6⟩
theorem bQ3:∀ p∈tb,DT ae1 P p.1 p.2.1 p.2.2:=by
 intro p h
 unfold tb at h
 simp only[aE,cc,or_false]at h
 rcases h with rfl|rfl|rfl|rfl|rfl|rfl|rfl|rfl|rfl|rfl|rfl|rfl|rfl|rfl|rfl|rfl|rfl|rfl|rfl|rfl|rfl|rfl|rfl|rfl|rfl
 ·exact at8
 ·exact aK1
 ·exact aA3
 ·exact aQ6
 ·exact aL8
 ·exact az5
 ·exact ar8
 ·exact aW3
 ·exact br3
 ·exact am9
 ·exact aZ5
 ·exact aJ9
 ·exact aC3
 ·exact av0
 ·exact aA0
 ·exact aC8
 ·exact aw6
 ·exact ax1
 ·exact av6
 ·exact ai2
 ·exact am6
 ·exact ag7
 ·exact ax0
 ·exact au7
 ·exact bO2
theorem bJ4 {l:dg}{w:World}{K:ae}{h:Heap}{mg:Str->Option Value}{fa:Addr}(X:K.In h)(G:h.Ns bv mg)(a4:mg "law"=some (.ref fa))(hD:∀ p∈tb,bX0 K p.1 p.2.2)(hz:∀ x∈bNames,eG K bv x=some none)
  {y:Addr} {a1:Option Addr} {a3:Nat} {a2:Array (Option Value)} {Y Z J:Tok} (gc_LETTERS:eG K bv "LETTERS"=some (some (.ref y))) (gl_LETTERS:K.lookup y=some ⟨.type "tuple",a1,.seq #[.str ⟨#[97]⟩ Y,.str ⟨#[98]⟩ Z,.str ⟨#[99]⟩ J] a3,a2⟩)
  {z:Tok} (gc_MOST_ROOMS:eG K bv "MOST_ROOMS"=some (some (.int (5) z)))
  (hT:∀ x∈ae1,(bp K x).isSome=true) (tnd:decide (((bp2 ae1 K).map (·.1)).Nodup)=true)
  : ∃ fd:bJ,(∀(s:af) (v:Value),jW s fd ⟨[v],[]⟩ [("_law_script",v)])/\∀ C:Heap,K.In C->C.Ns bv mg->BM mg C->bp1 K ae1 C->FnOk l.prog w K mg C CX0 43 fa fd ["_law_script"] (spB ae1 K):=by
 have hP:PrOk (bg4 ae1 P K) (by4 ae1 K) P mg:=by
  refine⟨λ f d h=>aF1 (tbl:=tbl) (λ p hp=>?_) f d h,λ x d h=>aW7 (tbl:=bO6) ?_ x d h,λ x hx=>PySem.W.mg_none_of X G (hz x hx),bQ1 X G,bS3,of_decide_eq_true tnd⟩
  ·obtain⟨r,hr,rfl⟩:=aN.mp hp
   exact good_of X G hT (hD r hr) (bQ3 r hr)
  ·intro p hp
   unfold bO6 at hp
   simp only[aE,cc,or_false]at hp
   rcases hp with rfl|rfl
   ·exact bs4 (dt X G gc_LETTERS) gl_LETTERS rfl rfl (show 3<=1000 by decide) (.cons (.str _ _ (by decide)) (.cons (.str _ _ (by decide)) (.cons (.str _ _ (by decide)) (.nil))))
   ·exact bs5 (dt X G gc_MOST_ROOMS)
 obtain⟨f,od,an,sl,oc,kV,dc,pm,cd,ct,a,l0,c,k⟩:=hD ("law",DV.ab8,ay7) (by unfold tb;simp)
 have e:=a4.symm.trans (dt X G a)
 cases e
 have F:=bk6 (st:=ay7) l0 c k
 refine⟨_,λ s v=>.of_eq rfl,λ C _ _ bm hk=>(bI7 hP (bi9 hT bm hk) 11 (aN1 hP (bi9 hT bm hk) 11) (d:=DV.ab8) (f := "law") rfl ⟨F,dt X G a,F.binds bJ2⟩ bh7 rfl rfl bJ6 aV5).imp (λ vs H Q E q=>bH0 (λ ns h=>DV.bT8 (P:=P) 7 ns h) vs H Q E (aZ3 hT q))⟩
end My
end
open PySem PySem.W PyProof.Rows
set_option maxRecDepth 100000 in
set_option maxHeartbeats 0 in
theorem PySem.Challenge.cw_leasttolls_k54_lesser_holds : PySem.Challenge.rw_leasttolls_k54_lesser.Holds := by
 refine My.GT.2 ?_
 delta My.GT
 dsimp only
 k_fill
 refine L2.aU4 (l:=PySem.Challenge.rw_leasttolls_k54_lesser) (n:=63) (k:=43) (x := "_law_script") (sp:=L2.spB My.ae1) My.ae1 rfl (by decide) rfl ⟨rfl,by decide,by decide⟩ (ts:=[]) (λ w h Y=>⟨PySem.W.kIn_of Y,λ _ hP=>absurd hP (cc)⟩) (λ w=>?R) (λ w=>?NT) ?F (λ K H a ns hl hB hS hF=>L2.bB0 hl hB hS hF)
 case R=>kernel_rfl
 case NT=>kernel_rfl
 case F =>
  intro w mg fa h KX G hmg
  refine' My.bJ4 KX G hmg ?hD ?hz ?gc_LETTERS ?gl_LETTERS ?gc_MOST_ROOMS ?hT ?tnd
  case hD =>
   intro p hp
   unfold My.tb at hp
   simp only[aE,cc,or_false]at hp
   rcases hp with rfl|rfl|rfl|rfl|rfl|rfl|rfl|rfl|rfl|rfl|rfl|rfl|rfl|rfl|rfl|rfl|rfl|rfl|rfl|rfl|rfl|rfl|rfl|rfl|rfl
   all_goals walk_at "df"
  case hz =>
   intro x hx
   unfold L2.bNames at hx
   simp only[aE,cc,or_false]at hx
   rcases hx with rfl|rfl|rfl|rfl|rfl|rfl|rfl|rfl|rfl|rfl|rfl|rfl|rfl|rfl|rfl|rfl|rfl|rfl<;>k_is
  (case gc_LETTERS=>k_is)
  (case gl_LETTERS=>k_is)
  (case gc_MOST_ROOMS=>k_is)
  case hT =>
   intro x hx;cases hx
  (case tnd=>kernel_rfl)
