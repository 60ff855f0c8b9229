import PyProof.Rows.All
import Wide.All
import OpenK.AllK
import Wide.FinOn
import PyProof.EqAt
import PyProof.EqKinds
import PyProof.TupleCall
import PyProof.MinMaxWalk
import PyProof.WalkInts
import PyProof.NeKinds
import PyProof.SliceStr2
import PyProof.StrBlockI
import PyProof.MaxThree
import PyProof.ZipIter
import PyProof.Draws
import PyProof.EnumMake
import PyProof.ListMulRoad
import PyProof.Rows.StrRev
import PyProof.DictItems
import PyProof.ListRange
import PyProof.AutoIntG2
import PyProof.FactsAll.int_6
import KE.IntBitsLaws
import PySem.Challenge.RW_leasttolls_k31_words_unrolled
set_option Elab.async false
set_option linter.all false
set_option maxRecDepth 100000
set_option maxHeartbeats 4000000
open PySem.W renaming Frag->ac,tabIn->bh,kia_one->bG,kitOne->bH,CodeHd->bK,findIn->bP,kla_fn->bU,mg_of->bW,keepIn->bZ,nsIn->cc,fnOf->cQ,envX->cS,OpenLaw->cU,specialIn->dL,KitX->dR,Looks->ee,fnX->et,looks_findIn->eB,takesIn->eK,codeIn->fh,tabObj->fo,methodObj->fA,mroIn->fL,cellsFrom_some->gf,instObj->gC,lookIn->gS,kitAny->hJ,kitx_tuple->iK,callWith_K->iL,kitx_list->i5,kitx_dict->i6,plainGet->jN,codeHdIn->jU,TabsAt->kB,noTabs->kC,WalkO->kF
open List renaming getElem?_eq_some_iff->ae,getElem?_eq_getElem->ah,mem_cons_of_mem->aj,getElem?_append_right->ak,replicate->av,range->aw,getElem?_map->ax,size_toArray->ay,getElem?_append_left->aA,mem_cons_self->aB,length_map->aC,mem_cons->aE,map_cons->aG,length_append->aL,getD_eq_getElem?_getD->aN,all_eq_true->aO,mem_map->aS,mem_append_right->aV,length_cons->aY,getElem?_set_self->aZ,lookup_cons->a9,getElem?_set_ne->be,append_nil->bo,mem_of_getElem?->bq,length_take->br,map_append->bv,append_assoc->bw,set_append_right->bC,replicate_succ->bE,mem_map_of_mem->bF,length_set->bJ,not_mem_nil->bL,filterMap_cons->bM,getElem?_range->bN,getElem?_eq_none->bT,take_of_length_le->b7,foldl_cons->b8,length_singleton->cb,flatten_cons->cg,length_nil->cj,mem_range->cq,mem_singleton->cx,mem_append->cB,mem_append_left->cD,map_nil->cF,map->cH,take_append_of_le_length->cO,find?_cons->cX,range_succ->cY,all_cons->cZ,contains_iff_mem->c5,map_congr_left->dh,nodup_cons->dk,of_mem_zip->dm,nil_append->dq,length_eq_zero_iff->dF,reverse_cons->dN,map_map->dU,foldl_append->dW,getElem?_toArray->dX,length_drop->d5,cons_append->d6,any_cons->d9,all_append->eR,set_set->eZ,mem_filterMap->fe,drop_zero->fu,drop_eq_getElem_cons->fx,mem_or_eq_of_mem_set->fy,length_range->fI,getElem?_replicate->fS,range_succ_eq_map->gz,drop_eq_nil_of_le->gA,mem_filter->gD,length_replicate->gH,dropLast_eq_take->gO,take_append_drop->gP,forIn_nil->gY,filterMap->gZ,mem_iff_getElem->g6,getElem?_of_mem->hU,take_take->hV,length_pos_iff->io,filterMap_map->iM,getElem?_take->iX,ext_getElem?->jL,take_append->jX,take_length->jY,forIn_cons->j4,set_append->j6,foldl->kr,all_nil->kP,length->kX,lookup->kY
open PySem renaming Shared->af,wpAny_bind->ai,mem_of_lookup->aD,wpAny_pure->aI,Program->aM,sizeLine->aP,cellsFrom->aQ,Around->aX,mainGlobals->a7,bootBuiltins->bj,starEach->bp,FuncData->bu,wpAny_mono->bz,Arguments->bA,wpAny_newObj_type->bO,NameKind->bQ,binaryOp->bX,assignEach->cr,wpAny_Call_Name_kw->cu,wpAny_passesOwn->cC,wpAny_truthy_bool->cE,wpAny_holding->cI,wpAny_callSpecial?_slot->cK,wpAny_execs_nil->cV,pushCells_keeps->cW,foldedSetIterable->c6,sysModules->c7,wpAny_call_entry->da,isTrue->dv,wpAny_field->dA,sliceBounds->dB,codeAmong->dC,backTo->dI,wpAny_pyIter_list->dJ,pushCells->d7,relabel->d8,bindArgs->ef,letOwnedTupleGo->eG,rawInt->eJ,codeAny_mono->eX,swapsWith->e8,compareOp->e9,call_meets->fj,newFunctionEnv->fm,wpAny_binaryOp_repeat_ref->fv,sizeLine_eq->fB,InCallC->fC,Paired->fK,IsPart->fN,attributeBase->fO,wpAny_comprehension_free->fQ,ExceptHandler->fR,noFill_tuple_add->fT,builtinsNs->f7,assign->f8,codeAny->f9,wpAny_call->gb,name_of_addr->gh,getItem->gi,wpAny_typeOf->gj,typeIs_int->gv,codeAny_compStart_list->gy,wpAny_storeName_local->gG,codeAny_call_function->gI,wpAny_storeName_cell->gR,strIterType->g7,codeAny_call_builtin->g8,tupleKind->hZ,storeName->ib,callerA->ic,valueAt->ie,wpAny_standAt->iw,swappedStores->iy,behindInMarks->iz,seq_tuple_add->iA,wpAny_pyIter_tuple->iJ,typeIs_str->iP,tupleKind_room_in1->iV,wpAny_assign_Name->i4,concat_meets->i7,wpAny_sequenceKey->i8,seqIndex_neg->i9,slot_list_getitem->jH,notedBy->jJ,wpAny_execs_cons->jM,typeOf->jQ,noteFrame->jS,TriplesOk->jT,seqSlot_of->jV,wpAny_Try_except->jW,seqIndex_of->jZ,holding->ka,BindsTo->ke,Keyword->kg,argBest->ki,call->kj,wpAny_Name->km,Result->kn,PlainAttrs->kq,wpAny_rule->kt,defaultsOf->ku,quietNames->kA,setFlight->kJ,Within->kL,pyIter->kM
open Bool renaming and_eq_true->ag,false_eq_true->au,not_false->aR,not_true->aU,false_ne_true->aW,or_eq_true->b9,not_eq_true'->dQ,or_eq_false_iff->eA,eq_iff_iff->eQ,and_eq_true_iff->gQ,false_or->iC,and_true->iD,true_and->iE
open Nat renaming le_refl->am,le_trans->ao,lt_of_lt_of_le->az,ne_of_lt->aH,lt_irrefl->bI,add_sub_cancel_left->bV,lt_trans->cR,zero_add->cT,zero_le->c9,lt_succ_self->db,mul_add->dD,le_of_lt->dG,sub_self->dS,le_succ->eD,pow_le_pow_right->eF,ne_of_gt->eV,le_of_succ_le->fD,lt_succ_of_lt->fF,lt_trichotomy->fH,min_le_right->fU,min_eq_right->fY,succ_pred_eq_of_pos->fZ,strongRecOn->gF,add_comm->jI,le_of_not_lt->jR,mul_pos->j2,min_eq_left->j8,mod_lt->kD,mul_succ->kN,lt_or_ge->kR,add_zero->kS,sub_zero->kT
open Option renaming map_some->aq,bind_some->aK,map_eq_some_iff->bR,isSome_iff_exists->fM,isSome_some->iT,getD_none->jP
open PySem.Heap renaming get?_push_of_some->ar,lt_size->aJ,get?_push_size->a8,size_push->cf,SameBut->dH,get?_update_other->gu,get?_update_self->gJ,ExtBut->j1
open Option.some renaming inj->aF
open False renaming elim->bf
open PyProof.Rows renaming slot_tuple_getitem->bt,kindOf->d4,envOfC->eN,AllBare->eU,callWith_type1->eW,subscriptTail_builtinR->gk,entry_tuple_getitem->ig,tupleItemsOf_->iB,args_tuple_getitem->iO,IntsAre->kh,tail_any->ko
open PySem.Builtin.Str renaming strSliceIndices->bB,tooLong->dY,glued->jK
open PySem.Str renaming ofString->bD
open PySem.Builtin.SmallTypes renaming nextOf->bS
open Int renaming toNat_natCast->ci,le_trans->cG,mul_le_mul_of_nonneg_left->cN,natCast_mul->du,fdiv_eq_ediv_of_nonneg->fg,zero_add->gB,toNat_of_nonneg->iq,emod_lt_of_pos->i0,le_refl->j0,emod_nonneg->j7,sub_zero->kQ,le_of_lt->kU
open PySem.F renaming slot_tuple_iterator_next->cw,args_tuple_add_2->di,slot_int_rmul->dw,entry_tuple_add->dz,slot_tuple_add->dM,slot_tuple_mul->dP,attrBase_ValueError->dZ,args_tuple_iterator_next_1->eP,entry_tuple_iterator_next->eY,slot_dict_getitem->fw,slot_tuple_rmul->fV,plainAttrs_list->fX,slot_list_append->gK,slot_str_join->gM,args_int_rmul_2->gX,excBase_ValueError->hG,slot_int_index->ii,entry_int_rmul->ik,slot_list_pop->iQ,fills_int_mul->iR
open Ne renaming symm->cy
open PySem.W.Looks renaming andThen->cz,now->fG,tag->lb,ld->lf
open PySem.Builtin.Slice renaming slicePlaces->cA,sliceAdjust->dg,sliceApplied->fi,slicePartIndex->j3,sliceFields->kE
open PySem.Builtin.Tuple renaming tupleExact->cJ,tupleItemsOf->c8,tupleTooMany->fq,tupleIsExact->ky
open PySem.Builtin.Getset_descriptor renaming descrCheckInstance->cL,descrOwnerAndName->cM,descrGetter->de,descrNameAndClass->f6,descrGetArgs->g9
open PySem.Builtin.List renaming listTooLong->dj
open PySem.Builtin.ObjectAttr renaming find->dE
open PySem.Txt renaming slice->eO
open Array renaming length_toList->eT,getElem?_toList->gL,getElem?_mapIdx->gN,toList_append->ir,append_assoc->iI,toList->i3
open PySem.Calls renaming Name_function_global->fc,callWith_builtin->gx,evalArgs_plain->gU
open PySem.W.OpenLaw renaming wellSaid->fJ
open Classical renaming propDecidable->fW
open PySem.Obj renaming mapSeq->gm,data_mapFields->iU
open PySem.SeqAt.EqAt renaming same->gE,int_str->iG,str_int->iH,of_refs->iZ
open PySem.Around renaming frames_deeper->gT
open PySem.Heap.SameBut renaming update->ip
open PySem.Paired renaming length->iu,snoc->k6
open PySem.W.KF renaming slot_gs->iW
open PySem.SeqAt renaming EqAt->iY,RcNeAt->kO,RcAt->la
open PyProof.Rows.IsTup renaming new->jO
open PySem.PassesOwn renaming never->j5
open List.cons renaming injEq->j9
open PySem.Builtin renaming bitAnd->kz
open PySem.Value renaming isStrOf->kG,isInt->kW
open Function renaming comp->kH
open PySem.Builtin.Range renaming rangeSize->kI
open PySem.W.OpenRow renaming toRowW->kK
open PySem.Heap.Ns renaming new->kZ
open List.Pairwise renaming filter->k7
open PySem.Heap.IsSliceOf renaming new->k8
open PySem.Walks renaming list->k9
noncomputable section
namespace L2
open PySem PySem.Spec PyProof.Rows
theorem head_of {l:cU}{q:aM}{loose:List Str}{H:PySem.W.Hook}{N:Nat}{d:DefRec}{h:List (Str×Expr)}
  (left:PySem.W.LeftO l.row.prog q loose (λ s=>PySem.W.xlAt q [] s&&PySem.W.recOk (PySem.W.RowW.records (kK l.row)) s) H.obs H.val N)
  (p:PySem.W.defOf q l.row.name=some (d,h)) (hp:l.row.prog.theDef l.row.name=some (d.params,d.body,d.scope)) (hk:PySem.W.kwWritten? d.params.kwonlyargs d.params.kw_defaults=some h) (y:(!l.row.writes||l.row.records.isEmpty)=true)
  (k1:l.row.wellSaid=true) (ok:(PySem.W.chainsOk q&&PySem.W.opensWell l.row.prog&&(PySem.W.frees l.row.toRowW&&l.row.within.isEmpty))=true) (hb:l.row.prog.bare) (hw:l.row.toRowW.promised)
  (call:kF q loose (PySem.W.XL q []) H.says l.row.toRowW d h λ f vs=>kj f vs):l.row.Holds :=
 PySem.W.holds_open left H.of H.keeps (λ s e=>PySem.W.xl_of s (gQ.mp e).1) PySem.W.XL.keeps p hp hk (λ s e=>PySem.W.recFacts_of (gQ.mp e).2) y k1 ok hb hw call
end L2
end
noncomputable section
namespace My
open PySem L2
noncomputable def nmS:Stmt->Bool
 | .Assign [.Name x _] _ _=>decide (x=("__name__":Str))
 | _=>false
noncomputable def vq:aM:={ PySem.Challenge.pw_leasttolls_k31_words_unrolled with main:={ (PySem.Challenge.pw_leasttolls_k31_words_unrolled).main with body:=(PySem.Challenge.pw_leasttolls_k31_words_unrolled).main.body.filter λ s=>!nmS s } }
inductive IsL:cU->Prop|mk:IsL PySem.Challenge.rw_leasttolls_k31_words_unrolled
theorem bY0 {l:cU}(h:IsL l):PySem.Challenge.rw_leasttolls_k31_words_unrolled=l:=by cases h;rfl
noncomputable def lwp:{ l:cU // IsL l }:=by
 refine⟨?p,?h⟩
 case h =>
  have e:PySem.Challenge.rw_leasttolls_k31_words_unrolled=?p:=by
   conv=>lhs;reduce
  exact e▸IsL.mk
theorem ws1:fJ lwp.1=true:=by k_qdec
theorem ws:fJ PySem.Challenge.rw_leasttolls_k31_words_unrolled=true:=by
 rw[bY0 lwp.2];exact ws1
end My
end
section
open PySem PySem.W PyProof.Rows
local macro_rules | `(tactic| o_head $H) => `(tactic| refine L2.head_of (q := My.vq) (loose := ["NoMaking"]) (H := $H) (N := 4000) (λ w => by kernel_rfl) (by rfl) (by rfl) (by rfl) rfl (by assumption) (by decide +kernel) ⟨rfl, rfl, rfl, rfl, rfl, by decide +kernel⟩ ?_ ?_)
set_option maxRecDepth 100000 in
set_option maxHeartbeats 0 in
noncomputable def My.GT:{ G:Prop // G->PySem.Challenge.rw_leasttolls_k31_words_unrolled.Holds }:=by
 refine⟨?G,?h⟩
 case h =>
  intro g
  w_on;refine holds_law My.ws λ said=>?_;k_head;(focus w_witness2)
  exact g
end
noncomputable section
namespace L2
open PySem PySem.Spec PyProof.Rows
noncomputable abbrev Key:=Sum Int Str
noncomputable def aS8:Key->Value->Bool
 | .inl k,v=>kW k v
 | .inr x,v=>kG x v
noncomputable def cn7 (w:World):Key->Int
 | .inl k=>hashInt k
 | .inr x=>hashStr w x
theorem zL:∀ {k:Key} {v:Value},aS8 k v=true->(∃ i t,k=Sum.inl i/\v=Value.int i t)\/(∃ x t,k=Sum.inr x/\v=Value.str x t)
 | .inl i,v,h=>by
  obtain⟨t,e⟩:=Value.isInt_shape (k:=i) (v:=v) h
  exact .inl ⟨i,t,rfl,e⟩
 | .inr x,v,h=>by
  obtain⟨t,e⟩:=Value.isStrOf_shape (x:=x) (v:=v) h
  exact .inr ⟨x,t,rfl,e⟩
theorem aU5 (i:Int)(t:Tok):aS8 (.inl i) (.int i t)=true:=by simp[aS8,kW]
theorem aY2 (x:Str)(t:Tok):aS8 (.inr x) (.str x t)=true:=by simp[aS8,kG]
theorem bK8 (a b:Int):decide ((Sum.inl a:Key)=Sum.inl b)=(a==b):=by
 by_cases e:a=b
 ·subst e;simp
 ·have h:¬(Sum.inl a:Key)=Sum.inl b:=λ q=>e (Sum.inl.inj q)
  rw[decide_eq_false h]
  exact(beq_eq_false_iff_ne.mpr e).symm
theorem bR5 (a b:Str):decide ((Sum.inr a:Key)=Sum.inr b)=decide (a=b):=by
 by_cases e:a=b
 ·subst e;simp
 ·have h:¬(Sum.inr a:Key)=Sum.inr b:=λ q=>e (Sum.inr.inj q)
  rw[decide_eq_false h,decide_eq_false e]
theorem bU6 (a:Int)(b:Str):decide ((Sum.inl a:Key)=Sum.inr b)=false:=decide_eq_false (λ q=>nomatch q)
theorem bX8 (a:Str)(b:Int):decide ((Sum.inr a:Key)=Sum.inl b)=false:=decide_eq_false (λ q=>nomatch q)
noncomputable def z0 (prog:aM)(w:World):PySem.KeyKind prog w Key where
 is:=aS8
 hash:=cn7 w
 inj:=λ v a b ha hb=>by
  rcases zL ha with⟨i,t,rfl,rfl⟩|⟨x,t,rfl,rfl⟩
  ·rcases zL hb with⟨j,u,rfl,e⟩|⟨y,u,rfl,e⟩
   ·injection e with e1 _;rw[e1]
   ·exact nomatch e
  ·rcases zL hb with⟨j,u,rfl,e⟩|⟨y,u,rfl,e⟩
   ·exact nomatch e
   ·injection e with e1 _;rw[e1]
 byValue:=λ k v h=>by
  rcases zL h with⟨i,t,rfl,rfl⟩|⟨x,t,rfl,rfl⟩<;>rfl
 pyHash:=λ hv h=>by
  rcases zL hv with⟨i,t,rfl,rfl⟩|⟨x,t,rfl,rfl⟩
  ·exact wpAny_pyHash_int h
  ·exact wpAny_pyHash_str h
 eqBool:=λ hu hv h=>by
  rcases zL hu with⟨i,t,rfl,rfl⟩|⟨x,t,rfl,rfl⟩
  ·rcases zL hv with⟨j,u,rfl,rfl⟩|⟨y,u,rfl,rfl⟩
   ·rw[bK8]at h;exact wpAny_eqBool_int h
   ·rw[bU6]at h;exact iG i t y u _ _ _ _ h
  ·rcases zL hv with⟨j,u,rfl,rfl⟩|⟨y,u,rfl,rfl⟩
   ·rw[bX8]at h;exact iH x t j u _ _ _ _ h
   ·rw[bR5]at h;exact wpAny_eqBool_str h
 «strs»:=λ k x t v h=>by
  rcases zL h with⟨i,u,rfl,e⟩|⟨y,u,rfl,e⟩
  ·exact nomatch e
  ·injection e with e1 _
   subst e1
   cases v<;>rfl
theorem aJ9 (prog:aM)(w:World)(i:Int)(t:Tok):(z0 prog w).is (.inl i) (.int i t)=true:=aU5 i t
theorem aH5 (prog:aM)(w:World)(x:Str)(t:Tok):(z0 prog w).is (.inr x) (.str x t)=true:=aY2 x t
inductive V where
 | non|bl (b:Bool)|int (i:Int)|str (x:Str)|byt (b:Array UInt8)|flt (b:UInt64)|ref (a:Addr)|ty (n:String)
 deriving DecidableEq
noncomputable def RelV:V->Value->Prop
 | .non,u=>u=Value.none
 | .bl b,u=>u=Value.bool b
 | .int i,u=>∃ t,u=Value.int i t
 | .str x,u=>∃ t,u=Value.str x t
 | .byt b,u=>∃ t,u=Value.bytes b t
 | .flt b,u=>∃ t,u=Value.float b t
 | .ref a,u=>u=Value.ref a
 | .ty n,u=>u=Value.type n
abbrev Vals:List V->List Value->Prop:=fK RelV
theorem Vals.length {h:List V}{us:List Value}(r:Vals h us):h.length=us.length:=iu r
theorem Vals.get:∀ {h:List V} {us:List Value} {i:Nat} {x:V},Vals h us->h[i]?=some x->∃ u,us[i]?=some u/\RelV x u
 | _,_,_,_,.nil,e=>by simp at e
 | _,_,0,_,.cons r _,e=>by simp at e;subst e;exact⟨_,rfl,r⟩
 | _,_,i+1,x,.cons _ t,e=>by
  obtain⟨u,y,p⟩:=Vals.get (i:=i) (x:=x) t (by simpa using e)
  exact⟨u,by simpa using y,p⟩
theorem Vals.set {x:V}{u:Value}(r:RelV x u):∀ {h:List V} {us:List Value} (i:Nat),Vals h us->Vals (h.set i x) (us.set i u)
 | _,_,_,.nil=>.nil
 | _,_,0,.cons _ t=>.cons r t
 | _,_,i+1,.cons q t=>.cons q (Vals.set r i t)
theorem Vals.append:∀ {h ys:List V} {us ws:List Value},Vals h us->Vals ys ws->Vals (h++ys) (us++ws)
 | _,_,_,_,.nil,s=>s
 | _,_,_,_,.cons r t,s=>.cons r (Vals.append t s)
theorem Vals.take:∀ {h:List V} {us:List Value} (n:Nat),Vals h us->Vals (h.take n) (us.take n)
 | _,_,0,_=>.nil
 | _,_,_+1,.nil=>.nil
 | _,_,n+1,.cons r t=>.cons r (Vals.take n t)
theorem Vals.drop:∀ {h:List V} {us:List Value} (n:Nat),Vals h us->Vals (h.drop n) (us.drop n)
 | _,_,0,r=>r
 | _,_,_+1,.nil=>.nil
 | _,_,n+1,.cons _ t=>Vals.drop n t
noncomputable def aR7:Option V->Option Value->Prop
 | some v,some u=>RelV v u
 | none,none=>True
 | _,_=>False
def KV {κ:Type}:List (κ×V)->List (κ×Value)->Prop:=fK λ(p:κ×V) (q:κ×Value)=>p.1=q.1/\RelV p.2 q.2
noncomputable def kV:Key->V
 | .inl i=>.int i
 | .inr x=>.str x
inductive HO where
 | lst (xs:List V)
 | tup (xs:List V)
 | dK (kvs:List (Key×V))|dT (kvs:List (List Key×V))
 | set (S:Int->Bool) (n:Nat)
 | ins (C dx:Addr) (fs:List (Str×V))
 | own (x:Addr)
 | xd (fs:List (Str×V))
 | met (f x:Addr)
 | rng (lo hi:Int)
 | frz (o:Obj) (u:HO)
 | tbl (ps:Array Value)
 | ext (φ:Heap->Prop)
noncomputable abbrev Hp:=Addr->Option HO
noncomputable def upd (H:Hp)(a:Addr)(o:HO):Hp:=λ b=>if b=a then some o else H b
theorem zm {H:Hp}{a:Addr}{o:HO}:upd H a o a=some o:=by unfold upd;rw[if_pos rfl]
theorem zd {H:Hp}{a b:Addr}{o:HO}(h:b≠a):upd H a o b=H b:=by unfold upd;rw[if_neg h]
theorem cf3 {H:Hp}{a b:Addr}{o u:HO}(h:H a=some o)(h':H b=some u)(d:o≠u):a≠b:=by
 intro e;subst e;rw[h]at h';exact d (aF h')
theorem zC {H:Hp}{a b:Addr}{o:HO}(h:H a=some o)(h':H b=none):a≠b:=by
 intro e;subst e;rw[h]at h';cases h'
section
variable (P:aM) (w:World)
noncomputable def ag2 (H:Hp)(h:Heap)(a:Addr):HO->Prop
 | .lst xs=>xs.length<=aP/\∃(its:List Value) (n:Nat),Vals xs its/\h.get? a=some { cls:=.type "list",data:=.seq its.toArray n }
 | .tup xs=>xs.length<=aP/\∃ its:List Value,Vals xs its/\IsTup h a its.toArray
 | .dK kvs=>kvs.length<=aP/\(a==c7)=false/\∃ vs,KV kvs vs/\h.DictOf (z0 P w) a vs
 | .dT kvs=>kvs.length<=aP/\(a==c7)=false/\∃ xs:List (List Key×Addr×Value),
   fK (λ(p:List Key×V) (q:List Key×Addr×Value)=>p.1=q.1/\H q.2.1=some (.tup (p.1.map kV))/\RelV p.2 q.2.2) kvs xs /\
   ∃ o es ep,h.get? a=some o/\o.ExactDict/\o.data=.dict es ep/\es.toList=xs.map (entryOfKey (hZ (z0 P w)))/\(xs.map (·.1)).Nodup
 | .set S n=>h.SetOf (intKind P w) a S n
 | .ins C dx fs=>H dx=some (.own a)/\fs.length<=1000/\dx≠a/\h.get? a=some (gC C dx) /\
   ∃ mA,h.Ns1 dx mA/\(∀ f,aR7 (fs.lookup f) (mA f))/\kL mA (fs.map (·.1))
 | .own _=>∃ o,h.get? a=some o
 | .xd fs=>∃ mA,h.Ns1 a mA/\∀ f,aR7 (fs.lookup f) (mA f)
 | .rng lo hi=>∃ t u v,h.get? a=some { cls:=.type "range",data:=.fields #[.int lo t,.int hi u,.int 1 v] }
 | .frz o u=>h.get? a=some o/\ag2 H h a u
 | .tbl ps=>h.get? a=some { cls:=.none,data:=.fields ps }
 | .met f x=>h.get? a=some (fA (.ref f) (.ref x))
 | .ext φ=>φ h/\(∃ o,h.get? a=some o)/\∀ h1 h2:Heap,φ h1->(∀ o,h1.get? a=some o->h2.get? a=some o)->φ h2
def HOk (H:Hp)(h:Heap):Prop:=∀ a o,H a=some o->ag2 P w H h a o
end
section
variable {P:aM} {w:World} {H H':Hp} {h h':Heap} {a:Addr} {o:HO}
theorem ag2.lt (x:ag2 P w H h a o):a<h.objs.size:=by
 cases o with
 | lst xs=>obtain⟨_,_,_,_,e⟩:=x;exact aJ e
 | tup xs=>obtain⟨_,_,_,p⟩:=x;exact p.lt
 | dK kvs=>obtain⟨_,_,_,_,o,_,_,e,_⟩:=x;exact aJ e
 | dT kvs=>obtain⟨_,_,_,_,o,_,_,e,_⟩:=x;exact aJ e
 | set S n=>obtain⟨o,_,_,_,e,_⟩:=x;exact aJ e
 | ins C dx fs=>obtain⟨_,_,_,e,_⟩:=x;exact aJ e
 | own y=>obtain⟨_,e⟩:=x;exact aJ e
 | xd fs=>obtain⟨_,⟨_,_,_,e,_⟩,_⟩:=x;exact aJ e
 | rng lo hi=>obtain⟨_,_,_,e⟩:=x;exact aJ e
 | frz ob u=>obtain⟨e,_⟩:=x;exact aJ e
 | tbl ps=>exact aJ (show h.get? a=some _ from x)
 | met f y=>exact aJ (show h.get? a=some _ from x)
 | ext φ=>obtain⟨_,⟨_,e⟩,_⟩:=x;exact aJ e
theorem fK.mapP {α β:Type}{F G:α->β->Prop}:∀ {h:List α} {p:List β},fK F h p->(∀ a b,F a b->G a b)->fK G h p
 | _,_,.nil,_=>.nil
 | _,_,.cons r t,f=>.cons (f _ _ r) (fK.mapP t f)
theorem ag2.stay (x:ag2 P w H h a o)(k:∀ b u,(b=a\/H b=some (.own a))->h.get? b=some u->h'.get? b=some u)
  (ho:∀ b,H b=some (.own a)->H' b=some (.own a)) (Z:∀ b J,H b=some (.tup J)->H' b=some (.tup J)):ag2 P w H' h' a o:=by
 induction o with
 | lst J=>obtain⟨z,its,n,r,e⟩:=x;exact⟨z,its,n,r,k _ _ (.inl rfl) e⟩
 | tup J=>obtain⟨z,its,r,ob,e,c⟩:=x;exact⟨z,its,r,ob,k _ _ (.inl rfl) e,c⟩
 | dK kvs=>obtain⟨z,y,vs,r,ob,es,G,e,c⟩:=x;exact⟨z,y,vs,r,ob,es,G,k _ _ (.inl rfl) e,c⟩
 | dT kvs =>
  obtain⟨z,y,J,r,ob,es,G,e,c⟩:=x
  exact⟨z,y,J,fK.mapP r λ p q z=>⟨z.1,Z _ _ z.2.1,z.2.2⟩,ob,es,G,k _ _ (.inl rfl) e,c⟩
 | set S n=>obtain⟨ob,es,G,t,e,c⟩:=x;exact⟨ob,es,G,t,k _ _ (.inl rfl) e,c⟩
 | ins C dx fs =>
  obtain⟨d,z,ne,e,Y,⟨od,es,G,e2,c⟩,r⟩:=x
  exact⟨ho _ d,z,ne,k _ _ (.inl rfl) e,Y,⟨od,es,G,k _ _ (.inr d) e2,c⟩,r⟩
 | own y=>obtain⟨ob,e⟩:=x;exact⟨ob,k _ _ (.inl rfl) e⟩
 | xd fs=>obtain⟨Y,⟨od,es,G,e,c⟩,r⟩:=x;exact⟨Y,⟨od,es,G,k _ _ (.inl rfl) e,c⟩,r⟩
 | rng lo hi=>obtain⟨t,u,v,e⟩:=x;exact⟨t,u,v,k _ _ (.inl rfl) e⟩
 | frz ob u ih=>obtain⟨e,q⟩:=x;exact⟨k _ _ (.inl rfl) e,ih q⟩
 | tbl ps =>
  have e:h.get? a=some { cls:=.none,data:=.fields ps }:=x
  show h'.get? a=some { cls:=.none,data:=.fields ps }
  exact k a _ (.inl rfl) e
 | met f y =>
  have e:h.get? a=some (fA (.ref f) (.ref y)):=x
  show h'.get? a=some (fA (.ref f) (.ref y))
  exact k a _ (.inl rfl) e
 | ext φ=>obtain⟨p,⟨o,e⟩,st⟩:=x;exact⟨st _ _ p λ o q=>k _ _ (.inl rfl) q,⟨o,k _ _ (.inl rfl) e⟩,st⟩
theorem HOk.lt (x:HOk P w H h)(e:H a=some o):a<h.objs.size:=(x a o e).lt
theorem HOk.fresh (x:HOk P w H h)(e:h.objs.size<=a):H a=none:=by
 cases q:H a with
 | none=>rfl
 | some u=>exact absurd (az (x.lt q) e) (bI _)
theorem HOk.kept (x:HOk P w H h)(k:∀ b u,h.get? b=some u->h'.get? b=some u):HOk P w H h':=λ a o e =>
 (x a o e).stay (λ b u _ q=>k b u q) (λ _ q=>q) λ _ _ q=>q
theorem HOk.laid (x:HOk P w H h)(k:∀ b u,h.get? b=some u->h'.get? b=some u)(hp:h.objs.size<=a)(new:ag2 P w (upd H a o) h' a o):HOk P w (upd H a o) h':=λ b u e=>by
 have hn:=x.fresh hp
 by_cases hb:b=a
 ·subst hb;rw[zm]at e;cases e;exact new
 ·rw[zd hb]at e
  exact(x b u e).stay (λ c v _ q=>k c v q) (λ c q=>by rw[zd (zC q hn)];exact q) λ c p q=>by rw[zd (zC q hn)];exact q
end
def Rd (H:Hp)(a:Addr)(u:HO):Prop:=H a=some u\/∃ o,H a=some (.frz o u)
theorem Rd.ok {P:aM}{w:World}{H:Hp}{h:Heap}{a:Addr}{u:HO}(r:Rd H a u)(x:HOk P w H h):ag2 P w H h a u:=by
 rcases r with r|⟨o,r⟩
 ·exact x a u r
 ·obtain⟨_,q⟩:=x a _ r
  exact q
noncomputable def Mut:Option HO->Prop
 | some (.lst _)=>True
 | some (.dK _)=>True
 | some (.dT _)=>True
 | some (.set _ _)=>True
 | some (.ins _ _ _)=>True
 | some (.ext _)=>True
 | _=>False
section
variable {P:aM} {w:World} {H:Hp} {h h':Heap} {x e:Addr} {o':HO}
theorem HOk.write (ok:HOk P w H h)(mu:Mut (H x))(Z:e=x\/H e=some (.own x))(k:∀ b u,b≠e->h.get? b=some u->h'.get? b=some u)(Y:∃ u,h'.get? e=some u)
  (new:ag2 P w (upd H x o') h' x o'):HOk P w (upd H x o') h':=λ b u q=>by
 have p:∀ c y,H c=some (.own y)->c≠x:=λ c y r z=>by subst z;rw[r]at mu;exact mu
 have G:∀ c J,H c=some (.tup J)->c≠x:=λ c J r z=>by subst z;rw[r]at mu;exact mu
 by_cases hb:b=x
 ·subst hb;rw[zm]at q;cases q;exact new
 ·rw[zd hb]at q
  by_cases hbe:b=e
  ·have q':H b=some (.own x):=by
    rcases Z with z|z
    ·exact absurd (hbe.trans z) hb
    ·rw[hbe];exact z
   rw[q]at q';cases q'
   obtain⟨v,hv⟩:=Y
   exact⟨v,by rw[hbe];exact hv⟩
  ·refine(ok b u q).stay (λ c v hc r=>k c v ?_ r) (λ c r=>by rw[zd (p c b r)];exact r) λ c J r=>by rw[zd (G c J r)];exact r
   rcases hc with rfl|hc
   ·exact hbe
   ·rintro rfl
    rcases Z with z|z
    ·exact p c b hc z
    ·rw[hc]at z;cases z;exact hb rfl
end
structure Un (fs ex:List Addr)(H H':Hp)(h h':Heap):Prop where
 keep:∀ b o,h.get? b=some o->H b=none->b ∉ fs->b ∉ ex->h'.get? b=some o
 slot:∀ b o,h.get? b=some o->H b=none->b∈fs->b ∉ ex->∃ sl,h'.get? b=some { o with slots:=sl }
 free:∀ b o,h.get? b=some o->H b=none->b ∉ ex->H' b=none
 there:∀ b o,h.get? b=some o->b ∉ ex->∃ o',h'.get? b=some o'
 tups:∀ b xs,H b=some (.tup xs)->H' b=some (.tup xs)
 frzs:∀ b o u,H b=some (.frz o u)->H' b=some (.frz o u)
 tbls:∀ b ps,H b=some (.tbl ps)->∃ more,H' b=some (.tbl (ps++more))
section
variable {fs fs' ex ex':List Addr} {H H1 H2:Hp} {h h1 h2 h':Heap} {a x e:Addr} {o:HO}
theorem Un.any (u:Un fs ex H H1 h h1){b:Addr}{ob:Obj}(q:h.get? b=some ob)(n:H b=none)(hx:b ∉ ex):∃ sl,h1.get? b=some { ob with slots:=sl }:=by
 by_cases hb:b∈fs
 ·exact u.slot b ob q n hb hx
 ·exact⟨ob.slots,u.keep b ob q n hb hx⟩
theorem Un.kept (k:∀ b u,h.get? b=some u->h'.get? b=some u):Un fs ex H H h h' :=
 ⟨λ b ob q _ _ _=>k b ob q,λ b ob q _ _ _=>⟨ob.slots,k b ob q⟩,λ _ _ _ n _=>n,λ b ob q _=>⟨ob,k b ob q⟩,λ _ _ q=>q,λ _ _ _ q=>q,λ _ ps q=>⟨#[],by rw[q];simp⟩⟩
theorem Un.refl:Un fs ex H H h h:=Un.kept λ _ _ q=>q
theorem Un.laid (k:∀ b u,h.get? b=some u->h'.get? b=some u)(hp:h.objs.size<=a)(hn:H a=none):Un fs ex H (upd H a o) h h' where
 keep:=λ b u q _ _ _=>k b u q
 slot:=λ b u q _ _ _=>⟨u.slots,k b u q⟩
 free:=λ b u q n _=>by rw[zd (aH (az (aJ q) hp))];exact n
 there:=λ b u q _=>⟨u,k b u q⟩
 tups:=λ b p q=>by rw[zd (zC q hn)];exact q
 frzs:=λ b u p q=>by rw[zd (zC q hn)];exact q
 tbls:=λ b ps q=>⟨#[],by rw[zd (zC q hn),q];simp⟩
theorem Un.write (mu:Mut (H x))(G:e=x\/H e=some (.own x))(k:∀ b u,b≠e->h.get? b=some u->h'.get? b=some u)(p:∃ u,h'.get? e=some u):Un fs ex H (upd H x o) h h':=by
 have hx:∀ b,H b=none->b≠x:=λ b n z=>by subst z;rw[n]at mu;exact mu
 have hb:∀ b,H b=none->b≠e:=λ b n z=>by
  subst z
  rcases G with r|r
  ·exact hx b n r
  ·rw[n]at r;cases r
 have y:∀ b u,H b=some u->¬ Mut (some u)->b≠x:=λ b u q nm z=>by subst z;rw[q]at mu;exact nm mu
 refine⟨λ b u q n _ _=>k b u (hb b n) q,λ b u q n _ _=>⟨u.slots,k b u (hb b n) q⟩,λ b u q n _=>by rw[zd (hx b n)];exact n,λ b u q _=>?_,
  λ b J q=>by rw[zd (y b _ q λ z=>z)];exact q,λ b u J q=>by rw[zd (y b _ q λ z=>z)];exact q,λ b ps q=>⟨#[],by rw[zd (y b _ q λ z=>z),q];simp⟩⟩
 by_cases hbe:b=e
 ·subst hbe;exact p
 ·exact⟨u,k b u hbe q⟩
end
noncomputable def trk (h:Heap)(H:Hp):List Addr:=(aw h.objs.size).filter λ a=>(H a).isSome
noncomputable def bh3 (h:Heap)(H:Hp):Heap:=PySem.W.hideAll h (trk h H)
theorem aV2 (h:Heap)(H:Hp):(bh3 h H).objs.size=h.objs.size:=PySem.W.hideAll_size _ _
theorem an3 {h:Heap}{H:Hp}{b:Addr}{o:Obj}(e:h.get? b=some o)(n:H b=none):(bh3 h H).get? b=some o :=
 PySem.W.hideAll_get _ e λ p=>by
  have q:(H b).isSome=true:=(gD.mp p).2
  rw[n]at q;simp at q
theorem bx7 {h:Heap}{H:Hp}{b:Addr}{o:Obj}(e:(bh3 h H).get? b=some o):h.get? b=some o/\H b=none:=by
 have e':h.get? b=some o:=PySem.W.of_hideAll (trk h H) e
 refine⟨e',?_⟩
 cases q:H b with
 | none=>rfl
 | some x =>
  have p:b∈trk h H:=gD.mpr ⟨cq.mpr (aJ e'),by simp[q]⟩
  have z:(bh3 h H).get? b=none:=PySem.W.hideAll_none (trk h H) p
  rw[z]at e;cases e
noncomputable def by2 (g h:Heap)(L:Addr):List (Addr×Obj):=(aw h.objs.size).filterMap λ a=>if a=L\/(g.get? a).isSome=true then none else(h.get? a).map λ o=>(a,o)
noncomputable def rest (g h:Heap)(L d:Addr):List (Addr×Obj):=(by2 g h L).filter λ p=>decide (p.1≠d)
structure Mod (K:ac)(mg:Str->Option Value)(base:Heap):Prop where
 kin:K.In base
 glob:base.Ns a7 mg
 blt:∃ mb,base.Ns f7 mb/\∀ x:Str,x ≠ "__name__"->mb x=bj x
 nolimit:base.NoLimit
structure Cx where
 prog:aM
 w:World
 K:ac
 mg:Str->Option Value
 base:Heap
 A:aX
 N:List Str
 s₀:af
 H₀:Hp
 env:Env
 outer:List Env
 stack:List Env
 ex:List Addr
 fn:Str->Bool
 calm:Bool
 pn:List (Addr×Obj)
 xe:Value->af->Prop
noncomputable def frs (l:List Env):List Addr:=l.filterMap (·.frame)
noncomputable abbrev Cx.fs (X:Cx):List Addr:=frs X.outer
def Vis (sc:Scope)(x:Str):Prop:=sc.names.lookup x=some .local\/sc.names.lookup x=some .cell\/sc.names.lookup x=some .free
def Loc (sc:Scope)(x:Str):Prop:=sc.names.lookup x=some .local\/sc.names.lookup x=some .cell
def Look (env:Env)(h:Heap)(m:Str->Option Value)(x:Str)(u:Value):Prop :=
 (env.kindOf x=some .local/\m x=some u)\/((env.kindOf x=some .cell\/env.kindOf x=some .free)/\∃ c,env.cells.lookup x=some c/\h.IsCell c (some u))
structure Cx.Ok (X:Cx):Prop where
 mod:Mod X.K X.mg X.base
 kind:X.env.scope.kind=.function
 glob:X.env.globals=a7
 blt:X.env.builtins=f7
 above:X.s₀.heap.objs.size<=X.env.locals
 inj:∀ x y c,X.env.cells.lookup x=some c->X.env.cells.lookup y=some c->x=y
 has:∀ x,(X.env.kindOf x=some .cell\/X.env.kindOf x=some .free)->∃ c,X.env.cells.lookup x=some c
 cab:∀ x c,X.fn x=true->X.env.cells.lookup x=some c->X.s₀.heap.objs.size<=c
 hd:X.calm=true->X.A.handled=none
 frames:X.A.frames=some X.stack
 stk:X.stack=X.outer\/(X.stack=X.env::X.outer/\X.env.frame=some X.env.locals)
 exf:∀ b∈X.ex,b≠X.env.locals/\∀ x c,X.env.cells.lookup x=some c->c≠b
 bs:∀ b o,X.base.get? b=some o->X.s₀.heap.get? b=some o/\X.H₀ b=none
 bsz:X.base.objs.size<=X.s₀.heap.objs.size
 noex:∀ b o,X.base.get? b=some o->b ∉ X.ex
 exfs:∀ b∈X.ex,b ∉ X.fs
 funs:X.s₀.heap.FunFrames X.base X.outer
 frf:∀ b∈X.fs,X.H₀ b=none
structure Inv (X:Cx)(pins:List (Addr×Obj))(σ:List (Option V))(H:Hp)(s:af):Prop where
 ok:X.Ok
 os:s.os=X.s₀.os
 bare:eU s.gens
 base:Un X.fs X.ex X.H₀ H X.s₀.heap s.heap
 loc:∃ m,s.heap.Ns X.env.locals m/\∀(i:Nat) (x:Str) (v:V),X.N[i]?=some x->σ[i]?=some (some v)->Vis X.env.scope x->∃ u,RelV v u/\Look X.env s.heap m x u
 cell:∀ x c,X.env.cells.lookup x=some c->∃ v,s.heap.IsCell c v
 free:H X.env.locals=none
 freeC:∀ x c,X.env.cells.lookup x=some c->H c=none
 pin:∀ p∈X.pn++pins,s.heap.get? p.1=some p.2/\H p.1=none/\p.1≠X.env.locals/\p.1 ∉ X.fs/\∀ v,p.2.data≠.cell v
 hok:HOk X.prog X.w H s.heap
 len:σ.length=X.N.length
section
variable {X:Cx} {pins:List (Addr×Obj)} {σ:List (Option V)} {H H':Hp} {s:af} {h':Heap}
theorem Cx.Ok.nofr (ok:X.Ok){b:Addr}{o:Obj}(e:X.base.get? b=some o):b ∉ X.fs:=λ hb=>by
 have:=(ok.funs.mem hb).1
 rw[e]at this;cases this
theorem Inv.bs (I:Inv X pins σ H s):∀ b o,X.base.get? b=some o->s.heap.get? b=some o/\H b=none:=λ b o e =>
 ⟨I.base.keep b o (I.ok.bs b o e).1 (I.ok.bs b o e).2 (I.ok.nofr e) (I.ok.noex b o e),I.base.free b o (I.ok.bs b o e).1 (I.ok.bs b o e).2 (I.ok.noex b o e)⟩
theorem Inv.bk (I:Inv X pins σ H s):∀ b o,X.base.get? b=some o->s.heap.get? b=some o:=λ b o e=>(I.bs b o e).1
theorem Inv.mod (I:Inv X pins σ H s):Mod X.K X.mg X.base:=I.ok.mod
theorem Inv.kIn (I:Inv X pins σ H s):X.K.In s.heap:=I.ok.mod.kin.keeps I.bk
theorem Inv.lt (I:Inv X pins σ H s):X.env.locals<s.heap.objs.size:=let⟨_,hn,_⟩:=I.loc;hn.lt
theorem Inv.sz (I:Inv X pins σ H s):X.s₀.heap.objs.size<=s.heap.objs.size:=ao I.ok.above (dG I.lt)
theorem Inv.nofs (I:Inv X pins σ H s){a:Addr}(h:s.heap.objs.size<=a):a ∉ X.fs:=λ hb=>by
 obtain⟨_,o,ho,_⟩:=I.ok.funs.mem hb
 exact absurd (az (aJ ho) (ao I.sz h)) (bI _)
theorem Inv.cne (I:Inv X pins σ H s):∀ x c,X.env.cells.lookup x=some c->c≠X.env.locals:=λ x c e z=>by
 obtain⟨v,o,ho,hd⟩:=I.cell x c e
 obtain⟨m,⟨G,es,y,h,p,_⟩,_⟩:=I.loc
 rw[z,h]at ho;cases ho;rw[p]at hd;cases hd
theorem Inv.funs (I:Inv X pins σ H s):s.heap.FunFrames X.base X.outer:=by
 have all:∀(l:List Env),(∀ b∈frs l,b∈X.fs)->X.s₀.heap.FunFrames X.base l->s.heap.FunFrames X.base l:=by
  intro l
  induction l with
  | nil=>intro _ _;trivial
  | cons env r ih =>
   intro hs hl
   obtain⟨hk,⟨L,o,p,hn,ho,hd⟩,y⟩:=hl
   have h:L∈X.fs:=hs L (by unfold frs;rw[bM,p];exact aB)
   obtain⟨sl,e⟩:=I.base.slot L o ho (I.ok.frf L h) h λ z=>I.ok.exfs L z h
   exact⟨hk,⟨L,_,p,hn,e,hd⟩,ih (λ b hb=>hs b (by unfold frs;rw[bM,p];exact aj _ hb)) y⟩
 exact all X.outer (λ _ hb=>hb) I.ok.funs
theorem Inv.stack (I:Inv X pins σ H s):s.heap.FunFrames X.base X.stack:=by
 rcases I.ok.stk with e|⟨e,h⟩
 ·rw[e];exact I.funs
 ·rw[e]
  obtain⟨m,hn,_⟩:=I.loc
  refine .cons (by rw[I.ok.kind];decide) h hn ?_ I.funs
  exact Heap.get?_none_of_le (ao I.ok.bsz I.ok.above)
theorem Inv.stkSub (I:Inv X pins σ H s):∀ b∈frs X.stack,b∈X.env.locals::X.fs:=λ b hb=>by
 rcases I.ok.stk with e|⟨e,h⟩
 ·rw[e]at hb;exact aj _ hb
 ·rw[e]at hb
  unfold frs at hb
  rw[bM,h]at hb
  exact hb
theorem Inv.stkFree (I:Inv X pins σ H s):∀ b∈frs X.stack,H b=none:=λ b hb=>by
 rcases aE.mp (I.stkSub b hb)with e|hb
 ·rw[e];exact I.free
 ·obtain⟨_,o,ho,_⟩:=I.ok.funs.mem hb
  exact I.base.free b o ho (I.ok.frf b hb) λ z=>I.ok.exfs b z hb
theorem Inv.step {g':Array GenState}{t':Nat}{d':Drawn}{ch:List Addr}(I:Inv X pins σ H s)
  (y:∀ b∈ch,(b∈X.ex\/X.s₀.heap.objs.size<=b)/\b≠X.env.locals/\(∀ x c,X.env.cells.lookup x=some c->c≠b)/\∀ p∈X.pn++pins,p.1≠b)
  (keep:∀ b o,b≠X.env.locals->b ∉ X.fs->b ∉ ch->s.heap.get? b=some o->H b=none->h'.get? b=some o)
  (slot:∀ b o,b≠X.env.locals->b∈X.fs->b ∉ ch->s.heap.get? b=some o->H b=none->∃ sl,h'.get? b=some { o with slots:=sl }) (free:∀ b o,b ∉ ch->s.heap.get? b=some o->H b=none->H' b=none)
  (there:∀ b o,b ∉ ch->s.heap.get? b=some o->∃ Z,h'.get? b=some Z)
  (tups:∀ b Y,H b=some (.tup Y)->H' b=some (.tup Y)) (frzs:∀ b o u,H b=some (.frz o u)->H' b=some (.frz o u)) (tbls:∀ b ps,H b=some (.tbl ps)->∃ more,H' b=some (.tbl (ps++more)))
  (ns:∀ m,s.heap.Ns X.env.locals m->h'.Ns X.env.locals m) (hok:HOk X.prog X.w H' h') (hg:eU g') :
  Inv X pins σ H' { s with heap:=h',gens:=g',drawn:=d',toks:=t' }:=by
 have a0:∀ b o,X.s₀.heap.get? b=some o->b≠X.env.locals:=λ b o e=>aH (az (aJ e) I.ok.above)
 have J:∀ b o,X.s₀.heap.get? b=some o->b ∉ X.ex->b ∉ ch:=λ b o e hx hb=>by
  rcases(y b hb).1 with z|z
  ·exact hx z
  ·exact absurd (az (aJ e) z) (bI _)
 have G:∀ x c,X.env.cells.lookup x=some c->∀ v,s.heap.IsCell c v->h'.IsCell c v:=λ x c e v ⟨o,ho,hd⟩=>by
  have h:c ∉ ch:=λ z=>(y c z).2.2.1 x c e rfl
  by_cases hc:c∈X.fs
  ·obtain⟨sl,q⟩:=slot c o (I.cne x c e) hc h ho (I.freeC x c e)
   exact⟨_,q,hd⟩
  ·exact⟨o,keep c o (I.cne x c e) hc h ho (I.freeC x c e),hd⟩
 refine⟨I.ok,I.os,hg,⟨λ b o e n hb hx=>?_,λ b o e n hb hx=>?_,λ b o e n hx=>?_,λ b o e hx=>?_,λ b Y e=>tups b Y (I.base.tups b Y e),λ b o Y e=>frzs b o Y (I.base.frzs b o Y e),λ b ps e=>?_⟩,?_,λ x c e=>?_,?_,λ x c e=>?_,λ p hp=>?_,hok,I.len⟩
 ·exact keep b o (a0 b o e) hb (J b o e hx) (I.base.keep b o e n hb hx) (I.base.free b o e n hx)
 ·obtain⟨sl,e1⟩:=I.base.slot b o e n hb hx
  obtain⟨a1,e2⟩:=slot b _ (a0 b o e) hb (J b o e hx) e1 (I.base.free b o e n hx)
  exact⟨a1,e2⟩
 ·obtain⟨Z,e1⟩:=I.base.there b o e hx
  exact free b Z (J b o e hx) e1 (I.base.free b o e n hx)
 ·obtain⟨Z,e1⟩:=I.base.there b o e hx
  exact there b Z (J b o e hx) e1
 ·obtain⟨m1,e1⟩:=I.base.tbls b ps e
  obtain⟨m2,e2⟩:=tbls b _ e1
  exact⟨m1++m2,by rw[e2,iI]⟩
 ·obtain⟨m,hn,hl⟩:=I.loc
  refine⟨m,ns m hn,λ i x v e1 e2 e3=>?_⟩
  obtain⟨u,r,l⟩:=hl i x v e1 e2 e3
  refine⟨u,r,?_⟩
  rcases l with l|⟨k,c,e,z⟩
  ·exact .inl l
  ·exact .inr ⟨k,c,e,G x c e _ z⟩
 ·obtain⟨v,z⟩:=I.cell x c e
  exact⟨v,G x c e v z⟩
 ·obtain⟨m,⟨o,_,_,ho,_⟩,_⟩:=I.loc
  exact free _ o (λ z=>(y _ z).2.1 rfl) ho I.free
 ·obtain⟨v,o,ho,hd⟩:=I.cell x c e
  exact free c o (λ z=>(y c z).2.2.1 x c e rfl) ho (I.freeC x c e)
 ·obtain⟨e,n,ne,nf,d⟩:=I.pin p hp
  have h:p.1 ∉ ch:=λ z=>(y p.1 z).2.2.2 p hp rfl
  exact⟨keep p.1 p.2 ne nf h e n,free p.1 p.2 h e n,ne,nf,d⟩
theorem Inv.un {t':Nat}(I:Inv X pins σ H s)(u:Un X.fs [] H H' s.heap h')(hok:HOk X.prog X.w H' h'):Inv X pins σ H' { s with heap:=h',toks:=t' }:=by
 obtain⟨m,⟨o,es,Z,ho,r⟩,_⟩:=id I.loc
 obtain⟨sl,G⟩:=u.any ho I.free (by simp)
 exact I.step (g':=s.gens) (d':=s.drawn) (ch:=[]) (λ _ z=>nomatch z) (λ b o _ hb _ e n=>u.keep b o e n hb (by simp)) (λ b o _ hb _ e n=>u.slot b o e n hb (by simp)) (λ b o _ e n=>u.free b o e n (by simp)) (λ b o _ e=>u.there b o e (by simp)) u.tups u.frzs u.tbls (λ m' J=>by
  obtain⟨o',p,y,h,Y⟩:=J
  rw[ho]at h;cases h
  exact⟨_,p,y,G,Y⟩) hok I.bare
theorem Inv.call {g':Array GenState}{t':Nat}{d':Drawn}{ch:List Addr}(I:Inv X pins σ H s)(u:Un (frs X.stack) ch H H' s.heap h')(hok:HOk X.prog X.w H' h')(hg:eU g')
  (h:∀ b∈ch,(b∈X.ex\/X.s₀.heap.objs.size<=b)/\b≠X.env.locals/\(∀ x c,X.env.cells.lookup x=some c->c≠b)/\∀ p∈X.pn++pins,p.1≠b) :
  Inv X pins σ H' { s with heap:=h',gens:=g',drawn:=d',toks:=t' }:=by
 obtain⟨m,⟨o,es,ep,ho,r⟩,_⟩:=id I.loc
 obtain⟨sl,Y⟩:=u.any ho I.free λ z=>(h _ z).2.1 rfl
 exact I.step (ch:=ch) h (λ b o Y hb hc e n=>u.keep b o e n (λ z=>(aE.mp (I.stkSub b z)).elim Y hb) hc) (λ b o _ _ hc e n=>u.any e n hc) (λ b o hc e n=>u.free b o e n hc) (λ b o hc e=>u.there b o e hc) u.tups u.frzs u.tbls (λ m' Z=>by
  obtain⟨o',G,J,y,r'⟩:=Z
  rw[ho]at y;cases y
  exact⟨_,G,J,Y,r'⟩) hok hg
theorem Inv.turned {t':Nat}{it:Addr}(I:Inv X pins σ H s)(k:∀ b o,b≠it->s.heap.get? b=some o->h'.get? b=some o)(hn:H it=none)(y:it≠X.env.locals)
  (Y:it∈X.ex\/X.s₀.heap.objs.size<=it) (J:∀ x c,X.env.cells.lookup x=some c->c≠it) (h3:∀ p∈X.pn++pins,p.1≠it):Inv X pins σ H { s with heap:=h',toks:=t' }:=by
 have h:∀ b u,H b=some u->b≠it:=λ b u e z=>by rw[z,hn]at e;cases e
 refine I.step (g':=s.gens) (d':=s.drawn) (ch:=[it]) (λ b hb=>?_) (λ b o _ _ hc e _=>k b o (λ z=>hc (by simp[z])) e) (λ b o _ _ hc e _=>⟨o.slots,k b o (λ z=>hc (by simp[z])) e⟩) (λ _ _ _ _ n=>n)
  (λ b o hc e=>⟨o,k b o (λ z=>hc (by simp[z])) e⟩) (λ _ _ e=>e) (λ _ _ _ e=>e) (λ b ps e=>⟨#[],by rw[e];simp⟩) (λ m Z=>?_) (λ b u e=>?_) I.bare
 ·have e:b=it:=by simpa using hb
  subst e
  exact⟨Y,y,J,h3⟩
 ·obtain⟨o,es,G,ho,r⟩:=Z
  exact⟨o,es,G,k _ o (cy y) ho,r⟩
 ·refine(I.hok b u e).stay (λ c v hc q=>k c v ?_ q) (λ _ q=>q) λ _ _ q=>q
  rcases hc with z|z
  ·rw[z];exact h b u e
  ·exact h c _ z
theorem Inv.tok (I:Inv X pins σ H s)(t:Nat):Inv X pins σ H { s with toks:=t }:=I.un (h':=s.heap) (t':=t) Un.refl I.hok
theorem Inv.kept {t':Nat}(I:Inv X pins σ H s)(k:∀ b u,s.heap.get? b=some u->h'.get? b=some u):Inv X pins σ H { s with heap:=h',toks:=t' }:=I.un (Un.kept k) (I.hok.kept k)
theorem Inv.laid {a:Addr}{o:HO}{t':Nat}(I:Inv X pins σ H s)(k:∀ b u,s.heap.get? b=some u->h'.get? b=some u)(hp:s.heap.objs.size<=a)(new:ag2 X.prog X.w (upd H a o) h' a o) :
  Inv X pins σ (upd H a o) { s with heap:=h',toks:=t' }:=I.un (Un.laid k hp (I.hok.fresh hp)) (I.hok.laid k hp new)
theorem Inv.write {x e:Addr}{o:HO}{t':Nat}(I:Inv X pins σ H s)(mu:Mut (H x))(p:e=x\/H e=some (.own x))(k:∀ b u,b≠e->s.heap.get? b=some u->h'.get? b=some u)(h:∃ u,h'.get? e=some u)
  (new:ag2 X.prog X.w (upd H x o) h' x o):Inv X pins σ (upd H x o) { s with heap:=h',toks:=t' }:=I.un (Un.write mu p k h) (I.hok.write mu p k h new)
theorem Inv.pins_of {y:List (Addr×Obj)}(I:Inv X pins σ H s)(h:∀ p∈y,s.heap.get? p.1=some p.2/\H p.1=none/\p.1≠X.env.locals/\p.1 ∉ X.fs/\∀ v,p.2.data≠.cell v):Inv X y σ H s :=
 ⟨I.ok,I.os,I.bare,I.base,I.loc,I.cell,I.free,I.freeC,λ p hp=>(cB.mp hp).elim (λ z=>I.pin p (cD _ z)) (h p),I.hok,I.len⟩
theorem az2 {N:List Str}(hN:N.Nodup){i j:Nat}{x:Str}(a:N[i]?=some x)(b:N[j]?=some x):i=j:=by
 obtain⟨p,e1⟩:=ae.mp a
 obtain⟨h,e2⟩:=ae.mp b
 exact(List.getElem_inj hN).mp (e1.trans e2.symm)
theorem aE1 {M:Model}{A:aX}{E:Value->af->Prop}{i:Nat}{x:Str}{v:V}{u:Value}{Q:Unit->af->Prop}(I:Inv X pins σ H s)(hN:X.N.Nodup)(hi:X.N[i]?=some x)(hx:Loc X.env.scope x)(r:RelV v u)
  (h:∀ s',Inv X pins (σ.set i (some v)) H s'->(∃ a,dH a s.heap s'.heap/\(a=X.env.locals\/X.env.cells.lookup x=some a))->Q () s') (hf:X.fn x=true\/X.env.scope.names.lookup x=some .local:=by first|exact .inl rfl|exact .inr rfl|assumption):wpAny M A (ib X.env x u) Q E s:=by
 obtain⟨m,hn,hl⟩:=id I.loc
 have a1:(X.env.scope.kind==.class||(X.env.scope.kind==.module&&X.env.locals != X.env.globals))=false:=by rw[I.ok.kind];rfl
 have a2:i < σ.length:=by rw[I.len];exact(ae.mp hi).1
 have cne:=I.cne
 have G:∀ {a:Addr} {h':Heap},(∃ o,s.heap.get? a=some o/\H a=none)->dH a s.heap h'->HOk X.prog X.w H h':=λ {a h'} ha hs b ob e=>by
  obtain⟨_,_,J⟩:=ha
  refine(I.hok b ob e).stay (λ c w' hc q=>(hs.2 c ?_).trans q) (λ _ q=>q) λ _ _ q=>q
  rintro rfl
  rcases hc with rfl|hc
  ·rw[J]at e;cases e
  ·rw[J]at hc;cases hc
 rcases hx with hk|hk
 ·refine gG hk hn (λ h' a4 hs=>?_) a1
  obtain⟨oL,_,_,a5,_⟩:=id hn
  refine h _ ⟨I.ok,I.os,I.bare,⟨λ b o e n hb hx=>?_,λ b o e n hb hx=>?_,I.base.free,λ b o e hx=>?_,I.base.tups,I.base.frzs,I.base.tbls⟩,⟨_,a4,λ j y v' e1 e2 e3=>?_⟩,λ y c e=>?_,I.free,I.freeC,λ p hp=>?_,G ⟨oL,a5,I.free⟩ hs,by simpa using I.len⟩ ⟨_,hs,.inl rfl⟩
  ·exact(hs.2 b (aH (az (aJ e) I.ok.above))).trans (I.base.keep b o e n hb hx)
  ·obtain⟨sl,e1⟩:=I.base.slot b o e n hb hx
   exact⟨sl,(hs.2 b (aH (az (aJ e) I.ok.above))).trans e1⟩
  ·obtain⟨o',e1⟩:=I.base.there b o e hx
   exact⟨o',(hs.2 b (aH (az (aJ e) I.ok.above))).trans e1⟩
  ·by_cases hj:j=i
   ·subst hj
    rw[hi]at e1;cases e1
    rw[aZ a2]at e2
    cases e2
    exact⟨u,r,.inl ⟨hk,by simp⟩⟩
   ·rw[be (cy hj)]at e2
    obtain⟨u',r',q⟩:=hl j y v' e1 e2 e3
    refine⟨u',r',?_⟩
    rcases q with⟨k,e⟩|⟨k,c,e,z⟩
    ·refine .inl ⟨k,?_⟩
     have:y≠x:=λ e=>hj (az2 hN e1 (e▸hi))
     simp[this,e]
    ·exact .inr ⟨k,c,e,z.sameBut hs (cne y c e)⟩
  ·obtain⟨w',z⟩:=I.cell y c e
   exact⟨w',z.sameBut hs (cne y c e)⟩
  ·obtain⟨e,n,ne,nf,d⟩:=I.pin p hp
   exact⟨(hs.2 p.1 ne).trans e,n,ne,nf,d⟩
 ·have Y:X.fn x=true:=by
   rcases hf with z|z
   ·exact z
   ·rw[z]at hk;cases hk
  obtain⟨c,hc⟩:=I.ok.has x (.inl hk)
  obtain⟨w',z⟩:=I.cell x c hc
  refine gR I.ok.kind hk hc z (λ h' a0 hs=>?_)
  obtain⟨oc,a3,Z⟩:=id z
  refine h { s with heap:=h' } ⟨I.ok,I.os,I.bare,⟨λ b o e n hb hx=>?_,λ b o e n hb hx=>?_,I.base.free,λ b o e hx=>?_,I.base.tups,I.base.frzs,I.base.tbls⟩,⟨m,hn.sameBut hs (cy (cne x c hc)),λ j y v' e1 e2 e3=>?_⟩,λ y c' e=>?_,I.free,I.freeC,λ p hp=>?_,G ⟨oc,a3,I.freeC x c hc⟩ hs,by simpa using I.len⟩ ⟨c,hs,.inr hc⟩
  ·exact(hs.2 b (aH (az (aJ e) (I.ok.cab x c Y hc)))).trans (I.base.keep b o e n hb hx)
  ·obtain⟨sl,e1⟩:=I.base.slot b o e n hb hx
   exact⟨sl,(hs.2 b (aH (az (aJ e) (I.ok.cab x c Y hc)))).trans e1⟩
  ·obtain⟨o',e1⟩:=I.base.there b o e hx
   exact⟨o',(hs.2 b (aH (az (aJ e) (I.ok.cab x c Y hc)))).trans e1⟩
  ·by_cases hj:j=i
   ·subst hj
    rw[hi]at e1;cases e1
    rw[aZ a2]at e2
    cases e2
    exact⟨u,r,.inr ⟨.inl hk,c,hc,a0⟩⟩
   ·rw[be (cy hj)]at e2
    obtain⟨u',r',q⟩:=hl j y v' e1 e2 e3
    refine⟨u',r',?_⟩
    rcases q with q|⟨k,c',e,z'⟩
    ·exact .inl q
    ·refine .inr ⟨k,c',e,z'.sameBut hs ?_⟩
     rintro rfl
     exact hj (az2 hN e1 (I.ok.inj _ _ _ e hc▸hi))
  ·by_cases hcc:c'=c
   ·subst hcc;exact⟨_,a0⟩
   ·obtain⟨w2,z2⟩:=I.cell y c' e
    exact⟨w2,z2.sameBut hs hcc⟩
  ·obtain⟨e,n,ne,nf,d⟩:=I.pin p hp
   refine⟨(hs.2 p.1 ?_).trans e,n,ne,nf,d⟩
   intro q
   rw[q,a3]at e
   have q':oc=p.2:=aF e
   exact d w' (by rw[<-q'];exact Z)
theorem an5 {M:Model}{A:aX}{E:Value->af->Prop}{i:Nat}{x:Str}{v:V}{u:Value}{Q:Unit->af->Prop}(I:Inv X pins σ H s)(hN:X.N.Nodup)(y:X.N[i]?=some x)(hx:Loc X.env.scope x)(r:RelV v u)
  (h:∀ s',Inv X pins (σ.set i (some v)) H s'->Q () s') (G:X.fn x=true\/X.env.scope.names.lookup x=some .local:=by first|exact .inl rfl|exact .inr rfl|assumption):wpAny M A (ib X.env x u) Q E s :=
 aE1 I hN y hx r (λ s' p _=>h s' p) G
theorem Inv.call' {s':af}{ch:List Addr}(I:Inv X pins σ H s)(ho:s'.os=s.os)(u:Un (frs X.stack) ch H H' s.heap s'.heap)(hok:HOk X.prog X.w H' s'.heap)(G:eU s'.gens)
  (h:∀ b∈ch,(b∈X.ex\/X.s₀.heap.objs.size<=b)/\b≠X.env.locals/\(∀ x c,X.env.cells.lookup x=some c->c≠b)/\∀ p∈X.pn++pins,p.1≠b):Inv X pins σ H' s':=by
 obtain⟨h',g',d',t',y⟩:=s'
 have e:y=s.os:=ho
 subst e
 exact I.call (g':=g') (t':=t') (d':=d') u hok G h
end
abbrev XK:=Value->Option Addr->Hp->Prop
noncomputable abbrev St:=List (Option V)
abbrev VK:=V->Hp->Prop
abbrev TE:=St->Hp->VK->Prop
abbrev TT:=St->Hp->(Bool->Hp->Prop)->Prop
abbrev TA:=St->Hp->(List V->Hp->Prop)->Prop
structure Ends where
 nx:St->Hp->Prop
 rt:VK
 bk:St->Hp->Prop:=λ _ _=>False
 ct:St->Hp->Prop:=λ _ _=>False
abbrev TS:=Ends->St->Hp->Prop
def EP (X:Cx)(pins:List (Addr×Obj))(σ:St)(Q:VK)(u:Value)(s':af):Prop:=∃ v H',Inv X pins σ H' s'/\RelV v u/\Q v H'
def TP (X:Cx)(pins:List (Addr×Obj))(σ:St)(Q:Bool->Hp->Prop)(b:Bool)(s':af):Prop:=∃ H',Inv X pins σ H' s'/\Q b H'
def AP (X:Cx)(pins:List (Addr×Obj))(σ:St)(Q:List V->Hp->Prop)(us:List Value)(s':af):Prop:=∃ vs H',Inv X pins σ H' s'/\Vals vs us/\Q vs H'
def SP (X:Cx)(pins:List (Addr×Obj))(D:Ends)(f:Flow)(s':af):Prop :=
 match f with
 | .next=>∃ σ' H',Inv X pins σ' H' s'/\D.nx σ' H'
 | .brk=>∃ σ' H',Inv X pins σ' H' s'/\D.bk σ' H'
 | .cont=>∃ σ' H',Inv X pins σ' H' s'/\D.ct σ' H'
 | .ret u=>∃ v σ' H',Inv X pins σ' H' s'/\RelV v u/\D.rt v H'
def PE (X:Cx)(e:Expr)(t:TE):Prop :=
 ∀(pins:List (Addr×Obj)) (s:af) (σ:St) (H:Hp) (Q:VK),Inv X pins σ H s->t σ H Q->wpAny (model X.prog X.w) X.A (eval e X.env) (EP X pins σ Q) X.xe s
def PT (X:Cx)(e:Expr)(t:TT):Prop :=
 ∀(pins:List (Addr×Obj)) (s:af) (σ:St) (H:Hp) (Q:Bool->Hp->Prop),Inv X pins σ H s->t σ H Q->wpAny (model X.prog X.w) X.A (dv e X.env (eval e X.env)) (TP X pins σ Q) X.xe s
def PW (X:Cx)(e:Expr)(t:TT):Prop :=
 ∀(whole:Sem Value) (pins:List (Addr×Obj)) (s:af) (σ:St) (H:Hp) (Q:Bool->Hp->Prop),Inv X pins σ H s->t σ H Q->wpAny (model X.prog X.w) X.A (dv e X.env whole) (TP X pins σ Q) X.xe s
theorem PW.pt {X:Cx}{e:Expr}{t:TT}(h:PW X e t):PT X e t:=h _
def PA (X:Cx)(es:List Expr)(t:TA):Prop :=
 ∀(pos:Pos) (pins:List (Addr×Obj)) (s:af) (σ:St) (H:Hp) (Q:List V->Hp->Prop),Inv X pins σ H s->t σ H Q->wpAny (model X.prog X.w) X.A (spliced (dI pos (bp es X.env))) (AP X pins σ Q) X.xe s
def PS (X:Cx)(st:Stmt)(t:TS):Prop :=
 ∀(pins:List (Addr×Obj)) (s:af) (σ:St) (H:Hp) (D:Ends),Inv X pins σ H s->t D σ H->wpAny (model X.prog X.w) X.A (exec st X.env) (SP X pins D) X.xe s
def PSs (X:Cx)(st:List Stmt)(t:TS):Prop :=
 ∀(pins:List (Addr×Obj)) (s:af) (σ:St) (H:Hp) (D:Ends),Inv X pins σ H s->t D σ H->wpAny (model X.prog X.w) X.A (execs st X.env) (SP X pins D) X.xe s
theorem thn {α:Type}{t:Sem α}{Q p:α->af->Prop}{M:Model}{A:aX}{E:Value->af->Prop}{s:af}(h:wpAny M A t Q E s)(y:∀ a s,Q a s->p a s):wpAny M A t p E s:=bz h y λ _ _ x=>x
section
variable {X:Cx}
theorem bin {a b:Expr}{Y tb:TE}(ha:PE X a Y)(hb:PE X b tb){p:List (Addr×Obj)}{s:af}{σ:St}{H:Hp}{R:V->V->Hp->Prop}(I:Inv X p σ H s)(h:Y σ H λ x J=>tb σ J λ y G=>R x y G)
  {α:Type} {Q:α->af->Prop} {f:Value->Value->Sem α}
  (hf:∀ v u s2 x y G,Inv X p σ G s2->RelV x v->RelV y u->R x y G->wpAny (model X.prog X.w) X.A (f v u) Q X.xe s2) :
  wpAny (model X.prog X.w) X.A (eval a X.env) (λ v s₁=>wpAny (model X.prog X.w) X.A (eval b X.env) (λ u Z=>wpAny (model X.prog X.w) X.A (f v u) Q X.xe Z) X.xe s₁) X.xe s:=by
 refine thn (ha p s σ H _ I h) λ v s1 ⟨x,J,I1,r1,q1⟩=>?_
 refine thn (hb p s1 σ J _ I1 q1) λ u s2 ⟨y,G,I2,r2,q2⟩=>?_
 exact hf v u s2 x y G I2 r1 r2 q2
def bx6 (i:Nat):TE:=λ σ H Q=>∃ v,σ[i]?=some (some v)/\Q v H
def tC (v:V):TE:=λ _ H Q=>Q v H
theorem aM4 {i:Nat}{x:Str}{pos:Pos}(hN:X.N[i]?=some x)(hv:Vis X.env.scope x)(hd:(x==("__debug__":Str))=false:=by decide)(y:(x==("__classdict__":Str))=false:=by decide):PE X (.Name x pos) (bx6 i):=by
 intro p s σ H Q I h
 obtain⟨v,e,h⟩:=h
 obtain⟨m,hn,hl⟩:=I.loc
 obtain⟨u,r,l⟩:=hl i x v hN e hv
 have fin:EP X p σ Q u s:=⟨v,H,I,r,h⟩
 rcases l with⟨hk,G⟩|⟨hk,c,hc,hcell⟩
 ·exact km (wpAny_loadName_local I.ok.kind hk hn G fin) hd
 ·rcases hk with hk|hk
  ·exact km (wpAny_loadName_cell I.ok.kind hk hc hcell fin) hd
  ·exact km (wpAny_loadName_free I.ok.kind hk hc hcell fin y) hd
theorem bT5 {i j pos}:PE X (.Constant (.int i) j pos) (tC (.int i)):=λ _ _ _ H _ I h=>wpAny_Constant_int ⟨.int i,H,I.tok _,⟨_,rfl⟩,h⟩
theorem bP8 {b j pos}:PE X (.Constant (.bool b) j pos) (tC (.bl b)):=λ _ _ _ H _ I h=>Constant_bool ⟨.bl b,H,I,rfl,h⟩
theorem bT2 {j pos}:PE X (.Constant .none j pos) (tC .non):=λ _ _ _ H _ I h=>Constant_none ⟨.non,H,I,rfl,h⟩
theorem br1 {x j pos}:PE X (.Constant (.str x) j pos) (tC (.str x)):=λ _ _ _ H _ I h=>Calls.Constant_str ⟨.str x,H,I.tok _,⟨_,rfl⟩,h⟩
def Gl (X:Cx)(x:Str):Prop:=X.env.kindOf x=some .globalImplicit
theorem ay3 {E:Value->af->Prop}{p:List (Addr×Obj)}{s:af}{σ:St}{H:Hp}{x:Str}{u:Value}{pos:Pos}{Q:Value->af->Prop}(I:Inv X p σ H s)(G:Gl X x)(y:X.mg x=some u)(h:Q u s)
  (hd:(x==("__debug__":Str))=false:=by decide):wpAny (model X.prog X.w) X.A (eval (.Name x pos) X.env) Q E s :=
 fc I.ok.kind G (Calls.loadGlobal_global (by rw[I.ok.glob];exact I.mod.glob.keeps I.bk) y h) hd
theorem aL9 {E:Value->af->Prop}{p:List (Addr×Obj)}{s:af}{σ:St}{H:Hp}{x:Str}{u:Value}{pos:Pos}{Q:Value->af->Prop}(I:Inv X p σ H s)(J:Gl X x)(Y:X.mg x=none)(hv:bj x=some u)(h:Q u s)
  (hn:x ≠ "__name__":=by decide) (hd:(x==("__debug__":Str))=false:=by decide):wpAny (model X.prog X.w) X.A (eval (.Name x pos) X.env) Q E s:=by
 obtain⟨Z,G,y⟩:=I.mod.blt
 exact fc I.ok.kind J (Calls.loadGlobal_builtin (by rw[I.ok.glob];exact I.mod.glob.keeps I.bk) Y (by rw[I.ok.blt];exact G.keeps I.bk) ((y x hn).trans hv) h) hd
theorem ao9 {x:Str}{v:V}{u:Value}{pos:Pos}(y:Gl X x)(p:X.mg x=some u)(r:RelV v u)(hd:(x==("__debug__":Str))=false:=by decide):PE X (.Name x pos) (tC v) :=
 λ _ _ _ H _ I h=>ay3 I y p ⟨v,H,I,r,h⟩ hd
theorem bu6 {x:Str}{v:V}{u:Value}{pos:Pos}(y:Gl X x)(p:X.mg x=none)(hv:bj x=some u)(r:RelV v u)(hn:x ≠ "__name__":=by decide)(hd:(x==("__debug__":Str))=false:=by decide):PE X (.Name x pos) (tC v) :=
 λ _ _ _ H _ I h=>aL9 I y p hv ⟨v,H,I,r,h⟩ hn hd
variable {a b:Expr} {ta tb:TE} {pos:Pos}
def tB (t:TE):TT:=λ σ H Q=>t σ H λ x H1=>∃ c,x=.bl c/\Q c H1
theorem bb2 {e:Expr}{t:TE}(h:PE X e t)(G:∀ p,dv e X.env p=(do let v <- p;standAt e.pos;ka [v] (truthy v)):=by intro _;rfl):PT X e (tB t):=by
 intro y s σ H Q I hw
 refine isTrue_plain (thn (h y s σ H _ I hw) λ v s1 ⟨x,Y,J,r1,Z⟩=>?_) (G _)
 obtain⟨d,rfl,q⟩:=Z
 cases r1
 exact cE ⟨Y,J,q⟩
variable {tA tB':TT} {rest:List Expr}
def ci3 (t u:TT):TT:=λ σ H Q=>t σ H λ c H1=>if c=true then u σ H1 Q else Q false H1
def tOr (t u:TT):TT:=λ σ H Q=>t σ H λ c H1=>if c=true then Q true H1 else u σ H1 Q
def ck9 (t:TT):TT:=λ σ H Q=>t σ H λ c H1=>Q (!c) H1
theorem bF3 (ha:PT X a tA):PW X (.BoolOp .And [a] pos) tA:=by
 intro y p s σ H Q I h
 refine isTrue_and (thn (ha p s σ H Q I h) λ c s1 e=>?_)
 cases c with
 | true=>exact isTrue_and_nil e
 | false=>exact e
theorem br6 (ha:PT X a tA):PW X (.BoolOp .Or [a] pos) tA:=by
 intro y p s σ H Q I h
 refine isTrue_or (thn (ha p s σ H Q I h) λ c s1 e=>?_)
 cases c with
 | false=>exact isTrue_or_nil e
 | true=>exact e
theorem bs9 (ha:PT X a tA)(hb:PW X (.BoolOp .And (b::rest) pos) tB'):PW X (.BoolOp .And (a::b::rest) pos) (ci3 tA tB'):=by
 intro Y p s σ H Q I h
 refine isTrue_and (thn (ha p s σ H _ I h) λ c s1 ⟨G,y,J⟩=>?_)
 cases c with
 | true=>exact hb Y p s1 σ G Q y J
 | false=>exact⟨G,y,J⟩
theorem bE7 (ha:PT X a tA)(hb:PW X (.BoolOp .Or (b::rest) pos) tB'):PW X (.BoolOp .Or (a::b::rest) pos) (tOr tA tB'):=by
 intro Y p s σ H Q I h
 refine isTrue_or (thn (ha p s σ H _ I h) λ c s1 ⟨G,y,J⟩=>?_)
 cases c with
 | true=>exact⟨G,y,J⟩
 | false=>exact hb Y p s1 σ G Q y J
theorem bs0 (ha:PT X a tA):PT X (.UnaryOp .Not a pos) (ck9 tA):=by
 intro p s σ H Q I h
 exact isTrue_not (ha p s σ H (λ c y=>Q (!c) y) I h)
def bS0 (ta tb:TE):TE:=λ σ H Q=>ta σ H λ x H1=>∃ c,x=.bl c/\if c=true then tb σ H1 Q else Q (.bl false) H1
def cl4 (ta tb:TE):TE:=λ σ H Q=>ta σ H λ x H1=>∃ c,x=.bl c/\if c=true then Q (.bl true) H1 else tb σ H1 Q
def bM5 (ta:TE):TE:=λ σ H Q=>ta σ H λ x H1=>∃ c,x=.bl c/\Q (.bl (!c)) H1
theorem be6 {op}{t:TE}(h:PE X a t):PE X (.BoolOp op [a] pos) t:=λ p s σ H Q I hw=>BoolOp_one (h p s σ H Q I hw)
theorem bq4 (ha:PE X a ta)(hb:PE X (.BoolOp .And (b::rest) pos) tb):PE X (.BoolOp .And (a::b::rest) pos) (bS0 ta tb):=by
 intro p s σ H Q I h
 refine BoolOp_and (thn (ha p s σ H _ I h) λ v s1 ⟨x,J,G,r1,y⟩=>?_)
 obtain⟨c,rfl,y⟩:=y
 cases r1
 refine cE ?_
 cases c with
 | true=>exact hb p s1 σ J Q G y
 | false=>exact⟨.bl false,J,G,rfl,y⟩
theorem bu7 (ha:PE X a ta)(hb:PE X (.BoolOp .Or (b::rest) pos) tb):PE X (.BoolOp .Or (a::b::rest) pos) (cl4 ta tb):=by
 intro p s σ H Q I h
 refine BoolOp_or (thn (ha p s σ H _ I h) λ v s1 ⟨x,J,G,r1,y⟩=>?_)
 obtain⟨c,rfl,y⟩:=y
 cases r1
 refine cE ?_
 cases c with
 | false=>exact hb p s1 σ J Q G y
 | true=>exact⟨.bl true,J,G,rfl,y⟩
theorem br3 (ha:PE X a ta):PE X (.UnaryOp .Not a pos) (bM5 ta):=by
 intro p s σ H Q I h
 refine UnaryOp_ (thn (ha p s σ H _ I h) λ v s1 ⟨x,J,G,r1,y⟩=>?_)
 obtain⟨c,rfl,y⟩:=y
 cases r1
 exact not_of (cE ⟨.bl (!c),J,G,rfl,y⟩)
def tIf (t:TT)(ta tb:TE):TE:=λ σ H Q=>t σ H λ c H1=>if c=true then ta σ H1 Q else tb σ H1 Q
theorem bl7 {c:Expr}(hc:PT X c tA)(ha:PE X a ta)(hb:PE X b tb):PE X (.IfExp c a b pos) (tIf tA ta tb):=by
 intro p s σ H Q I h
 refine wpAny_IfExp (thn (hc p s σ H _ I h) λ d s1 ⟨G,y,J⟩=>?_)
 cases d with
 | true=>exact ha p s1 σ G Q y J
 | false=>exact hb p s1 σ G Q y J
end
def SqL (K:ac)(H:Hp)(a:Addr)(xs:List V):Prop :=
 Rd H a (.lst xs) \/
  ∃(o:Obj) (its:Array Value) (n:Nat),K.lookup a=some o/\o.cls=.type "list"/\o.dict=none/\o.data=.seq its n/\its.size<=aP/\Vals xs its.toList
def SqT (K:ac)(H:Hp)(a:Addr)(xs:List V):Prop :=
 Rd H a (.tup xs) \/
  ∃(o:Obj) (its:Array Value) (n:Nat),K.lookup a=some o/\o.cls=.type "tuple"/\o.data=.seq its n/\its.size<=aP/\Vals xs its.toList
noncomputable def cn1:Value->Option V
 | .none=>some .non
 | .bool b=>some (.bl b)
 | .int i _=>some (.int i)
 | .str x _=>some (.str x)
 | .bytes b _=>some (.byt b)
 | .float b _=>some (.flt b)
 | .ref a=>some (.ref a)
 | .type n=>some (.ty n)
 | _=>none
theorem RelV.abs {x:V}{u:Value}(r:RelV x u):cn1 u=some x:=by
 cases x with
 | non=>cases r;rfl
 | bl _=>cases r;rfl
 | int _=>obtain⟨t,rfl⟩:=r;rfl
 | str _=>obtain⟨t,rfl⟩:=r;rfl
 | byt _=>obtain⟨t,rfl⟩:=r;rfl
 | flt _=>obtain⟨t,rfl⟩:=r;rfl
 | ref _=>cases r;rfl
 | ty _=>cases r;rfl
theorem RelV.inj {x y:V}{u:Value}(r:RelV x u)(q:RelV y u):x=y:=aF (r.abs.symm.trans q.abs)
theorem Vals.inj:∀ {h ys:List V} {us:List Value},Vals h us->Vals ys us->h=ys
 | _,_,_,.nil,.nil=>rfl
 | _,_,_,.cons r t,.cons r' t'=>by rw[r.inj r',Vals.inj t t']
section
variable {X:Cx} {pins:List (Addr×Obj)} {σ:St} {H:Hp} {s:af} {a:Addr} {xs ys:List V}
theorem SqL.of {K:ac}(h:H a=some (.lst xs)):SqL K H a xs:=.inl (.inl h)
theorem SqT.of {K:ac}(h:H a=some (.tup xs)):SqT K H a xs:=.inl (.inl h)
theorem Inv.list (I:Inv X pins σ H s)(h:SqL X.K H a xs):∃ its:List Value,Vals xs its/\PlainL s.heap a its.toArray/\xs.length<=aP:=by
 rcases h with h|⟨o,its,n,hk,hc,hd,hs,hz,r⟩
 ·obtain⟨z,its,n,r,e⟩:=h.ok I.hok
  exact⟨its,r,⟨_,n,e,rfl,rfl,rfl⟩,z⟩
 ·refine⟨its.toList,r,⟨o,n,I.kIn a o hk,hc,hd,by simpa using hs⟩,?_⟩
  have e:=r.length
  simp only[eT]at e
  omega
theorem Inv.tuple (I:Inv X pins σ H s)(h:SqT X.K H a xs):∃ its:List Value,Vals xs its/\IsTup s.heap a its.toArray/\xs.length<=aP:=by
 rcases h with h|⟨o,its,n,hk,hc,hs,hz,r⟩
 ·obtain⟨z,its,r,p⟩:=h.ok I.hok
  exact⟨its,r,p,z⟩
 ·refine⟨its.toList,r,⟨o,I.kIn a o hk,hc,n,by simpa using hs⟩,?_⟩
  have e:=r.length
  simp only[eT]at e
  omega
theorem Inv.list_inj (I:Inv X pins σ H s)(h:SqL X.K H a xs)(h':SqL X.K H a ys):xs=ys:=by
 obtain⟨its,r,⟨o,n,e,_,_,d⟩,_⟩:=I.list h
 obtain⟨its',p,⟨y,G,e',_,_,d'⟩,_⟩:=I.list h'
 rw[e]at e';cases e'
 rw[d]at d'
 injection d' with d1 _
 have:its=its':=by simpa using congrArg i3 d1
 subst this
 exact r.inj p
theorem Inv.tuple_inj (I:Inv X pins σ H s)(h:SqT X.K H a xs)(h':SqT X.K H a ys):xs=ys:=by
 obtain⟨its,r,⟨o,e,_,n,d⟩,_⟩:=I.tuple h
 obtain⟨its',p,⟨y,e',_,G,d'⟩,_⟩:=I.tuple h'
 rw[e]at e';cases e'
 rw[d]at d'
 injection d' with d1 _
 have:its=its':=by simpa using congrArg i3 d1
 subst this
 exact r.inj p
end
noncomputable abbrev Cx.wish (X:Cx)(E:Value->af->Prop):Cx:={ X with xe:=E }
noncomputable abbrev Cx.nox (X:Cx):Cx:=X.wish λ _ _=>False
theorem Cx.Ok.wish {X:Cx}(ok:X.Ok)(E:Value->af->Prop):(X.wish E).Ok :=
 ⟨ok.mod,ok.kind,ok.glob,ok.blt,ok.above,ok.inj,ok.has,ok.cab,ok.hd,ok.frames,ok.stk,ok.exf,ok.bs,ok.bsz,ok.noex,ok.exfs,ok.funs,ok.frf⟩
theorem Cx.Ok.unwish {X:Cx}{E:Value->af->Prop}(ok:(X.wish E).Ok):X.Ok :=
 ⟨ok.mod,ok.kind,ok.glob,ok.blt,ok.above,ok.inj,ok.has,ok.cab,ok.hd,ok.frames,ok.stk,ok.exf,ok.bs,ok.bsz,ok.noex,ok.exfs,ok.funs,ok.frf⟩
section
variable {X:Cx} {pins:List (Addr×Obj)} {σ:St} {H:Hp} {s:af} {E:Value->af->Prop}
theorem Inv.wish (I:Inv X pins σ H s)(E:Value->af->Prop):Inv (X.wish E) pins σ H s:=⟨I.ok.wish E,I.os,I.bare,I.base,I.loc,I.cell,I.free,I.freeC,I.pin,I.hok,I.len⟩
theorem Inv.unwish (I:Inv (X.wish E) pins σ H s):Inv X pins σ H s:=⟨I.ok.unwish,I.os,I.bare,I.base,I.loc,I.cell,I.free,I.freeC,I.pin,I.hok,I.len⟩
theorem SP.unwish {D:Ends}{f:Flow}{s':af}(h:SP (X.wish E) pins D f s'):SP X pins D f s':=by
 cases f with
 | next=>obtain⟨σ',H',I,q⟩:=h;exact⟨σ',H',I.unwish,q⟩
 | brk=>obtain⟨σ',H',I,q⟩:=h;exact⟨σ',H',I.unwish,q⟩
 | cont=>obtain⟨σ',H',I,q⟩:=h;exact⟨σ',H',I.unwish,q⟩
 | ret u=>obtain⟨v,σ',H',I,r,q⟩:=h;exact⟨v,σ',H',I.unwish,r,q⟩
theorem PT.nox {e:Expr}{t:TT}(h:PT X.nox e t):PT X e t:=λ p s σ H Q I hw =>
 bz (h p s σ H Q (I.wish _) hw) (λ _ _ ⟨H',y,q⟩=>⟨H',y.unwish,q⟩) λ _ _ z=>bf z
theorem PSs.nox {st:List Stmt}{t:TS}(h:PSs X.nox st t):PSs X st t:=λ p s σ H D I hw =>
 bz (h p s σ H D (I.wish _) hw) (λ _ _ q=>q.unwish) λ _ _ z=>bf z
end
section
variable {X:Cx} {st:Stmt} {rest:List Stmt} {t u:TS} {e:Expr} {te:TE} {pos:Pos}
def bR7:TS:=λ D σ H=>D.nx σ H
noncomputable def ci4 (t u:TS):TS:=λ D σ H=>t { D with nx:=u D } σ H
theorem az0:PSs X [] bR7:=λ _ _ σ H _ I h=>cV ⟨σ,H,I,h⟩
theorem qm (J:PS X st t)(G:PSs X rest u):PSs X (st::rest) (ci4 t u):=by
 intro p s σ H D I h
 refine jM (thn (J p s σ H { D with nx:=u D } I h) λ f s1 q=>?_)
 cases f with
 | next =>
  obtain⟨σ',H',y,q⟩:=q
  exact G p s1 σ' H' D y q
 | ret v=>exact q
 | brk=>exact q
 | cont=>exact q
theorem be5 (y:PS X st t):PSs X [st] t:=by
 intro p s σ H D I h
 refine jM (thn (y p s σ H D I h) λ f s1 q=>?_)
 cases f with
 | next=>exact cV q
 | ret v=>exact q
 | brk=>exact q
 | cont=>exact q
theorem Inv.quiet {h:List (Addr×Obj)}{σ:St}{H:Hp}{s:af}(I:Inv X h σ H s):interactive X.env=false:=by simp[interactive,I.ok.kind]
def bU4 (te:TE):TS:=λ D σ H=>te σ H λ _ H1=>D.nx σ H1
theorem aY7 (y:PE X e te)(hs:e8 e none pos.line X.env=pure false:=by rfl):PS X (.Expr e pos) (bU4 te):=by
 intro p s σ H D I h
 exact wpAny_Expr_any (thn (y p s σ H _ I h) λ v s1 ⟨x,J,G,r1,Y⟩=>⟨σ,J,G,Y⟩) I.quiet hs
def ci6 (te:TE):TS:=λ D σ H=>te σ H D.rt
theorem aC1 (y:PE X e te):PS X (.Return (some e) pos) (ci6 te):=by
 intro p s σ H D I h
 exact wpAny_Return_some (thn (y p s σ H _ I h) λ v s1 ⟨x,J,G,r1,Y⟩=>⟨x,σ,J,G,r1,Y⟩)
def cj4 (c:TT)(t u:TS):TS:=λ D σ H=>c σ H λ b H1=>if b=true then t D σ H1 else u D σ H1
theorem bD2 {c:Expr}{a b:List Stmt}{G:TT}(hc:PT X c G)(ha:PSs X a t)(hb:PSs X b u):PS X (.If c a b pos) (cj4 G t u):=by
 intro p s σ H D I h
 refine wpAny_If (thn (hc p s σ H _ I h) λ d s1 ⟨J,y,Y⟩=>?_)
 cases d with
 | true=>exact ha p s1 σ J D y Y
 | false=>exact hb p s1 σ J D y Y
def br9:TS:=λ _ _ _=>False
theorem bl6:PS X st br9:=λ _ _ _ _ _ _ h=>h.elim
theorem ak4 {p:List Stmt}:PSs X p br9:=λ _ _ _ _ _ _ h=>h.elim
end
abbrev TG:=V->St->Hp->(St->Hp->Prop)->Prop
abbrev TGs:=List V->St->Hp->(St->Hp->Prop)->Prop
def PG (X:Cx)(target:Expr)(t:TG):Prop :=
 ∀(pins:List (Addr×Obj)) (s:af) (σ:St) (H:Hp) (v:V) (u:Value) (Q:St->Hp->Prop),Inv X pins σ H s->RelV v u->t v σ H Q ->
  wpAny (model X.prog X.w) X.A (f8 target X.env u) (λ _ s'=>∃ σ' H',Inv X pins σ' H' s'/\Q σ' H') X.xe s
def PGs (X:Cx)(ts:List Expr)(t:TGs):Prop :=
 ∀(pins:List (Addr×Obj)) (s:af) (σ:St) (H:Hp) (vs:List V) (us:List Value) (Q:St->Hp->Prop),Inv X pins σ H s->Vals vs us->t vs σ H Q ->
  wpAny (model X.prog X.w) X.A (assignInOrder ((cr ts X.env).map (·.2)) us) (λ _ s'=>∃ σ' H',Inv X pins σ' H' s'/\Q σ' H') X.xe s
abbrev bZ1:=V->V->V->Hp->(Hp->Prop)->Prop
def cc0 (X:Cx)(t:bZ1):Prop :=
 ∀(pins:List (Addr×Obj)) (s:af) (σ:St) (H:Hp) (o i v:V) (ov iv u:Value) (Q:Hp->Prop),Inv X pins σ H s->RelV o ov->RelV i iv->RelV v u->t o i v H Q ->
  wpAny (model X.prog X.w) X.A (setItem ov iv u) (λ _ s'=>∃ H',Inv X pins σ H' s'/\Q H') X.xe s
section
variable {X:Cx} {pos:Pos}
def aA2 (i:Nat):TG:=λ v σ H Q=>Q (σ.set i (some v)) H
theorem aX7 {i:Nat}{x:Str}(hN:X.N.Nodup)(G:X.N[i]?=some x)(hx:Loc X.env.scope x)(J:X.fn x=true\/X.env.scope.names.lookup x=some .local:=by first|exact .inl rfl|exact .inr rfl|assumption):PG X (.Name x pos) (aA2 i):=by
 intro p s σ H v u Q I r h
 exact i4 (an5 I hN G hx r (λ s' y=>⟨_,H,y,h⟩) J)
def ck6:TGs:=λ vs σ H Q=>vs=[]/\Q σ H
def bW0 (t:TG)(u:TGs):TGs:=λ vs σ H Q=>∃ v r,vs=v::r/\t v σ H λ σ' H'=>u r σ' H' Q
theorem bB1:PGs X [] ck6:=by
 intro p s σ H vs us Q I r h
 obtain⟨e,h⟩:=h
 subst e
 cases r
 exact assignInOrder_nil ⟨σ,H,I,h⟩
theorem bm7 {e:Expr}{es:List Expr}{t:TG}{u:TGs}(J:PG X e t)(G:PGs X es u)
  (hs:(cr (e::es) X.env).map (·.2)=f8 e X.env::(cr es X.env).map (·.2):=by rfl):PGs X (e::es) (bW0 t u):=by
 intro p s σ H vs us Q I r h
 obtain⟨v,vr,e1,h⟩:=h
 subst e1
 cases r with
 | cons r rr =>
  rw[hs]
  refine assignInOrder_cons (thn (J p s σ H _ _ _ I r h) λ _ s1 ⟨σ1,Y,y,Z⟩=>?_)
  exact G p s1 σ1 Y _ _ Q y rr Z
def cf6 (K:ac)(n:Nat)(t:TGs):TG:=λ v σ H Q=>∃ a xs,v=.ref a/\SqT K H a xs/\xs.length=n/\t xs σ H Q
theorem bQ5 {es:List Expr}{k:Nat}{t:TGs}{n:Nat}(hc:X.calm=true)(h:PGs X es t)
  (hn:(cr es X.env).length=n:=by rfl) (y:(cr es X.env).findIdx? (·.1)=none:=by rfl):PG X (.Tuple es k pos) (cf6 X.K n t):=by
 intro p s σ H v u Q I r hw
 obtain⟨a,Z,e1,hq,hl,hw⟩:=hw
 subst e1
 cases r
 obtain⟨its,G,Y,hz⟩:=I.tuple hq
 refine assign_Tuple_tuple (I.ok.hd hc) Y (by simp[hn,<-hl,G.length]) y λ h' hx=>?_
 have J:Inv X p σ H { s with heap:=h' }:=I.kept (t':=s.toks) λ b o e=>hx b o (aH (aJ e)) e
 exact h p _ σ H Z _ Q J (by simpa using G) hw
def cj2 (to ti:TE)(t:bZ1):TG:=λ v σ H Q=>to σ H λ o H1=>ti σ H1 λ i H2=>t o i v H2 λ H3=>Q σ H3
theorem bR0 {o i:Expr}{Z Y:TE}{t:bZ1}(ho:PE X o Z)(hi:PE X i Y)(hs:cc0 X t)
  (ha:∀ v,f8 (.Subscript o i pos) X.env v=(do
   let G <- ka [v] (eval o X.env)
   let J <- ka [v,G] (eval i X.env)
   standAt pos
   ka [v,G,J] (setItem G J v)
   release [v,G,J] []):=by intro _;rfl):PG X (.Subscript o i pos) (cj2 Z Y t):=by
 intro p s σ H v u Q I r h
 rw[ha]
 refine ai (cI (thn (ho p s σ H _ I h) λ G s1 ⟨x,H1,I1,r1,q1⟩=>?_))
 refine ai (cI (thn (hi p s1 σ H1 _ I1 q1) λ J s2 ⟨y,H2,I2,r2,q2⟩=>?_))
 refine ai (iw (ai (cI (thn (hs p s2 σ H2 x y v G J u _ I2 r1 r2 r q2) λ _ s3 ⟨H3,I3,q3⟩=>?_))))
 exact wpAny_release ⟨σ,H3,I3,q3⟩
def bk5 (te:TE)(g:TG):TS:=λ D σ H=>te σ H λ x H1=>g x σ H1 D.nx
theorem bt8 {tg e:Expr}{y:TE}{g:TG}(G:PE X e y)(hg:PG X tg g)(hs:swapsWithSole [tg] e pos.line X.env=pure false:=by rfl)(hw:iy [tg] e X.env=pure none:=by rfl)
  (h1:(cr [tg] X.env).map (·.2)=[f8 tg X.env]:=by rfl):PS X (.Assign [tg] e pos) (bk5 y g):=by
 intro p s σ H D I h
 refine wpAny_Assign_stores (thn (G p s σ H _ I h) λ v s1 ⟨x,Y,J,r1,Z⟩=>?_) hs hw
 rw[h1]
 exact thn (hg p s1 σ Y x v _ J r1 Z) λ _ s2 q=>q
theorem bt6 {i:Nat}{x:Str}{e:Expr}{J:TE}{p:Pos}(hN:X.N.Nodup)(hi:X.N[i]?=some x)(hx:Loc X.env.scope x)(Y:PE X e J)(hs:e8 e (some (.Name x p)) pos.line X.env=pure false:=by rfl)(hf:X.fn x=true\/X.env.scope.names.lookup x=some .local:=by first|exact .inl rfl|exact .inr rfl|assumption) :
  PS X (.Assign [.Name x p] e pos) (bk5 J (aA2 i)):=by
 intro G s σ H D I h
 refine wpAny_Assign_Name (thn (Y G s σ H _ I h) λ v s1 ⟨y,H1,Z,r1,q1⟩=>?_) hs
 exact an5 Z hN hi hx r1 (λ s2 I2=>⟨_,H1,I2,q1⟩) hf
end
section
variable {X:Cx} {pos:Pos}
def bt3 (c:TT)(tb:TS):TS:=λ D σ H=>∃ W:Nat->St->Hp->Prop,(∃ m,W m σ H)/\∀ m σ H,W m σ H ->
 c σ H λ b H1=>if b=true then ∃ N:St->Hp->Prop,(∀ σ' H',N σ' H'->∃ m',m'<m/\W m' σ' H')/\tb { D with nx:=N,ct:=N,bk:=D.nx } σ H1 else D.nx σ H1
theorem bi4 {c:Expr}{body:List Stmt}{tc:TT}{tb:TS}(hp:PassesOwn (model X.prog X.w) X.A X.env X.xe)(hc:PT X c tc)(hb:PSs X body tb):PS X (.While c body [] pos) (bt3 tc tb):=by
 intro p s σ H D I h
 obtain⟨W,⟨m0,w0⟩,turn⟩:=h
 refine wpAny_While (codeAny_whileLoop (λ n s'=>∃ σ' H',Inv X p σ' H' s'/\W n σ' H') ?_ m0 ⟨σ,H,I,w0⟩)
 rintro n s1 ⟨σ1,H1,I1,w1⟩
 refine cC hp (thn (hc p s1 σ1 H1 _ I1 (turn n σ1 H1 w1)) λ b s2 ⟨H2,I2,q2⟩=>?_)
 cases b with
 | true =>
  obtain⟨N,hN,q2⟩:=q2
  rw[if_pos rfl]
  refine cC hp (thn (hb p s2 σ1 H2 _ I2 q2) λ f s3 q3=>?_)
  cases f with
  | next =>
   obtain⟨σ3,y,G,Z⟩:=q3
   obtain⟨m',J,Y⟩:=hN σ3 y Z
   exact⟨m',J,σ3,y,G,Y⟩
  | cont =>
   obtain⟨σ3,y,G,Z⟩:=q3
   obtain⟨m',J,Y⟩:=hN σ3 y Z
   exact⟨m',J,σ3,y,G,Y⟩
  | brk=>exact q3
  | ret v=>exact q3
 | false =>
  rw[if_neg aW]
  exact cV ⟨σ1,H2,I2,q2⟩
end
structure It where
 go:Nat->Hp->Prop
 yld:Nat->Hp->V->Hp->Prop
 stop:Nat->Hp->Prop
def FpOk (X:Cx)(pins:List (Addr×Obj))(H:Hp)(b:Addr):Prop :=
 H b=none/\b≠X.env.locals/\b ∉ X.fs/\(b∈X.ex\/X.s₀.heap.objs.size<=b)/\(∀ x c,X.env.cells.lookup x=some c->c≠b)/\∀ p∈X.pn++pins,p.1≠b
theorem Inv.fpOk {X:Cx}{h:List (Addr×Obj)}{σ:St}{H H':Hp}{s:af}{b:Addr}(I:Inv X h σ H s)(hb:s.heap.objs.size<=b)(hn:H' b=none):FpOk X h H' b:=by
 refine⟨hn,eV (az I.lt hb),I.nofs hb,.inr (ao I.sz hb),λ x c e z=>?_,λ p hp z=>?_⟩
 ·obtain⟨v,q⟩:=I.cell x c e
  exact absurd (az q.lt (by rw[z];exact hb)) (bI _)
 ·exact absurd (az (aJ (I.pin p hp).1) (by rw[z];exact hb)) (bI _)
structure Turn (P:aM)(w:World)(K:ac)(tg:Expr)(J:It)(fp:List Addr)(it:Addr)(tn:Nat->Heap->Prop):Prop where
 mem:it∈fp
 obj:∀ i h,tn i h->∀ b∈fp,∃ o,h.get? b=some o/\∀ v,o.data≠.cell v
 keep:∀ i h h',tn i h->(∀ b∈fp,∀ o,h.get? b=some o->h'.get? b=some o)->tn i h'
 item:∀(X:Cx),X.prog=P->X.w=w->X.K=K->X.calm=true->∀(i:Nat) (pins:List (Addr×Obj)) (s:af) (σ:St) (H:Hp) (E:Value->af->Prop),Inv X pins σ H s->(∀ b∈fp,FpOk X pins H b)->tn i s.heap->J.go i H ->
  wpAny (model P w) X.A (pyNext (.ref it)) (λ r s1=>∃ u,r=some u /\
   wpAny (model P w) X.A (eG tg (.ref it) u) (λ _ s2=>∃ x H',Inv X pins σ H' s2/\RelV x u/\J.yld i H x H'/\tn (i+1) s2.heap/\∀ b∈fp,H' b=none) E s1) E s
 done:∀(X:Cx),X.prog=P->X.w=w->X.K=K->X.calm=true->∀(i:Nat) (pins:List (Addr×Obj)) (s:af) (σ:St) (H:Hp) (E:Value->af->Prop),Inv X pins σ H s->(∀ b∈fp,FpOk X pins H b)->tn i s.heap->J.stop i H ->
  wpAny (model P w) X.A (pyNext (.ref it)) (λ r s1=>r=none/\Inv X pins σ H s1) E s
 self:∀(A:aX) (i:Nat) (s:af) (Q:Value->af->Prop) (E:Value->af->Prop),tn i s.heap->Q (.ref it) s->wpAny (model P w) A (kM (.ref it)) Q E s
abbrev TI:=St->Hp->(It->Hp->Prop)->Prop
def PIE (X:Cx)(pins:List (Addr×Obj))(σ:St)(tg:Expr)(R:It->Hp->Prop)(itv:Value)(s2:af):Prop :=
 ∃(it:Addr) (fp:List Addr) (tn:Nat->Heap->Prop) (J:It) (H':Hp),itv=.ref it/\Inv X pins σ H' s2/\Turn X.prog X.w X.K tg J fp it tn/\tn 0 s2.heap/\(∀ b∈fp,FpOk X pins H' b)/\R J H'
def PI (X:Cx)(tg iter:Expr)(wi:TI):Prop :=
 ∀(pins:List (Addr×Obj)) (s:af) (σ:St) (H:Hp) (R:It->Hp->Prop),Inv X pins σ H s->wi σ H R ->
  wpAny (model X.prog X.w) X.A (eval iter X.env) (λ v s1=>wpAny (model X.prog X.w) X.A (kM v) (PIE X pins σ tg R) X.xe s1) X.xe s
theorem bp6 {M : Model} {A : Around} {E : Value -> Shared -> Prop} {s : Shared} {tg : Expr} {it : Addr} {u : Value} {o : Obj} {n : String} {vs : Array Value} {Q : Unit -> Shared -> Prop} (ho : s.heap.get? it = some o) (hc : o.cls = .type n) (hd : o.data = .fields vs)
    (hn : ["enumerate", "zip", "dict_itemiterator", "dict_reverseitemiterator", "odict_iterator", "itertools.zip_longest", "itertools.pairwise"].contains n = false) (hQ : Q () s) : wpAny M A (eG tg (.ref it) u) Q E s := by
  unfold eG
  cases tg <;> first
    | exact aI hQ
    | (cases u <;> first
        | exact aI hQ
        | (refine ai (wpAny_load ho ?_)
           rw[hc, hd]
           show wpAny M A (if(["enumerate", "zip", "dict_itemiterator", "dict_reverseitemiterator", "odict_iterator", "itertools.zip_longest", "itertools.pairwise"].contains n && vs[0]? == some (eJ _)) = true then _ else _) Q E s
           rw[if_neg (by intro h; rw[hn, Bool.false_and]at h; cases h)]
           exact aI hQ))
noncomputable def Itl (K:ac)(a:Addr):It :=
 ⟨λ i H=>∃ xs x,SqL K H a xs/\xs[i]?=some x,λ i H x H'=>H'=H/\∀ xs,SqL K H a xs->xs[i]?=some x,λ i H=>∃ xs,SqL K H a xs/\xs.length<=i⟩
noncomputable def Itt (K:ac)(a:Addr):It :=
 ⟨λ i H=>∃ xs x,SqT K H a xs/\xs[i]?=some x,λ i H x H'=>H'=H/\∀ xs,SqT K H a xs->xs[i]?=some x,λ i H=>∃ xs,SqT K H a xs/\xs.length<=i⟩
noncomputable def Itr (lo:Int)(n:Nat):It:=⟨λ i _=>i<n,λ i H x H'=>H'=H/\x=.int (lo+i),λ i _=>n<=i⟩
theorem be7 {P:aM}{w:World}{K:ac}{tg:Expr}(a it:Addr):Turn P w K tg (Itl K a) [it] it (λ i h=>h.IsListIter it a i) where
 mem:=by simp
 obj:=λ i h st b hb=>by
  have e:b=it:=by simpa using hb
  subst e
  obtain⟨o,e,c,d⟩:=st
  exact⟨o,e,λ v z=>by rw[d]at z;cases z⟩
 keep:=λ i h h' st k=>st.at λ o e=>k it (by simp) o e
 item:=by
  intro X hP hw hK hc i y s σ H E I J st hg
  subst hP hw hK
  obtain⟨xs,x,hq,hx⟩:=hg
  obtain⟨its,rv,p,hz⟩:=I.list hq
  obtain⟨u,hu,ru⟩:=rv.get hx
  obtain⟨f0,f1,f2,Y,Z,f5⟩:=J it (by simp)
  refine wpAny_pyNext_list_item st p.isList (x:=u) (by simpa using hu) λ h' G sb=>?_
  have I1:Inv X y σ H { s with heap:=h' }:=I.turned (t':=s.toks) (λ b o hb e=>(sb.2 b hb).trans e) f0 f1 Y Z f5
  obtain⟨o,e,c,d⟩:=id G
  exact⟨u,rfl,bp6 (s:={ s with heap:=h' }) e c d (by decide) ⟨x,H,I1,ru,⟨rfl,λ ys hy=>by rw[I.list_inj hy hq];exact hx⟩,G,λ b hb=>(J b hb).1⟩⟩
 done:=by
  intro X hP hw hK hc i y s σ H E I J st hg
  subst hP hw hK
  obtain⟨xs,hq,hx⟩:=hg
  obtain⟨its,rv,p,hz⟩:=I.list hq
  obtain⟨f0,f1,f2,Y,Z,f5⟩:=J it (by simp)
  have hl:=rv.length
  exact wpAny_pyNext_list_end (I.ok.hd hc) st p.isList (by simp;omega) λ h' eb=>⟨rfl,I.turned (t':=s.toks) (λ b o hb e=>eb b o hb e) f0 f1 Y Z f5⟩
 self:=λ _ _ _ _ _ st h=>wpAny_pyIter_listiter st h
theorem aS6 {P:aM}{w:World}{K:ac}{tg:Expr}(a it:Addr):Turn P w K tg (Itt K a) [it] it (λ i h=>h.IsTupleIter it a i) where
 mem:=by simp
 obj:=λ i h st b hb=>by
  have e:b=it:=by simpa using hb
  subst e
  obtain⟨o,e,c,d⟩:=st
  exact⟨o,e,λ v z=>by rw[d]at z;cases z⟩
 keep:=λ i h h' st k=>st.at λ o e=>k it (by simp) o e
 item:=by
  intro X hP hw hK hc i y s σ H E I J st hg
  subst hP hw hK
  obtain⟨xs,x,hq,hx⟩:=hg
  obtain⟨its,rv,p,hz⟩:=I.tuple hq
  obtain⟨u,hu,ru⟩:=rv.get hx
  obtain⟨f0,f1,f2,Y,Z,f5⟩:=J it (by simp)
  refine wpAny_pyNext_tuple_item st (show s.heap.IsTuple a its.toArray from p) (x:=u) (by simpa using hu) λ h' G sb=>?_
  have I1:Inv X y σ H { s with heap:=h' }:=I.turned (t':=s.toks) (λ b o hb e=>(sb.2 b hb).trans e) f0 f1 Y Z f5
  obtain⟨o,e,c,d⟩:=id G
  exact⟨u,rfl,bp6 (s:={ s with heap:=h' }) e c d (by decide) ⟨x,H,I1,ru,⟨rfl,λ ys hy=>by rw[I.tuple_inj hy hq];exact hx⟩,G,λ b hb=>(J b hb).1⟩⟩
 done:=by
  intro X hP hw hK hc i y s σ H E I J st hg
  subst hP hw hK
  obtain⟨xs,hq,hx⟩:=hg
  obtain⟨its,rv,p,hz⟩:=I.tuple hq
  obtain⟨f0,f1,f2,Y,Z,f5⟩:=J it (by simp)
  have hl:=rv.length
  exact wpAny_pyNext_tuple_end (I.ok.hd hc) st (show s.heap.IsTuple a its.toArray from p) (by simp;omega) λ h' eb=>⟨rfl,I.turned (t':=s.toks) (λ b o hb e=>eb b o hb e) f0 f1 Y Z f5⟩
 self:=λ _ _ _ _ _ st h=>wpAny_pyIter_tupleiter st h
theorem aQ0 {P:aM}{w:World}{K:ac}{tg:Expr}(it:Addr)(G:Int)(n:Nat):Turn P w K tg (Itr G n) [it] it (λ i h=>IsRangeIter h it (G+(i:Nat)*1) ((n:Int) - (i:Nat)) 1) where
 mem:=by simp
 obj:=λ i h st b hb=>by
  have e:b=it:=by simpa using hb
  subst e
  exact⟨_,st,λ v z=>by
   have z':Data.fields _=Data.cell v:=z
   cases z'⟩
 keep:=λ i h h' st k=>k it (by simp) _ st
 item:=by
  intro X hP hw hK hc i p s σ H E I J st hg
  subst hP hw hK
  obtain⟨f0,f1,f2,Y,Z,f5⟩:=J it (by simp)
  have W:=Walks.range (prog:=X.prog) (w:=X.w) (I.ok.hd hc) it G 1 n
  refine W.item i s _ _ hg st λ v h' tk hv y kk=>?_
  obtain⟨t,rfl⟩:=hv
  have I1:Inv X p σ H { s with heap:=h',toks:=tk }:=I.turned (λ b o hb e=>kk b o (by simpa using hb) e) f0 f1 Y Z f5
  refine⟨_,rfl,bp6 (s:={ s with heap:=h',toks:=tk }) (n := "range_iterator") y rfl rfl (by decide) ⟨.int (G+i),H,I1,⟨t,?_⟩,⟨rfl,rfl⟩,y,λ b hb=>(J b hb).1⟩⟩
  rw[Int.mul_one]
 done:=by
  intro X hP hw hK hc i p s σ H E I J st hg
  subst hP hw hK
  obtain⟨f0,f1,f2,Y,Z,f5⟩:=J it (by simp)
  exact wpAny_pyNext_range_end (I.ok.hd hc) st (by have:n<=i:=hg;omega) λ h' eb=>⟨rfl,I.turned (t':=s.toks) (λ b o hb e=>eb b o hb e) f0 f1 Y Z f5⟩
 self:=λ _ _ _ _ _ st h=>wpAny_pyIter_rangeiter st h
section
variable {X:Cx} {tg:Expr}
def bB2 (K:ac)(tl:TE):TI:=λ σ H R=>tl σ H λ x H1=>∃ a,x=.ref a/\(∃ xs,SqL K H1 a xs)/\R (Itl K a) H1
def cg8 (K:ac)(tl:TE):TI:=λ σ H R=>tl σ H λ x H1=>∃ a,x=.ref a/\(∃ xs,SqT K H1 a xs)/\R (Itt K a) H1
theorem bu5 {l:Expr}{J:TE}(hl:PE X l J):PI X tg l (bB2 X.K J):=by
 intro y s σ H R I h
 refine thn (hl y s σ H _ I h) λ v s1 ⟨x,Y,G,r1,Z⟩=>?_
 obtain⟨a,e,⟨xs,hq⟩,q⟩:=Z
 subst e
 cases r1
 obtain⟨its,rv,p,hz⟩:=G.list hq
 refine dJ p.isList ?_
 refine⟨s1.heap.objs.size,[s1.heap.objs.size],_,_,Y,rfl,G.kept (t':=s1.toks) λ b o e=>ar _ e,be7 a _,⟨_,a8 _ rfl,rfl,rfl⟩,λ b hb=>?_,q⟩
 have e:b=s1.heap.objs.size:=by simpa using hb
 subst e
 exact G.fpOk (am _) (G.hok.fresh (am _))
theorem bP5 {l:Expr}{J:TE}(hl:PE X l J):PI X tg l (cg8 X.K J):=by
 intro y s σ H R I h
 refine thn (hl y s σ H _ I h) λ v s1 ⟨x,Y,G,r1,Z⟩=>?_
 obtain⟨a,e,⟨xs,hq⟩,q⟩:=Z
 subst e
 cases r1
 obtain⟨its,rv,p,hz⟩:=G.tuple hq
 refine iJ (show s1.heap.IsTuple a its.toArray from p) ?_
 refine⟨s1.heap.objs.size,[s1.heap.objs.size],_,_,Y,rfl,G.kept (t':=s1.toks) λ b o e=>ar _ e,aS6 a _,⟨_,a8 _ rfl,rfl,rfl⟩,λ b hb=>?_,q⟩
 have e:b=s1.heap.objs.size:=by simpa using hb
 subst e
 exact G.fpOk (am _) (G.hok.fresh (am _))
theorem bi3 {y:List (Addr×Obj)}{σ:St}{H:Hp}{s:af}{R:It->Hp->Prop}{E:Value->af->Prop}{h p:Int}{t u v:Tok}{tk:Nat}(I:Inv X y σ H s)(Z:-(2^62)<=h)(Y:h<2^62)(h3:-(2^62)<=p)(J:p<2^62)
  (q:R (Itr h (p - h).toNat) H):wpAny (model X.prog X.w) X.A (kM (.ref s.heap.objs.size)) (PIE X y σ tg R) E { s with heap:=s.heap.push { cls:=.type "range",data:=.fields #[.int h t,.int p u,.int 1 v] },toks:=tk }:=by
 refine wpAny_pyIter_range (IsRange.new ..) (small_one Z Y h3 J) ?_
 have G:Inv X y σ H { s with heap:=s.heap.push { cls:=.type "range",data:=.fields #[.int h t,.int p u,.int 1 v] },toks:=tk }:=I.kept λ b o e=>ar _ e
 refine⟨(s.heap.push { cls:=.type "range",data:=.fields #[.int h t,.int p u,.int 1 v] }).objs.size,[(s.heap.push { cls:=.type "range",data:=.fields #[.int h t,.int p u,.int 1 v] }).objs.size],_,_,H,rfl,
  G.kept (t':=tk) λ b o e=>ar _ e,aQ0 _ h (p - h).toNat,?_,λ b hb=>?_,q⟩
 ·have e1:h+((0:Nat):Int)*1=h:=by simp
  have e2:(((p - h).toNat:Nat):Int) - ((0:Nat):Int)=kI h p 1:=by rw[rangeSize_one];split<;>omega
  show IsRangeIter _ _ (h+((0:Nat):Int)*1) ((((p - h).toNat:Nat):Int) - ((0:Nat):Int)) 1
  rw[e1,e2]
  exact a8 _ rfl
 ·have e:b=(s.heap.push { cls:=.type "range",data:=.fields #[.int h t,.int p u,.int 1 v] }).objs.size:=by simpa using hb
  subst e
  exact G.fpOk (am _) (G.hok.fresh (am _))
def bW5 (ta:TA):TI:=λ σ H R=>ta σ H λ vs H1=>∃ j:Int,vs=[.int j]/\-(2^62)<=j/\j<2^62/\R (Itr 0 j.toNat) H1
theorem aY9 {a:Expr}{J:TA}{p pos:Pos}(Z:Gl X "range")(hm:X.mg "range"=none)(ha:PA X [a] J)(hs:bp [a] X.env=[(false,eval a X.env)]:=by rfl):PI X tg (.Call (.Name "range" p) [a] [] pos) (bW5 J):=by
 intro y s σ H R I h
 refine Call_ (aL9 I Z hm boot_range (eW (thn (ha pos y s σ H _ I h) λ us s1 ⟨vs,H1,Y,r1,G⟩=>?_) hs rfl))
 obtain⟨j,e,G,q2,q⟩:=G
 subst e
 cases r1 with
 | cons r rr =>
  cases rr
  obtain⟨t,rfl⟩:=r
  exact call_range_1 (bi3 Y (by omega) (by omega) G q2 (by simpa using q))
def ci0 (wi:TI)(g:TG)(tb:TS):TS:=λ D σ H=>wi σ H λ J H1=>∃ W:Nat->Nat->St->Hp->Prop,(∃ m,W 0 m σ H1)/\∀ i m σ H,W i m σ H ->
 (J.stop i H/\D.nx σ H)\/(J.go i H/\∃ N:St->Hp->Prop,(∀ σ' H',N σ' H'->∃ m',m'<m/\W (i+1) m' σ' H')/\∀ x H',J.yld i H x H'->g x σ H' λ σ2 H2=>tb { D with nx:=N,ct:=N,bk:=D.nx } σ2 H2)
noncomputable def aA7 (fp:List Addr)(h:Heap):List (Addr×Obj):=fp.filterMap λ b=>(h.get? b).map λ o=>(b,o)
theorem jx {p:List Addr}{h:Heap}{b:Addr}{o:Obj}(hb:b∈p)(e:h.get? b=some o):(b,o)∈aA7 p h:=fe.mpr ⟨b,hb,by rw[e];rfl⟩
theorem bc9 {y:List Addr}{h:Heap}{p:Addr×Obj}(hp:p∈aA7 y h):p.1∈y/\h.get? p.1=some p.2:=by
 obtain⟨b,hb,e⟩:=fe.mp hp
 cases q:h.get? b with
 | none=>rw[q]at e;cases e
 | some o =>
  rw[q]at e
  have e':(b,o)=p:=aF e
  subst e'
  exact⟨hb,q⟩
theorem Inv.pinned {h:List (Addr×Obj)}{σ:St}{H:Hp}{s:af}{y:List Addr}(I:Inv X h σ H s)(Z:∀ b∈y,FpOk X h H b)(ho:∀ b∈y,∃ o,s.heap.get? b=some o/\∀ v,o.data≠.cell v):Inv X (h++aA7 y s.heap) σ H s :=
 I.pins_of λ p hp=>(cB.mp hp).elim (λ z=>I.pin p (aV _ z)) λ z=>by
  obtain⟨hb,e⟩:=bc9 z
  obtain⟨Y,J,G,_⟩:=Z p.1 hb
  obtain⟨o,e',d⟩:=ho p.1 hb
  rw[e]at e';cases e'
  exact⟨e,Y,J,G,d⟩
theorem Inv.unpinned {h y:List (Addr×Obj)}{σ:St}{H:Hp}{s:af}(I:Inv X (h++y) σ H s):Inv X h σ H s:=I.pins_of λ p hp=>I.pin p (aV _ (cD _ hp))
theorem bN7 {iter:Expr}{body:List Stmt}{wi:TI}{g:TG}{tb:TS}{pos:Pos}(hp:PassesOwn (model X.prog X.w) X.A X.env X.xe)(hc:X.calm=true)(hi:PI X tg iter wi)(hg:PG X tg g)(hb:PSs X body tb)
  (hs:∀ x,c6 iter X.env x=pure x:=by intro _;rfl):PS X (.For tg iter body [] pos) (ci0 wi g tb):=by
 intro p s σ H D I h
 refine wpAny_For (thn (hi p s σ H _ I h) λ v s1 h1=>thn h1 λ a6 s2 h2=>?_) hs
 obtain⟨it,fp,tn,J,H2,e,I2,T,a3,f2,W,⟨m0,w0⟩,turn⟩:=h2
 subst e
 have G:∀ {H':Hp},(∀ b∈fp,H' b=none)->∀ b∈fp,FpOk X p H' b:=λ hn b hb=>⟨hn b hb,(f2 b hb).2⟩
 refine codeAny_forLoop_any (λ n s'=>∃ i σ' H',Inv X p σ' H' s'/\tn i s'.heap/\(∀ b∈fp,H' b=none)/\W i n σ' H') ?_ m0 ⟨0,σ,H2,I2,a3,λ b hb=>(f2 b hb).1,w0⟩
 rintro n s3 ⟨i,σ3,H3,I3,a2,a1,w3⟩
 rcases turn i n σ3 H3 w3 with⟨stop,qn⟩|⟨go,N,hN,step⟩
 ·refine cC hp (thn (T.done X rfl rfl rfl hc i p s3 σ3 H3 X.xe I3 (G a1) a2 stop) λ r s4 ⟨hr,I4⟩=>?_)
  subst hr
  exact cV ⟨σ3,H3,I4,qn⟩
 ·refine cC hp (thn (T.item X rfl rfl rfl hc i p s3 σ3 H3 X.xe I3 (G a1) a2 go) λ r s4 ⟨u,hr,h4⟩=>?_)
  subst hr
  refine cC hp (thn h4 λ _ s5 ⟨x,H5,I5,r5,y5,a0,a5⟩=>?_)
  have a4:=I5.pinned (G a5) (T.obj _ _ a0)
  refine cC hp (thn (hg _ s5 σ3 H5 x u _ a4 r5 (step x H5 y5)) λ _ s6 ⟨σ6,H6,I6,q6⟩=>?_)
  refine cC hp (thn (hb _ s6 σ6 H6 _ I6 q6) λ f s7 Z=>?_)
  have again:∀ {σ7:St} {y:Hp},Inv X (p++aA7 fp s5.heap) σ7 y s7->N σ7 y->∃ m,m<n/\∃ i σ' H',Inv X p σ' H' s7/\tn i s7.heap/\(∀ b∈fp,H' b=none)/\W i m σ' H':=λ {σ7 y} Y n7=>by
   obtain⟨m',hm,w7⟩:=hN σ7 y n7
   refine⟨m',hm,i+1,σ7,y,Y.unpinned,T.keep _ _ _ a0 λ b hb o e=>(Y.pin (b,o) (aV _ (aV _ (jx hb e)))).1,λ b hb=>?_,w7⟩
   obtain⟨o,e,d⟩:=T.obj _ _ a0 b hb
   exact(Y.pin (b,o) (aV _ (aV _ (jx hb e)))).2.1
  cases f with
  | next=>obtain⟨σ7,y,Y,n7⟩:=Z;exact again Y n7
  | cont=>obtain⟨σ7,y,Y,n7⟩:=Z;exact again Y n7
  | brk=>obtain⟨σ7,y,Y,Z⟩:=Z;exact⟨σ7,y,Y.unpinned,Z⟩
  | ret v=>obtain⟨x7,σ7,y,Y,r7,Z⟩:=Z;exact⟨x7,σ7,y,Y.unpinned,r7,Z⟩
end
abbrev R2:=V->V->Hp->VK->Prop
def OpR (X:Cx)(f:Value->Value->Sem Value)(r:R2):Prop :=
 ∀(pins:List (Addr×Obj)) (s:af) (σ:St) (H:Hp) (x y:V) (v u:Value) (Q:VK),Inv X pins σ H s->RelV x v->RelV y u->r x y H Q ->
  wpAny (model X.prog X.w) X.A (f v u) (EP X pins σ Q) X.xe s
def UnR (X:Cx)(f:Value->Sem Value)(r:V->Hp->VK->Prop):Prop :=
 ∀(pins:List (Addr×Obj)) (s:af) (σ:St) (H:Hp) (x:V) (v:Value) (Q:VK),Inv X pins σ H s->RelV x v->r x H Q ->
  wpAny (model X.prog X.w) X.A (f v) (EP X pins σ Q) X.xe s
def ag6 (X:Cx)(f:Value)(r:List V->Hp->VK->Prop):Prop :=
 ∀(pins:List (Addr×Obj)) (s:af) (σ:St) (H:Hp) (xs:List V) (us:List Value) (Q:VK),Inv X pins σ H s->Vals xs us->r xs H Q ->
  wpAny (model X.prog X.w) X.A (call f us) (EP X pins σ Q) X.xe s
def tOp (r:R2)(ta tb:TE):TE:=λ σ H Q=>ta σ H λ x H1=>tb σ H1 λ y H2=>r x y H2 Q
def tUn (r:V->Hp->VK->Prop)(ta:TE):TE:=λ σ H Q=>ta σ H λ x H1=>r x H1 Q
def rI (C:Int->Int->Prop)(g:Int->Int->V):R2:=λ x y H Q=>∃ i j,x=.int i/\y=.int j/\C i j/\Q (g i j) H
def rI0 (g:Int->Int->V):R2:=λ x y H Q=>∃ i j,x=.int i/\y=.int j/\Q (g i j) H
def rU (g:Int->V):V->Hp->VK->Prop:=λ x H Q=>∃ i,x=.int i/\Q (g i) H
section
variable {X:Cx} {a b c:Expr} {ta tb tc:TE} {pos:Pos}
theorem cd0 (ha:PE X a ta)(hb:PE X b tb){p:List (Addr×Obj)}{s:af}{σ:St}{H:Hp}{R:V->V->Hp->Prop}(I:Inv X p σ H s)
  (h:ta σ H λ x J=>tb σ J λ y G=>R x y G) {Q:Value->af->Prop} {f:Value->Value->Sem Value}
  (hf:∀ v u s2 x y G,Inv X p σ G s2->RelV x v->RelV y u->R x y G->wpAny (model X.prog X.w) X.A (f v u) Q X.xe s2) :
  wpAny (model X.prog X.w) X.A (eval a X.env) (λ v s₁=>wpAny (model X.prog X.w) X.A (eval b X.env) (λ u Y=>wpAny (model X.prog X.w) X.A (f v u) Q X.xe Y) X.xe s₁) X.xe s:=by
 refine thn (ha p s σ H _ I h) λ v s1 ⟨x,J,Z,r1,q1⟩=>?_
 refine thn (hb p s1 σ J _ Z q1) λ u s2 ⟨y,G,I2,r2,q2⟩=>?_
 exact hf v u s2 x y G I2 r1 r2 q2
theorem cb2 {op:Operator}{r:R2}(ho:OpR X (bX op) r)(ha:PE X a ta)(hb:PE X b tb):PE X (.BinOp a op b pos) (tOp r ta tb):=by
 intro p s σ H Q I h
 exact wpAny_BinOp (cd0 ha hb I h λ v u s2 x y Z G J Y q=>ho p s2 σ Z x y v u Q G J Y q)
theorem cd3 {op:UnaryOp}{r:V->Hp->VK->Prop}(ho:UnR X (unaryOp op) r)(ha:PE X a ta):PE X (.UnaryOp op a pos) (tUn r ta):=by
 intro p s σ H Q I h
 exact UnaryOp_ (thn (ha p s σ H _ I h) λ v s1 ⟨x,G,y,r1,J⟩=>ho p s1 σ G x v Q y r1 J)
theorem opI {f:Value->Value->Sem Value}{C:Int->Int->Prop}{g:Int->Int->Int}
  (p:∀(i j:Int) (t u:Tok) (s:af) (Q:Value->af->Prop) (E:Value->af->Prop),C i j->Q (.int (g i j) s.toks) { s with toks:=s.toks+1 }->wpAny (model X.prog X.w) X.A (f (.int i t) (.int j u)) Q E s) :
  OpR X f (rI C λ i j=>.int (g i j)):=by
 intro G s σ H x y v u Q I J Y h
 obtain⟨i,j,rfl,rfl,hc,q⟩:=h
 obtain⟨t,rfl⟩:=J
 obtain⟨t',rfl⟩:=Y
 exact p i j t t' s _ _ hc ⟨.int (g i j),H,I.tok _,⟨_,rfl⟩,q⟩
theorem cj1 {f:Value->Value->Sem Value}{g:Int->Int->Int}
  (p:∀(i j:Int) (t u:Tok) (s:af) (Q:Value->af->Prop) (E:Value->af->Prop),Q (.int (g i j) s.toks) { s with toks:=s.toks+1 }->wpAny (model X.prog X.w) X.A (f (.int i t) (.int j u)) Q E s) :
  OpR X f (rI0 λ i j=>.int (g i j)):=by
 intro G s σ H x y v u Q I J Y h
 obtain⟨i,j,rfl,rfl,q⟩:=h
 obtain⟨t,rfl⟩:=J
 obtain⟨t',rfl⟩:=Y
 exact p i j t t' s _ _ ⟨.int (g i j),H,I.tok _,⟨_,rfl⟩,q⟩
theorem ca0 {f:Value->Value->Sem Value}{g:Int->Int->Bool}
  (p:∀(i j:Int) (t u:Tok) (s:af) (Q:Value->af->Prop) (E:Value->af->Prop),Q (.bool (g i j)) s->wpAny (model X.prog X.w) X.A (f (.int i t) (.int j u)) Q E s) :
  OpR X f (rI0 λ i j=>.bl (g i j)):=by
 intro G s σ H x y v u Q I J Y h
 obtain⟨i,j,rfl,rfl,q⟩:=h
 obtain⟨t,rfl⟩:=J
 obtain⟨t',rfl⟩:=Y
 exact p i j t t' s _ _ ⟨.bl (g i j),H,I,rfl,q⟩
def cl3 (i j:Int):Prop:=0<=j/\j<=1000000/\i.natAbs<2^64
def bZ8 (i j:Int):Prop:=(-(2^64)<i/\i<2^64)\/(-(2^64)<j/\j<2^64)
theorem bZ8.ok {i j:Int}(h:bZ8 i j):IntMulOk i j:=by
 rcases h with⟨y,p⟩|⟨y,p⟩
 ·exact .of_left (intBits_le_64 y p)
 ·exact .of_right (intBits_le_64 y p)
theorem aT4 (k:Nat):(0:Int)<=2^k:=by
 rw[two_pow_cast]
 exact Int.natCast_nonneg _
theorem bR8:OpR X (bX .Add) (rI0 λ i j=>.int (i+j)):=cj1 λ _ _ _ _ _ _ _ q=>add_int q
theorem bQ9:OpR X (bX .Sub) (rI0 λ i j=>.int (i - j)):=cj1 λ _ _ _ _ _ _ _ q=>sub_int q
theorem bY7:OpR X (bX .Mod) (rI (λ _ j=>0<j) λ i j=>.int (i % j)):=opI λ i j _ _ _ _ _ hc q=>by
 have h:(0:Int)<j:=hc
 exact mod_int' (by omega) (by rw[Int.fmod_eq_emod_of_nonneg i (by omega)];exact q)
theorem bX4:OpR X (bX .Pow) (rI cl3 λ i j=>.int (i^j.toNat)):=opI λ _ _ _ _ _ _ _ hc q=>pow_int_small hc.1 hc.2.1 hc.2.2 q
theorem bM7:OpR X (bX .LShift) (rI cl3 λ i j=>.int (i*2^j.toNat)):=opI λ _ _ _ _ _ _ _ hc q=>lshift_int_small hc.1 hc.2.1 hc.2.2 q
theorem bX3:OpR X (bX .RShift) (rI (λ _ j=>0<=j) λ i j=>.int (i / 2^j.toNat)):=opI λ i j _ _ _ _ _ hc q =>
 rshift_int hc (by rw[fg i (aT4 _)];exact q)
theorem unI {f:Value->Sem Value}{g:Int->Int}
  (p:∀(i:Int) (t:Tok) (s:af) (Q:Value->af->Prop) (E:Value->af->Prop),Q (.int (g i) s.toks) { s with toks:=s.toks+1 }->wpAny (model X.prog X.w) X.A (f (.int i t)) Q E s) :
  UnR X f (rU λ i=>.int (g i)):=by
 intro y s σ H x v Q I G h
 obtain⟨i,rfl,q⟩:=h
 obtain⟨t,rfl⟩:=G
 exact p i t s _ _ ⟨.int (g i),H,I.tok _,⟨_,rfl⟩,q⟩
theorem bL6:UnR X (unaryOp .USub) (rU λ i=>.int (-i)):=unI λ _ _ _ _ _ q=>neg_int q
end
section
variable {X:Cx} {a b c:Expr} {ta tb tc:TE} {pos:Pos}
theorem ce1:OpR X (e9 .Lt) (rI0 λ i j=>.bl (decide (i<j))):=ca0 λ _ _ _ _ _ _ _ q=>lt_int q
theorem cg7:OpR X (e9 .LtE) (rI0 λ i j=>.bl (decide (i<=j))):=ca0 λ _ _ _ _ _ _ _ q=>le_int q
theorem cf8:OpR X (e9 .Gt) (rI0 λ i j=>.bl (decide (j<i))):=ca0 λ _ _ _ _ _ _ _ q=>gt_int q
theorem cg4:OpR X (e9 .GtE) (rI0 λ i j=>.bl (decide (j<=i))):=ca0 λ _ _ _ _ _ _ _ q=>ge_int q
theorem bC4 {op:CmpOp}{r:R2}(ho:OpR X (e9 op) r)(ha:PE X a ta)(hb:PE X b tb)(Y:iz op b=false):PE X (.Compare a [op] [b] pos) (tOp r ta tb):=by
 intro p s σ H Q I h
 exact wpAny_Compare1 (cd0 ha hb I h λ v u s2 x y H2 G J Z q=>ho p s2 σ H2 x y v u Q G J Z q) Y
def bV6 (t:TE):TT:=λ σ H Q=>t σ H λ x H'=>∃ k,x=.bl k/\Q k H'
theorem bF7 {op:CmpOp}{r:R2}(ho:OpR X (e9 op) r)(ha:PE X a ta)(hb:PE X b tb)(hm:iz op b=false):PT X (.Compare a [op] [b] pos) (bV6 (tOp r ta tb)):=by
 intro p s σ H Q I h
 refine wpAny_isTrue_Compare1 (thn (ha p s σ H _ I h) λ v s1 ⟨x,H1,Y,r1,q1⟩=>thn (hb p s1 σ H1 _ Y q1) λ u s2 ⟨y,H2,I2,Z,q2⟩ =>
  thn (ho p s2 σ H2 x y v u _ I2 r1 Z q2) λ c s3 ⟨z,G,J,r3,k,e,q3⟩=>?_) hm
 subst e
 cases r3
 exact cE ⟨G,J,q3⟩
theorem ao1:(aP:Nat)<2^63:=by rw[fB];decide
theorem aR2:OpR X (bX .Add) (λ x y H Q=>∃ i j,x=.str i/\y=.str j/\i.length+j.length<=aP/\Q (.str (i++j)) H):=by
 intro p s σ H x y v u Q I J G h
 obtain⟨i,j,rfl,rfl,hz,q⟩:=h
 obtain⟨t,rfl⟩:=J
 obtain⟨t',rfl⟩:=G
 exact add_str (λ t' tk=>⟨.str (i++j),H,I.tok _,⟨_,rfl⟩,q⟩) hz
theorem as0 {x:V}{us:List Value}(r:Vals [x] us):∃ u,us=[u]/\RelV x u:=by
 cases r with
 | cons r1 r2=>cases r2;exact⟨_,rfl,r1⟩
theorem bi0 {x y:V}{us:List Value}(r:Vals [x,y] us):∃ u h,us=[u,h]/\RelV x u/\RelV y h:=by
 cases r with
 | cons r1 r2 =>
  cases r2 with
  | cons r3 r4=>cases r4;exact⟨_,_,rfl,r1,r3⟩
theorem bm3:ag6 X (.builtin "abs") (λ y H Q=>∃ i,y=[.int i]/\Q (.int (if i<0 then -i else i)) H):=by
 intro p s σ H y us Q I r h
 obtain⟨i,rfl,q⟩:=h
 obtain⟨u,rfl,t,rfl⟩:=as0 r
 exact call_abs_int λ u tk=>⟨.int (if i<0 then -i else i),H,I.tok _,⟨_,rfl⟩,q⟩
theorem bc8 (hc:X.calm=true):ag6 X (.builtin "max") (λ y H Q=>∃ i j,y=[.int i,.int j]/\Q (.int (if j > i then j else i)) H):=by
 intro p s σ H y us Q I r h
 obtain⟨i,j,rfl,q⟩:=h
 obtain⟨u,G,rfl,⟨t,rfl⟩,⟨t',rfl⟩⟩:=bi0 r
 refine max_two_ints (I.ok.hd hc) λ h' tk k=>⟨_,H,I.kept k,?_,q⟩
 by_cases hj:j > i
 ·rw[if_pos hj,if_pos hj];exact⟨_,rfl⟩
 ·rw[if_neg hj,if_neg hj];exact⟨_,rfl⟩
theorem aU4 (hc:X.calm=true):ag6 X (.builtin "min") (λ y H Q=>∃ i j,y=[.int i,.int j]/\Q (.int (if j<i then j else i)) H):=by
 intro p s σ H y us Q I r h
 obtain⟨i,j,rfl,q⟩:=h
 obtain⟨u,G,rfl,⟨t,rfl⟩,⟨t',rfl⟩⟩:=bi0 r
 refine min_two_ints (I.ok.hd hc) λ h' tk k=>⟨_,H,I.kept k,?_,q⟩
 by_cases hj:j<i
 ·rw[if_pos hj,if_pos hj];exact⟨_,rfl⟩
 ·rw[if_neg hj,if_neg hj];exact⟨_,rfl⟩
theorem aY4:ag6 X (.type "int") (λ p H Q=>(∃ i,p=[.int i]/\Q (.int i) H)\/∃ k,p=[.bl k]/\Q (.int (if k then 1 else 0)) H):=by
 intro y s σ H p us Q I r h
 rcases h with⟨i,rfl,q⟩|⟨k,rfl,q⟩
 ·obtain⟨u,rfl,t,rfl⟩:=as0 r
  exact call_int_int ⟨.int i,H,I,⟨_,rfl⟩,q⟩
 ·obtain⟨u,rfl,r1⟩:=as0 r
  cases r1
  exact call_int_bool ⟨.int (if k then 1 else 0),H,I.tok _,⟨_,rfl⟩,q⟩
end
structure ObjM (h:Heap)(x dx C:Addr)(mA:Str->Option Value):Prop where
 obj:h.get? x=some (gC C dx)
 ns:h.Ns1 dx mA
 ne:dx≠x
theorem aW0 {h:Heap}{J:Addr}{G:Str->Option Value}(n:h.Ns1 J G):∃ od,h.get? J=some od/\∀ name,gS name od=some (G name):=by
 obtain⟨o,es,ep,ho,hd,hk,_,Z⟩:=n
 refine⟨o,ho,λ name=>?_⟩
 have e:=Z name
 unfold nsFind findBy at e
 rw[<-Array.find?_toList]at e
 unfold gS
 rw[hd]
 dsimp only
 split
 ·rename_i y q
  rw[q]at e
  exact congrArg some e
 ·rename_i q
  rw[q]at e
  have a:es.toList.any (·.refKey)=false:=by
   rw[List.any_eq_false]
   intro y hy
   obtain⟨z,t,p⟩:=hk y (Array.mem_toList_iff.mp hy)
   simp[DictEntry.refKey,p]
  have Y:¬ es.toList.any (·.refKey)=true:=by rw[a];exact aW
  rw[if_neg Y]
  exact congrArg some e
theorem ObjM.look {h:Heap}{x y C:Addr}{p:Str->Option Value}(I:ObjM h x y C p):∃ od,PySem.W.InstAt h x (gC C y) C (some od)/\∀ name,gS name od=some (p name) :=
 let⟨od,ho,hl⟩:=aW0 I.ns
 ⟨od,⟨I.obj,rfl,rfl,ho⟩,hl⟩
section
variable {prog:aM} {w:World} {A:aX} {E:Value->af->Prop} {s:af} {K:ac} {x dx C f:Addr} {mA:Str->Option Value} {name:Str} {v:Value}
end
theorem aR7.some_of {v:V}{o:Option Value}(r:aR7 (some v) o):∃ u,o=some u/\RelV v u:=by
 cases o with
 | none=>exact(show False from r).elim
 | some u=>exact⟨u,rfl,r⟩
section
variable {P:aM} {w:World} {H H':Hp} {h h':Heap} {a C dx:Addr} {fs fs':List (Str×V)}
theorem bB9 (hok:HOk P w H h)(e:H a=some (.ins C dx fs)):∃ p,ObjM h a dx C p/\(∀ f,aR7 (fs.lookup f) (p f))/\kL p (fs.map (·.1))/\fs.length<=1000/\H dx=some (.own a):=by
 obtain⟨d,z,ne,ob,p,n,r,q⟩:=(show ag2 P w H h a (.ins C dx fs)from hok a _ e)
 exact⟨p,⟨ob,n,ne⟩,r,q,z,d⟩
end
structure Cls (K:ac)(C:Addr):Prop where
 pg:jN K C Str.empty=true
 hd:PySem.W.hasDictIn K C=true
 po:PySem.W.plainOver K C=true
 sa:bP K (.ref C) "__setattr__"=some (some (.builtin "object.__setattr__"))
theorem Cls.get {K:ac}{C:Addr}(c:Cls K C)(f:Str):jN K C f=true:=c.pg
section
variable {X:Cx} {pins:List (Addr×Obj)} {σ:St} {H:Hp} {s:af} {a C dx:Addr} {fs:List (Str×V)} {f:Str} {v:V} {A:aX} {E:Value->af->Prop}
end
section
variable {X:Cx} {o e value:Expr} {f:Str} {pos pos' tpos:Pos} {ta tv:TE}
end
section
variable {X:Cx} {pins:List (Addr×Obj)} {σ:St} {H:Hp} {s:af} {A:aX} {E:Value->af->Prop} {Q:Value->af->Prop} {c:Value} {b:Bool}
inductive TyOf (K:ac)(H:Hp):V->Value->Prop where
 | non:TyOf K H .non (.type "NoneType")
 | bl (x:Bool):TyOf K H (.bl x) (.type "bool")
 | int (i:Int):TyOf K H (.int i) (.type "int")
 | str (x:Str):TyOf K H (.str x) (.type "str")
 | flt (x:UInt64):TyOf K H (.flt x) (.type "float")
 | lst {a:Addr} {xs:List V} (e:H a=some (.lst xs)):TyOf K H (.ref a) (.type "list")
 | frz {a:Addr} {o:Obj} {xs:List V} (e:H a=some (.frz o (.lst xs))):TyOf K H (.ref a) (.type "list")
 | tup {a:Addr} {xs:List V} (e:H a=some (.tup xs)):TyOf K H (.ref a) (.type "tuple")
 | dK {a:Addr} {kvs:List (Key×V)} (e:H a=some (.dK kvs)):TyOf K H (.ref a) (.type "dict")
 | dT {a:Addr} {kvs:List (List Key×V)} (e:H a=some (.dT kvs)):TyOf K H (.ref a) (.type "dict")
 | ins {a C dx:Addr} {fs:List (Str×V)} (e:H a=some (.ins C dx fs)) (cl:Cls K C) (ha:bP K (.ref C) "__class__"=some (some (.builtin "object.__class__")))
   (hn:dL K (.builtin "object.__class__") "__get__"=some (some (.builtin "getset_descriptor.__get__"))) (htk:eK K (.builtin "object.__class__")=some true)
   (hm:fL K C (.type "object")=some true):TyOf K H (.ref a) (.ref C)
theorem jp {x:V}{u t:Value}(I:Inv X pins σ H s)(G:RelV x u)(ty:TyOf X.K H x t)(e:bH X.K t c=some b)(h:∀ tk,Q (.bool b) { s with toks:=tk }) :
  wpAny (model X.prog X.w) A (call (.builtin "isinstance") [u,c]) Q E s:=by
 cases ty with
 | non=>cases(show u=Value.none from G);exact bG PySem.W.kitx_none I.kIn True.intro e (λ z=>nomatch z) h
 | bl y=>cases(show u=Value.bool y from G);exact bG PySem.W.kitx_bool I.kIn True.intro e (λ z=>nomatch z) h
 | int i=>obtain⟨t,q⟩:=(show ∃ t,u=Value.int i t from G);cases q;exact bG PySem.W.kitx_int I.kIn True.intro e (λ z=>nomatch z) h
 | str y=>obtain⟨t,q⟩:=(show ∃ t,u=Value.str y t from G);cases q;exact bG PySem.W.kitx_str I.kIn True.intro e (λ z=>nomatch z) h
 | flt y=>obtain⟨t,q⟩:=(show ∃ t,u=Value.float y t from G);cases q;exact bG PySem.W.kitx_float I.kIn True.intro e (λ z=>nomatch z) h
 | @lst a Z ea =>
  cases(show u=Value.ref a from G)
  obtain⟨_,_,n,_,Y⟩:=(show ag2 X.prog X.w H s.heap a (.lst Z)from I.hok a _ ea)
  exact bG i5 I.kIn ⟨_,Y,rfl⟩ e (λ z=>nomatch z) h
 | @frz a ob Z ea =>
  cases(show u=Value.ref a from G)
  obtain⟨_,_,_,n,_,Y⟩:=(show ag2 X.prog X.w H s.heap a (.frz ob (.lst Z))from I.hok a _ ea)
  exact bG i5 I.kIn ⟨_,Y,rfl⟩ e (λ z=>nomatch z) h
 | @tup a Z ea =>
  cases(show u=Value.ref a from G)
  obtain⟨_,_,_,p⟩:=(show ag2 X.prog X.w H s.heap a (.tup Z)from I.hok a _ ea)
  obtain⟨o,Y,h2,_⟩:=p
  exact bG iK I.kIn ⟨o,Y,h2⟩ e (λ z=>nomatch z) h
 | @dK a kvs ea =>
  cases(show u=Value.ref a from G)
  obtain⟨_,_,vs,_,p⟩:=(show ag2 X.prog X.w H s.heap a (.dK kvs)from I.hok a _ ea)
  obtain⟨o,es,ep,Y,h2,_⟩:=p
  exact bG i6 I.kIn ⟨o,Y,h2.1⟩ e (λ z=>nomatch z) h
 | @dT a kvs ea =>
  cases(show u=Value.ref a from G)
  obtain⟨_,_,Z,_,o,es,ep,Y,h2,_⟩:=(show ag2 X.prog X.w H s.heap a (.dT kvs)from I.hok a _ ea)
  exact bG i6 I.kIn ⟨o,Y,h2.1⟩ e (λ z=>nomatch z) h
 | @ins a C dx fs ea cl ha hn htk hm =>
  cases(show u=Value.ref a from G)
  obtain⟨mA,O,_⟩:=bB9 I.hok ea
  obtain⟨od,J,_⟩:=O.look
  exact bG (PySem.W.kitx_own (cl.get _) cl.hd ha hn htk hm) I.kIn J e (λ z=>nomatch z) h
end
structure Room (k:Nat)(A:aX):Prop where
 hd:A.handled=none
 dp:A.depth+3*k+5<recursionLimit
 un:A.units+16*k+200<cLine
theorem Room.mono {j k:Nat}{A:aX}(r:Room k A)(h:j<=k):Room j A:=⟨r.hd,by have:=r.dp;omega,by have:=r.un;omega⟩
theorem Room.deeper {k:Nat}{A:aX}(r:Room (k+1) A)(env:Env):Room k (A.deeper env) :=
 ⟨r.hd,by have:=r.dp;show A.depth+1+3*k+5<_;omega,by have:=r.un;show A.units+3+16*k+200<_;omega⟩
theorem Room.in1 {k:Nat}{A:aX}(r:Room (k+1) A):Room k A.in1 :=
 ⟨r.hd,by have:=r.dp;show A.depth+3*k+5<_;omega,by have:=r.un;show A.units+1+16*k+200<_;omega⟩
theorem Room.depth {k:Nat}{A:aX}(r:Room k A):A.depth<recursionLimit:=by have:=r.dp;omega
theorem Room.units {k:Nat}{A:aX}(r:Room k A):A.units+64<cLine:=by have:=r.un;omega
theorem Room.units0 {k:Nat}{A:aX}(r:Room k A):A.units<cLine:=by have:=r.un;omega
def bs3:TA:=λ _ H Q=>Q [] H
def aF9 (ta:TE)(tr:TA):TA:=λ σ H Q=>ta σ H λ x H1=>tr σ H1 λ xs H2=>Q (x::xs) H2
section
variable {X:Cx} {e:Expr} {es:List Expr} {te:TE} {t:TA} {pos:Pos}
theorem ai2:PA X [] bs3:=λ _ _ _ _ H Q I h=>Calls.spliced_nil ⟨[],H,I,.nil,h⟩
theorem zW (ha:PE X e te)(hr:PA X es t)(hs:bp (e::es) X.env=(false,eval e X.env)::bp es X.env:=by rfl):PA X (e::es) (aF9 te t):=by
 intro pos p s σ H Q I h
 rw[hs]
 show wpAny _ _ (spliced ((false,eval e X.env)::dI pos (bp es X.env))) _ _ s
 refine Calls.spliced_cons (thn (ha p s σ H _ I h) λ u s1 ⟨x,J,y,r1,Y⟩=>?_)
 exact thn (hr pos p s1 σ J _ y Y) λ us s2 ⟨xs,H2,G,Z,q2⟩=>⟨x::xs,H2,G,.cons r1 Z,q2⟩
def cj9 (t:TA):TE:=λ σ H Q=>t σ H λ xs H1=>xs.length<=aP/\∀ p,H1 p=none->Q (.ref p) (upd H1 p (.tup xs))
def cl6 (t:TA):TE:=λ σ H Q=>t σ H λ xs H1=>xs.length<=aP/\∀ p,H1 p=none->Q (.ref p) (upd H1 p (.lst xs))
theorem bp9 {x1}(h:PA X es t):PE X (.Tuple es x1 pos) (cj9 t):=by
 intro p s σ H Q I hq
 refine wpAny_Tuple_spliced (thn (h pos p s σ H _ I hq) λ us s1 ⟨J,G,y,r,z,q⟩=>⟨by rw[<-r.length];exact z,?_⟩)
 have Y:G s1.heap.objs.size=none:=y.hok.fresh (am _)
 refine⟨.ref s1.heap.objs.size,upd G s1.heap.objs.size (.tup J),y.laid (t':=s1.toks) (λ b u e=>ar _ e) (am _) ?_,rfl,q _ Y⟩
 exact⟨z,us,r,⟨_,a8 _ rfl,rfl,_,rfl⟩⟩
theorem br4 (h:PA X es t):PE X (.List es pos) (cl6 t):=by
 intro p s σ H Q I hq
 refine wpAny_List_spliced (thn (h pos p s σ H _ I hq) λ us s1 ⟨J,G,y,r,z,q⟩=>⟨by rw[<-r.length];exact z,?_⟩)
 have Y:G s1.heap.objs.size=none:=y.hok.fresh (am _)
 refine⟨.ref s1.heap.objs.size,upd G s1.heap.objs.size (.lst J),y.laid (t':=s1.toks) (λ b u e=>ar _ e) (am _) ?_,rfl,q _ Y⟩
 exact⟨z,us,0,r,a8 _ rfl⟩
end
abbrev Sp:=List V->Hp->VK->XK->Prop
abbrev CXT:=List Env->Hp->af->XK->Value->af->Prop
structure Env0 (P:aM)(w:World)(K:ac)(mg:Str->Option Value)(base:Heap)(A:aX)(outer:List Env)(s:af)(H:Hp):Prop where
 frames:A.frames=some outer
 mod:Mod K mg base
 bs:∀ b o,base.get? b=some o->s.heap.get? b=some o/\H b=none
 bsz:base.objs.size<=s.heap.objs.size
 funs:s.heap.FunFrames base outer
 frf:∀ b∈frs outer,H b=none
 hok:HOk P w H s.heap
 bare:eU s.gens
def CE (outer:List Env)(P:aM)(w:World)(H:Hp)(s:af)(Q:VK)(u:Value)(s':af):Prop :=
 ∃ v H',s'.os=s.os/\eU s'.gens/\Un (frs outer) [] H H' s.heap s'.heap/\HOk P w H' s'.heap/\RelV v u/\Q v H'
def CR (CX:CXT)(outer:List Env)(P:aM)(w:World)(H:Hp)(s:af)(Q:VK)(E:XK)(r:kn)(s':af):Prop :=
 match r with
 | .ok (.ret u)=>CE outer P w H s Q u s'
 | .ok _=>False
 | .error e=>CX outer H s E e s'
structure FnOk (P:aM)(w:World)(K:ac)(mg:Str->Option Value)(base:Heap)(CX:CXT)(k:Nat)(f:Addr)(fd:bu)(ps:List Str)(sp:Sp):Prop where
 len:∀ vs H Q E,sp vs H Q E->vs.length=ps.length
 run:∀(A:aX) (outer:List Env) (s:af) (H:Hp) (args:Args) (us:List Value) (vs:List V) (Q:VK) (E:XK),Room k A->Env0 P w K mg base A outer s H->ke s fd args (ps.zip us)->Vals vs us->sp vs H Q E ->
  f9 (model P w) A (.call (.ref f) args) (CR CX outer P w H s Q E) s
theorem FnOk.imp {P:aM}{w:World}{K:ac}{mg:Str->Option Value}{base:Heap}{J:CXT}{k:Nat}{f:Addr}{G:bu}{ps:List Str}{sp y:Sp}(F:FnOk P w K mg base J k f G ps sp)
  (h:∀ vs H Q E,y vs H Q E->sp vs H Q E):FnOk P w K mg base J k f G ps y :=
 ⟨λ vs H Q E q=>F.len vs H Q E (h _ _ _ _ q),λ A p s H args us vs Q E Y Z hb hv hs=>F.run A p s H args us vs Q E Y Z hb hv (h _ _ _ _ hs)⟩
section
variable {X:Cx} {pins:List (Addr×Obj)} {σ:St} {H:Hp} {s s':af}
theorem Inv.env0 (I:Inv X pins σ H s):Env0 X.prog X.w X.K X.mg X.base X.A X.stack s H :=
 ⟨I.ok.frames,I.ok.mod,I.bs,ao I.ok.bsz I.sz,I.stack,I.stkFree,I.hok,I.bare⟩
theorem Inv.after {Q:VK}{u:Value}(I:Inv X pins σ H s)(h:CE X.stack X.prog X.w H s Q u s'):EP X pins σ Q u s':=by
 obtain⟨v,H',os,bare,un,hok,r,q⟩:=h
 obtain⟨y,g,d,t,p⟩:=s'
 obtain rfl:p=s.os:=os
 exact⟨v,H',I.call (h':=y) (g':=g) (d':=d) (t':=t) (ch:=[]) un hok bare (λ b z=>absurd z (by simp)),r,q⟩
end
def aS7 (sp:Sp)(dvs:List V)(E:XK)(t:TA):TE:=λ σ H Q=>t σ H λ vs H1=>sp (vs++dvs) H1 Q E
def Binds (K:ac)(fd:bu)(ps:List Str)(ds:List Value):Prop :=
 ∀(s:af) (us:List Value),K.In s.heap->(us++ds).length=ps.length->ke s fd ⟨us,[]⟩ (ps.zip (us++ds))
theorem Binds.all {K:ac}{p:bu}{ps:List Str}(h:∀ us:List Value,us.length=ps.length->ef p ⟨us,[]⟩=pure (ps.zip us)):Binds K p ps []:=λ s us _ hl=>by
 rw[bo]at hl ⊢
 exact .of_eq (h us hl)
def al4 (CX:CXT)(X:Cx)(E:XK):Prop:=∀(pins:List (Addr×Obj)) (σ:St) (H:Hp) (s:af) (e:Value) (s':af),Inv X pins σ H s->CX X.stack H s E e s'->X.xe e s'
section
variable {X:Cx} {CX:CXT} {k:Nat} {f C:Addr} {fd:bu} {ps:List Str} {sp:Sp} {dvs:List V} {ds:List Value} {E:XK} {x m:Str} {p pos apos:Pos} {e o:Expr} {es:List Expr} {ta:TE} {t:TA}
theorem bs1 {p:List (Addr×Obj)}{σ:St}{H:Hp}{s:af}{Q:VK}{us:List Value}{vs:List V}(F:FnOk X.prog X.w X.K X.mg X.base CX k f fd ps sp)(G:Room k X.A)(hb:Binds X.K fd ps ds)(hd:Vals dvs ds)(hx:al4 CX X E)
  (I:Inv X p σ H s) (r:Vals vs us) (h:sp (vs++dvs) H Q E):wpAny (model X.prog X.w) X.A (call (.ref f) us) (EP X p σ Q) X.xe s:=by
 have y:Vals (vs++dvs) (us++ds):=r.append hd
 have hl:(us++ds).length=ps.length:=by rw[<-y.length];exact F.len _ _ _ _ h
 refine gb (eX (F.run X.A X.stack s H ⟨us,[]⟩ (us++ds) (vs++dvs) Q E G I.env0 (hb s us I.kIn hl) y h) λ r s' hq=>?_)
 cases r with
 | error e=>exact hx p σ H s e s' I hq
 | ok fl =>
  cases fl with
  | ret u=>exact I.after hq
  | next=>exact bf hq
  | brk=>exact bf hq
  | cont=>exact bf hq
theorem be3 (F:FnOk X.prog X.w X.K X.mg X.base CX k f fd ps sp)(hr:Room k X.A)(hg:Gl X x)(hm:X.mg x=some (.ref f))(hk:bZ X.K (.ref f)=true)(hb:Binds X.K fd ps ds)(hd:Vals dvs ds)(hx:al4 CX X E)
  (ha:PA X (e::es) t) (G:(x==("__debug__":Str))=false:=by decide) (Z:bp (e::es) X.env=(false,eval e X.env)::bp es X.env:=by rfl) (J:(dI pos (bp es X.env)).any (·.1)=false:=by rfl) :
  PE X (.Call (.Name x p) (e::es) [] pos) (aS7 sp dvs E t):=by
 intro y s σ H Q I h
 refine cu (ay3 I hg hm ?_ G)
 refine iL (h₀:=X.base) I.ok.mod.kin hk (thn (ha pos y s σ H _ I h) λ us s1 ⟨vs,H1,Y,r,q⟩=>⟨Y.kIn,?_⟩) Z J
 exact bs1 F hr hb hd hx Y r q
theorem bo7 (F:FnOk X.prog X.w X.K X.mg X.base CX k f fd ps sp)(Z:Room k X.A)(Y:Gl X x)(J:X.mg x=some (.ref f))(hk:bZ X.K (.ref f)=true)(hb:Binds X.K fd ps ds)(hd:Vals dvs ds)(hx:al4 CX X E)
  (y:(x==("__debug__":Str))=false:=by decide):PE X (.Call (.Name x p) [] [] pos) (aS7 sp dvs E bs3):=by
 intro G s σ H Q I h
 refine cu (ay3 I Y J ?_ y)
 exact PySem.W.callWith_K0 I.kIn hk (bs1 (us:=[]) F Z hb hd hx I .nil h)
structure Mk (K:ac)(C f:Addr):Prop where
 makes:PySem.W.makesIn K C=true
 init:bP K (.ref C) "__init__"=some (some (.ref f))
 fn:PySem.W.isFn K (.ref f)=true
 kp:bZ K (.ref C)=true
end
section
variable {X:Cx} {CX:CXT} {k:Nat} {f C:Addr} {fd:bu} {ps ks:List Str} {sp:Sp} {E:XK} {x m:Str} {p pos apos kpos:Pos} {e o:Expr} {es:List Expr} {kws:List kg} {te ta:TE} {t tk:TA} {nm:Option Str}
variable {g:List Value->List Value->List Value} {gV:List V->List V->List V}
end
structure FnScope (N P:List Str)(sc:Scope):Prop where
 kind:sc.kind=.function
 co:sc.isCoroutine=false
 gen:sc.isGenerator=false
 nd:N.Nodup
 pre:N.take P.length=P
 par:∀ x∈P,sc.names.lookup x=some .local\/sc.names.lookup x=some .cell
 nofree:∀ y∈sc.names,y.2≠.free
theorem aD7 {d4:Str->Option bQ}{x:Str}:∀ {binds:List (Str×Value)} {m:Str->Option Value},(∀ v,(x,v) ∉ binds)->bindL d4 binds m x=m x
 | [],_,_=>rfl
 | (n,v)::r,m,h=>by
  unfold bindL
  rw[aD7 λ w hw=>h w (aj _ hw)]
  split
  ·have:x≠n:=by rintro rfl;exact h v aB
   simp[this]
  ·rfl
theorem aB3 {d4:Str->Option bQ}{x:Str}:∀ {binds:List (Str×Value)} {m:Str->Option Value},(∀ v,(x,v) ∉ binds)->bindC d4 binds m x=m x
 | [],_,_=>rfl
 | (n,v)::r,m,h=>by
  unfold bindC
  rw[aB3 λ w hw=>h w (aj _ hw)]
  split
  ·rfl
  ·have:x≠n:=by rintro rfl;exact h v aB
   simp[this]
theorem aq6 {d4:Str->Option bQ}{x:Str}{v:Value}:∀ {P:List Str} {vs:List Value} {i:Nat} {m:Str->Option Value},P.Nodup->P[i]?=some x->vs[i]?=some v->d4 x=some .local ->
  bindL d4 (P.zip vs) m x=some v
 | [],_,_,_,_,h,_,_=>by simp at h
 | _::_,[],_,_,_,_,h,_=>by simp at h
 | p::P,w::vs,0,m,nd,h1,h2,hk=>by
  simp at h1 h2;subst h1;subst h2
  show bindL d4 ((p,w)::P.zip vs) m p=_
  unfold bindL
  rw[aD7 λ v hv=>(dk.mp nd).1 (dm hv).1,if_pos hk]
  simp
 | p::P,w::vs,i+1,m,nd,h1,h2,hk=>by
  show bindL d4 ((p,w)::P.zip vs) m x=_
  unfold bindL
  exact aq6 (i:=i) (dk.mp nd).2 (by simpa using h1) (by simpa using h2) hk
theorem aq1 {d4:Str->Option bQ}{x:Str}{v:Value}:∀ {P:List Str} {vs:List Value} {i:Nat} {m:Str->Option Value},P.Nodup->P[i]?=some x->vs[i]?=some v->d4 x≠some .local ->
  bindC d4 (P.zip vs) m x=some v
 | [],_,_,_,_,h,_,_=>by simp at h
 | _::_,[],_,_,_,_,h,_=>by simp at h
 | p::P,w::vs,0,m,nd,h1,h2,hk=>by
  simp at h1 h2;subst h1;subst h2
  show bindC d4 ((p,w)::P.zip vs) m p=_
  unfold bindC
  rw[aB3 λ v hv=>(dk.mp nd).1 (dm hv).1,if_neg hk]
  simp
 | p::P,w::vs,i+1,m,nd,h1,h2,hk=>by
  show bindC d4 ((p,w)::P.zip vs) m x=_
  unfold bindC
  exact aq1 (i:=i) (dk.mp nd).2 (by simpa using h1) (by simpa using h2) hk
noncomputable def aj6 (N:List Str)(vs:List V):St:=vs.map some++av (N.length - vs.length) none
noncomputable def az5 (CX:CXT)(P:aM)(w:World)(K:ac)(mg:Str->Option Value)(base:Heap)(N:List Str)(qual:Str)(scope:Scope)(f:Addr)(cd:Value)(A:aX)(outer:List Env)(s:af)(H:Hp)(E:XK):Cx where
 prog:=P
 w:=w
 K:=K
 mg:=mg
 base:=base
 A:=A.deeper (eN qual scope s.heap.objs.size f cd)
 N:=N
 s₀:=s
 H₀:=H
 env:=eN qual scope s.heap.objs.size f cd
 outer:=outer
 stack:=eN qual scope s.heap.objs.size f cd::outer
 ex:=[]
 calm:=true
 fn:=λ _=>true
 pn:=[]
 xe:=λ e s'=>wpAny (model P w) (A.deeper (eN qual scope s.heap.objs.size f cd)) (leaving (eN qual scope s.heap.objs.size f cd) e) (λ _ s''=>CX outer H s E e s'') (λ e' s''=>CX outer H s E e' s'') s'
theorem ql {sc:Scope}{n:Nat}{x:Str}(h:sc.names.lookup x=some .cell):∃ c,(aQ n sc.names []).lookup x=some c:=by
 have q:=gf sc.names n [] (.inl h)
 exact fM.mp q
theorem bb8 {CX:CXT}{P:aM}{w:World}{K:ac}{mg:Str->Option Value}{base:Heap}{N ps:List Str}{qual:Str}{scope:Scope}{f:Addr}{cd:Value}{A:aX}{G:List Env}{s s1:af}{H:Hp}{E:XK}{us:List Value}{vs:List V}
  (S:FnScope N ps scope) (hd:A.handled=none) (Y:Env0 P w K mg base A G s H) (hl:vs.length=ps.length) (r:Vals vs us)
  (x:fC s s.heap.objs.size (bindL (eN qual scope s.heap.objs.size f cd).kindOf (ps.zip us) λ _=>none) (aQ (s.heap.objs.size+1) scope.names []) (bindC (eN qual scope s.heap.objs.size f cd).kindOf (ps.zip us) λ _=>none) s1) :
  Inv (az5 CX P w K mg base N qual scope f cd A G s H E) [] (aj6 N vs) H s1:=by
 have a1:ps.length<=N.length:=by have:=congrArg kX S.pre;rw[br]at this;omega
 obtain⟨h1,tk,rfl,hk⟩:=x.done
 have Z:∀ b:Addr,b ∉ (az5 CX P w K mg base N qual scope f cd A G s H E).ex:=λ b z=>absurd (show b∈([]:List Addr)from z) (by simp)
 refine⟨⟨Y.mod,S.kind,rfl,rfl,am _,λ y z c h1 J=>?_,λ y hy=>?_,λ y c _ h=>?_,λ _=>hd,gT Y.frames,.inr ⟨rfl,rfl⟩,λ b z=>absurd z (Z b),Y.bs,Y.bsz,λ b _ _=>Z b,λ b z=>absurd z (Z b),Y.funs,Y.frf⟩,
  rfl,Y.bare,Un.kept hk,⟨_,x.toInCall.ns,λ i y v h1 J h3=>?_⟩,λ y c h=>⟨_,x.cell y c h⟩,Y.hok.fresh (am _),λ y c h=>?_,λ p hp=>absurd (show p∈([]:List (Addr×Obj))from hp) (by simp),Y.hok.kept hk,?_⟩
 ·exact gh x.apart (aD h1) (aD J)
 ·have hy:scope.names.lookup y=some .cell\/scope.names.lookup y=some .free:=hy
  rcases hy with hy|hy
  ·exact ql hy
  ·exact absurd rfl (S.nofree _ (aD hy))
 ·exact dG (x.above y c (aD h))
 ·have hi:i<vs.length:=by
   unfold aj6 at J
   by_cases hi:i<vs.length
   ·exact hi
   ·rw[ak (by simpa using hi)]at J
    rw[fS]at J
    split at J<;>cases J
  have ha:vs[i]?=some v:=by
   unfold aj6 at J
   rw[aA (by simpa using hi),ax]at J
   cases e:vs[i]? with
   | none=>rw[e]at J;cases J
   | some a=>rw[e]at J;cases J;rfl
  obtain⟨u,hu,rv⟩:=r.get ha
  have hp:ps[i]?=some y:=by
   rw[<-S.pre,List.getElem?_take_of_lt (by omega)];exact h1
  have a0:ps.Nodup:=by rw[<-S.pre];exact S.nd.sublist (List.take_sublist _ _)
  refine⟨u,rv,?_⟩
  rcases S.par y (bq hp)with k|k
  ·exact .inl ⟨k,aq6 a0 hp hu k⟩
  ·obtain⟨c,e⟩:=ql (n:=s.heap.objs.size+1) k
   refine .inr ⟨.inl k,c,e,?_⟩
   have q:=x.cell y c e
   rw[aq1 a0 hp hu (by show scope.names.lookup y≠_;rw[k];decide)]at q
   exact q
 ·exact Y.hok.fresh (dG (x.above y c (aD h)))
 ·unfold aj6
  show _=N.length
  rw[aL,aC,gH]
  omega
theorem bG2 {CX:CXT}{P:aM}{w:World}{K:ac}{mg:Str->Option Value}{base:Heap}{k:Nat}{f:Addr}{name qual:Str}{params:bA}{body:List Stmt}{scope:Scope}{dV kV a1 pm p ct oc:Value}{an od:Option Addr}
  {a2:Array (Option Value)} {N ps:List Str} {sp:Sp} (lk:K.lookup f=some ⟨oc,od,.func (cQ name qual params body scope dV kV a1 pm an p ct),a2⟩) (a3:fh K p qual=true) (S:FnScope N ps scope)
  (len:∀ vs H Q E,sp vs H Q E->vs.length=ps.length)
  (Y:∀(A:aX) (h:List Env) (s:af) (H:Hp) (vs:List V) (Q:VK) (E:XK),Room k (A.deeper (eN qual scope s.heap.objs.size f p))->sp vs H Q E ->
   ∃ t,PSs (az5 CX P w K mg base N qual scope f p A h s H E) body t/\t { nx:=λ _ H'=>Q .non H',rt:=Q } (aj6 N vs) H) :
  FnOk P w K mg base CX (k+1) f (cQ name qual params body scope dV kV a1 pm an p ct) ps sp:=by
 refine⟨len,λ A h s H args us vs Q E hr Z hb r a0=>?_⟩
 have hl:=len _ _ _ _ a0
 have KX:K.In s.heap:=Z.mod.kin.keeps λ b o e=>(Z.bs b o e).1
 have a4:s.heap.NoLimit:=Z.mod.nolimit.keeps λ b o e=>(Z.bs b o e).1
 have G:∀ y∈ps.zip us,scope.names.lookup y.1=some .local\/(scope.names.lookup y.1=some .cell/\((aQ (s.heap.objs.size+1) scope.names []).lookup y.1).isSome=true):=λ⟨n,v⟩ hy=>by
  rcases S.par n (dm hy).1 with q|q
  ·exact .inl q
  ·exact .inr ⟨q,gf _ _ _ (.inl q)⟩
 refine gI hr.depth (KX _ _ lk) rfl S.co S.gen rfl (PySem.W.codeRec_of KX a3) (hb _ _ _ _ ?_)
 refine wpAny_newFunctionEnv_cells S.kind G λ env he s1 x=>?_
 subst he
 refine⟨a4.keeps x.toInCall.keep,codeAny_func ?_⟩
 obtain⟨t,ht,hq⟩:=Y A h s H vs Q E (hr.deeper _) a0
 have I:Inv (az5 CX P w K mg base N qual scope f p A h s H E) [] (aj6 N vs) H s1:=bb8 S hr.hd Z hl r x
 refine bz (ht [] s1 (aj6 N vs) H _ I hq) (λ fl s' hs=>?_) λ e s' hs=>hs
 have fin:∀ {σ':St} {H':Hp} {v:V} {u:Value},Inv (az5 CX P w K mg base N qual scope f p A h s H E) [] σ' H' s'->RelV v u->Q v H'->CE h P w H s Q u s' :=
  λ {σ' H' v u} J rv q=>⟨v,H',J.os,J.bare,J.base,J.hok,rv,q⟩
 cases fl with
 | ret u =>
  obtain⟨v,σ',H',J,rv,q⟩:=hs
  exact fin J rv q
 | next =>
  obtain⟨σ',H',J,q⟩:=hs
  exact fin (v:=V.non) (u:=Value.none) J rfl q
 | brk =>
  obtain⟨_,_,_,q⟩:=hs
  exact bf q
 | cont =>
  obtain⟨_,_,_,q⟩:=hs
  exact bf q
section
variable {X:Cx} {x:Str} {p pos:Pos} {e:Expr} {es:List Expr} {t:TA} {id T:String} {r:List V->Hp->VK->Prop}
def tCB (r:List V->Hp->VK->Prop)(t:TA):TE:=λ σ H Q=>t σ H λ vs H1=>r vs H1 Q
theorem al3 (hc:ag6 X (.builtin id) r)(hg:Gl X x)(hm:X.mg x=none)(hv:bj x=some (.builtin id))(ha:PA X (e::es) t)(hn:x ≠ "__name__":=by decide)(G:(x==("__debug__":Str))=false:=by decide)
  (Y:bp (e::es) X.env=(false,eval e X.env)::bp es X.env:=by rfl) (J:(dI pos (bp es X.env)).any (·.1)=false:=by rfl):PE X (.Call (.Name x p) (e::es) [] pos) (tCB r t):=by
 intro y s σ H Q I h
 refine cu (aL9 I hg hm hv ?_ hn G)
 exact PyProof.Rows.callWith_builtin1 (thn (ha pos y s σ H _ I h) λ us s1 ⟨vs,H1,Z,r1,q1⟩=>hc y s1 σ H1 vs us Q Z r1 q1) Y J
theorem aq3 (hc:ag6 X (.type T) r)(hg:Gl X x)(hm:X.mg x=none)(hv:bj x=some (.type T))(ha:PA X (e::es) t)(hn:x ≠ "__name__":=by decide)(G:(x==("__debug__":Str))=false:=by decide)
  (Y:bp (e::es) X.env=(false,eval e X.env)::bp es X.env:=by rfl) (J:(dI pos (bp es X.env)).any (·.1)=false:=by rfl):PE X (.Call (.Name x p) (e::es) [] pos) (tCB r t):=by
 intro y s σ H Q I h
 refine cu (aL9 I hg hm hv ?_ hn G)
 exact eW (thn (ha pos y s σ H _ I h) λ us s1 ⟨vs,H1,Z,r1,q1⟩=>hc y s1 σ H1 vs us Q Z r1 q1) Y J
end
end L2
end
noncomputable section
namespace HT
open PySem PyProof.Rows
section
open PySem.SeqAt
open PySem.AutoSeq1 (wpAny_loadPart')
open PySem.MeetsSeq PySem.MeetsSeq2 PySem.MeetsSeq3
end
section
variable {prog:aM} {w:World} {A:aX} {E:Value->af->Prop} {s:af}
theorem cat_tup {t b:Addr}{vs ws:List Value}{Q:Value->af->Prop}(ht:IsTup s.heap t vs.toArray)(hb:IsTup s.heap b ws.toArray)(hv:vs≠[])
  (h1:ws=[]->Q (.ref t) s) (h2:ws≠[]->Q (.ref s.heap.objs.size) { s with heap:=s.heap.push { cls:=.type "tuple",data:=.seq (vs++ws).toArray } })
  (hsz:vs.length+ws.length<=aP):wpAny (model prog w) A (bX .Add (.ref t) (.ref b)) Q E s:=by
 obtain⟨⟨cls,dd,data,sl⟩,ho,hc,n,hd⟩:=id ht
 obtain⟨⟨a0,p,Y,J⟩,h,G,Z,y⟩:=id hb
 simp only at hc hd G y
 subst hc hd G y
 have e:vs.toArray++ws.toArray=(vs++ws).toArray:=by simp
 by_cases hw:ws=[]
 ·exact i7 ⟨_,ho,rfl⟩ ⟨_,h,rfl⟩ fT iA dM dz (di _ _)
   (tuple_addW1 t b vs.toArray ws.toArray n Z dd p sl J (by simpa using hv) (by simp[hw])) ⟨ho,h,h1 hw⟩
 ·refine i7 ⟨_,ho,rfl⟩ ⟨_,h,rfl⟩ fT iA dM dz (di _ _)
   (tuple_addW2 t b vs.toArray ws.toArray n Z dd p sl J (by simpa using hv) (by simpa using hw) (by rw[ay,ay];exact hsz)) ⟨ho,h,?_⟩
  rw[e]
  exact h2 hw
noncomputable def sIx (n d:Nat):Option Int->Nat
 | none=>d
 | some v=>if v<0 then(v+(n:Int)).toNat else min v.toNat n
theorem sIx_le (n d:Nat)(hd:d<=n)(o:Option Int):sIx n d o<=n:=by
 cases o with
 | none=>exact hd
 | some v =>
  show(if v<0 then(v+(n:Int)).toNat else min v.toNat n)<=n
  by_cases hv:v<0
  ·rw[if_pos hv];omega
  ·rw[if_neg hv];exact fU _ _
theorem clip_eq (v:Int)(n d:Nat):(if v<0 then max (v+(n:Int)) 0 else min v (n:Int))=((sIx n d (some v):Nat):Int):=by
 show(if v<0 then max (v+(n:Int)) 0 else min v (n:Int))=(((if v<0 then(v+(n:Int)).toNat else min v.toNat n):Nat):Int)
 by_cases hv:v<0
 ·simp only[if_pos hv];omega
 ·simp only[if_neg hv];omega
theorem adjust_gen (p h:Option Int)(n:Nat):dg p h 1 (n:Int)=(((sIx n 0 p:Nat):Int),((sIx n n h:Nat):Int)):=by
 have y:¬((1:Int)<0):=by omega
 unfold dg
 simp only[y,if_false]
 refine Prod.ext ?_ ?_
 ·cases p with
  | none=>rfl
  | some v=>exact clip_eq v n 0
 ·cases h with
  | none=>rfl
  | some v=>exact clip_eq v n n
theorem places_gen (i j:Nat):cA (i:Int) (j:Int) 1=j - i:=by
 unfold cA
 have h:(1:Int) > 0:=by omega
 simp only[h,if_true,Int.ediv_one]
 split<;>omega
theorem slicePart_ {v:Value}{o:Option Int}{Q:Option Int->af->Prop}(p:fN v o)(h:Q o s):wpAny (model prog w) A (j3 v) Q E s:=by
 cases p with
 | none=>exact slicePart_none h
 | int i t=>exact slicePart_int h
theorem sliceApplied_gen {sl:Addr}{vl vu:Value}{p G:Option Int}{n:Nat}{Q:Int×Int×Nat->af->Prop}(hs:s.heap.IsSliceOf sl vl vu .none)(Y:fN vl p)(pu:fN vu G)
  (h:Q (((sIx n 0 p:Nat):Int),1,sIx n n G - sIx n 0 p) s):wpAny (model prog w) A (fi (.ref sl) (pure (n:Int))) Q E s:=by
 obtain⟨os,J,Z,y⟩:=id hs
 unfold fi kE
 refine ai (ai (dA J y (x:=vl) rfl (ai (dA J y (x:=vu) rfl (ai (dA J y (x:=.none) rfl (aI ?_)))))))
 refine ai (slicePart_none ?_)
 show wpAny _ _ (if((1:Int)==0)=true then _ else _) _ _ s
 rw[if_neg (by decide)]
 refine ai (slicePart_ Y (ai (slicePart_ pu (ai (aI ?_)))))
 show wpAny _ _ (match dg p G 1 (n:Int)with|(p,G)=>pure (p,(1:Int),cA p G 1)) _ _ s
 rw[adjust_gen p G n]
 show wpAny _ _ (pure (((sIx n 0 p:Nat):Int),(1:Int),cA ((sIx n 0 p:Nat):Int) ((sIx n n G:Nat):Int) 1)) _ _ s
 rw[places_gen]
 exact aI h
theorem pick_gen (h:Array Value)(i k:Nat):((aw k).filterMap λ(m:Nat)=>h[((i:Int)+(m:Int)*1).toNat]?).toArray=((h.toList.drop i).take k).toArray:=by
 have e:(λ(m:Nat)=>h[((i:Int)+(m:Int)*1).toNat]?)=λ m=>h[i+m]?:=by
  funext m
  have:((i:Int)+(m:Int)*1).toNat=i+m:=by omega
  rw[this]
 rw[e]
 have:=pick_run h i k
 rw[iM]at this
 have e2:((λ x=>h[x]?) ∘ λ x=>i+x)=λ m=>h[i+m]?:=rfl
 rw[e2]at this
 rw[this]
theorem getItem_tuple_cut {t sl:Addr}{p:Array Value}{vl vu:Value}{G J:Option Int}{Q:Value->af->Prop}(Y:IsTup s.heap t p)(hs:s.heap.IsSliceOf sl vl vu .none)(pl:fN vl G)(pu:fN vu J)
  (hw:¬(sIx p.size 0 G=0/\sIx p.size p.size J=p.size))
  (h:Q (.ref s.heap.objs.size) { s with heap:=s.heap.push { cls:=.type "tuple",data:=.seq ((p.toList.drop (sIx p.size 0 G)).take (sIx p.size p.size J - sIx p.size 0 G)).toArray } })
  (hsz:p.size<=aP):wpAny (model prog w) A (gi (.ref t) (.ref sl)) Q E s:=by
 have y:sizeOk (.seq ((p.toList.drop (sIx p.size 0 G)).take (sIx p.size p.size J - sIx p.size 0 G)).toArray):=by
  show((p.toList.drop (sIx p.size 0 G)).take (sIx p.size p.size J - sIx p.size 0 G)).toArray.size<=aP
  rw[ay,br,d5,eT]
  omega
 have hj:sIx p.size p.size J<=p.size:=sIx_le _ _ (am _) J
 obtain⟨os,a1,Z,a3⟩:=id hs
 have a2:s.TypeIs (.ref sl) "slice":=⟨os,a1,Z⟩
 unfold gi
 try with_reducible refine cI ?_
 first|refine ai (aI ?_)|skip
 refine ai (i8 Y.typeIs (by decide) ?_)
 refine ai (cK (name:=bD "__getitem__") Y.typeIs bt
  (da bt Y.typeIs ig ?_ (iO _ _)))
 show wpAny _ _ (c8 (.ref t) >>= _) _ _ s
 refine ai (iB Y ?_)
 refine ai (gj a2 ?_)
 rw[if_pos (by decide)]
 refine ai (sliceApplied_gen hs pl pu ?_)
 have a0:¬((((sIx p.size 0 G:Nat):Int)==0&&(1:Int)==1&&(sIx p.size p.size J - sIx p.size 0 G)==p.size)=true):=by
  intro q
  rw[ag,ag]at q
  have q1:((sIx p.size 0 G:Nat):Int)=0:=eq_of_beq q.1.1
  have q2:sIx p.size p.size J - sIx p.size 0 G=p.size:=eq_of_beq q.2
  exact hw ⟨by omega,by omega⟩
 show wpAny _ _ (if(((sIx p.size 0 G:Nat):Int)==0&&(1:Int)==1&&(sIx p.size p.size J - sIx p.size 0 G)==p.size)=true then _ else _) _ _ s
 rw[if_neg a0,pick_gen]
 first
  | exact ai (m:=cJ _) (bO (aI ⟨_,rfl,aI h⟩) y)
  | exact ai (m:=cJ _) (bO (ai (aI (aI ⟨_,rfl,aI h⟩))) y)
  | exact ai (ai (m:=cJ _) (bO (aI (aI ⟨_,rfl,aI h⟩)) y))
  | exact ai (ai (m:=cJ _) (bO (aI ⟨_,rfl,aI h⟩) y))
end
end HT
noncomputable section
namespace L2
open PySem PySem.Spec PyProof.Rows
abbrev TO:=St->Hp->(Option Int->Hp->Prop)->Prop
def PO (X:Cx)(e:Option Expr)(t:TO):Prop :=
 ∀(pins:List (Addr×Obj)) (s:af) (σ:St) (H:Hp) (Q:Option Int->Hp->Prop),Inv X pins σ H s->t σ H Q ->
  wpAny (model X.prog X.w) X.A (evalPart e X.env) (λ u s'=>∃ o H',Inv X pins σ H' s'/\fN u o/\Q o H') X.xe s
noncomputable def aI1:TO:=λ _ H Q=>Q none H
noncomputable def bf3 (t:TE):TO:=λ σ H Q=>t σ H λ x H1=>∃ i,x=.int i/\Q (some i) H1
section
variable {X:Cx} {e:Expr} {te:TE} {lo hi:Option Expr} {tl th:TO} {pos p2:Pos}
theorem bE5:PO X none aI1:=by
 intro p s σ H Q I h
 rw[evalPart_none]
 exact aI ⟨none,H,I,.none,h⟩
theorem bA4 (h:PE X e te):PO X (some e) (bf3 te):=by
 intro p s σ H Q I hw
 rw[evalPart_some]
 refine thn (h p s σ H _ I hw) λ u s1 ⟨x,G,y,r1,J⟩=>?_
 obtain⟨i,rfl,q⟩:=J
 obtain⟨t,rfl⟩:=r1
 exact⟨some i,G,y,.int i t,q⟩
def SlR (X:Cx)(r:V->Option Int->Option Int->Hp->VK->Prop):Prop :=
 ∀(pins:List (Addr×Obj)) (s:af) (σ:St) (H:Hp) (x:V) (v vl vu:Value) (lo hi:Option Int) (sl:Addr) (Q:VK),Inv X pins σ H s->RelV x v->s.heap.IsSliceOf sl vl vu .none->fN vl lo->fN vu hi->r x lo hi H Q ->
  ∃ T id,typeLookup (.type T) "__getitem__"=pure (some (.builtin id))/\s.TypeIs v T/\wpAny (model X.prog X.w) X.A (gi v (.ref sl)) (EP X pins σ Q) X.xe s
def tSl (r:V->Option Int->Option Int->Hp->VK->Prop)(te:TE)(tl th:TO):TE:=λ σ H Q=>te σ H λ x H1=>tl σ H1 λ l H2=>th σ H2 λ u H3=>r x l u H3 Q
theorem bo1 {r:V->Option Int->Option Int->Hp->VK->Prop}(G:SlR X r)(Z:PE X e te)(hl:PO X lo tl)(hu:PO X hi th):PE X (.Subscript e (.Slice lo hi none p2) pos) (tSl r te tl th):=by
 intro p s σ H Q I h
 refine Subscript_ (thn (Z p s σ H _ I h) λ v s1 ⟨x,H1,I1,r1,q1⟩=>?_)
 refine wpAny_Slice (thn (hl p s1 σ H1 _ I1 q1) λ vl s2 ⟨l,H2,I2,J,q2⟩=>thn (hu p s2 σ H2 _ I2 q2) λ vu s3 ⟨u,y,Y,pu,q3⟩=>?_)
 rw[evalPart_none]
 refine aI ?_
 have I4:Inv X p σ y { s3 with heap:=s3.heap.push { cls:=.type "slice",data:=.fields #[vl,vu,.none] } }:=Y.kept (t':=s3.toks) λ b ob q=>ar _ q
 obtain⟨T,id,hT,ht,hg⟩:=G p { s3 with heap:=s3.heap.push { cls:=.type "slice",data:=.fields #[vl,vu,.none] } } σ y x v vl vu l u s3.heap.objs.size Q I4 r1 (k8 ..) J pu q3
 show wpAny (model X.prog X.w) X.A (subscriptTail e (.Slice lo hi none p2) v (.ref s3.heap.objs.size)) (EP X p σ Q) X.xe { s3 with heap:=s3.heap.push { cls:=.type "slice",data:=.fields #[vl,vu,.none] } }
 exact ko (ops:=[.ref s3.heap.objs.size,v]) ht hT hg (by with_unfolding_all rfl)
noncomputable def aR9 (xs:List V)(lo hi:Option Int):List V:=(xs.drop (HT.sIx xs.length 0 lo)).take (HT.sIx xs.length xs.length hi - HT.sIx xs.length 0 lo)
theorem ap2 (h:List V)(y p:Option Int):(aR9 h y p).length<=h.length:=by
 unfold aR9
 rw[br,d5]
 omega
def cn8 (K:ac):V->Option Int->Option Int->Hp->VK->Prop:=λ x lo hi H Q=>∃ a xs,x=.ref a/\SqT K H a xs /\
 ¬(HT.sIx xs.length 0 lo=0/\HT.sIx xs.length xs.length hi=xs.length)/\∀ p,H p=none->Q (.ref p) (upd H p (.tup (aR9 xs lo hi)))
theorem bL2:SlR X (cn8 X.K):=by
 intro Y s σ H x v vl vu G J sl Q I rx hs pl pu h
 obtain⟨a,y,rfl,hx,hw,q⟩:=h
 cases rx
 obtain⟨its,r,Z,hz⟩:=I.tuple hx
 have p:its.toArray.size=y.length:=by rw[ay];exact r.length.symm
 refine⟨"tuple",_,bt.lookup,Z.typeIs,?_⟩
 refine HT.getItem_tuple_cut Z hs pl pu (by rw[p];exact hw) ?_ (by rw[p];exact hz)
 rw[p]
 refine⟨.ref s.heap.objs.size,_,I.laid (t':=s.toks) (o:=.tup (aR9 y G J)) (λ b ob q=>ar _ q) (am _) ?_,rfl,q _ (I.hok.fresh (am _))⟩
 exact⟨ao (ap2 y G J) hz,_,(r.drop (HT.sIx y.length 0 G)).take (HT.sIx y.length y.length J - HT.sIx y.length 0 G),jO _ _⟩
def cf9 (K:ac):R2:=λ x y H Q=>∃ a b xs ys,x=.ref a/\y=.ref b/\SqT K H a xs/\SqT K H b ys/\xs≠[]/\xs.length+ys.length<=aP /\
 (ys=[]->Q (.ref a) H)/\(ys≠[]->∀ p,H p=none->Q (.ref p) (upd H p (.tup (xs++ys))))
theorem Vals.nil_iff {h:List V}{us:List Value}(r:Vals h us):us=[]↔h=[]:=by
 cases r with
 | nil=>simp
 | cons _ _=>simp
theorem bH8:OpR X (bX .Add) (cf9 X.K):=by
 intro G s σ H x y v u Q I Z ry h
 obtain⟨a,b,xs,ys,rfl,rfl,ha,hb,hx,hz,q1,q2⟩:=h
 cases Z
 cases ry
 obtain⟨its,r1,p1,_⟩:=I.tuple ha
 obtain⟨J,p,Y,_⟩:=I.tuple hb
 refine HT.cat_tup p1 Y (λ z=>hx (r1.nil_iff.mp z)) (λ z=>⟨.ref a,H,I,rfl,q1 (p.nil_iff.mp z)⟩) (λ z=>?_) (by rw[<-r1.length,<-p.length];exact hz)
 refine⟨.ref s.heap.objs.size,_,I.laid (t':=s.toks) (o:=.tup (xs++ys)) (λ b ob q=>ar _ q) (am _) ?_,rfl,q2 (λ w=>z (p.nil_iff.mpr w)) _ (I.hok.fresh (am _))⟩
 exact⟨by rw[aL];exact hz,_,r1.append p,jO _ _⟩
end
noncomputable def ixN (n:Nat)(i:Int):Option Nat:=if 0<=i then(if i<n then some i.toNat else none)else if -(n:Int)<=i then some (i+n).toNat else none
noncomputable def atI {α:Type}(xs:List α)(i:Int):Option α:=(ixN xs.length i).bind λ j=>xs[j]?
theorem aV7 {n:Nat}{i:Int}{j:Nat}(h:ixN n i=some j):seqIndex? i n=some j/\j<n/\-(n:Int)<=i/\i<n:=by
 unfold ixN at h
 by_cases h0:0<=i
 ·rw[if_pos h0]at h
  by_cases h1:i<n
  ·rw[if_pos h1]at h
   have e:i.toNat=j:=aF h
   exact⟨by rw[jZ h0 h1,e],by omega,by omega,h1⟩
  ·rw[if_neg h1]at h;cases h
 ·rw[if_neg h0]at h
  by_cases h1:-(n:Int)<=i
  ·rw[if_pos h1]at h
   have e:(i+n).toNat=j:=aF h
   exact⟨by rw[i9 (by omega) h1,e],by omega,h1,by omega⟩
  ·rw[if_neg h1]at h;cases h
theorem aH6 {α:Type}{p:List α}{i:Int}{v:α}(h:atI p i=some v):∃ j,seqIndex? i p.length=some j/\p[j]?=some v/\j<p.length/\-(p.length:Int)<=i/\i<p.length:=by
 unfold atI at h
 cases e:ixN p.length i with
 | none=>rw[e]at h;cases h
 | some j =>
  rw[e]at h
  obtain⟨G,y,h3,J⟩:=aV7 e
  exact⟨j,G,h,y,h3,J⟩
def bg9 (b:Expr):Prop:=∀ o i,subscripted b false o i=operate [o,i] (gi o i)
def IxR (X:Cx)(r:R2):Prop :=
 ∀(value slice:Expr) (pins:List (Addr×Obj)) (s:af) (σ:St) (H:Hp) (x y:V) (v u:Value) (Q:VK),Inv X pins σ H s->RelV x v->RelV y u->r x y H Q ->
  subscripted slice false v u=operate [v,u] (gi v u)->wpAny (model X.prog X.w) X.A (subscriptTail value slice v u) (EP X pins σ Q) X.xe s
def MtR (X:Cx)(id:String)(r:V->List V->Hp->VK->Prop):Prop :=
 ∀(pins:List (Addr×Obj)) (s:af) (σ:St) (H:Hp) (x:V) (xs:List V) (v:Value) (us:List Value) (Q:VK),Inv X pins σ H s->RelV x v->Vals xs us->r x xs H Q ->
  wpAny (model X.prog X.w) X.A (call (.builtin id) (v::us)) (EP X pins σ Q) X.xe s
section
variable {X:Cx} {a b:Expr} {ta tb:TE} {pos:Pos}
theorem cf7 {r:R2}(Y:IxR X r)(ha:PE X a ta)(hb:PE X b tb)(hs:bg9 b):PE X (.Subscript a b pos) (tOp r ta tb):=by
 intro p s σ H Q I h
 exact Subscript_ (cd0 ha hb I h λ v u s2 x y H2 G J Z q=>Y a b p s2 σ H2 x y v u Q G J Z q (hs _ _))
def cj7 (K:ac):R2:=λ x y H Q=>∃ p xs i v,x=.ref p/\y=.int i/\SqL K H p xs/\atI xs i=some v/\Q v H
def cj8 (K:ac):R2:=λ x y H Q=>∃ p xs i v,x=.ref p/\y=.int i/\SqT K H p xs/\atI xs i=some v/\Q v H
def cm6:R2:=λ x y H Q=>∃ z i c,x=.str z/\y=.int i/\z.length<=aP/\atI z.cps.toList i=some c/\Q (.str ⟨#[c]⟩) H
theorem bw9:IxR X (cj7 X.K):=by
 intro Z a0 G s σ H x y v u Q I rx ry h hs
 obtain⟨p,xs,i,z,rfl,rfl,hq,he,q⟩:=h
 cases rx
 obtain⟨t,rfl⟩:=ry
 obtain⟨its,r,pl,hz⟩:=I.list hq
 obtain⟨j,J,h2,h3,h4,h5⟩:=aH6 he
 obtain⟨w,ew,Y⟩:=r.get h2
 have hl:=r.length
 have hn:=ao1
 have fin:EP X G σ Q w s:=⟨z,H,I,Y,q⟩
 by_cases h0:0<=i
 ·have hj:i.toNat=j:=by
   rw[jZ h0 h5]at J
   exact aF J
  exact item_listR pl.isList h0 (by omega) (by rw[hj];simpa using ew) fin hs
 ·have hj:(i+(its.toArray.size:Int)).toNat=j:=by
   rw[i9 (by omega) h4]at J
   rw[ay,<-hl]
   exact aF J
  exact gk (x:=w) pl.isList.typeIs jH.lookup
   (wpAny_getItem_list_neg (Q:=λ r s'=>r=w/\EP X G σ Q r s') pl.isList (by omega) (by rw[ay]<;>omega) (by omega) (by rw[hj];simpa using ew) ⟨rfl,fin⟩) hs
theorem ix_tup:IxR X (cj8 X.K):=by
 intro Y Z G s σ H x y v u Q I rx ry h hs
 obtain⟨p,xs,i,z,rfl,rfl,hq,he,q⟩:=h
 cases rx
 obtain⟨t,rfl⟩:=ry
 obtain⟨its,r,pl,hz⟩:=I.tuple hq
 obtain⟨j,h1,h2,h3,h4,h5⟩:=aH6 he
 obtain⟨w,ew,J⟩:=r.get h2
 have hl:=r.length
 have hn:=ao1
 have fin:EP X G σ Q w s:=⟨z,H,I,J,q⟩
 exact gk (x:=w) pl.typeIs bt.lookup
  (getItem_tuple (j:=j) (Q:=λ r s'=>r=w/\EP X G σ Q r s') pl (by omega) (by omega) (by rw[ay,<-hl];exact h1) (by simpa using ew) ⟨rfl,fin⟩) hs
theorem ix_str:IxR X cm6:=by
 intro p G J s σ H x y v u Q I Z ry h hs
 obtain⟨z,i,c,rfl,rfl,hz,he,q⟩:=h
 obtain⟨t,rfl⟩:=Z
 obtain⟨t',rfl⟩:=ry
 obtain⟨j,Y,h2,h3,h4,h5⟩:=aH6 he
 have hl:z.cps.toList.length=z.length:=by simp[Str.length]
 rw[hl]at Y h4 h5
 have hn:=ao1
 exact ko (iP s z t) slot_str_getitem.lookup (getItem_str (c:=c) (by
  have e1:decide (i < -(2^63:Int))=false:=decide_eq_false (by omega)
  have e2:decide (i ≥ 2^63)=false:=decide_eq_false (by omega)
  rw[e1,e2,Bool.or_false]) (by rw[Y];simpa using h2) ⟨.str ⟨#[c]⟩,H,I.tok _,⟨_,rfl⟩,q⟩) hs
theorem aS2 (its:List Value)(n j:Nat)(u:Value):gm (·.setIfInBounds j u) { cls:=.type "list",data:=.seq its.toArray n }={ cls:=.type "list",data:=.seq (its.set j u).toArray n }:=by
 simp[gm]
theorem Inv.lst {y:List (Addr×Obj)}{σ:St}{H:Hp}{s:af}{p:Addr}{G:List V}(I:Inv X y σ H s)(h:H p=some (.lst G)) :
  ∃(its:List Value) (n:Nat),Vals G its/\s.heap.get? p=some { cls:=.type "list",data:=.seq its.toArray n }/\G.length<=aP:=by
 obtain⟨z,its,n,r,e⟩:=I.hok p _ h
 exact⟨its,n,r,e,z⟩
theorem Inv.lstUpd {y:List (Addr×Obj)}{σ:St}{H:Hp}{s:af}{p:Addr}{Y ys:List V}{its its':List Value}{n G:Nat}{f:Obj->Obj}(I:Inv X y σ H s)(h:H p=some (.lst Y))
  (ho:s.heap.get? p=some { cls:=.type "list",data:=.seq its.toArray n }) (J:f { cls:=.type "list",data:=.seq its.toArray n }={ cls:=.type "list",data:=.seq its'.toArray G }) (r:Vals ys its') (hz:ys.length<=aP) (t:Nat) :
  Inv X y σ (upd H p (.lst ys)) { s with heap:=s.heap.update p f,toks:=t }:=by
 have e:(s.heap.update p f).get? p=some { cls:=.type "list",data:=.seq its'.toArray G }:=by
  rw[gJ f ho (by rw[J]<;>rfl),J]
 refine I.write (x:=p) (e:=p) (by rw[h];trivial) (.inl rfl) (λ b u hb q=>(gu _ _ (cy hb)).trans q) ⟨_,e⟩ ?_
 exact⟨hz,its',G,r,e⟩
def ca7:V->V->V->Hp->(Hp->Prop)->Prop:=λ o i v H Q=>∃ p xs k j,o=.ref p/\i=.int k/\H p=some (.lst xs)/\ixN xs.length k=some j/\Q (upd H p (.lst (xs.set j v)))
theorem bo9:cc0 X ca7:=by
 intro y s σ H o i v ov iv u Q I ro ri rv h
 obtain⟨p,Z,k,j,rfl,rfl,hp,hj,q⟩:=h
 cases ro
 obtain⟨t,rfl⟩:=ri
 obtain⟨its,n,r,ho,hz⟩:=I.lst hp
 obtain⟨G,h2,h3,J⟩:=aV7 hj
 have hl:=r.length
 have hn:=ao1
 have Y:Inv X y σ (upd H p (.lst (Z.set j v))) { s with heap:=s.heap.update p (gm (·.setIfInBounds j u)) } :=
  I.lstUpd hp ho (aS2 its n j u) (r.set rv j) (by rw[bJ];exact hz) s.toks
 by_cases h0:0<=k
 ·have hk:k.toNat=j:=by
   rw[jZ h0 J]at G
   exact aF G
  exact PySem.W.ki_setAt ho h0 (by omega) (by rw[ay,<-hl];exact J) (by rw[hk];exact⟨_,Y,q⟩)
 ·have hk:(k+(its.toArray.size:Int)).toNat=j:=by
   rw[i9 (by omega) h3]at G
   rw[ay,<-hl]
   exact aF G
  exact PySem.W.ki_setBack ho (by omega) (by rw[ay,<-hl];exact h3) (by omega) (by rw[hk];exact⟨_,Y,q⟩)
theorem aD6 (y p:Option Int)(n:Nat):(dB y p none n).1=((HT.sIx n 0 y:Nat):Int)/\(dB y p none n).2.1=((HT.sIx n n p:Nat):Int)/\(dB y p none n).2.2=1:=by
 refine⟨?_,?_,rfl⟩
 ·cases y with
  | none=>simp[dB,HT.sIx]
  | some i =>
   simp only[dB,HT.sIx,jP,show(1:Int) > 0 by decide,if_true]
   by_cases h:i<0
   ·simp only[h,if_true]<;>omega
   ·simp only[h,if_false]<;>omega
 ·cases p with
  | none=>simp[dB,HT.sIx]
  | some i =>
   simp only[dB,HT.sIx,jP,show(1:Int) > 0 by decide,if_true]
   by_cases h:i<0
   ·simp only[h,if_true]<;>omega
   ·simp only[h,if_false]<;>omega
theorem ay7 (its:List Value)(h p:Option Int):slicePick its.toArray h p none=((its.drop (HT.sIx its.length 0 h)).take (HT.sIx its.length its.length p - HT.sIx its.length 0 h)).toArray:=by
 obtain⟨G,y,h3⟩:=aD6 h p its.toArray.size
 unfold slicePick
 rw[G,y,h3]
 simp only[sliceRange_one,pick_run,ay]<;>rfl
def ck5 (K:ac):V->Option Int->Option Int->Hp->VK->Prop:=λ x lo hi H Q=>∃ a xs,x=.ref a/\SqL K H a xs/\∀ p,H p=none->Q (.ref p) (upd H p (.lst (aR9 xs lo hi)))
theorem bA7:SlR X (ck5 X.K):=by
 intro Y s σ H x v vl vu G J sl Q I rx hs pl pu h
 obtain⟨a,p,rfl,hx,q⟩:=h
 cases rx
 obtain⟨its,r,Z,hz⟩:=I.list hx
 have y:=r.length
 refine⟨"list",_,jH.lookup,Z.isList.typeIs,?_⟩
 refine wpAny_getItem_list_slice Z.isList hs pl pu .none (by simp) ?_ (by rw[ay]<;>omega)
 rw[ay7,<-y]
 refine⟨.ref s.heap.objs.size,_,I.laid (t':=s.toks) (o:=.lst (aR9 p G J)) (λ b ob q=>ar _ q) (am _) ?_,rfl,q _ (I.hok.fresh (am _))⟩
 exact⟨ao (ap2 p G J) hz,_,0,(r.drop (HT.sIx p.length 0 G)).take (HT.sIx p.length p.length J - HT.sIx p.length 0 G),a8 _ rfl⟩
theorem aE7:ag6 X (.builtin "len") (λ Z H Q=>∃ p ys,Z=[.ref p]/\(SqL X.K H p ys\/SqT X.K H p ys)/\Q (.int ys.length) H):=by
 intro Y s σ H Z us Q I r h
 obtain⟨p,ys,rfl,hq,q⟩:=h
 obtain⟨u,rfl,rx⟩:=as0 r
 cases rx
 have hn:=ao1
 rcases hq with hq|hq
 ·obtain⟨its,J,G,hz⟩:=I.list hq
  have y:=J.length
  exact Calls.call_len_list G.isList (by simp only[ay]<;>omega) ⟨.int ys.length,H,I.tok _,⟨s.toks+1,by rw[ay,y]⟩,q⟩
 ·obtain⟨its,J,G,hz⟩:=I.tuple hq
  have y:=J.length
  exact len_tuple G (by simp only[ay]<;>omega) ⟨.int ys.length,H,I.tok _,⟨s.toks+1,by rw[ay,y]⟩,q⟩
theorem aC4:ag6 X (.builtin "len") (λ y H Q=>∃ z,y=[.str z]/\z.length<=aP/\Q (.int z.length) H):=by
 intro p s σ H y us Q I r h
 obtain⟨z,rfl,hz,q⟩:=h
 obtain⟨u,rfl,t,rfl⟩:=as0 r
 have hn:=ao1
 exact len_str (by omega) ⟨.int z.length,H,I.tok _,⟨_,rfl⟩,q⟩
theorem ag6.or {f:Value}{r G:List V->Hp->VK->Prop}(h:ag6 X f r)(h':ag6 X f G):ag6 X f (λ y H Q=>r y H Q\/G y H Q):=by
 intro p s σ H y us Q I J q
 rcases q with q|q
 ·exact h p s σ H y us Q I J q
 ·exact h' p s σ H y us Q I J q
theorem aD0:ag6 X (.type "list") (λ xs H Q=>∃ p ys,xs=[.ref p]/\(SqL X.K H p ys\/SqT X.K H p ys)/\∀ l,H l=none->Q (.ref l) (upd H l (.lst ys))):=by
 intro J s σ H xs us Q I r h
 obtain⟨p,ys,rfl,hq,q⟩:=h
 obtain⟨u,rfl,rx⟩:=as0 r
 cases rx
 have fin:∀(its:List Value),Vals ys its->ys.length<=aP->∀(h':Heap) (G:Nat),(∀ b o',s.heap.get? b=some o'->h'.get? b=some o') ->
   h'.get? s.heap.objs.size=some { cls:=.type "list",dict:=none,data:=.seq its.toArray G,slots:=#[] }->EP X J σ Q (.ref s.heap.objs.size) { s with heap:=h' }:=λ its y hz h' G kp e =>
  ⟨.ref s.heap.objs.size,_,I.laid (t':=s.toks) kp (am _) (show ag2 X.prog X.w _ h' _ (.lst ys)from⟨hz,its,G,y,e⟩),rfl,q _ (I.hok.fresh (am _))⟩
 rcases hq with hq|hq
 ·obtain⟨its,y,Z,hz⟩:=I.list hq
  have Y:=y.length
  obtain⟨o,ho,hc,n,hd⟩:=Z.isList
  exact call_list_seq p (.inl rfl) ho hc hd (λ h' G kp e=>fin its y hz h' G kp e) (by simp only[ay]<;>omega)
 ·obtain⟨its,y,Z,hz⟩:=I.tuple hq
  have Y:=y.length
  obtain⟨o,ho,hc,n,hd⟩:=Z
  exact call_list_seq p (.inr rfl) ho hc hd (λ h' G kp e=>fin its y hz h' G kp e) (by simp only[ay]<;>omega)
theorem ax4:ag6 X (.type "tuple") (λ Z H Q=>∃ p ys,Z=[.ref p]/\((SqL X.K H p ys/\∀ l,H l=none->Q (.ref l) (upd H l (.tup ys)))\/(SqT X.K H p ys/\Q (.ref p) H))):=by
 intro y s σ H Z us Q I r h
 obtain⟨p,ys,rfl,h⟩:=h
 obtain⟨u,rfl,rx⟩:=as0 r
 cases rx
 rcases h with⟨hq,q⟩|⟨hq,q⟩
 ·obtain⟨its,J,G,hz⟩:=I.list hq
  have a0:=J.length
  refine call_tuple_list G.isList (λ h' kp=>?_) (by simp only[ay]<;>omega)
  have Y:Inv X y σ H { s with heap:=h' }:=I.kept (t':=s.toks) kp
  have I2:Inv X y σ (upd H h'.objs.size (.tup ys)) { s with heap:=h'.push { cls:=.type "tuple",data:=.seq its.toArray } } :=
   Y.laid (t':=s.toks) (λ b o e=>ar _ e) (am _) (show ag2 X.prog X.w _ _ _ (.tup ys)from⟨hz,its,J,jO _ _⟩)
  exact⟨.ref h'.objs.size,_,I2,rfl,q _ (Y.hok.fresh (am _))⟩
 ·obtain⟨its,J,G,hz⟩:=I.tuple hq
  exact call_tuple_same G ⟨.ref p,H,I,rfl,q⟩
def tyV (K:ac)(T:String)(x:V)(H:Hp):Prop:=match x with
 | .str _=>T = "str"
 | .int _=>T = "int"
 | .ref p=>(T = "list"/\∃ xs,SqL K H p xs)\/(T = "tuple"/\∃ o,K.lookup p=some o/\o.cls=.type "tuple"/\o.dict=none) \/
   (T = "dict"/\((∃ kvs,H p=some (.dK kvs))\/∃ kvs,H p=some (.dT kvs)))\/(T = "set"/\∃ S n,H p=some (.set S n))
 | _=>False
theorem bt5 {h:List (Addr×Obj)}{σ:St}{H:Hp}{s:af}{T:String}{x:V}{v:Value}(I:Inv X h σ H s)(r:RelV x v)(y:tyV X.K T x H) :
  s.TypeIs v T/\∀ a,v=.ref a->∃ ob,s.heap.get? a=some ob/\ob.dict=none:=by
 cases x with
 | str z =>
  obtain⟨t,rfl⟩:=r
  cases(show T = "str" from y)
  exact⟨iP s z t,λ _ e=>nomatch e⟩
 | int i =>
  obtain⟨t,rfl⟩:=r
  cases(show T = "int" from y)
  exact⟨gv s i t,λ _ e=>nomatch e⟩
 | ref p =>
  cases r
  rcases y with⟨rfl,Y,hq⟩|⟨rfl,o,hk,hc,hd⟩|⟨rfl,hk⟩|⟨rfl,S,n,hk⟩
  ·obtain⟨its,_,J,_⟩:=I.list hq
   refine⟨J.isList.typeIs,λ a e=>?_⟩
   cases e
   obtain⟨o,n,e,c,hd,_⟩:=J
   exact⟨o,e,hd⟩
  ·refine⟨⟨o,I.kIn p o hk,hc⟩,λ a e=>?_⟩
   cases e
   exact⟨o,I.kIn _ o hk,hd⟩
  ·have z:∃ o,s.heap.get? p=some o/\o.ExactDict:=by
    rcases hk with⟨G,hk⟩|⟨G,hk⟩
    ·obtain⟨_,_,_,_,o,_,_,e,ex,_⟩:=I.hok p _ hk
     exact⟨o,e,ex⟩
    ·obtain⟨_,_,_,_,o,_,_,e,ex,_⟩:=I.hok p _ hk
     exact⟨o,e,ex⟩
   obtain⟨o,e,ex⟩:=z
   refine⟨⟨o,e,ex.1⟩,λ a e2=>?_⟩
   cases e2
   exact⟨o,e,ex.2.1⟩
  ·obtain⟨o,_,_,_,e,ex,_⟩:=I.hok p _ hk
   refine⟨⟨o,e,ex.1⟩,λ a e2=>?_⟩
   cases e2
   exact⟨o,e,ex.2.1⟩
 | _=>exact bf y
def ck2 (K:ac)(T:String)(r:V->List V->Hp->VK->Prop)(to:TE):TE:=λ σ H Q=>to σ H λ x H1=>tyV K T x H1/\r x [] H1 Q
def tBM (K:ac)(T:String)(r:V->List V->Hp->VK->Prop)(to:TE)(t:TA):TE:=λ σ H Q=>to σ H λ x H1=>tyV K T x H1/\t σ H1 λ xs H2=>r x xs H2 Q
variable {o e:Expr} {es:List Expr} {to:TE} {t:TA} {name:Str} {apos cpos:Pos} {T id:String} {r:V->List V->Hp->VK->Prop}
theorem bQ0 (pa:kq T)(slot:Slot T name id)(J:jQ (.builtin id)=pure (.type "method_descriptor"))(hm:MtR X id r)(ho:PE X o to)
  (G:fO o name X.env (eval o X.env)=eval o X.env:=by rfl) (y:(apos.endLine==cpos.line)=true:=by rfl):PE X (.Call (.Attribute o name apos) [] [] cpos) (ck2 X.K T r to):=by
 intro p s σ H Q I h
 refine wpAny_Call_method0_late G y (thn (ho p s σ H _ I h) λ v s1 ⟨x,H1,Y,r1,Z,q1⟩=>?_)
 obtain⟨h1,h2⟩:=bt5 Y r1 Z
 exact⟨T,id,pa,slot,J,h1,h2,gx rfl (PySem.evalArgs_none (hm p s1 σ H1 x [] v [] Q Y r1 .nil q1))⟩
theorem cd2 (pa:kq T)(slot:Slot T name id)(Z:jQ (.builtin id)=pure (.type "method_descriptor"))(hm:MtR X id r)(ho:PE X o to)(ha:PA X (e::es) t)
  (J:fO o name X.env (eval o X.env)=eval o X.env:=by rfl)
  (Y:((dI cpos (bp (e::es) X.env)).all (λ x=>!x.1)&&(backToKw cpos (keywordEach [] X.env)).all (λ x=>x.1.isSome)
   && decide ((e::es).length+([]:List kg).length+(if([]:List kg).isEmpty then 0 else 1)<30))=true:=by rfl)
  (G:(apos.endLine==cpos.line)=true:=by rfl) (hs:bp (e::es) X.env=(false,eval e X.env)::bp es X.env:=by rfl) (y:(dI cpos (bp es X.env)).any (·.1)=false:=by rfl) :
  PE X (.Call (.Attribute o name apos) (e::es) [] cpos) (tBM X.K T r to t):=by
 intro p s σ H Q I h
 refine wpAny_Call_method_late J Y G rfl (thn (ho p s σ H _ I h) λ v s1 ⟨x,H1,I1,r1,ty,q1⟩=>?_)
 obtain⟨h1,h2⟩:=bt5 I1 r1 ty
 refine⟨T,id,pa,slot,Z,h1,h2,?_⟩
 have hA:=ha cpos p s1 σ H1 _ I1 q1
 rw[hs]at hA ⊢
 refine gx (by show(false||(dI cpos (bp es X.env)).any (·.1))=false;rw[y]<;>rfl) (gU ?_)
 exact thn hA λ us s2 ⟨vs,H2,I2,r2,q2⟩=>hm p s2 σ H2 x vs v us Q I2 r1 r2 q2
end
def MtM (X:Cx)(id:String)(r:V->List V->Hp->VK->Prop):Prop :=
 ∀(pins:List (Addr×Obj)) (s:af) (σ:St) (H:Hp) (x:V) (xs:List V) (v:Value) (us:List Value) (Q:VK),Inv X pins σ H s->RelV x v->Vals xs us->r x xs H Q ->
  wpAny (model X.prog X.w) X.A (call (.builtin id) (v::us)) (EP X pins σ Q) X.xe s
theorem Vals.one:∀ {x:V} {us:List Value},Vals [x] us->∃ u,us=[u]/\RelV x u
 | _,_,.cons r .nil=>⟨_,rfl,r⟩
theorem Vals.zero:∀ {us:List Value},Vals [] us->us=[]
 | _,.nil=>rfl
theorem Vals.dropLast {p:List V}{us:List Value}(h:Vals p us):Vals p.dropLast us.dropLast:=by
 induction h with
 | nil=>exact .nil
 | cons r t ih =>
  cases t with
  | nil=>exact .nil
  | cons q t'=>exact .cons r ih
theorem Vals.reverse {p:List V}{us:List Value}(h:Vals p us):Vals p.reverse us.reverse:=by
 induction h with
 | nil=>exact .nil
 | cons r t ih=>rw[dN,dN];exact Vals.append ih (.cons r .nil)
theorem Vals.rep {p:List V}{us:List Value}(h:Vals p us):∀ k:Nat,Vals (av k p).flatten (av k us).flatten
 | 0=>.nil
 | k+1=>by
  rw[bE,bE,cg,cg]
  exact Vals.append h (Vals.rep h k)
theorem aT0 {α:Type}(l:List α):l.eraseIdx (l.length - 1)=l.dropLast:=by
 induction l with
 | nil=>rfl
 | cons a r ih =>
  cases r with
  | nil=>rfl
  | cons b r =>
   have e:(a::b::r).length - 1=((b::r).length - 1)+1:=by
    have p:(a::b::r).length=r.length+2:=rfl
    have h:(b::r).length=r.length+1:=rfl
    omega
   rw[e,List.eraseIdx_cons_succ,ih]
   all_goals rfl
theorem aD4 (its:List Value):∀(k:Nat) (h:List Value),
  kr (λ x1 p=>x1++p) h.toArray (av k its.toArray)=(h++(av k its).flatten).toArray
 | 0,h=>by simp
 | k+1,h=>by
  have e:h.toArray++its.toArray=(h++its).toArray:=by simp
  have e2:(h++its)++(av k its).flatten=h++(av (k+1) its).flatten:=by
   rw[bE,cg,bw]
  rw[<-e2,<-aD4 its k (h++its),<-e,bE,b8]
section
variable {X:Cx} {pins:List (Addr×Obj)} {σ:St} {H:Hp} {s:af} {l b:Addr} {xs ys zs:List V}
theorem Inv.lset {its its':List Value}{n:Nat}{f:Array Value->Array Value}{t':Nat}(I:Inv X pins σ H s)(p:H l=some (.lst xs))
  (e:s.heap.get? l=some { cls:=.type "list",data:=.seq its.toArray n }) (y:f its.toArray=its'.toArray) (hv:Vals ys its') (hz:ys.length<=aP) :
  Inv X pins σ (upd H l (.lst ys)) { s with heap:=s.heap.update l (gm f),toks:=t' }:=by
 have q:=PySem.IsL.update e f
 rw[y]at q
 refine I.write (x:=l) (e:=l) (by rw[p];exact trivial) (.inl rfl) (λ G u hb h=>(gu s.heap (gm f) (cy hb)).trans h) ⟨_,q⟩ ?_
 exact⟨hz,its',_,hv,q⟩
theorem Inv.lnew {its:List Value}{t':Nat}(I:Inv X pins σ H s)(hv:Vals ys its)(hz:ys.length<=aP) :
  Inv X pins σ (upd H s.heap.objs.size (.lst ys)) { s with heap:=s.heap.push { cls:=.type "list",data:=.seq its.toArray },toks:=t' } :=
 I.laid (λ _ _ q=>ar _ q) (am _) ⟨hz,its,0,hv,a8 _ rfl⟩
theorem Inv.fresh (I:Inv X pins σ H s):H s.heap.objs.size=none:=I.hok.fresh (am _)
theorem Inv.lstM (I:Inv X pins σ H s)(h:H l=some (.lst xs)):xs.length<=aP/\∃(its:List Value) (n:Nat),Vals xs its/\xs.length=its.length/\s.heap.get? l=some { cls:=.type "list",data:=.seq its.toArray n }:=by
 obtain⟨z,its,n,r,e⟩:=I.hok l _ h
 exact⟨z,its,n,r,r.length,e⟩
theorem bo3 {n:Nat}(h:n<=aP):dj n=false:=by
 unfold dj
 exact decide_eq_false (by omega)
end
section
variable {X:Cx}
def bu3:V->List V->Hp->VK->Prop:=λ x vs H Q=>∃ l xs y,x=.ref l/\vs=[y]/\H l=some (.lst xs)/\xs.length<aP/\Q .non (upd H l (.lst (xs++[y])))
theorem aA1:MtM X "list.append" bu3:=by
 intro G s σ H x vs v us Q I J Z h
 obtain⟨l,xs,y,rfl,rfl,p,hz,q⟩:=h
 cases J
 obtain⟨u,rfl,Y⟩:=Z.one
 obtain⟨z,its,n,r,hl,e⟩:=I.lstM p
 refine fj gK ⟨_,e,rfl⟩ F.entry_list_append (F.args_list_append_2 _ _) (PySem.list_append l its.toArray n u (by rw[ay];omega)) ⟨e,?_⟩
 refine⟨.non,_,I.lset (its':=its++[u]) p e (by simp) (r.append (.cons Y .nil)) ?_,rfl,q⟩
 rw[aL,cb]
 omega
def cn4:V->List V->Hp->VK->Prop:=λ x vs H Q=>∃ l xs y,x=.ref l/\vs=[]/\H l=some (.lst xs)/\xs[xs.length - 1]?=some y/\Q y (upd H l (.lst xs.dropLast))
theorem bL4:MtM X "list.pop" cn4:=by
 intro Y s σ H x vs v us Q I Z rv h
 obtain⟨l,xs,y,rfl,rfl,J,hy,q⟩:=h
 cases Z
 have G:=rv.zero
 subst G
 obtain⟨z,its,n,r,hl,e⟩:=I.lstM J
 obtain⟨u,hu,ru⟩:=r.get hy
 have p:its.toArray[its.toArray.size - 1]?=some u:=by
  show its.toArray[its.length - 1]?=some u
  rw[<-gL,<-hl]
  exact hu
 refine fj iQ ⟨_,e,rfl⟩ F.entry_list_pop (F.args_list_pop_1 _) (MeetsSeq.list_pop_last l its.toArray n u p (by rw[ay];omega)) ⟨e,?_⟩
 refine⟨y,_,I.lset (its':=its.dropLast) J e ?_ r.dropLast ?_,ru,q⟩
 ·show its.toArray.eraseIdxIfInBounds (its.toArray.size - 1)=its.dropLast.toArray
  rw[ay,List.eraseIdxIfInBounds_toArray,aT0]
 ·rw[List.length_dropLast]
  omega
def cm5:R2:=λ x y H Q=>∃ l b xs zs,x=.ref l/\y=.ref b/\H l=some (.lst xs)/\H b=some (.lst zs)/\xs.length+zs.length<=aP/\∀ p,H p=none->Q (.ref p) (upd H p (.lst (xs++zs)))
theorem bR1:OpR X (bX .Add) cm5:=by
 intro G s σ H x y v u Q I Z ry h
 obtain⟨l,b,xs,zs,rfl,rfl,J,hB,hz,q⟩:=h
 cases Z
 cases ry
 obtain⟨z,its,n,r,hl,e⟩:=I.lstM J
 obtain⟨z2,p,n2,r2,a0,e2⟩:=I.lstM hB
 refine PySem.P.add_list e e2 ?_ (by rw[ay,ay];omega)
 have Y:its.toArray++p.toArray=(its++p).toArray:=by simp
 rw[Y]
 exact⟨.ref _,_,I.lnew (t':=s.toks) (r.append r2) (by rw[aL];omega),rfl,q _ I.fresh⟩
def cn5:R2:=λ x y H Q=>∃ l k xs,x=.ref l/\y=.int k/\H l=some (.lst xs)/\-(2^63)<=k/\k<2^63/\xs.length*k.toNat<=aP /\
 ∀ p,H p=none->Q (.ref p) (upd H p (.lst (av k.toNat xs).flatten))
theorem bA8 {α:Type}(h:List α)(k:Nat):(av k h).flatten.length=k*h.length:=by
 induction k with
 | zero=>simp
 | succ k ih=>rw[bE,cg,aL,ih,Nat.succ_mul,jI]
theorem bT9:OpR X (bX .Mult) cn5:=by
 intro a0 s σ H x y v u Q I rx ry h
 obtain⟨l,k,xs,rfl,rfl,hH,h1,h2,hz,q⟩:=h
 cases rx
 obtain⟨t,rfl⟩:=ry
 obtain⟨z,its,n,r,hl,e⟩:=I.lstM hH
 have Z:its.toArray.size*k.toNat<=aP:=by rw[ay,<-hl];exact hz
 have J:¬ its.toArray.size*k.toNat > (2^63 - 1) / 8:=by
  have:(aP:Nat)<=(2^63 - 1) / 8:=by decide
  omega
 have G:¬(!Builtin.List.listFitsIndex k)=true:=by
  rw[fitsIndex_both h1 h2]
  exact aW
 have p:¬ dj (its.toArray.size*k.toNat)=true:=by
  rw[bo3 Z]
  exact aW
 have Y:kr (λ x1 x2=>x1++x2) #[] (av (if its.toArray.isEmpty=true then 0 else k.toNat) its.toArray)=(av k.toNat its).flatten.toArray:=by
  have f0:∀ m:Nat,kr (λ x1 x2=>x1++x2) #[] (av m its.toArray)=(av m its).flatten.toArray:=λ m=>by
   have:=aD4 its m []
   rw[dq]at this
   exact this
  rw[f0]
  cases its with
  | nil=>simp
  | cons a r'=>rw[if_neg (by simp)]
 refine fv (T := "list") (U := "int") (by decide) ⟨_,e,rfl⟩ (λ s'=>gv s' k t) noFill_list_mul iR dw repeat_list ii.lookup
  (fj dw (gv s k t) ik (gX _ _) (int___rmul___int_list k t l its.toArray n)
   ⟨e,rfl,⟨_,e,rfl⟩,fj F.slot_list_mul ⟨_,e,rfl⟩ F.entry_list_mul (F.args_list_mul_2 _ _) (AutoListH.list___mul___list_int_3 l its.toArray n k t G J p) ⟨e,?_⟩⟩)
 rw[Y]
 exact⟨.ref _,_,I.lnew (t':=s.toks) (r.rep k.toNat) (by rw[bA8,Nat.mul_comm];exact hz),rfl,q _ I.fresh⟩
end
section
variable {prog:aM} {w:World} {A:aX} {E:Value->af->Prop} {s:af}
end
section
variable {X:Cx}
end
end L2
end
noncomputable section
namespace Att
open PySem PySem.W PySem.Calls PyProof.Rows
theorem ints_of_wellAll {P:Params}{h:Heap}:∀(ns:List Int) (vs:List Value),WellAll P h vs (ns.map WData.int)->kh vs ns:=by
 intro ns
 induction ns with
 | nil =>
  intro vs w
  rw[cF]at w
  cases w
  exact .nil
 | cons n ns ih =>
  intro vs w
  rw[aG]at w
  cases w with
  | cons a b =>
   cases a
   exact .cons _ _ (ih _ b)
theorem script_of {l:OpenLaw}{n:Nat}(hn:l.most=some n){P:Params}{h:Heap}{args:List WData}{p:List Value}
  (y:l.row.toRowW.claim.pre args=true) (Z:WellAll P h p args) :
  ∃ a vs ns,p=[Value.ref a]/\args=[WData.list (ns.map WData.int)]/\h.get? a=some { cls:=.type "list",data:=.seq vs.toArray }/\kh vs ns/\ns.length<=n:=by
 have a0:WShape.hasAll [] args [.list .int]=true:=(pre_splitW y).1
 have hc:l.pre.holds [] { args:=args }=true:=(pre_splitW y).2
 obtain⟨d,r,rfl,h1,h2⟩:=hasAllW_cons a0
 obtain rfl:=hasAllW_nil h2
 obtain⟨xs,rfl,h3⟩:=hasW_list h1
 obtain⟨ns,rfl⟩:=items_int h3
 have G:ns.length<=n:=by
  unfold OpenLaw.pre at hc
  have J:(WTm.not (.lt (.lit (.int (n:Int))) (.len (.arg 0)))).holds [] { args:=[.list (ns.map .int)] }=true:=by
   have J:=(holds_andW hc).1
   rw[hn]at J
   exact J
  have Y:=condW_of J (w_not (w_lt w_lit (w_len_list (w_arg rfl))))
  rw[aC]at Y
  refine jR λ q=>?_
  have q':(n:Int)<((ns.length:Nat):Int):=by omega
  first
   | (rw[decide_eq_true q']at Y;exact absurd Y (by decide))
   | (simp at Y;omega)
 cases Z with
 | cons w1 w2 =>
  cases w2
  cases w1 with
  | list ho hall=>exact⟨_,_,ns,rfl,rfl,ho,ints_of_wellAll ns _ hall,G⟩
theorem post_true (l:OpenLaw)(args:List WData):l.row.toRowW.claim.post args (.bool true) args=true :=
 postW_of (r:=l.row.toRowW) (X:=(true==true))
  (show WShape.has [] (.bool true) .bool=true by first|rfl|decide|simp[WShape.has,WShape.arms,WShape.armsAll])
  (show(WTm.eq .res (.lit (.bool true))).value [] { args:=args,res:=some (.bool true),after:=args }=some (.bool (true==true))from w_eq_bool (w_res rfl) w_lit) rfl
theorem attach_call {l:OpenLaw}{n:Nat}{q:aM}{loose:List Str}{XP:(Str->Option Value)->Heap->Prop}{YP:World->Heap->Prop}{d:DefRec}
  (hn:l.most=some n) (a4:d.params.defaults=[])
  (call:∀(w:World) (s₀ h:af) (mg mb:Str->Option Value) (fa:Addr) (o:Obj) (pm cd y:Value) (a:Addr) (vs:List Value) (ns:List Int),
   Ground q loose [] XP w s₀ mg mb h.heap->YP w h.heap ->
   h.heap.get? fa=some o->o.data=.func (docDef d.name d.params d.body d.scope pm cd y)->h.heap.CodeRec cd d.name->mg d.name=some (.ref fa) ->
   h.heap.get? a=some { cls:=.type "list",data:=.seq vs.toArray }->kh vs ns->ns.length<=n->h.gens=#[] ->
   f9 (model l.prog w) ic (.call (.ref fa) ⟨[.ref a],[]⟩) (λ r s'=>r=.ok (.ret (.bool true))/\OldK h.heap s'.heap/\s'.os=h.os/\eU s'.gens) h) :
  WalkO q loose XP YP l.row.toRowW d [] (λ f vs=>kj f vs):=by
 intro w s₀ h mg mb G Y fa o pm cd y dV kV ho hd a3 hD a1 hg args a5 as Z a6 b1 a2 b0
 obtain rfl:dV=.none:=Dflts.none hD a4
 obtain rfl:kV=.none:=Dflts.noKw hD
 obtain⟨a,vs,ns,rfl,rfl,J,p,a0⟩:=script_of hn Z a2
 refine enter_call (eX (call w s₀ h mg mb fa o pm cd y a vs ns G Y ho (fd_plain hd) a3 a1 J p a0 hg) λ r s' hq=>?_)
 obtain⟨rfl,h2,h3,h4⟩:=hq
 exact⟨.inl ⟨.bool true,.bool true,[],rfl,λ _=>rfl,.bool true,post_true l _,λ _=>⟨List.Pairwise.nil,λ _ hm=>(nomatch hm)⟩⟩,h2,h3,h4⟩
section
variable {prog:aM} {w:World} {A:aX} {E:Value->af->Prop} {s:af} {K:Frag}
end
end Att
noncomputable section
namespace L2
open PySem PySem.Spec PyProof.Rows
theorem aC6:∀ {vs:List Value} {ns:List Int},kh vs ns->Vals (ns.map V.int) vs
 | _,_,.nil=>.nil
 | _,_,.cons n t h=>.cons ⟨t,rfl⟩ (aC6 h)
noncomputable def defArgs (s:Stmt):bA:=match s with
 | .FunctionDef _ a _ _ _ _ _ _ _ _=>a
 | _=>{ posonlyargs:=[],args:=[],vararg:=none,kwonlyargs:=[],kw_defaults:=[],kwarg:=none,defaults:=[] }
noncomputable def zK (s:Stmt):List Stmt:=match s with
 | .FunctionDef _ _ b _ _ _ _ _ _ _=>b
 | _=>[]
noncomputable def defScope (s:Stmt):Scope:=match s with
 | .FunctionDef _ _ _ _ _ _ sc _ _ _=>sc
 | _=>{ kind:=.function,names:=[],isGenerator:=false,isCoroutine:=false }
noncomputable abbrev CX0:CXT:=λ _ _ _ _ _ _=>False
abbrev E0:XK:=λ _ _ _=>False
theorem bS1 {X:Cx}:al4 CX0 X E0:=λ _ _ _ _ _ _ _ h=>h.elim
structure Fun (K:ac)(x qual:Str)(st:Stmt)(f:Addr)(fd:bu):Prop where
 ex:∃(oc:Value) (od:Option Addr) (kV doc pm:Value) (an:Option Addr) (cdv ct:Value) (osl:Array (Option Value)),
  fd=cQ x qual (defArgs st) (zK st) (defScope st) .none kV doc pm an cdv ct/\K.lookup f=some ⟨oc,od,.func fd,osl⟩/\fh K cdv qual=true
 kp:bZ K (.ref f)=true
section
variable {P:aM} {w:World} {K:ac} {mg:Str->Option Value} {base:Heap}
theorem Fun.ok {x qual:Str}{st:Stmt}{f:Addr}{Z:bu}{N ps:List Str}{k:Nat}{sp:Sp}(F:Fun K x qual st f Z)(S:FnScope N ps (defScope st))(len:∀ vs H Q E,sp vs H Q E->vs.length=ps.length)
  (G:∀(y:Value) (A:aX) (p:List Env) (s:af) (H:Hp) (vs:List V) (Q:VK) (E:XK),Room k (A.deeper (eN qual (defScope st) s.heap.objs.size f y))->sp vs H Q E ->
   ∃ t,PSs (az5 CX0 P w K mg base N qual (defScope st) f y A p s H E).nox (zK st) t/\t { nx:=λ _ H'=>Q .non H',rt:=Q } (aj6 N vs) H):FnOk P w K mg base CX0 (k+1) f Z ps sp:=by
 obtain⟨oc,od,kV,a1,pm,an,y,ct,a0,rfl,lk,Y⟩:=F.ex
 refine bG2 lk Y S len λ A p s H vs Q E hr J=>?_
 obtain⟨t,h,q⟩:=G y A p s H vs Q E hr J
 exact⟨t,h.nox,q⟩
theorem Fun.binds {x qual:Str}{st:Stmt}{f:Addr}{Y:bu}{ps:List Str}(F:Fun K x qual st f Y)
  (h:∀(kV y G:Value) (J:Option Addr) (p ct:Value) (us:List Value),us.length=ps.length->ef (cQ x qual (defArgs st) (zK st) (defScope st) .none kV y G J p ct) ⟨us,[]⟩=pure (ps.zip us)):Binds K Y ps []:=by
 obtain⟨oc,od,kV,y,G,J,p,ct,a0,rfl,lk,Z⟩:=F.ex
 exact .all (h kV y G J p ct)
theorem bu0 {x qual:Str}{st:Stmt}{f:Addr}{oc:Value}{od J:Option Addr}{y:Array (Option Value)}{kV p G h ct:Value}(l:K.lookup f=some ⟨oc,od,.func (cQ x qual (defArgs st) (zK st) (defScope st) .none kV p G J h ct),y⟩)
  (c:fh K h qual=true) (k:bZ K (.ref f)=true):Fun K x qual st f (cQ x qual (defArgs st) (zK st) (defScope st) .none kV p G J h ct):=⟨⟨oc,od,kV,p,G,J,h,ct,y,rfl,l,c⟩,k⟩
end
theorem bV3 {A:aX}{k:Nat}(h:Room k A):A.units+1<cLine:=Nat.lt_of_le_of_lt (Nat.add_le_add_left (by decide:1<=64) _) h.units
section
variable {X:Cx}
end
theorem cl9 {A B:Prop}(h:B):if false=true then A else B:=by
 rw[if_neg aW]
 exact h
theorem iteT {A B:Prop}(h:A):if true=true then A else B:=by
 rw[if_pos rfl]
 exact h
def ai1 (H H':Hp):Prop:=∀ b o,H b=some o->H' b=some o
theorem ai1.refl (H:Hp):ai1 H H:=λ _ _ h=>h
theorem ai1.trans {H y p:Hp}(a:ai1 H y)(b:ai1 y p):ai1 H p:=λ c o h=>b c o (a c o h)
theorem ba0 {prog:aM}{w:World}{A:aX}{R:kn->af->Prop}{s:af}{y p iter:Expr}{G:List Expr}{scope:Scope}{pos:Pos}{it J:Value}{env:Env}(I:Nat->af->Prop)
  (turn:∀ n s,I n s->wpAny (model prog w) A (pyNext it) (λ r s₁=>match r with
   | none=>R (.ok .next) s₁
   | some v=>wpAny (model prog w) A (eG p it v) (λ _ Y=>wpAny (model prog w) A (f8 p env v) (λ _ s₂ =>
     wpAny (model prog w) A (forIn G true λ c r=>if r=true then do let ok <- dv c env (eval c env);pure (ForInStep.yield ok)else pure (ForInStep.yield r)) (λ ok s₃ =>
      if ok=true then wpAny (model prog w) A (eval y env) (λ x s₄ =>
       wpAny (model prog w) A (call (.builtin "list.append") [J,x]) (λ _ s₅=>∃ m,m<n/\I m s₅) (jJ (model prog w) A env λ e s'=>R (.error e) s') s₄) (jJ (model prog w) A env λ e s'=>R (.error e) s') s₃
      else ∃ m,m<n/\I m s₃) (jJ (model prog w) A env λ e s'=>R (.error e) s') s₂) (jJ (model prog w) A env λ e s'=>R (.error e) s') Y) (jJ (model prog w) A env λ e s'=>R (.error e) s') s₁) (jJ (model prog w) A env λ e s'=>R (.error e) s') s)
  (n:Nat) (h:I n s) :
  f9 (model prog w) A (.compLoop (.ListComp y [⟨p,iter,G,0⟩] scope pos) 0 it J env) R s:=by
 refine codeAny_loop rfl I (λ n s hI=>?_) n h
 show wpAny _ A ((compTurn (.ListComp y [⟨p,iter,G,0⟩] scope pos) 0 it J env).onRaise (λ x=>do jS x env;theTreesLotGoes x)) _ _ s
 refine wpAny_noted ?_
 rw[compTurn_list]
 refine ai (iw (ai (bz (turn n s hI) (λ r s₁ h₁=>?_) λ _ _ h'=>h')))
 cases r with
 | none=>exact aI h₁
 | some v =>
  refine ai (bz h₁ (λ _ Y Z=>?_) λ _ _ h'=>h')
  refine ai (bz Z (λ _ s₂ h₂=>ai (bz h₂ (λ ok s₃ h₃=>?_) λ _ _ h'=>h')) λ _ _ h'=>h')
  cases ok with
  | false=>exact aI ⟨rfl,h₃⟩
  | true =>
   exact ai (ai (bz h₃ (λ x s₄ h₄=>ai (bz h₄ (λ _ s₅ h₅=>aI (aI ⟨rfl,h₅⟩)) λ _ _ h'=>h')) λ _ _ h'=>h'))
noncomputable def ai8 (cells:List (Str×Addr)):List (Str×bQ)->List (Str×Addr)->List (Str×Addr)
 | [],acc=>acc
 | (n,k)::r,acc=>ai8 cells r (if k==.free then(match cells.lookup n with|some c=>(n,c)::acc|none=>acc)else acc)
theorem ak1 {env:Env}:∀(names:List (Str×bQ)) (p:List (Str×Addr)),(∀ y∈names,y.2=.free->∃ c,env.cells.lookup y.1=some c) ->
  (forIn names p λ(x:Str×bQ) (cs:List (Str×Addr))=>(if x.2==.free then do let c <- cellOf env x.1;pure (ForInStep.yield ((x.1,c)::cs))else pure (ForInStep.yield cs):Sem (ForInStep (List (Str×Addr)))))=pure (ai8 env.cells names p)
 | [],p,_=>by rw[gY];rfl
 | (n,k)::r,p,h=>by
  have G:=λ a=>ak1 r a λ y hy=>h y (aj _ hy)
  rw[j4]
  unfold ai8
  cases e:(k==NameKind.free)with
  | false =>
   simp only[au,if_false]
   exact G p
  | true =>
   have hk:k=.free:=by simpa using e
   obtain⟨c,hc⟩:=h (n,k) aB hk
   have e1:cellOf env n=pure c:=by unfold cellOf;rw[hc]
   simp only[if_true,e1,hc]
   exact G _
theorem jd {scope:Scope}{env:Env}(h:∀ y∈scope.names,y.2=.free->∃ c,env.cells.lookup y.1=some c):closureFor scope env=pure (ai8 env.cells scope.names []):=by
 have:=ak1 (env:=env) scope.names [] h
 show(forIn scope.names [] (λ(x:Str×bQ) (cs:List (Str×Addr))=>(if x.2==.free then do let c <- cellOf env x.1;pure (ForInStep.yield ((x.1,c)::cs))else pure (ForInStep.yield cs):Sem (ForInStep (List (Str×Addr))))) >>= λ cs=>pure cs)=_
 rw[this]
 rfl
theorem clOf_mem {cells:List (Str×Addr)}{n:Str}{c:Addr}:∀ {names:List (Str×bQ)} {p:List (Str×Addr)},(n,c)∈ai8 cells names p->cells.lookup n=some c\/(n,c)∈p
 | [],_,h=>.inr h
 | (m,k)::r,p,h=>by
  unfold ai8 at h
  rcases clOf_mem h with z|z
  ·exact .inl z
  ·cases e:(k==NameKind.free)with
   | false=>simp only[e,au,if_false]at z;exact .inr z
   | true =>
    simp only[e,if_true]at z
    cases q:cells.lookup m with
    | none=>rw[q]at z;exact .inr z
    | some d =>
     rw[q]at z
     rcases aE.mp z with y|y
     ·cases y;exact .inl q
     ·exact .inr y
theorem aM2 {cells:List (Str×Addr)}{n:Str}{c:Addr}(hc:cells.lookup n=some c):∀ {names:List (Str×bQ)} {p:List (Str×Addr)},((n,NameKind.free)∈names\/(n,c)∈p)->(n,c)∈ai8 cells names p
 | [],_,h=>by rcases h with h|h;(exact absurd h (by simp));exact h
 | (m,k)::r,p,h=>by
  unfold ai8
  refine aM2 hc ?_
  rcases h with h|h
  ·rcases aE.mp h with e|h
   ·cases e
    right
    simp[hc]
   ·exact .inl h
  ·right
   cases e:(k==NameKind.free)with
   | false=>simpa using h
   | true =>
    simp only[if_true]
    cases q:cells.lookup m with
    | none=>exact h
    | some d=>exact aj _ h
theorem ak6 {α:Type}{n:Str}{c:α}:∀ {l:List (Str×α)},(n,c)∈l->(∀ d,(n,d)∈l->d=c)->l.lookup n=some c
 | (m,d)::r,h,u=>by
  rw[a9]
  cases e:n==m with
  | true =>
   have e':=beq_iff_eq.mp e
   subst e'
   rw[u d aB]
  | false =>
   rcases aE.mp h with z|z
   ·cases z;simp at e
   ·exact ak6 z λ d' h'=>u d' (aj _ h')
theorem qI {cells:List (Str×Addr)}{n:Str}{c:Addr}{names:List (Str×bQ)}(hc:cells.lookup n=some c)(h:(n,NameKind.free)∈names):(ai8 cells names []).lookup n=some c:=by
 refine ak6 (aM2 hc (.inl h)) λ d hd=>?_
 rcases clOf_mem hd with z|z
 ·rw[hc]at z;exact(aF z).symm
 ·exact absurd z (by simp)
theorem zo:∀(names:List (Str×bQ)) (n:Nat) (h:List (Str×Addr)),aQ n names h=aQ n names []++h
 | [],_,h=>by simp[aQ]
 | (x,k)::r,n,h=>by
  unfold aQ
  split
  ·rw[zo r (n+1) ((x,n)::h),zo r (n+1) [(x,n)]]
   simp
  ·exact zo r n h
theorem zO:∀ {names:List (Str×bQ)} {n:Nat} {p:List (Str×Addr)} {x:Str} {c:Addr},(x,c)∈aQ n names p->(x,NameKind.cell)∈names\/(x,c)∈p
 | [],_,_,_,_,h=>.inr h
 | (y,k)::r,n,p,x,c,h=>by
  unfold aQ at h
  split at h
  ·rename_i hk
   rcases zO h with z|z
   ·exact .inl (aj _ z)
   ·rcases aE.mp z with e|z
    ·cases e
     have:k=.cell:=by simpa using hk
     subst this
     exact .inl aB
    ·exact .inr z
  ·rcases zO h with z|z
   ·exact .inl (aj _ z)
   ·exact .inr z
theorem zS {α:Type}(x:Str):∀(l r:List (Str×α)),(l++r).lookup x=(l.lookup x).or (r.lookup x)
 | [],r=>by simp
 | (y,v)::l,r=>by
  rw[d6,a9,a9]
  cases x==y with
  | true=>rfl
  | false=>exact zS x l r
noncomputable def qp (N':List Str)(src:List (Option Nat))(scope:Scope)(XN:List Str)(xs:Scope):Bool :=
 (scope.kind==.function) &&
 (scope.names.all λ y=>!(y.2==.free)||(xs.names.lookup y.1==some .cell||xs.names.lookup y.1==some .free)) &&
 (scope.names.all λ y=>!(y.2==.local)||scope.names.lookup y.1==some .local) &&
 (scope.names.all λ y=>!(y.2==.cell)||(scope.names.all λ z=>!(z.1==y.1)||z.2==.cell)) &&
 (src.length==N'.length) &&
 ((N'.zip src).all λ y=>match y.2 with|none=>true|some j=>XN[j]?==some y.1&&scope.names.lookup y.1==some .free)
structure CompCk (N':List Str)(src:List (Option Nat))(scope:Scope)(XN:List Str)(xs:Scope):Prop where
 kind:scope.kind=.function
 fr:∀ y∈scope.names,y.2=.free->xs.names.lookup y.1=some .cell\/xs.names.lookup y.1=some .free
 loc:∀ y∈scope.names,y.2=.local->scope.names.lookup y.1=some .local
 cel:∀ y∈scope.names,y.2=.cell->∀ z∈scope.names,z.1=y.1->z.2=.cell
 len:src.length=N'.length
 sr:∀(i j:Nat) (x:Str),src[i]?=some (some j)->N'[i]?=some x->XN[j]?=some x/\scope.names.lookup x=some .free
theorem bs4 {p:List Str}{src:List (Option Nat)}{scope:Scope}{J:List Str}{G:Scope}(h:qp p src scope J G=true):CompCk p src scope J G:=by
 unfold qp at h
 simp only[ag]at h
 obtain⟨⟨⟨⟨⟨h1,h2⟩,h3⟩,Z⟩,h5⟩,h6⟩:=h
 refine⟨by simpa using h1,λ y hy e=>?_,λ y hy e=>?_,λ y hy e z hz Y=>?_,by simpa using h5,λ i j x e1 e2=>?_⟩
 ·have:=aO.mp h2 y hy
  simpa [e]using this
 ·have:=aO.mp h3 y hy
  simpa [e]using this
 ·have:=aO.mp Z y hy
  simp only[e,beq_self_eq_true,aU,iC]at this
  have:=aO.mp this z hz
  simpa [Y]using this
 ·have hm:(x,some j)∈p.zip src:=by
   refine bq (i:=i) ?_
   rw[List.getElem?_zip_eq_some]
   exact⟨e2,e1⟩
  have:=aO.mp h6 _ hm
  simpa using this
noncomputable abbrev zX (X:Cx)(N':List Str)(scope:Scope)(C:Addr)(cells:List (Str×Addr))(s:af)(H:Hp)(ex:List Addr):Cx where
 prog:=X.prog
 w:=X.w
 K:=X.K
 mg:=X.mg
 base:=X.base
 A:=X.A
 N:=N'
 s₀:=s
 H₀:=H
 env:={ scope:=d8 scope X.env,locals:=C,globals:=X.env.globals,cells:=cells,qual:=X.env.qual,func:=none,code:=X.env.code,frame:=X.env.frame,builtins:=X.env.builtins }
 outer:=X.stack
 stack:=X.stack
 ex:=ex
 fn:=λ x=>scope.names.lookup x==some .cell
 calm:=X.calm
 pn:=[]
 xe:=λ _ _=>False
def PIf (X:Cx)(ifs:List Expr)(t:TT):Prop :=
 ∀(pins:List (Addr×Obj)) (s:af) (σ:St) (H:Hp) (Q:Bool->Hp->Prop),Inv X pins σ H s->t σ H Q ->
  wpAny (model X.prog X.w) X.A (forIn ifs true λ c r=>if r=true then do let ok <- dv c X.env (eval c X.env);pure (ForInStep.yield ok)else pure (ForInStep.yield r)) (TP X pins σ Q) X.xe s
def co2:TT:=λ _ H Q=>Q true H
theorem bD7 {X:Cx}:PIf X [] co2:=λ _ _ _ H _ I h=>wpAny_tests_nil ⟨H,I,h⟩
theorem bz7 {X:Cx}{c:Expr}{t:TT}(h:PT X c t):PIf X [c] t:=λ p s σ H Q I hw=>wpAny_tests_one (h p s σ H Q I hw)
noncomputable def az9 (src:List (Option Nat))(σ:St):St:=src.map λ o=>match o with|none=>none|some j=>(σ[j]?).join
def tComp (src:List (Option Nat))(wi:TI)(g:TG)(tc:TT)(te:TE):TE:=λ σ H Q=>wi σ H λ J H1=>∀ D,H1 D=none ->
 ∃ W:Nat->Nat->St->Hp->Prop,(∃ m,W 0 m (az9 src σ) (upd H1 D (.lst [])))/\∀ i m σ' H',W i m σ' H' ->
  (J.stop i H'/\Q (.ref D) H')\/(J.go i H'/\∃ N:St->Hp->Prop,(∀ σ2 H2,N σ2 H2->∃ m',m'<m/\W (i+1) m' σ2 H2) /\
   ∀ x H2,J.yld i H' x H2->g x σ' H2 λ σ3 H3=>tc σ3 H3 λ b H4=>if b=true then te σ3 H4 λ v H5=>∃ ys,H5 D=some (.lst ys)/\ys.length<aP/\N σ3 (upd H5 D (.lst (ys++[v])))else N σ3 H4)
theorem qQ {env:Env}:∀ {names:List (Str×bQ)} {x:Str} {k:bQ},names.lookup x=some k ->
  (names.map λ(n,k)=>if(k==NameKind.free&&env.scope.kind==.function&&env.kindOf n==some .cell)then(n,NameKind.cell)else(n,k)).lookup x =
   some (if(k==NameKind.free&&env.scope.kind==.function&&env.kindOf x==some .cell)then NameKind.cell else k)
 | [],_,_,h=>by simp at h
 | (n,k)::r,x,k',h=>by
  have p:=@qQ env r x k'
  show kY x ((if(k==NameKind.free&&env.scope.kind==.function&&env.kindOf n==some .cell)=true then(n,NameKind.cell)else(n,k))::_)=_
  cases hx:x==n with
  | true =>
   have e:=beq_iff_eq.mp hx
   subst e
   simp only[a9,hx]at h
   cases h
   by_cases hc:(k==NameKind.free&&env.scope.kind==.function&&env.kindOf x==some .cell)=true
   ·rw[if_pos hc,if_pos hc];simp only[a9,hx]
   ·rw[if_neg hc,if_neg hc];simp only[a9,hx]
  | false =>
   simp only[a9,hx]at h
   by_cases hc:(k==NameKind.free&&env.scope.kind==.function&&env.kindOf n==some .cell)=true
   ·rw[if_pos hc];simp only[a9,hx];exact p h
   ·rw[if_neg hc];simp only[a9,hx];exact p h
theorem qF {env:Env}:∀ {names:List (Str×bQ)} {x:Str},names.lookup x=none ->
  (names.map λ(n,k)=>if(k==NameKind.free&&env.scope.kind==.function&&env.kindOf n==some .cell)then(n,NameKind.cell)else(n,k)).lookup x=none
 | [],_,_=>rfl
 | (n,k)::r,x,h=>by
  have p:=@qF env r x
  show kY x ((if(k==NameKind.free&&env.scope.kind==.function&&env.kindOf n==some .cell)=true then(n,NameKind.cell)else(n,k))::_)=_
  cases hx:x==n with
  | true=>simp only[a9,hx]at h;cases h
  | false =>
   simp only[a9,hx]at h
   by_cases hc:(k==NameKind.free&&env.scope.kind==.function&&env.kindOf n==some .cell)=true
   ·rw[if_pos hc];simp only[a9,hx];exact p h
   ·rw[if_neg hc];simp only[a9,hx];exact p h
theorem au5 {X:Cx}{N':List Str}{src:List (Option Nat)}{scope:Scope}{a6:List (Addr×Obj)}{σ:St}{H:Hp}{s s4:af}{fp:List Addr}
  (Y:CompCk N' src scope X.N X.env.scope) (I:Inv X a6 σ H s) (hf:∀ b∈fp,FpOk X a6 H b) (b4:∀ b∈fp,b<s.heap.objs.size)
  (e4:∃ tk,s4={ s with heap:=d7 (s.heap.push { cls:=.type "dict",data:=.dict #[] }) scope.names,toks:=tk }) :
  Inv (zX X N' scope s.heap.objs.size (aQ (s.heap.objs.size+1) scope.names (ai8 X.env.cells scope.names [])) s H fp) [] (az9 src σ) H s4:=by
 obtain⟨tk,rfl⟩:=e4
 have hk:∀ b o,s.heap.get? b=some o->(d7 (s.heap.push { cls:=.type "dict",data:=.dict #[] }) scope.names).get? b=some o:=λ b o e=>cW _ _ b o (ar _ e)
 have ok:=cellsFrom_ok scope.names (s.heap.push { cls:=.type "dict",data:=.dict #[] }) (s.heap.objs.size+1) [] ⟨λ _ _ hm=>(nomatch hm),List.Pairwise.nil⟩ (by rw[cf];exact am _)
 rw[cf]at ok
 have a3:=zo scope.names (s.heap.objs.size+1) (ai8 X.env.cells scope.names [])
 have lk:∀ x c,(aQ (s.heap.objs.size+1) scope.names (ai8 X.env.cells scope.names [])).lookup x=some c ->
   ((x,c)∈aQ (s.heap.objs.size+1) scope.names []/\(x,NameKind.cell)∈scope.names)\/(X.env.cells.lookup x=some c/\(aQ (s.heap.objs.size+1) scope.names []).lookup x=none):=λ x c e=>by
  rw[a3,zS]at e
  cases q:(aQ (s.heap.objs.size+1) scope.names []).lookup x with
  | some d =>
   rw[q]at e
   have e':d=c:=aF e
   subst e'
   have hm:=aD q
   refine .inl ⟨hm,?_⟩
   rcases zO hm with z|z
   ·exact z
   ·exact absurd z (by simp)
  | none =>
   rw[q]at e
   have e':(ai8 X.env.cells scope.names []).lookup x=some c:=e
   rcases clOf_mem (aD e')with z|z
   ·exact .inr ⟨z,rfl⟩
   ·exact absurd z (by simp)
 have up:∀ x c,(x,c)∈aQ (s.heap.objs.size+1) scope.names []->s.heap.objs.size+1<=c:=λ x c h=>(ok.empty x c h).2
 have b1:∀ x c,X.env.cells.lookup x=some c->c<s.heap.objs.size:=λ x c h=>by
  obtain⟨v,q⟩:=I.cell x c h
  exact q.lt
 have a5:∀ b,b<s.heap.objs.size->b≠s.heap.objs.size:=λ b h=>aH h
 have b5:∀ b∈fp,H b=none/\b≠X.env.locals/\b ∉ X.fs:=λ b hb=>⟨(hf b hb).1,(hf b hb).2.1,(hf b hb).2.2.1⟩
 have b6:(d7 (s.heap.push { cls:=.type "dict",data:=.dict #[] }) scope.names).Ns s.heap.objs.size (λ _=>none):=(kZ s.heap (.type "dict")).keeps (cW _ _)
 have a0:∀ x k,scope.names.lookup x=some k->(d8 scope X.env).names.lookup x=some (if(k==NameKind.free&&X.env.scope.kind==.function&&X.env.kindOf x==some .cell)then NameKind.cell else k):=λ x k e=>qQ (env:=X.env) e
 have a4:∀ x,scope.names.lookup x=none->(d8 scope X.env).names.lookup x=none:=λ x e=>qF (env:=X.env) e
 have b2:∀ x c,(x,NameKind.free)∈scope.names->X.env.cells.lookup x=some c->(aQ (s.heap.objs.size+1) scope.names (ai8 X.env.cells scope.names [])).lookup x=some c:=λ x c hx hc=>by
  rw[a3,zS]
  cases q:(aQ (s.heap.objs.size+1) scope.names []).lookup x with
  | some d =>
   rcases zO (aD q)with z|z
   ·have:=Y.cel _ z rfl _ hx rfl
    cases this
   ·exact absurd z (by simp)
  | none=>exact qI hc hx
 have b0:∀ x,(x,NameKind.free)∈scope.names->∃ c,X.env.cells.lookup x=some c:=λ x hx=>I.ok.has x (Y.fr _ hx rfl)
 refine⟨⟨I.ok.mod,Y.kind,I.ok.glob,I.ok.blt,am _,λ x y c e1 e2=>?_,λ x hx=>?_,λ x c hx e=>?_,I.ok.hd,I.ok.frames,.inl rfl,λ b hb=>⟨a5 b (b4 b hb),λ x c e z=>?_⟩,I.bs,ao I.ok.bsz I.sz,λ b o e hb=>?_,λ b hb z=>?_,I.stack,I.stkFree⟩,
  rfl,I.bare,Un.kept hk,⟨_,b6,λ i x v e1 e2 e3=>?_⟩,λ x c e=>?_,I.hok.fresh (am _),λ x c e=>?_,λ p hp=>absurd (show p∈([]:List (Addr×Obj))from hp) (by simp),I.hok.kept hk,by unfold az9;rw[aC];exact Y.len⟩
 ·rcases lk x c e1 with⟨a1,_⟩|⟨a1,_⟩<;>rcases lk y c e2 with⟨a2,_⟩|⟨a2,_⟩
  ·exact gh ok.apart a1 a2
  ·exact absurd (az (b1 _ _ a2) (fD (up _ _ a1))) (bI _)
  ·exact absurd (az (b1 _ _ a1) (fD (up _ _ a2))) (bI _)
  ·exact I.ok.inj x y c a1 a2
 ·cases q:scope.names.lookup x with
  | none =>
   have J:(d8 scope X.env).names.lookup x=some .cell\/(d8 scope X.env).names.lookup x=some .free:=hx
   rw[a4 x q]at J
   rcases J with z|z<;>cases z
  | some k =>
   have J:(d8 scope X.env).names.lookup x=some .cell\/(d8 scope X.env).names.lookup x=some .free:=hx
   rw[a0 x k q]at J
   cases k with
   | free =>
    obtain⟨c,hc⟩:=b0 x (aD q)
    exact⟨c,b2 x c (aD q) hc⟩
   | cell =>
    obtain⟨c,hc⟩:=ql (n:=s.heap.objs.size+1) q
    exact⟨c,by show(aQ _ _ _).lookup x=_;rw[a3,zS,hc];rfl⟩
   | _=>rcases J with z|z<;>cases z
 ·have J:(scope.names.lookup x==some .cell)=true:=hx
  have q:scope.names.lookup x=some .cell:=by simpa using J
  rcases lk x c e with⟨a,_⟩|⟨a,b⟩
  ·have:=up _ _ a;show s.heap.objs.size<=c;omega
  ·obtain⟨d,hd⟩:=ql (n:=s.heap.objs.size+1) q
   rw[hd]at b;cases b
 ·subst z
  rcases lk x c e with⟨a,_⟩|⟨a,_⟩
  ·exact absurd (az (b4 c hb) (fD (up _ _ a))) (bI _)
  ·exact(hf c hb).2.2.2.2.1 x c a rfl
 ·rcases(hf b hb).2.2.2.1 with z|z
  ·exact I.ok.noex b o e z
  ·exact absurd (az (aJ e) (ao I.ok.bsz z)) (bI _)
 ·rcases aE.mp (I.stkSub b z)with y|y
  ·exact(b5 b hb).2.1 y
  ·exact(b5 b hb).2.2 y
 ·have G:(az9 src σ)[i]?=some (some v):=e2
  unfold az9 at G
  rw[ax]at G
  cases q:src[i]? with
  | none=>rw[q]at G;cases G
  | some o =>
   rw[q]at G
   cases o with
   | none=>cases G
   | some j =>
    have Z:(σ[j]?).join=some v:=aF G
    have ej:σ[j]?=some (some v):=by
     cases q2:σ[j]? with
     | none=>rw[q2]at Z;cases Z
     | some o2=>rw[q2]at Z;exact congrArg some Z
    obtain⟨h1,h2⟩:=Y.sr i j x q e1
    have hm:=aD h2
    obtain⟨mX,c3,c0⟩:=I.loc
    have b3:Vis X.env.scope x:=by
     rcases Y.fr _ hm rfl with z|z
     ·exact .inr (.inl z)
     ·exact .inr (.inr z)
    obtain⟨u,ru,look⟩:=c0 j x v h1 ej b3
    refine⟨u,ru,.inr ?_⟩
    have hcell:∃ c,X.env.cells.lookup x=some c/\s.heap.IsCell c (some u):=by
     rcases look with⟨z,_⟩|⟨_,c,z1,z2⟩
     ·have z':X.env.scope.names.lookup x=some .local:=z
      rcases Y.fr _ hm rfl with y|y<;>(rw[z']at y;cases y)
     ·exact⟨c,z1,z2⟩
    obtain⟨c,c1,c2⟩:=hcell
    refine⟨?_,c,b2 x c hm c1,c2.keeps hk⟩
    show(d8 scope X.env).names.lookup x=some .cell\/(d8 scope X.env).names.lookup x=some .free
    rw[a0 x _ h2]
    by_cases hc:(NameKind.free==NameKind.free&&X.env.scope.kind==.function&&X.env.kindOf x==some .cell)=true
    ·rw[if_pos hc];exact .inl rfl
    ·rw[if_neg hc];exact .inr rfl
 ·rcases lk x c e with⟨a,_⟩|⟨a,_⟩
  ·exact⟨_,(ok.empty x c a).1⟩
  ·obtain⟨v,q⟩:=I.cell x c a
   exact⟨v,q.keeps hk⟩
 ·rcases lk x c e with⟨a,_⟩|⟨a,_⟩
  ·exact I.hok.fresh (by have:=up _ _ a;omega)
  ·exact I.freeC x c a
theorem aM6 {X:Cx}{N':List Str}{scope:Scope}{h:List (Addr×Obj)}{σ σ':St}{H Y:Hp}{s s5:af}{y:List Addr}{cells:List (Str×Addr)}{h':Heap}
  (I:Inv X h σ H s) (G:∀ b∈y,FpOk X h H b) (J:Inv (zX X N' scope s.heap.objs.size cells s H y) [] σ' Y s5) (hs:dH s.heap.objs.size s5.heap h') :
  Inv X h σ Y { s5 with heap:=h' }:=by
 have p:∀ b o,s.heap.get? b=some o->b≠s.heap.objs.size:=λ b o e=>aH (aJ e)
 have u:Un (frs X.stack) y H Y s.heap s5.heap:=J.base
 refine I.call' (s':={ s5 with heap:=h' }) (ch:=y) J.os ⟨λ b o e n hb hx=>?_,λ b o e n hb hx=>?_,λ b o e n hx=>u.free b o e n hx,λ b o e hx=>?_,u.tups,u.frzs,u.tbls⟩ (λ b o e=>?_) J.bare λ b hb=>⟨(G b hb).2.2.2.1,(G b hb).2.1,(G b hb).2.2.2.2.1,(G b hb).2.2.2.2.2⟩
 ·exact(hs.2 b (p b o e)).trans (u.keep b o e n hb hx)
 ·obtain⟨sl,q⟩:=u.slot b o e n hb hx
  exact⟨sl,(hs.2 b (p b o e)).trans q⟩
 ·obtain⟨Z,q⟩:=u.there b o e hx
  exact⟨Z,(hs.2 b (p b o e)).trans q⟩
 ·have fr:Y s.heap.objs.size=none:=J.free
  refine(J.hok b o e).stay (λ c w' hc q=>(hs.2 c ?_).trans q) (λ _ q=>q) λ _ _ q=>q
  rintro rfl
  rcases hc with z|hc
  ·rw[<-z,fr]at e;cases e
  ·rw[fr]at hc;cases hc
theorem al2 {M:Model}{A:aX}{E:Value->af->Prop}{s:af}{scope:Scope}{globals:Addr}{y:List (Str×Addr)}{qual:Str}{p:Env}{Q:Env->af->Prop}
  (h:Q { scope:=scope,locals:=s.heap.objs.size,globals:=globals,cells:=aQ (s.heap.objs.size+1) scope.names y,qual:=qual,func:=none,code:=p.code,frame:=p.frame,builtins:=p.builtins }
   { s with heap:=d7 (s.heap.push { cls:=.type "dict",data:=.dict #[] }) scope.names }) :
  wpAny M A (fm scope globals y [] qual none .none (some p)) Q E s:=by
 simp only[fm,iT,if_true]
 refine ai (wpAny_alloc ?_)
 refine ai (wpAny_layCells _ (λ name kind cells=>by cases hkc:kind==NameKind.cell<;>simp[hkc]) _ _ _ _ ?_)
 rw[show({ s with heap:=s.heap.push { cls:=.type "dict",data:=.dict #[] } }:af).heap.objs.size=s.heap.objs.size+1 from cf ..]
 refine ai ?_
 rw[gY]
 exact aI (aI h)
theorem aC3 {X':Cx}{R:kn->af->Prop}{a3 tg iter:Expr}{a1:List Expr}{scope:Scope}{pos:Pos}{g:TG}{tc:TT}{te:TE}{J:It}{fp:List Addr}{it D:Addr}{tn:Nat->Heap->Prop}{W:Nat->Nat->St->Hp->Prop}
  {QD:Hp->Prop} {σ0:St} {H0:Hp} {s4:af} {m0:Nat} (hx:X'.xe=λ _ _=>False) (p:X'.calm=true) (I4:Inv X' [] σ0 H0 s4) (T:Turn X'.prog X'.w X'.K tg J fp it tn) (a6:tn 0 s4.heap)
  (G:∀ H':Hp,(∀ b∈fp,H' b=none)->∀ b∈fp,FpOk X' [] H' b) (b1:∀ b∈fp,H0 b=none) (w0:W 0 m0 σ0 H0)
  (turn:∀ i m σ' H',W i m σ' H'->(J.stop i H'/\QD H')\/(J.go i H'/\∃ N:St->Hp->Prop,(∀ σ2 H2,N σ2 H2->∃ m',m'<m/\W (i+1) m' σ2 H2) /\
   ∀ x H2,J.yld i H' x H2->g x σ' H2 λ σ3 Y=>tc σ3 Y λ b H4=>if b=true then te σ3 H4 λ v H5=>∃ ys,H5 D=some (.lst ys)/\ys.length<aP/\N σ3 (upd H5 D (.lst (ys++[v])))else N σ3 H4))
  (hg:PG X' tg g) (hif:PIf X' a1 tc) (he:PE X' a3 te) (a5:∀ σ' H' s',Inv X' [] σ' H' s'->QD H'->R (.ok .next) s') :
  f9 (model X'.prog X'.w) X'.A (.compLoop (.ListComp a3 [⟨tg,iter,a1,0⟩] scope pos) 0 (.ref it) (.ref D) X'.env) R s4:=by
 have nox:∀ {α:Type} {t:Sem α} {Q Q':α->af->Prop} {E:Value->af->Prop} {s:af},wpAny (model X'.prog X'.w) X'.A t Q X'.xe s->(∀ a s,Q a s->Q' a s)->wpAny (model X'.prog X'.w) X'.A t Q' E s :=
  λ h hQ=>bz h hQ λ _ _ z=>by rw[hx]at z;exact z.elim
 refine ba0 (λ n s'=>∃ i σ' H',Inv X' [] σ' H' s'/\tn i s'.heap/\(∀ b∈fp,H' b=none)/\W i n σ' H') ?_ m0 ⟨0,σ0,H0,I4,a6,b1,w0⟩
 rintro n s3 ⟨i,σ3,Y,I3,a2,a4,w3⟩
 rcases turn i n σ3 Y w3 with⟨stop,qn⟩|⟨go,N,hN,step⟩
 ·refine nox (T.done X' rfl rfl rfl p i [] s3 σ3 Y X'.xe I3 (G Y a4) a2 stop) λ r s4 ⟨hr,I4⟩=>?_
  subst hr
  exact a5 σ3 Y s4 I4 qn
 ·refine nox (T.item X' rfl rfl rfl p i [] s3 σ3 Y X'.xe I3 (G Y a4) a2 go) λ r s4 ⟨u,hr,h4⟩=>?_
  subst hr
  refine nox h4 λ _ s5 ⟨x,H5,I5,r5,y5,a0,b2⟩=>?_
  have b0:=I5.pinned (G H5 b2) (T.obj _ _ a0)
  refine nox (hg _ s5 σ3 H5 x u _ b0 r5 (step x H5 y5)) λ _ s6 ⟨σ6,H6,I6,q6⟩=>?_
  have again:∀ {σ7:St} {Z:Hp} {s7:af},Inv X' ([]++aA7 fp s5.heap) σ7 Z s7->N σ7 Z->∃ m,m<n/\∃ i σ' H',Inv X' [] σ' H' s7/\tn i s7.heap/\(∀ b∈fp,H' b=none)/\W i m σ' H':=λ {σ7 Z s7} I7 n7=>by
   obtain⟨m',hm,w7⟩:=hN σ7 Z n7
   refine⟨m',hm,i+1,σ7,Z,I7.unpinned,T.keep _ _ _ a0 λ b hb o e=>(I7.pin (b,o) (aV _ (aV _ (jx hb e)))).1,λ b hb=>?_,w7⟩
   obtain⟨o,e,d⟩:=T.obj _ _ a0 b hb
   exact(I7.pin (b,o) (aV _ (aV _ (jx hb e)))).2.1
  refine nox (hif _ s6 σ6 H6 _ I6 q6) λ b s7 ⟨Z,I7,q7⟩=>?_
  cases b with
  | false =>
   rw[if_neg aW]at q7 ⊢
   exact again I7 q7
  | true =>
   rw[if_pos rfl]at q7 ⊢
   refine nox (he _ s7 σ6 Z _ I7 q7) λ v s8 ⟨y,H8,I8,r8,ys,hy,hz,q8⟩=>?_
   refine nox (aA1 _ s8 σ6 H8 (.ref D) [y] (.ref D) [v] (λ _ H9=>N σ6 H9) I8 rfl (.cons r8 .nil) ⟨D,ys,y,rfl,rfl,hy,hz,q8⟩) λ v9 s9 ⟨_,H9,I9,_,q9⟩=>?_
   exact again I9 q9
theorem aZ4 {X:Cx}{a3 tg iter:Expr}{a4:List Expr}{scope:Scope}{pos:Pos}{wi:TI}{g:TG}{tc:TT}{te:TE}(N':List Str)(src:List (Option Nat))
  (b4:qp N' src scope X.N X.env.scope=true) (hi:PI X tg iter wi) (a0:X.calm=true)
  (b1:∀(C:Addr) (cells:List (Str×Addr)) (s:af) (H:Hp) (ex:List Addr),PG (zX X N' scope C cells s H ex) tg g/\PIf (zX X N' scope C cells s H ex) a4 tc/\PE (zX X N' scope C cells s H ex) a3 te)
  (hs:∀ x,c6 iter X.env x=pure x:=by intro _;rfl):PE X (.ListComp a3 [⟨tg,iter,a4,0⟩] scope pos) (tComp src wi g tc te):=by
 intro G s σ H Q I h
 have ck:=bs4 b4
 rw[eval_ListComp]
 have hcl:=jd (scope:=scope) (env:=X.env) λ y hy e=>I.ok.has y.1 (ck.fr y hy e)
 refine fQ (use:=none) rfl hs hcl ck.kind ck.loc (thn (hi G s σ H _ I h) λ v s1 h1=>thn h1 λ b6 s2 h2=>?_)
 obtain⟨it,Y,tn,J,H2,e,I2,T,a2,f2,W⟩:=h2
 subst e
 have hD:=I2.fresh
 obtain⟨W,⟨m0,w0⟩,turn⟩:=W _ hD
 have I3:=I2.lnew (its:=[]) (ys:=[]) (t':=s2.toks) .nil (c9 _)
 have a5:∀ b∈Y,b<s2.heap.objs.size:=λ b hb=>by obtain⟨o,q,_⟩:=T.obj _ _ a2 b hb;exact aJ q
 have f3:∀ b∈Y,FpOk X G (upd H2 s2.heap.objs.size (.lst [])) b:=λ b hb=>⟨by rw[zd (aH (a5 b hb))];exact(f2 b hb).1,(f2 b hb).2⟩
 refine bO (al2 ?_)
 generalize Z:({ s2 with heap:=s2.heap.push { cls:=.type "list",data:=.seq ([]:List Value).toArray },toks:=s2.toks }:af)=s3 at I3
 have b5:({ s2 with heap:=s2.heap.push { cls:=.type "list",data:=.seq ([]:List Value).toArray } }:af)=s3:=Z
 have b3:∀ b∈Y,b<s3.heap.objs.size:=λ b hb=>by
  rw[<-Z]
  show b<(s2.heap.push _).objs.size
  rw[cf]
  exact fF (a5 b hb)
 have I4:=au5 (s4:={ s3 with heap:=d7 (s3.heap.push { cls:=.type "dict",data:=.dict #[] }) scope.names }) ck I3 f3 b3 ⟨_,rfl⟩
 have a6:tn 0 (d7 (s3.heap.push { cls:=.type "dict",data:=.dict #[] }) scope.names):=T.keep _ _ _ a2 λ b hb o e=>cW _ _ b o (ar _ (by rw[<-Z];exact ar _ e))
 obtain⟨hg,hif,he⟩:=b1 s3.heap.objs.size (aQ (s3.heap.objs.size+1) scope.names (ai8 X.env.cells scope.names [])) s3 (upd H2 s2.heap.objs.size (.lst [])) Y
 have a1:∀ H':Hp,(∀ b∈Y,H' b=none)->∀ b∈Y,FpOk (zX X N' scope s3.heap.objs.size (aQ (s3.heap.objs.size+1) scope.names (ai8 X.env.cells scope.names [])) s3 (upd H2 s2.heap.objs.size (.lst [])) Y) [] H' b:=λ H' hn b hb =>
  ⟨hn b hb,(I4.ok.exf b hb).1,I4.ok.exfs b hb,.inl hb,λ x c e=>(I4.ok.exf b hb).2 x c e,λ p hp=>absurd (show p∈([]:List (Addr×Obj))from hp) (by simp)⟩
 have T':Turn X.prog X.w X.K tg J Y it tn:=T
 have b0:∀ b∈Y,upd H2 s2.heap.objs.size (.lst []) b=none:=λ b hb=>(f3 b hb).1
 have L:=aC3 (X':=zX X N' scope s3.heap.objs.size (aQ (s3.heap.objs.size+1) scope.names (ai8 X.env.cells scope.names [])) s3 (upd H2 s2.heap.objs.size (.lst [])) Y) (R:=compPost (model X.prog X.w) X.A X.xe none (EP X G σ Q) (Value.ref s2.heap.objs.size) s3.heap.objs.size) (iter:=iter) (scope:=scope) (pos:=pos) (QD:=λ H'=>Q (.ref s2.heap.objs.size) H') rfl a0 I4 T' a6 a1 b0 w0 turn hg hif he
  (λ σ' H' s' J' q=>by
   obtain⟨mm,hn,_⟩:=J'.loc
   exact⟨mm,hn,λ h' b2=>⟨.ref s2.heap.objs.size,H',aM6 I3 f3 J' b2,rfl,q⟩⟩)
 exact gy L (T.self _ _ _ _ _ a6 L)
section
variable {X:Cx}
theorem ch4:bj "abs"=some (.builtin "abs"):=by decide +kernel
theorem ce5:bj "len"=some (.builtin "len"):=by decide +kernel
theorem bO6:bj "min"=some (.builtin "min"):=by decide +kernel
theorem bM3:bj "max"=some (.builtin "max"):=by decide +kernel
theorem ch6:bj "all"=some (.builtin "all"):=by decide +kernel
theorem jl:bj "isinstance"=some (.builtin "isinstance"):=by decide +kernel
theorem bS5:bj "int"=some (.type "int"):=by decide +kernel
theorem bJ7:bj "bool"=some (.type "bool"):=by decide +kernel
theorem cf4:bj "str"=some (.type "str"):=by decide +kernel
theorem aY3:bj "tuple"=some (.type "tuple"):=by decide +kernel
theorem bs5:bj "list"=some (.type "list"):=by decide +kernel
def cf1 (i j:Int):Prop:=0<j/\j<2^4096
theorem aT8 {y:Int}(h0:0<y)(h:y<2^4096):y.natAbs.log2<9000:=by
 have hn:y.natAbs<2^4096:=by
  have:(y.natAbs:Int)=y:=by omega
  have p:(y.natAbs:Int)<((2^4096:Nat):Int):=by rw[this];simpa using h
  exact Int.ofNat_lt.mp p
 have:=(Nat.log2_lt (by omega)).mpr hn
 omega
theorem bj3:OpR X (bX .FloorDiv) (rI cf1 λ i j=>.int (i / j)):=opI λ i j _ _ _ _ _ hc q=>by
 refine floordiv_int (by have:=hc.1;omega) ?_ (.inl (PyProof.noPylong_of_log2 (aT8 hc.1 hc.2)))
 rw[fg i (by have:=hc.1;omega)]
 exact q
theorem aK7 {K:ac}(h:X.K=K):IxR X (cj7 K):=by subst h;exact bw9
theorem bu2 {K:ac}(h:X.K=K):IxR X (cj8 K):=by subst h;exact ix_tup
theorem aq7 {K:ac}(h:X.K=K):ag6 X (.builtin "len") (λ y H Q=>∃ p ys,y=[.ref p]/\(SqL K H p ys\/SqT K H p ys)/\Q (.int ys.length) H):=by subst h;exact aE7
theorem aH4 {K:ac}(h:X.K=K):ag6 X (.type "tuple") (λ y H Q=>∃ p ys,y=[.ref p]/\((SqL K H p ys/\∀ l,H l=none->Q (.ref l) (upd H l (.tup ys)))\/(SqT K H p ys/\Q (.ref p) H))):=by subst h;exact ax4
theorem aR8 {K:ac}(h:X.K=K):ag6 X (.type "list") (λ y H Q=>∃ p ys,y=[.ref p]/\(SqL K H p ys\/SqT K H p ys)/\∀ l,H l=none->Q (.ref l) (upd H l (.lst ys))):=by subst h;exact aD0
theorem bo4 {K:ac}{tg l:Expr}{h:TE}(p:X.K=K)(hl:PE X l h):PI X tg l (bB2 K h):=by subst p;exact bu5 hl
theorem bD0 {K:ac}{tg l:Expr}{h:TE}(p:X.K=K)(hl:PE X l h):PI X tg l (cg8 K h):=by subst p;exact bP5 hl
theorem bI6 {K:ac}{pos:Pos}{es:List Expr}{k:Nat}{t:TGs}{n:Nat}(y:X.K=K)(hc:X.calm=true)(h:PGs X es t)
  (hn:(cr es X.env).length=n:=by rfl) (p:(cr es X.env).findIdx? (·.1)=none:=by rfl):PG X (.Tuple es k pos) (cf6 K n t):=by subst y;exact bQ5 hc h hn p
end
structure DefAt (K:ac)(mg:Str->Option Value)(x:Str)(st:Stmt)(ps:List Str)(f:Addr)(fd:bu):Prop where
 fn:Fun K x x st f fd
 mg:mg x=some (.ref f)
 bi:Binds K fd ps []
@[irreducible] noncomputable def co4 (p:Prop):Prop:=p
theorem ai1.new {p:Addr}{H y:Hp}{o:HO}(h:ai1 H y)(hp:y p=none):ai1 H (L2.upd y p o):=λ x o e=>by
 have e1:=h x o e
 rw[zd (zC e1 hp)]
 exact e1
section
variable {prog:aM} {w:World} {A:aX} {R:kn->af->Prop} {I:Addr} {fp wr:List Addr} {n:Nat} {P:Nat->Value->Prop} {St:Nat->Heap->Prop} {kw:List (Str×Value)}
end
theorem ao7 (val : Nat -> Int) : ∀ k j, j <= k -> val (ki (λ i j => decide (val i < val j)) k) <= val j
  | 0, j, h => by have : j = 0 := by omega
                  subst this; exact j0 _
  | k + 1, j, h => by
    have ih := ao7 val k
    unfold ki
    by_cases hb : val (k + 1) < val (ki (λ i j => decide (val i < val j)) k)
    · rw[if_pos (by simpa using hb)]
      by_cases hj : j = k + 1
      · subst hj; exact j0 _
      · have := ih j (by omega); omega
    · rw[if_neg (by simpa using hb)]
      by_cases hj : j = k + 1
      · subst hj; omega
      · exact ih j (by omega)
theorem aV1 {ns:List Int}{its:List Value}(r:Vals (ns.map V.int) its){i:Nat}{v:Value}(h:its[i]?=some v):∃ z t,ns[i]?=some z/\v=Value.int z t:=by
 have hl:=r.length
 rw[aC]at hl
 have p:i<its.length:=(ae.mp h).1
 obtain⟨u,e1,q⟩:=r.get (i:=i) (x:=.int ns[i]) (by rw[ax,ah (by omega)];rfl)
 rw[h]at e1;cases e1
 obtain⟨t,rfl⟩:=q
 exact⟨_,t,ah (by omega),rfl⟩
inductive D where
 | non|bl (b:Bool)|int (i:Int)|str (x:Str)|tup (l:List D)|lst (l:List D)
mutual
noncomputable def D.deep:D->Nat
 | .tup l=>D.deepL l+1
 | .lst l=>D.deepL l+1
 | _=>0
noncomputable def D.deepL:List D->Nat
 | []=>0
 | d::l=>max (D.deep d) (D.deepL l)
end
section
variable {X:Cx}
end
section
variable {X:Cx}
def cc6 (K:ac):R2:=λ x y H Q=>∃ a b xs ys,x=.ref a/\y=.ref b/\SqT K H a xs/\SqT K H b ys/\xs.length+ys.length<=aP/\∀ p H',ai1 H H'->SqT K H' p (xs++ys)->(H' p=some (.tup (xs++ys))\/(p=a/\ys=[])\/(p=b/\xs=[]))->Q (.ref p) H'
theorem bB7 {prog:aM}{w:World}{A:aX}{E:Value->af->Prop}{s:af}{t b:Addr}{ws:List Value}{Q:Value->af->Prop}(ht:IsTup s.heap t ([]:List Value).toArray)(hb:IsTup s.heap b ws.toArray)(h1:Q (.ref b) s) :
  wpAny (model prog w) A (bX .Add (.ref t) (.ref b)) Q E s:=by
 obtain⟨⟨cls,dd,data,sl⟩,ho,hc,n,hd⟩:=id ht
 obtain⟨⟨Z,J,Y,G⟩,h,y,n2,p⟩:=id hb
 simp only at hc hd y p
 subst hc hd y p
 exact i7 ⟨_,ho,rfl⟩ ⟨_,h,rfl⟩ fT iA dM dz (di _ _)
   (tuple_addW0 t b _ ws.toArray n n2 dd J sl G rfl) ⟨ho,h,h1⟩
theorem bB5 {K:ac}(hK:X.K=K):OpR X (bX .Add) (cc6 K):=by
 subst hK
 intro G s σ H x y v u Q I J ry h
 obtain⟨a,b,Y,ys,e1,e2,ha,hb,hz,q⟩:=h
 by_cases hx:Y=[]
 ·subst e1;subst e2;subst hx
  cases J;cases ry
  obtain⟨its,r1,p1,_⟩:=I.tuple ha
  obtain⟨Z,r2,p2,_⟩:=I.tuple hb
  obtain rfl:its=[]:=r1.nil_iff.mpr rfl
  exact bB7 p1 p2 ⟨.ref b,H,I,rfl,q b H (ai1.refl H) hb (.inr (.inr ⟨rfl,rfl⟩))⟩
 ·refine bH8 G s σ H x y v u Q I J ry ⟨a,b,Y,ys,e1,e2,ha,hb,hx,hz,λ z=>?_,λ z p hp=>?_⟩
  ·subst z
   exact q a H (ai1.refl H) (by rw[bo];exact ha) (.inr (.inl ⟨rfl,rfl⟩))
  ·exact q p _ ((ai1.refl H).new hp) (SqT.of zm) (.inl zm)
def cm1 (K:ac):V->Option Int->Option Int->Hp->VK->Prop:=λ x lo hi H Q=>∃ a xs,x=.ref a/\SqT K H a xs/\∀ p H',ai1 H H'->SqT K H' p (aR9 xs lo hi)->(H' p=some (.tup (aR9 xs lo hi))\/(p=a/\aR9 xs lo hi=xs))->Q (.ref p) H'
theorem ax1 {prog:aM}{w:World}{A:aX}{E:Value->af->Prop}{s:af}{t sl:Addr}{p:Array Value}{vl vu:Value}{y Y:Option Int}{Q:Value->af->Prop}(J:IsTup s.heap t p)(hs:s.heap.IsSliceOf sl vl vu .none)(pl:fN vl y)(pu:fN vu Y)
  (hw:HT.sIx p.size 0 y=0/\HT.sIx p.size p.size Y=p.size) (h:Q (.ref t) s):wpAny (model prog w) A (gi (.ref t) (.ref sl)) Q E s:=by
 obtain⟨os,a0,Z,a2⟩:=id hs
 have a1:s.TypeIs (.ref sl) "slice":=⟨os,a0,Z⟩
 unfold gi
 try with_reducible refine cI ?_
 first|refine ai (aI ?_)|skip
 refine ai (i8 J.typeIs (by decide) ?_)
 refine ai (cK (name:=bD "__getitem__") J.typeIs bt
  (da bt J.typeIs ig ?_ (iO _ _)))
 show wpAny _ _ (c8 (.ref t) >>= _) _ _ s
 refine ai (iB J ?_)
 refine ai (gj a1 ?_)
 rw[if_pos (by decide)]
 refine ai (HT.sliceApplied_gen hs pl pu ?_)
 have G:((((HT.sIx p.size 0 y:Nat):Int)==0&&(1:Int)==1&&(HT.sIx p.size p.size Y - HT.sIx p.size 0 y)==p.size)=true):=by
  rw[hw.1,hw.2]
  simp
 show wpAny _ _ (if(((HT.sIx p.size 0 y:Nat):Int)==0&&(1:Int)==1&&(HT.sIx p.size p.size Y - HT.sIx p.size 0 y)==p.size)=true then _ else _) _ _ s
 rw[if_pos G]
 refine ai (ai (gj J.typeIs (aI ?_)))
 rw[if_pos (by decide)]
 exact ai (kt (aI ⟨_,rfl,aI h⟩))
theorem av0 {p:List V}{G y:Option Int}(h:HT.sIx p.length 0 G=0/\HT.sIx p.length p.length y=p.length):aR9 p G y=p:=by
 unfold aR9
 rw[h.1,h.2]
 simp
theorem bw6 {K:ac}(hK:X.K=K):SlR X (cm1 K):=by
 subst hK
 intro G s σ H x v vl vu lo hi sl Q I Z hs Y pu h
 obtain⟨a,y,e1,hx,q⟩:=h
 by_cases hw:HT.sIx y.length 0 lo=0/\HT.sIx y.length y.length hi=y.length
 ·subst e1
  cases Z
  obtain⟨its,r,ht,hz⟩:=I.tuple hx
  have J:its.toArray.size=y.length:=by rw[ay];exact r.length.symm
  refine⟨"tuple",_,bt.lookup,ht.typeIs,?_⟩
  exact ax1 ht hs Y pu (by rw[J];exact hw) ⟨.ref a,H,I,rfl,q a H (ai1.refl H) (by rw[av0 hw];exact hx) (.inr ⟨rfl,av0 hw⟩)⟩
 ·exact bL2 G s σ H x v vl vu lo hi sl Q I Z hs Y pu ⟨a,y,e1,hx,hw,λ p hp=>q p _ ((ai1.refl H).new hp) (SqT.of zm) (.inl zm)⟩
theorem bh8 {K:ac}(h:X.K=K):SlR X (ck5 K):=by subst h;exact bA7
end
noncomputable def Its (x:Str):It:=⟨λ i _=>i<x.cps.size,λ i H v H'=>H'=H/\∃ c,x.cps[i]?=some c/\v=.str ⟨#[c]⟩,λ i _=>x.cps.size<=i⟩
theorem aL2 {P:aM}{w:World}{K:ac}{tg:Expr}{G:String}{x:Str}{t:Tok}(it:Addr)(hn:["enumerate", "zip", "dict_itemiterator", "dict_reverseitemiterator", "odict_iterator", "itertools.zip_longest", "itertools.pairwise"].contains G=false)
  (W:∀ A:aX,A.handled=none->Walks P w A it [it] [it] x.cps.size (SignAt x) (λ i h=>h.IsStrIter it G x t i))
  (J:∀(A:aX) (s:af) (i:Nat) (Q:Option Value->af->Prop) (E:Value->af->Prop),A.handled=none->s.heap.IsStrIter it G x t i->x.cps[i]?=none->(∀ h',j1 it s.heap h'->Q none { s with heap:=h' })->wpAny (model P w) A (pyNext (.ref it)) Q E s)
  (y:∀(A:aX) (i:Nat) (s:af) (Q:Value->af->Prop) (E:Value->af->Prop),s.heap.IsStrIter it G x t i->Q (.ref it) s->wpAny (model P w) A (kM (.ref it)) Q E s):Turn P w K tg (Its x) [it] it (λ i h=>h.IsStrIter it G x t i) where
 mem:=by simp
 obj:=λ i h st b hb=>by
  have e:b=it:=by simpa using hb
  subst e
  obtain⟨o,ho,hc,hd⟩:=st
  exact⟨o,ho,λ v z=>by rw[hd]at z;cases z⟩
 keep:=λ i h h' st k=>by
  obtain⟨o,ho,r⟩:=st
  exact⟨o,k it (by simp) _ ho,r⟩
 item:=by
  intro X hP hw hK hc i p s σ H E I Z st hg
  subst hP hw hK
  obtain⟨f0,f1,f2,f3,f4,f5⟩:=Z it (by simp)
  refine(W X.A (I.ok.hd hc)).item i s _ _ hg st λ v h' tk hv Y kk=>?_
  obtain⟨c,u,a0,rfl⟩:=hv
  have I1:Inv X p σ H { s with heap:=h',toks:=tk }:=I.turned (λ b o hb e=>kk b o (by simpa using hb) e) f0 f1 f3 f4 f5
  obtain⟨o,ho,hcl,hd⟩:=id Y
  exact⟨_,rfl,bp6 (s:={ s with heap:=h',toks:=tk }) (n:=G) ho hcl hd hn ⟨.str ⟨#[c]⟩,H,I1,⟨u,rfl⟩,⟨rfl,c,a0,rfl⟩,Y,λ b hb=>(Z b hb).1⟩⟩
 done:=by
  intro X hP hw hK hc i p s σ H E I Z st hg
  subst hP hw hK
  obtain⟨f0,f1,f2,f3,f4,f5⟩:=Z it (by simp)
  have a1:x.cps.size<=i:=hg
  exact J X.A s i _ E (I.ok.hd hc) st (by simp;omega) λ h' eb=>⟨rfl,I.turned (t':=s.toks) (λ b o hb e=>eb b o hb e) f0 f1 f3 f4 f5⟩
 self:=λ A i s Q E st h=>y A i s Q E st h
def ck4 (tl:TE):TI:=λ σ H R=>tl σ H λ v H1=>∃ x,v=.str x/\R (Its x) H1
theorem bX7 {X:Cx}{tg l:Expr}{Z:TE}(hl:PE X l Z):PI X tg l (ck4 Z):=by
 intro p s σ H R I h
 refine thn (hl p s σ H _ I h) λ v s1 ⟨v0,H1,J,r1,q1⟩=>?_
 obtain⟨x,e,q⟩:=q1
 subst e
 obtain⟨t,rfl⟩:=r1
 have fin:∀(Y:String) (o:Obj),o={ cls:=.type Y,data:=.fields #[.str x t,.int 0 0] }->Turn X.prog X.w X.K tg (Its x) [s1.heap.objs.size] s1.heap.objs.size (λ i h=>h.IsStrIter s1.heap.objs.size Y x t i)->PIE X p σ tg R (.ref s1.heap.objs.size) { s1 with heap:=s1.heap.push o }:=λ Y o eo T=>by
  subst eo
  refine⟨s1.heap.objs.size,[s1.heap.objs.size],_,_,H1,rfl,J.kept (t':=s1.toks) λ b o e=>ar _ e,T,⟨_,a8 _ rfl,rfl,rfl⟩,λ b hb=>?_,q⟩
  have e:b=s1.heap.objs.size:=by simpa using hb
  subst e
  exact J.fpOk (am _) (J.hok.fresh (am _))
 cases ha:x.cps.all (·<128)
 ·exact wpAny_pyIter_wide ha (fin "str_iterator" _ rfl (aL2 _ (by decide) (λ A y=>Walks.strWide y _ x t) (λ A s i Q E y st hx G=>wpAny_pyNext_wide_end y st hx G) λ A i s Q E st h=>wpAny_pyIter_striter_wide st h))
 ·exact wpAny_pyIter_ascii ha (fin "str_ascii_iterator" _ rfl (aL2 _ (by decide) (λ A y=>Walks.strAscii y _ x t) (λ A s i Q E y st hx G=>wpAny_pyNext_ascii_end y st hx G) λ A i s Q E st h=>wpAny_pyIter_striter_ascii st h))
section
variable {X:Cx} {K:ac} {T id:String} {name:Str} {o e:Expr} {es:List Expr} {to:TE} {t:TA} {r:V->List V->Hp->VK->Prop} {apos cpos:Pos}
theorem bq9 (Z:X.K=K)(Y:kq T)(slot:Slot T name id)(J:jQ (.builtin id)=pure (.type "method_descriptor"))(hm:MtR X id r)(ho:PE X o to)(ha:PA X (e::es) t)
  (y:fO o name X.env (eval o X.env)=eval o X.env:=by rfl)
  (G:((dI cpos (bp (e::es) X.env)).all (λ x=>!x.1)&&(backToKw cpos (keywordEach [] X.env)).all (λ x=>x.1.isSome)
   && decide ((e::es).length+([]:List kg).length+(if([]:List kg).isEmpty then 0 else 1)<30))=true:=by rfl)
  (p:(apos.endLine==cpos.line)=true:=by rfl) (hs:bp (e::es) X.env=(false,eval e X.env)::bp es X.env:=by rfl) (h:(dI cpos (bp es X.env)).any (·.1)=false:=by rfl) :
  PE X (.Call (.Attribute o name apos) (e::es) [] cpos) (tBM K T r to t):=by
 subst Z
 exact cd2 Y slot J hm ho ha y G p hs h
end
structure Mach where
 letters:Int
 rooms:Int
 begins:List Int
 ends:List Int
 doors:List (Int×Str×Int×Int)
noncomputable def cb1 (q:Int×Str×Int×Int):D:=.tup [.int q.1,.str q.2.1,.int q.2.2.1,.int q.2.2.2]
noncomputable def Mach.D (M:Mach):D:=.tup [.int M.letters,.int M.rooms,.tup (M.begins.map .int),.tup (M.ends.map .int),.tup (M.doors.map cb1)]
noncomputable def ltr (i:Nat):Str:=⟨#[97+i]⟩
structure DoorOk (letters rooms:Int)(q:Int×Str×Int×Int):Prop where
 s0:0<=q.1
 s1:q.1<rooms
 l:∃ i:Nat,(i:Int)<letters/\q.2.1=ltr i
 g0:0<=q.2.2.1
 g1:q.2.2.1<rooms
 t0:0<=q.2.2.2
 t1:q.2.2.2<=3
structure RoomsOk (rooms:Int)(l:List Int):Prop where
 mem:∀ r∈l,0<=r/\r<rooms
 up:l.Pairwise (· < ·)
structure Mach.Ok (most:Nat)(M:Mach):Prop where
 l0:1<=M.letters
 l1:M.letters<=3
 r0:1<=M.rooms
 r1:M.rooms<=5
 b:RoomsOk M.rooms M.begins
 e:RoomsOk M.rooms M.ends
 d:∀ q∈M.doors,DoorOk M.letters M.rooms q
 m:M.doors.length<=most
mutual
noncomputable def D.tups:D->Bool
 | .lst _=>false
 | .tup l=>D.tupsL l
 | _=>true
noncomputable def D.tupsL:List D->Bool
 | []=>true
 | d::l=>D.tups d&&D.tupsL l
end
end L2
end
noncomputable section
namespace L2
end L2
end
noncomputable section
namespace L2
open PySem PySem.Spec PyProof.Rows
noncomputable def cm3:Option Int->D
 | none=>.non
 | some i=>.int i
noncomputable def minO:List Int->Option Int
 | []=>none
 | a::l=>some (match minO l with|none=>a|some b=>if b<a then b else a)
theorem aS1 {X:Cx}{a0 tg iter:Expr}{Z:List Expr}{scope:Scope}{pos a1 py:Pos}{y:Str}{i:Nat}{wi:TI}{g:TG}{tc:TT}{te:TE}(N':List Str)(src:List (Option Nat))
  (hN:X.N.Nodup) (b5:X.N[i]?=some y) (b0:X.env.scope.names.lookup y=some .local)
  (c1:qp N' src scope X.N X.env.scope=true) (hi:PI X tg iter wi) (a3:X.calm=true)
  (b6:∀(C:Addr) (cells:List (Str×Addr)) (s:af) (H:Hp) (ex:List Addr),PG (zX X N' scope C cells s H ex) tg g/\PIf (zX X N' scope C cells s H ex) Z tc/\PE (zX X N' scope C cells s H ex) a0 te)
  (hs:∀ x,c6 iter X.env x=pure x:=by intro _;rfl)
  (b4:e8 (.ListComp a0 [⟨tg,iter,Z,0⟩] scope pos) (some (.Name y py)) a1.line X.env=pure true:=by rfl) :
  PS X (.Assign [.Name y py] (.ListComp a0 [⟨tg,iter,Z,0⟩] scope pos) a1) (bk5 (tComp src wi g tc te) (aA2 i)):=by
 intro G s σ H D0 I h
 have ck:=bs4 c1
 rw[exec_Assign_Name_used _ _ _ _ b4]
 refine ai (iw (ai ?_))
 show wpAny _ X.A (do let _ <- comprehension (.ListComp a0 [⟨tg,iter,Z,0⟩] scope pos) scope X.env _ (newList []) false (eval iter X.env) (some (f8 (.Name y py) X.env))) _ _ s
 have hcl:=jd (scope:=scope) (env:=X.env) λ y hy e=>I.ok.has y.1 (ck.fr y hy e)
 refine ai (bz (fQ (use:=some (f8 (.Name y py) X.env)) (Q:=λ _ s'=>SP X G D0 .next s') rfl hs hcl ck.kind ck.loc (thn (hi G s σ H _ I h) λ v s1 h1=>thn h1 λ c3 s2 h2=>?_)) (λ _ s' hq=>aI (aI hq)) λ _ _ e=>e)
 obtain⟨it,Y,tn,J,H2,e,I2,T,a6,f2,W⟩:=h2
 subst e
 have hD:=I2.fresh
 obtain⟨W,⟨m0,w0⟩,turn⟩:=W _ hD
 have I3:=I2.lnew (its:=[]) (ys:=[]) (t':=s2.toks) .nil (c9 _)
 have a4:∀ b∈Y,b<s2.heap.objs.size:=λ b hb=>by obtain⟨o,q,_⟩:=T.obj _ _ a6 b hb;exact aJ q
 have f3:∀ b∈Y,FpOk X G (upd H2 s2.heap.objs.size (.lst [])) b:=λ b hb=>⟨by rw[zd (aH (a4 b hb))];exact(f2 b hb).1,(f2 b hb).2⟩
 refine bO (al2 ?_)
 generalize a2:({ s2 with heap:=s2.heap.push { cls:=.type "list",data:=.seq ([]:List Value).toArray },toks:=s2.toks }:af)=s3 at I3
 have c2:({ s2 with heap:=s2.heap.push { cls:=.type "list",data:=.seq ([]:List Value).toArray } }:af)=s3:=a2
 have b3:∀ b∈Y,b<s3.heap.objs.size:=λ b hb=>by
  rw[<-a2]
  show b<(s2.heap.push _).objs.size
  rw[cf]
  exact fF (a4 b hb)
 have I4:=au5 (s4:={ s3 with heap:=d7 (s3.heap.push { cls:=.type "dict",data:=.dict #[] }) scope.names }) ck I3 f3 b3 ⟨_,rfl⟩
 have a5:tn 0 (d7 (s3.heap.push { cls:=.type "dict",data:=.dict #[] }) scope.names):=T.keep _ _ _ a6 λ b hb o e=>cW _ _ b o (ar _ (by rw[<-a2];exact ar _ e))
 obtain⟨hg,hif,he⟩:=b6 s3.heap.objs.size (aQ (s3.heap.objs.size+1) scope.names (ai8 X.env.cells scope.names [])) s3 (upd H2 s2.heap.objs.size (.lst [])) Y
 have b1:∀ H':Hp,(∀ b∈Y,H' b=none)->∀ b∈Y,FpOk (zX X N' scope s3.heap.objs.size (aQ (s3.heap.objs.size+1) scope.names (ai8 X.env.cells scope.names [])) s3 (upd H2 s2.heap.objs.size (.lst [])) Y) [] H' b:=λ H' hn b hb =>
  ⟨hn b hb,(I4.ok.exf b hb).1,I4.ok.exfs b hb,.inl hb,λ x c e=>(I4.ok.exf b hb).2 x c e,λ p hp=>absurd (show p∈([]:List (Addr×Obj))from hp) (by simp)⟩
 have T':Turn X.prog X.w X.K tg J Y it tn:=T
 have c0:∀ b∈Y,upd H2 s2.heap.objs.size (.lst []) b=none:=λ b hb=>(f3 b hb).1
 have L:=aC3 (X':=zX X N' scope s3.heap.objs.size (aQ (s3.heap.objs.size+1) scope.names (ai8 X.env.cells scope.names [])) s3 (upd H2 s2.heap.objs.size (.lst [])) Y) (R:=compPost (model X.prog X.w) X.A X.xe (some (f8 (.Name y py) X.env)) (λ _ s'=>SP X G D0 .next s') (Value.ref s2.heap.objs.size) s3.heap.objs.size) (iter:=iter) (scope:=scope) (pos:=pos) (QD:=λ H'=>D0.nx (σ.set i (some (.ref s2.heap.objs.size))) H') rfl a3 I4 T' a5 b1 c0 w0 turn hg hif he
  (λ σ' H' s' J' q=>by
   have J2:=aM6 I3 f3 J' (Heap.SameBut.refl _ _)
   obtain⟨mm,hn,_⟩:=J'.loc
   have nL:s3.heap.objs.size≠X.env.locals:=eV I3.lt
   have nC:∀ x c,X.env.cells.lookup x=some c->c≠s3.heap.objs.size:=λ x c e=>by
    obtain⟨v,z⟩:=I3.cell x c e
    exact aH z.lt
   show wpAny _ X.A (f8 (.Name y py) X.env (.ref s2.heap.objs.size)) _ _ _
   refine i4 (aE1 (v:=.ref s2.heap.objs.size) J2 hN b5 (.inl b0) rfl (λ s5 I5 sb=>?_) (.inr b0))
   obtain⟨aa,sb,ha⟩:=sb
   have na:s3.heap.objs.size≠aa:=by
    rcases ha with z|z
    ·rw[z];exact nL
    ·exact λ e=>nC _ _ z e.symm
   refine⟨mm,hn.sameBut sb na,λ h' b2=>⟨_,H',I5.turned (t':=s5.toks) (λ b o hb e=>(b2.2 b hb).trans e) J'.free nL (.inr I3.sz) nC λ p hp z=>?_,q⟩⟩
   exact absurd (aJ (I3.pin p hp).1) (by rw[z];exact bI _))
 exact gy L (T.self _ _ _ _ _ a5 L)
def cm9:V->Option Int->Option Int->Hp->VK->Prop:=λ x lo hi H Q=>∃ z,x=.str z/\z.length<=aP/\Q (.str (eO z lo hi)) H
theorem aF1 {v:Value}{o:Option Int}(p:fN v o):∃ q:Option (Int×Tok),v=partValue q/\q.map (·.1)=o:=by
 cases p with
 | none=>exact⟨none,rfl,rfl⟩
 | int i t=>exact⟨some (i,t),rfl,rfl⟩
theorem bO4 {X:Cx}:SlR X cm9:=by
 intro Y s σ H x v vl vu y G sl Q I rx hs pl pu h
 obtain⟨z,rfl,hz,q⟩:=h
 obtain⟨t,rfl⟩:=rx
 obtain⟨l,rfl,el⟩:=aF1 pl
 obtain⟨u,rfl,Z⟩:=aF1 pu
 refine⟨"str",_,F.slot_str_getitem.lookup,iP s z t,?_⟩
 refine wpAny_getItem_str_slice (l:=l) (u:=u) (st:=none) hs rfl ?_
 unfold sliceMade
 have e:slicePicked z l u none=bB y G 1 z.length:=by
  unfold slicePicked
  rw[el,Z]
  rfl
 rw[e]
 unfold eO at q
 split
 ·rename_i hc
  have p:((1:Int)==1&&(bB y G 1 z.length).length==z.length)=true:=hc
  rw[if_pos p]at q
  exact⟨.str z,H,I,⟨t,rfl⟩,q⟩
 ·rename_i hc
  have p:¬((1:Int)==1&&(bB y G 1 z.length).length==z.length)=true:=hc
  rw[if_neg p]at q
  have J:(Str.mk (gZ (λ x=>z.cps[x]?) (bB y G 1 z.length)).toArray).length<=aP:=by
   show(gZ (λ x=>z.cps[x]?) (bB y G 1 z.length)).toArray.size<=aP
   rw[ay]
   exact ao (List.length_filterMap_le _ _) (ao (sliceIndices_le y G z.length) hz)
  exact⟨J,.str _,H,I.tok _,⟨_,rfl⟩,q⟩
section
variable {M:Model} {A:aX} {E:Value->af->Prop} {s₀ s:af} {m cm:Str->Option Value} {env:Env} {cs:List (Str×Addr)}
theorem bv2 {n:Str}{v:Value}{Q:Unit->af->Prop}(z:fC s₀ env.locals m cs cm s)(G:env.scope.kind=.function)(kl:env.kindOf n=some .local)
  (go:∀ s',fC s₀ env.locals (λ y=>if y=n then some v else m y) cs cm s'->Q () s'):wpAny M A (ib env n v) Q E s:=by
 refine gG kl z.toInCall.ns (λ g p h=>go _ ⟨⟨?a,p,λ b o e=>?b,z.toInCall.fresh⟩,λ k c e=>?c,z.apart,z.above⟩) (by rw[G];rfl)
 case a=>obtain⟨J,tk,e⟩:=z.toInCall.same;subst e;exact⟨g,_,rfl⟩
 case b=>exact h.extBut b o (aH (az (aJ e) z.toInCall.fresh)) (z.toInCall.keep b o e)
 case c=>exact(z.cell k c e).sameBut h (eV (z.above k c (aD e)))
theorem bA9 {n:Str}{c:Addr}{v:Value}{Q:Unit->af->Prop}(z:fC s₀ env.locals m cs cm s)(p:env.scope.kind=.function)(G:env.kindOf n=some .cell)
  (e1:env.cells.lookup n=some c) (e2:cs.lookup n=some c) (go:∀ s',fC s₀ env.locals m cs (λ y=>if y=n then some v else cm y) s'->Q () s'):wpAny M A (ib env n v) Q E s:=by
 have up:=z.above n c (aD e2)
 refine gR p G e1 (z.cell n c e2) λ g J h=>go _ ⟨⟨?a,z.toInCall.ns.sameBut h (aH up),λ b o e=>?b,z.toInCall.fresh⟩,λ k Y e=>?c,z.apart,z.above⟩
 case a=>obtain⟨Z,tk,e⟩:=z.toInCall.same;subst e;exact⟨g,_,rfl⟩
 case b=>exact h.extBut b o (aH (cR (az (aJ e) z.toInCall.fresh) up)) (z.toInCall.keep b o e)
 case c =>
  by_cases q:k=n
  ·subst q
   rw[e2]at e;cases e
   simpa using J
  ·rw[if_neg q]
   exact(z.cell k Y e).sameBut h λ y=>q (gh z.apart (aD e) (y▸aD e2))
theorem aG7 (f:Str×Value->PUnit->Sem (ForInStep PUnit))(Y:∀ n v u,f (n,v) u=(do ib env n v;pure (.yield ⟨⟩)))(J:env.scope.kind=.function)(sub:∀ n c,cs.lookup n=some c->env.cells.lookup n=some c) :
  ∀(bs:List (Str×Value)) (m G:Str->Option Value) (s:af) (Q:PUnit->af->Prop),fC s₀ env.locals m cs G s ->
   (∀ y∈bs,env.kindOf y.1=some .local\/(env.kindOf y.1=some .cell/\∃ c,cs.lookup y.1=some c)) ->
   (∀ s',fC s₀ env.locals (bindL env.kindOf bs m) cs (bindC env.kindOf bs G) s'->Q ⟨⟩ s')->wpAny M A (forIn bs ⟨⟩ f) Q E s
 | [],m,G,s,Q,z,_,go=>by rw[gY];exact aI (go s z)
 | (n,v)::r,m,G,s,Q,z,hy,go=>by
  rw[j4,Y]
  have hr:=λ y (q:y∈r)=>hy y (aj _ q)
  rcases hy (n,v) aB with kl|⟨kc,c,e2⟩
  ·refine ai (ai (bv2 z J kl λ s' Z=>aI (aG7 f Y J sub r _ _ s' Q Z hr λ h p=>go h ?_)))
   unfold bindL bindC;rw[if_pos kl,if_pos kl];exact p
  ·have nl:¬ env.kindOf n=some .local:=by rw[kc];decide
   refine ai (ai (bA9 z J kc (sub n c e2) e2 λ s' Z=>aI (aG7 f Y J sub r _ _ s' Q Z hr λ h p=>go h ?_)))
   unfold bindL bindC;rw[if_neg nl,if_neg nl];exact p
end
theorem au2 {M:Model}{A:aX}{E:Value->af->Prop}{s:af}{scope:Scope}{globals:Addr}{h:List (Str×Addr)}{binds:List (Str×Value)}{qual:Str}{func:Option Addr}{code:Value}{builtins:Addr}{Q:Env->af->Prop}
  (G:scope.kind=.function) (hy:∀ y∈binds,scope.names.lookup y.1=some .local\/(scope.names.lookup y.1=some .cell/\∃ c,(aQ (s.heap.objs.size+1) scope.names []).lookup y.1=some c))
  (go:∀ env,env=newEnv scope s.heap.objs.size globals (aQ (s.heap.objs.size+1) scope.names h) qual func code none builtins ->
   ∀ s',fC s env.locals (bindL env.kindOf binds λ _=>none) (aQ (s.heap.objs.size+1) scope.names []) (bindC env.kindOf binds λ _=>none) s'->Q env s') :
  wpAny M A (fm scope globals h binds qual func code none builtins) Q E s:=by
 simp only[fm,Option.isSome_none,au,if_false]
 refine ai (wpAny_alloc (ai (wpAny_layCells _ (λ nm kd Y=>by cases q:kd==NameKind.cell<;>simp[q]) _ _ _ _ ?_)))
 have ok:=cellsFrom_ok scope.names (s.heap.push { cls:=.type "frame",data:=.dict #[] }) (s.heap.objs.size+1) [] ⟨λ _ _ J=>(nomatch J),List.Pairwise.nil⟩ (by rw[cf];exact am _)
 have p:({ s with heap:=s.heap.push { cls:=.type "frame",data:=.dict #[] } }:af).heap.objs.size=s.heap.objs.size+1:=cf ..
 rw[cf]at ok
 rw[p]
 refine ai (aG7 (s₀:=s) (cs:=aQ (s.heap.objs.size+1) scope.names []) (env:=newEnv scope s.heap.objs.size globals (aQ (s.heap.objs.size+1) scope.names h) qual func code none builtins)
  _ (λ _ _ _=>rfl) G (λ n c e=>?sub) binds (λ _=>none) (λ _=>none) _ _ ⟨⟨⟨_,_,rfl⟩,?ns,λ b o e=>?k,am _⟩,λ n c e=>(ok.empty n c (aD e)).1,ok.apart,λ n c e=>(ok.empty n c e).2⟩ hy λ s' x=>aI (go _ rfl s' x))
 case sub =>
  show(aQ _ _ _).lookup n=some c
  rw[zo,zS,e];rfl
 case ns=>exact(kZ s.heap (.type "frame")).keeps (cW _ _)
 case k=>exact cW _ _ b o (ar _ e)
noncomputable def jq (c:Addr)(qual:Str):HO:=.ext λ h=>h.CodeRec (.ref c) qual
noncomputable def aM0 (f:Addr)(fd:bu):HO:=.ext λ h=>h.get? f=some { cls:=.type "function",data:=.func fd }
theorem bo6 {P:aM}{w:World}{H:Hp}{h:Heap}{c:Addr}{q:Str}(r:h.CodeRec (.ref c) q):ag2 P w H h c (jq c q):=by
 refine⟨r,?_,λ G y z k=>?_⟩
 ·obtain⟨p,o,vs,t,e,g,_⟩:=r
  cases e
  exact⟨o,g⟩
 ·obtain⟨p,o,vs,t,e,g,d⟩:=z
  cases e
  exact⟨c,o,vs,t,rfl,k o g,d⟩
theorem az7 {P:aM}{w:World}{H:Hp}{h:Heap}{c:Addr}{q:Str}(x:HOk P w H h)(e:H c=some (jq c q)):h.CodeRec (.ref c) q:=(x c _ e).1
theorem ba4 {P:aM}{w:World}{H:Hp}{h:Heap}{f:Addr}{p:bu}(r:h.get? f=some { cls:=.type "function",data:=.func p }):ag2 P w H h f (aM0 f p) :=
 ⟨r,⟨_,r⟩,λ _ _ z k=>k _ z⟩
theorem aw1 {P:aM}{w:World}{H:Hp}{h:Heap}{f:Addr}{p:bu}(x:HOk P w H h)(e:H f=some (aM0 f p)):h.get? f=some { cls:=.type "function",data:=.func p }:=(x f _ e).1
noncomputable def isC (cells:List (Str×Addr))(b:Addr):Bool:=cells.any λ p=>cells.lookup p.1==some b
theorem ai6 {cells:List (Str×Addr)}{b:Addr}:isC cells b=true↔∃ x,cells.lookup x=some b:=by
 unfold isC
 rw[List.any_eq_true]
 constructor
 ·rintro⟨p,_,e⟩;exact⟨p.1,by simpa using e⟩
 ·rintro⟨x,e⟩;exact⟨(x,b),aD e,by simpa using e⟩
noncomputable def af8 (cells:List (Str×Addr))(H:Hp):Hp:=λ b=>if isC cells b=true then none else H b
noncomputable def Put (cells:List (Str×Addr))(H H':Hp):Hp:=λ b=>if isC cells b=true then H b else H' b
theorem af8.cell {cells:List (Str×Addr)}{H:Hp}{b:Addr}(h:isC cells b=true):af8 cells H b=none:=if_pos h
theorem af8.ne {cells:List (Str×Addr)}{H:Hp}{b:Addr}(h:isC cells b≠true):af8 cells H b=H b:=if_neg h
theorem af8.some {cells:List (Str×Addr)}{H:Hp}{b:Addr}{o:HO}(h:af8 cells H b=some o):isC cells b≠true/\H b=some o:=by
 unfold af8 at h
 split at h
 ·cases h
 ·rename_i z;exact⟨z,h⟩
theorem af8.none {cells:List (Str×Addr)}{H:Hp}{b:Addr}(h:H b=none):af8 cells H b=none:=by
 unfold af8
 split
 ·rfl
 ·exact h
theorem Put.cell {cells:List (Str×Addr)}{H H':Hp}{b:Addr}(h:isC cells b=true):Put cells H H' b=H b:=if_pos h
theorem Put.ne {cells:List (Str×Addr)}{H H':Hp}{b:Addr}(h:isC cells b≠true):Put cells H H' b=H' b:=if_neg h
def Cells (clos:List (Str×Addr))(H:Hp):Prop:=∀ x c,clos.lookup x=some c->∃ o v,H c=some (.frz o (.own c))/\o.data=.cell v
theorem Cells.at {p:List (Str×Addr)}{H:Hp}(z:Cells p H){b:Addr}(h:isC p b=true):∃ o v,H b=some (.frz o (.own b))/\o.data=.cell v:=by
 obtain⟨x,e⟩:=ai6.mp h
 exact z x b e
def Cap (clos:List (Str×Addr))(H:Hp)(fr:List Str)(cap:List V):Prop:=∀(i:Nat) (x:Str) (v:V),fr[i]?=some x->cap[i]?=some v->∃ c o u,clos.lookup x=some c/\H c=some (.frz o (.own c))/\o.data=.cell (some u)/\RelV v u
structure LamScope (N ps fr:List Str)(sc:Scope):Prop where
 kind:sc.kind=.function
 co:sc.isCoroutine=false
 gen:sc.isGenerator=false
 nd:N.Nodup
 app:N=ps++fr
 par:∀ x∈ps,sc.names.lookup x=some .local\/sc.names.lookup x=some .cell
 frs:∀ x∈fr,sc.names.lookup x=some .free
 cel:∀ y∈sc.names,y.2=.cell->sc.names.lookup y.1=some .cell
noncomputable def aH2 (P:aM)(w:World)(K:ac)(mg:Str->Option Value)(base:Heap)(N:List Str)(qual:Str)(scope:Scope)(f:Addr)(cd:Value)(clos:List (Str×Addr))(A:aX)(outer:List Env)(s:af)(H:Hp):Cx where
 prog:=P
 w:=w
 K:=K
 mg:=mg
 base:=base
 A:=A.deeper (cS qual scope s.heap.objs.size f cd (aQ (s.heap.objs.size+1) scope.names clos))
 N:=N
 s₀:=s
 H₀:=af8 clos H
 env:=cS qual scope s.heap.objs.size f cd (aQ (s.heap.objs.size+1) scope.names clos)
 outer:=outer
 stack:=cS qual scope s.heap.objs.size f cd (aQ (s.heap.objs.size+1) scope.names clos)::outer
 ex:=[]
 fn:=λ x=>scope.names.lookup x==some .cell
 calm:=true
 pn:=[]
 xe:=λ _ _=>False
theorem HOk.drop {P:aM}{w:World}{H:Hp}{h:Heap}{p:List (Str×Addr)}(x:HOk P w H h)(z:Cells p H):HOk P w (af8 p H) h:=λ b o e=>by
 obtain⟨_,e'⟩:=af8.some e
 have J:∀ c u,H c=some u->(∀ o v,u≠.frz o v)->isC p c≠true:=λ c u q d y=>by
  obtain⟨o,v,G,_⟩:=z.at y
  rw[q]at G;cases G
  exact d _ _ rfl
 exact(x b o e').stay (λ _ _ _ q=>q) (λ c q=>by rw[af8.ne (J c _ q λ _ _=>by nofun)];exact q) λ c Y q=>by rw[af8.ne (J c _ q λ _ _=>by nofun)];exact q
theorem bb7 {P:aM}{w:World}{K:ac}{mg:Str->Option Value}{base:Heap}{N ps fr:List Str}{qual:Str}{scope:Scope}{f:Addr}{cd:Value}{h:List (Str×Addr)}{A:aX}{G:List Env}{s s1:af}{H:Hp}{us:List Value}{vs cap:List V}
  (S:LamScope N ps fr scope) (hd:A.handled=none) (J:Env0 P w K mg base A G s H) (hl:vs.length=ps.length) (a5:cap.length=fr.length) (r:Vals vs us)
  (hc:Cells h H) (inj:∀ x y c,h.lookup x=some c->h.lookup y=some c->x=y) (a4:∀ x,scope.names.lookup x=some .free->∃ c,h.lookup x=some c) (a0:Cap h H fr cap)
  (x:fC s s.heap.objs.size (bindL (cS qual scope s.heap.objs.size f cd (aQ (s.heap.objs.size+1) scope.names h)).kindOf (ps.zip us) λ _=>none) (aQ (s.heap.objs.size+1) scope.names [])
   (bindC (cS qual scope s.heap.objs.size f cd (aQ (s.heap.objs.size+1) scope.names h)).kindOf (ps.zip us) λ _=>none) s1) :
  Inv (aH2 P w K mg base N qual scope f cd h A G s H) [] (vs.map some++cap.map some) (af8 h H) s1:=by
 obtain⟨h1,tk,rfl,hk⟩:=x.done
 have Z:∀ b:Addr,b ∉ (aH2 P w K mg base N qual scope f cd h A G s H).ex:=λ b z=>absurd (show b∈([]:List Addr)from z) (by simp)
 have lk:∀ y c,(aQ (s.heap.objs.size+1) scope.names h).lookup y=some c->(aQ (s.heap.objs.size+1) scope.names []).lookup y=some c\/((aQ (s.heap.objs.size+1) scope.names []).lookup y=none/\h.lookup y=some c):=λ y c e=>by
  rw[zo,zS]at e
  cases q:(aQ (s.heap.objs.size+1) scope.names []).lookup y with
  | some d=>rw[q]at e;left;simpa using e
  | none=>rw[q]at e;right;exact⟨rfl,by simpa using e⟩
 have own:∀ y c,(aQ (s.heap.objs.size+1) scope.names []).lookup y=some c->s.heap.objs.size<c:=λ y c e=>x.above y c (aD e)
 have a1:∀ y c,h.lookup y=some c->c<s.heap.objs.size:=λ y c e=>by
  obtain⟨o,v,q,_⟩:=hc y c e
  exact J.hok.lt q
 have hx:∀ y c,h.lookup y=some c->scope.names.lookup y=some .free->(aQ (s.heap.objs.size+1) scope.names h).lookup y=some c:=λ y c e k=>by
  rw[zo,zS]
  cases q:(aQ (s.heap.objs.size+1) scope.names []).lookup y with
  | none=>exact e
  | some d =>
   rcases zO (aD q)with z|z
   ·rw[S.cel _ z rfl]at k;cases k
   ·exact absurd z (by simp)
 have dn:∀ b,H b=none->af8 h H b=none:=λ b e=>af8.none e
 refine⟨⟨J.mod,S.kind,rfl,rfl,am _,λ y z c a b=>?inj,λ y hy=>?has,λ y c hy e=>?cab,λ _=>hd,gT J.frames,.inr ⟨rfl,rfl⟩,λ b z=>absurd z (Z b),λ b o e=>⟨(J.bs b o e).1,dn b (J.bs b o e).2⟩,J.bsz,λ b _ _=>Z b,λ b z=>absurd z (Z b),J.funs,λ b hb=>dn b (J.frf b hb)⟩,
  rfl,J.bare,Un.kept hk,⟨_,x.toInCall.ns,λ i y v q1 q2 q3=>?loc⟩,λ y c e=>?cell,dn _ (J.hok.fresh (am _)),λ y c e=>?freeC,λ p hp=>absurd (show p∈([]:List (Addr×Obj))from hp) (by simp),(J.hok.drop hc).kept hk,?len⟩
 case inj =>
  rcases lk y c a with a|⟨_,a⟩<;>rcases lk z c b with b|⟨_,b⟩
  ·exact gh x.apart (aD a) (aD b)
  ·exact absurd (cR (own _ _ a) (a1 _ _ b)) (bI _)
  ·exact absurd (cR (own _ _ b) (a1 _ _ a)) (bI _)
  ·exact inj y z c a b
 case has =>
  have hy:scope.names.lookup y=some .cell\/scope.names.lookup y=some .free:=hy
  rcases hy with hy|hy
  ·obtain⟨c,e⟩:=ql (n:=s.heap.objs.size+1) hy
   refine⟨c,?_⟩
   show(aQ (s.heap.objs.size+1) scope.names h).lookup y=some c
   rw[zo,zS,e];rfl
  ·obtain⟨c,e⟩:=a4 y hy
   exact⟨c,hx y c e hy⟩
 case cab =>
  have hy:(scope.names.lookup y==some .cell)=true:=hy
  have a3:scope.names.lookup y=some .cell:=by simpa using hy
  rcases lk y c e with a|⟨a,_⟩
  ·exact dG (own y c a)
  ·obtain⟨d,q⟩:=ql (n:=s.heap.objs.size+1) a3
   rw[q]at a;cases a
 case loc =>
  have a2:ps.Nodup:=by have:=S.nd;rw[S.app]at this;exact(List.nodup_append.mp this).1
  by_cases hi:i<vs.length
  ·have ha:vs[i]?=some v:=by
    rw[aA (by simpa using hi),ax]at q2
    cases e:vs[i]? with
    | none=>rw[e]at q2;cases q2
    | some a=>rw[e]at q2;cases q2;rfl
   obtain⟨u,hu,rv⟩:=r.get ha
   have hp:ps[i]?=some y:=by
    have Y:N[i]?=some y:=q1
    rw[S.app,aA (by omega)]at Y;exact Y
   refine⟨u,rv,?_⟩
   rcases S.par y (bq hp)with k|k
   ·exact .inl ⟨k,aq6 a2 hp hu k⟩
   ·obtain⟨c,e⟩:=ql (n:=s.heap.objs.size+1) k
    refine .inr ⟨.inl k,c,?_,?_⟩
    ·show(aQ (s.heap.objs.size+1) scope.names h).lookup y=some c
     rw[zo,zS,e];rfl
    ·have q:=x.cell y c e
     rw[aq1 a2 hp hu (by show scope.names.lookup y≠_;rw[k];decide)]at q
     exact q
  ·have hf:fr[i - vs.length]?=some y:=by
    have Y:N[i]?=some y:=q1
    rw[S.app,ak (by omega)]at Y;rw[hl];exact Y
   have hv:cap[i - vs.length]?=some v:=by
    rw[ak (by simpa using hi),ax,aC]at q2
    cases e:cap[i - vs.length]? with
    | none=>rw[e]at q2;cases q2
    | some a=>rw[e]at q2;cases q2;rfl
   obtain⟨c,o,u,e1,e2,e3,e4⟩:=a0 _ y v hf hv
   have kf:=S.frs y (bq hf)
   refine⟨u,e4,.inr ⟨.inr kf,c,hx y c e1 kf,?_⟩⟩
   exact⟨o,hk c o (J.hok c _ e2).1,e3⟩
 case cell =>
  rcases lk y c e with a|⟨_,a⟩
  ·exact⟨_,x.cell y c a⟩
  ·obtain⟨o,v,q,d⟩:=hc y c a
   exact⟨v,o,hk c o (J.hok c _ q).1,d⟩
 case freeC =>
  rcases lk y c e with a|⟨_,a⟩
  ·exact dn c (J.hok.fresh (dG (own y c a)))
  ·exact af8.cell (ai6.mpr ⟨y,a⟩)
 case len =>
  show _=N.length
  rw[S.app]
  simp[hl,a5]
theorem aX1 {P:aM}{w:World}{p:List Env}{H H':Hp}{s s':af}{h:List (Str×Addr)}(hok:HOk P w H s.heap)(hc:Cells h H)(frf:∀ b∈frs p,H b=none)
  (un:Un (frs p) [] (af8 h H) H' s.heap s'.heap) (Y:HOk P w H' s'.heap):Un (frs p) [] H (Put h H H') s.heap s'.heap/\HOk P w (Put h H H') s'.heap:=by
 have nc:∀ b,H b=none->isC h b≠true:=λ b e y=>by
  obtain⟨o,v,q,_⟩:=hc.at y
  rw[e]at q;cases q
 have G:∀ c u,H c=some u->(∀ o v,u≠.frz o v)->isC h c≠true:=λ c u q d y=>by
  obtain⟨o,v,q',_⟩:=hc.at y
  rw[q]at q';cases q'
  exact d _ _ rfl
 have J:∀ b,isC h b=true->H' b=none:=λ b y=>by
  obtain⟨o,v,q,_⟩:=hc.at y
  exact un.free b o (hok b _ q).1 (af8.cell y) (by simp)
 refine⟨⟨λ b o e n hb hx=>un.keep b o e (af8.none n) hb hx,λ b o e n hb hx=>un.slot b o e (af8.none n) hb hx,λ b o e n hx=>?_,λ b o e hx=>un.there b o e hx,λ b Z e=>?_,λ b o u e=>?_,λ b ps e=>?_⟩,λ b o e=>?_⟩
 ·rw[Put.ne (nc b n)];exact un.free b o e (af8.none n) hx
 ·have z:=G b _ e λ _ _=>by nofun
  rw[Put.ne z];exact un.tups b Z (by rw[af8.ne z];exact e)
 ·by_cases z:isC h b=true
  ·rw[Put.cell z];exact e
  ·rw[Put.ne z];exact un.frzs b o u (by rw[af8.ne z];exact e)
 ·have z:=G b _ e λ _ _=>by nofun
  rw[Put.ne z];exact un.tbls b ps (by rw[af8.ne z];exact e)
 ·by_cases z:isC h b=true
  ·rw[Put.cell z]at e
   obtain⟨ob,v,q,d⟩:=hc.at z
   rw[q]at e;cases e
   have g:=(hok b _ q).1
   have g':=un.keep b ob g (af8.cell z) (λ y=>by rw[frf b y]at q;cases q) (by simp)
   exact⟨g',ob,g'⟩
  ·rw[Put.ne z]at e
   have np:∀ c u,H' c=some u->Put h H H' c=some u:=λ c u q=>by
    rw[Put.ne λ y=>by rw[J c y]at q;cases q];exact q
   exact(Y b o e).stay (λ _ _ _ q=>q) (λ c q=>np c _ q) λ c Z q=>np c _ q
structure ClOk (P:aM)(w:World)(K:ac)(mg:Str->Option Value)(base:Heap)(k:Nat)(R:Hp->Prop)(f:Addr)(sp:Sp):Prop where
 run:∀(A:aX) (outer:List Env) (s:af) (H:Hp) (us:List Value) (vs:List V) (Q:VK),Room k A->Env0 P w K mg base A outer s H->R H->Vals vs us->sp vs H Q E0 ->
  f9 (model P w) A (.call (.ref f) ⟨us,[]⟩) (CR CX0 outer P w H s Q E0) s
theorem ClOk.ofFn {P:aM}{w:World}{K:ac}{mg:Str->Option Value}{base:Heap}{k:Nat}{f:Addr}{G:bu}{ps:List Str}{sp:Sp}(F:FnOk P w K mg base CX0 k f G ps sp)(hb:Binds K G ps []):ClOk P w K mg base k (λ _=>True) f sp :=
 ⟨λ A p s H us vs Q J y _ r h=>by
  have hl:=F.len _ _ _ _ h
  have:=hb s us (y.mod.kin.keeps λ b o e=>(y.bs b o e).1) (by rw[bo,<-r.length];exact hl)
  rw[bo]at this
  exact F.run A p s H ⟨us,[]⟩ us vs Q E0 J y this r h⟩
def aD3 (H:Hp)(f:Addr)(qual:Str)(params:bA)(body:Expr)(scope:Scope)(fr:List Str)(cap:List V)(clos:List (Str×Addr)):Prop :=
 ∃ pm c' ctv,H f=some (aM0 f (bU "<lambda>" qual params body scope clos pm (.ref c') ctv))/\H c'=some (jq c' qual)/\Cells clos H /\
  (∀ x y c,clos.lookup x=some c->clos.lookup y=some c->x=y)/\(∀ x,scope.names.lookup x=some .free->∃ c,clos.lookup x=some c)/\Cap clos H fr cap
def BM (mg:Str->Option Value)(base:Heap):Prop:=∃ bm ob,mg "__builtins__"=some (.ref bm)/\bm≠f7/\base.get? bm=some ob/\ob.cls=.type "module"/\ob.dict=some f7/\ob.data=.plain
def ci7 (cells:List (Str×Addr))(P:Addr)(qual:Str)(params:bA)(body:Expr)(scope:Scope)(pos:Pos):TE:=λ _ H Q =>
 ∃ ps:Array Value,H P=some (.tbl ps)/\jT ps.toList /\
  (dC pos ps.toList=none->∀ c' f pm ctv,H c'=none->H f=none->c'≠f ->
   Q (.ref f) (upd (upd (upd H P (.tbl (ps++#[eJ pos.line,eJ pos.col,.ref c']))) c' (jq c' qual)) f (aM0 f (bU "<lambda>" qual params body scope (ai8 cells scope.names []) pm (.ref c') ctv)))) /\
  (∀ cv,dC pos ps.toList=some cv->∃ c',cv=.ref c'/\∀ f pm ctv,H f=none->Q (.ref f) (upd H f (aM0 f (bU "<lambda>" qual params body scope (ai8 cells scope.names []) pm (.ref c') ctv))))
noncomputable def lamCheck (scope xs:Scope):Bool:=scope.names.all λ y=>!(y.2==.free)||(xs.names.lookup y.1==some .cell||xs.names.lookup y.1==some .free)
theorem aX8 {X:Cx}{c P:Addr}{params:bA}{body:Expr}{scope:Scope}{pos:Pos}(Y:X.env.code=.ref c)(C:bK X.base c P)(hB:BM X.mg X.base)
  (d2:lamCheck scope X.env.scope=true) (a5:ku params X.env=([],[]):=by rfl) :
  PE X (.Lambda params body scope pos) (ci7 X.env.cells P (X.env.qual ++ "<lambda>") params body scope pos):=by
 intro d3 s σ H Q I h
 have c1:∀ y∈scope.names,y.2=.free->X.env.kindOf y.1=some .cell\/X.env.kindOf y.1=some .free:=λ y hy e=>by
  have z:=aO.mp d2 y hy
  have z':X.env.scope.names.lookup y.1=some .cell\/X.env.scope.names.lookup y.1=some .free:=by simpa [e]using z
  exact z'
 obtain⟨ps,Z,ht,c0,a6⟩:=h
 refine PySem.W.kla_eval a5 ?_
 have hcl:=jd (scope:=scope) (env:=X.env) λ y hy e=>I.ok.has y.1 (c1 y hy e)
 have oP:s.heap.get? P=some (fo ps):=I.hok P _ Z
 have a0:s.heap.Ns a7 X.mg:=I.mod.glob.keeps I.bk
 have hC:bK s.heap c P:=C.keeps I.bk
 have d1:a7≠P:=λ q=>by
  obtain⟨o,es,ep,e,d,_⟩:=a0
  rw[q,oP]at e;cases e;cases d
 have hb:s.heap.BuiltinsAt X.mg P:=by
  obtain⟨bm,ob,b1,b2,b3,b4,b5,b6⟩:=hB
  refine⟨bm,ob,b1,b2,λ q=>?_,λ q=>?_,I.bk _ _ b3,b4,b5,b6⟩
  ·obtain⟨o,es,ep,e,d,_⟩:=I.mod.glob
   rw[q,e]at b3;cases b3;rw[d]at b6;cases b6
  ·have e:=I.bk _ _ b3
   rw[q,oP]at e;cases e;cases b4
 cases q:dC pos ps.toList with
 | none =>
  refine PySem.W.kla_makeFunction (mg:=X.mg) hcl I.ok.glob a0 Y hC oP ht q d1 hb λ p G h' tk hx hge hlt a2 b0=>?_
  have a3:P<s.heap.objs.size:=aJ oP
  have d0:p≠P:=eV (az a3 hge)
  have c3:h'.objs.size≠P:=eV (cR (az a3 hge) hlt)
  have c4:p≠h'.objs.size:=aH hlt
  have hsz:s.heap.objs.size<=h'.objs.size:=ao hge (dG hlt)
  have nP:∀ b,H b=none->b≠P:=λ b n z=>by rw[z,Z]at n;cases n
  have lt:∀ b o,H b=some o->b≠p/\b≠h'.objs.size:=λ b o e=>⟨aH (az (I.hok.lt e) hge),aH (az (I.hok.lt e) hsz)⟩
  have a1:∀ b o,s.heap.get? b=some o->b≠p/\b≠h'.objs.size:=λ b o e=>⟨aH (az (aJ e) hge),aH (az (aJ e) hsz)⟩
  have keep:∀ b o,b≠P->s.heap.get? b=some o->(h'.push (PySem.W.kla_obj "<lambda>" (X.env.qual ++ "<lambda>") params body scope (ai8 X.env.cells scope.names []) ((X.mg "__name__").getD .none) p G)).get? b=some o:=λ b o n e=>ar _ (hx b o n e)
  have J:∀ b,b≠P->b≠p->b≠h'.objs.size->∀ o1 o2 o3,upd (upd (upd H P o1) p o2) h'.objs.size o3 b=H b:=λ b n1 n2 n3 o1 o2 o3=>by rw[zd n3,zd n2,zd n1]
  refine⟨.ref h'.objs.size,upd (upd (upd H P (.tbl (ps++#[eJ pos.line,eJ pos.col,.ref p]))) p (jq p (X.env.qual ++ "<lambda>"))) h'.objs.size (aM0 h'.objs.size (bU "<lambda>" (X.env.qual ++ "<lambda>") params body scope (ai8 X.env.cells scope.names []) ((X.mg "__name__").getD .none) (.ref p) G)),I.un (t':=tk) ⟨λ b o e n _ _=>keep b o (nP b n) e,λ b o e n _ _=>⟨o.slots,keep b o (nP b n) e⟩,λ b o e n _=>?fr,λ b o e _=>?th,λ b xs e=>?tu,λ b o u e=>?fz,λ b qs e=>?tb⟩ ?ok,rfl,c0 q p h'.objs.size _ G (I.hok.fresh hge) (I.hok.fresh hsz) c4⟩
  case fr=>rw[J b (nP b n) (a1 b o e).1 (a1 b o e).2];exact n
  case th =>
   by_cases z:b=P
   ·subst z;exact⟨_,ar _ b0⟩
   ·exact⟨o,keep b o z e⟩
  case tu=>rw[J b (λ z=>by rw[z,Z]at e;cases e) (lt b _ e).1 (lt b _ e).2];exact e
  case fz=>rw[J b (λ z=>by rw[z,Z]at e;cases e) (lt b _ e).1 (lt b _ e).2];exact e
  case tb =>
   by_cases z:b=P
   ·subst z
    rw[Z]at e;cases e
    exact⟨#[eJ pos.line,eJ pos.col,.ref p],by rw[zd (cy c3),zd (cy d0),zm]⟩
   ·exact⟨#[],by rw[J b z (lt b _ e).1 (lt b _ e).2,e];simp⟩
  case ok =>
   intro b o e
   by_cases zf:b=h'.objs.size
   ·subst zf
    rw[zm]at e;cases e
    exact ba4 (a8 _ rfl)
   ·rw[zd zf]at e
    by_cases zc:b=p
    ·subst zc
     rw[zm]at e;cases e
     obtain⟨c2,oc,vs,t,e1,e2,e3⟩:=a2
     exact bo6 ⟨c2,oc,vs,t,e1,ar _ e2,e3⟩
    ·rw[zd zc]at e
     by_cases zp:b=P
     ·subst zp
      rw[zm]at e;cases e
      exact ar _ b0
     ·rw[zd zp]at e
      have a4:∀ d u,H d=some u->(∀ ps,u≠.tbl ps)->upd (upd (upd H P (.tbl (ps++#[eJ pos.line,eJ pos.col,.ref p]))) p (jq p (X.env.qual ++ "<lambda>"))) h'.objs.size (aM0 h'.objs.size (bU "<lambda>" (X.env.qual ++ "<lambda>") params body scope (ai8 X.env.cells scope.names []) ((X.mg "__name__").getD .none) (.ref p) G)) d=some u:=λ d u e nt=>by
       rw[J d (λ z=>by rw[z,Z]at e;cases e;exact nt _ rfl) (lt d _ e).1 (lt d _ e).2];exact e
      refine(I.hok b o e).stay (λ d u hd q=>keep d u ?_ q) (λ d q=>a4 d _ q λ _=>by nofun) λ d xs q=>a4 d _ q λ _=>by nofun
      rintro rfl
      rcases hd with hd|hd
      ·exact zp hd.symm
      ·rw[Z]at hd;cases hd
 | some cv =>
  obtain⟨p,rfl,hq⟩:=a6 cv q
  refine PySem.W.kla_makeFunctionHit (mg:=X.mg) hcl I.ok.glob a0 Y hC oP ht q hb λ G h' tk hk hsz=>?_
  refine⟨.ref h'.objs.size,_,I.laid (t':=tk) (λ b o e=>ar _ (hk b o e)) hsz (ba4 (a8 _ rfl)),rfl,hq h'.objs.size _ G (I.hok.fresh hsz)⟩
structure Caught (cl:List (Str×Addr))(N:List Str)(kd:Str->Option bQ)(σ:St)(H1 H2:Hp):Prop where
 ne:∀ b,isC cl b≠true->H2 b=H1 b
 free:∀ b,isC cl b=true->H1 b=none
 cells:Cells cl H2
 cap:∀(i:Nat) (x:Str) (v:V) (c:Addr),N[i]?=some x->σ[i]?=some (some v)->(kd x=some .cell\/kd x=some .free)->cl.lookup x=some c->∃ o u,H2 c=some (.frz o (.own c))/\o.data=.cell (some u)/\RelV v u
 inj:∀ x y c,cl.lookup x=some c->cl.lookup y=some c->x=y
def bL0 (cl:List (Str×Addr))(N:List Str)(kd:Str->Option bQ)(sp:Sp)(t:TA):TE:=λ σ H Q=>t σ H λ vs H1=>∀ H2,Caught cl N kd σ H1 H2->sp vs H2 (λ v H3=>Q v (af8 cl H3)) E0
theorem bz5 {X:Cx}{k:Nat}{f:Addr}{fd:bu}{ps:List Str}{sp:Sp}{Y:List (Addr×Obj)}{σ:St}{H:Hp}{s:af}{Q:VK}{us:List Value}{vs:List V}(F:FnOk X.prog X.w X.K X.mg X.base CX0 k f fd ps sp)(hr:Room k X.A)(hb:Binds X.K fd ps [])
  (b0:∀ x,X.fn x=true) (I:Inv X Y σ H s) (r:Vals vs us) (h:∀ G,Caught X.env.cells X.N X.env.kindOf σ H G->sp vs G (λ v Z=>Q v (af8 X.env.cells Z)) E0):wpAny (model X.prog X.w) X.A (call (.ref f) us) (EP X Y σ Q) X.xe s:=by
 let G:Hp:=λ b=>if isC X.env.cells b=true then(s.heap.get? b).map λ o=>.frz o (.own b)else H b
 have p:∀ b,isC X.env.cells b≠true->G b=H b:=λ b z=>if_neg z
 have J:∀ b,isC X.env.cells b=true->∃ o v,s.heap.get? b=some o/\o.data=.cell v/\G b=some (.frz o (.own b)):=λ b z=>by
  obtain⟨x,e⟩:=ai6.mp z
  obtain⟨v,o,g,d⟩:=I.cell x b e
  exact⟨o,v,g,d,by show(if _ then _ else _)=_;rw[if_pos z,g];rfl⟩
 have fr:∀ b,isC X.env.cells b=true->H b=none:=λ b z=>by
  obtain⟨x,e⟩:=ai6.mp z
  exact I.freeC x b e
 have up:∀ b,isC X.env.cells b=true->X.s₀.heap.objs.size<=b:=λ b z=>by
  obtain⟨x,e⟩:=ai6.mp z
  exact I.ok.cab x b (b0 x) e
 have a2:∀ b o,X.s₀.heap.get? b=some o->isC X.env.cells b≠true:=λ b o e z=>absurd (az (aJ e) (up b z)) (bI _)
 have a4:∀ b∈frs X.stack,isC X.env.cells b≠true:=λ b hb z=>by
  rcases aE.mp (I.stkSub b hb)with e|hb
  ·obtain⟨x,e2⟩:=ai6.mp z
   exact I.cne x b e2 e
  ·obtain⟨_,o,ho,_⟩:=I.ok.funs.mem hb
   exact a2 b o ho z
 have a6:HOk X.prog X.w G s.heap:=λ b o e=>by
  by_cases z:isC X.env.cells b=true
  ·obtain⟨ob,v,g,d,q⟩:=J b z
   rw[q]at e;cases e
   exact⟨g,ob,g⟩
  ·rw[p b z]at e
   have np:∀ c u,H c=some u->G c=some u:=λ c u q=>by rw[p c λ y=>by rw[fr c y]at q;cases q];exact q
   exact(I.hok b o e).stay (λ _ _ _ q=>q) (λ c q=>np c _ q) λ c xs q=>np c _ q
 have nb:∀ b o,X.base.get? b=some o->isC X.env.cells b≠true:=λ b o e=>a2 b o (I.ok.bs b o e).1
 have e0:Env0 X.prog X.w X.K X.mg X.base X.A X.stack s G:=⟨I.ok.frames,I.ok.mod,λ b o e=>⟨(I.bs b o e).1,by rw[p b (nb b o e)];exact(I.bs b o e).2⟩,ao I.ok.bsz I.sz,I.stack,λ b hb=>by rw[p b (a4 b hb)];exact I.stkFree b hb,a6,I.bare⟩
 have ca:Caught X.env.cells X.N X.env.kindOf σ H G:=⟨p,fr,λ x c e=>by
   obtain⟨o,v,g,d,q⟩:=J c (ai6.mpr ⟨x,e⟩)
   exact⟨o,v,q,d⟩,λ i x v c e1 e2 e3 e4=>by
   obtain⟨m,hn,hl⟩:=I.loc
   have vis:Vis X.env.scope x:=e3.elim (λ z=>.inr (.inl z)) λ z=>.inr (.inr z)
   obtain⟨u,ru,lk⟩:=hl i x v e1 e2 vis
   rcases lk with⟨z,_⟩|⟨_,c2,z1,z2⟩
   ·rcases e3 with y|y<;>(rw[z]at y;cases y)
   ·rw[e4]at z1;cases z1
    obtain⟨o,w',g,d,q⟩:=J c (ai6.mpr ⟨x,e4⟩)
    obtain⟨o2,g2,d2⟩:=z2
    rw[g]at g2;cases g2
    exact⟨o,u,q,d2,ru⟩,I.ok.inj⟩
 have a3:=h G ca
 have hl:=F.len _ _ _ _ a3
 have a1:=hb s us I.kIn (by rw[bo,<-r.length];exact hl)
 rw[bo]at a1
 refine gb (eX (F.run X.A X.stack s G ⟨us,[]⟩ us vs _ E0 hr e0 a1 r a3) λ r s' hq=>?_)
 cases r with
 | error e=>exact bf hq
 | ok fl =>
  cases fl with
  | next=>exact bf hq
  | brk=>exact bf hq
  | cont=>exact bf hq
  | ret u =>
   obtain⟨v,Z,os,bare,un,a0,rv,q⟩:=hq
   have a5:∀ b,isC X.env.cells b=true->∃ o,s.heap.get? b=some o/\s'.heap.get? b=some o/\Z b=some (.frz o (.own b)):=λ b z=>by
    obtain⟨o,v,g,d,q2⟩:=J b z
    have q3:=un.frzs b o _ q2
    exact⟨o,g,(a0 b _ q3).1,q3⟩
   have nz:∀ b u,H b=some u->isC X.env.cells b≠true:=λ b u e y=>by rw[fr b y]at e;cases e
   refine⟨v,_,I.call' (H':=af8 X.env.cells Z) (ch:=[]) os ⟨λ b o e n hb hx=>?k,λ b o e n hb hx=>?sl,λ b o e n hx=>?fr,λ b o e hx=>un.there b o e hx,λ b xs e=>?tu,λ b o u e=>?fz,λ b ps e=>?tb⟩ (λ b o e=>?hok) bare (λ b z=>absurd z (by simp)),rv,q⟩
   case k =>
    by_cases z:isC X.env.cells b=true
    ·obtain⟨o2,g,g',_⟩:=a5 b z
     rw[e]at g;cases g
     exact g'
    ·exact un.keep b o e (by rw[p b z];exact n) hb hx
   case sl=>exact un.slot b o e (by rw[p b (a4 b hb)];exact n) hb hx
   case fr =>
    by_cases z:isC X.env.cells b=true
    ·exact af8.cell z
    ·exact af8.none (un.free b o e (by rw[p b z];exact n) hx)
   case tu =>
    rw[af8.ne (nz b _ e)]
    exact un.tups b xs (by rw[p b (nz b _ e)];exact e)
   case fz =>
    rw[af8.ne (nz b _ e)]
    exact un.frzs b o u (by rw[p b (nz b _ e)];exact e)
   case tb =>
    rw[af8.ne (nz b _ e)]
    exact un.tbls b ps (by rw[p b (nz b _ e)];exact e)
   case hok =>
    obtain⟨z,e3⟩:=af8.some e
    have np:∀ c u,Z c=some u->(∀ o w',u≠.frz o w')->af8 X.env.cells Z c=some u:=λ c u q d=>by
     rw[af8.ne λ y=>by obtain⟨o,_,_,q3⟩:=a5 c y;rw[q]at q3;cases q3;exact d _ _ rfl];exact q
    exact(a0 b o e3).stay (λ _ _ _ q=>q) (λ c q=>np c _ q λ _ _=>by nofun) λ c xs q=>np c _ q λ _ _=>by nofun
theorem bo0 {X:Cx}{k:Nat}{f:Addr}{Z:bu}{ps:List Str}{sp:Sp}{x:Str}{p pos:Pos}{e:Expr}{es:List Expr}{t:TA}(F:FnOk X.prog X.w X.K X.mg X.base CX0 k f Z ps sp)(hr:Room k X.A)(hg:Gl X x)(hm:X.mg x=some (.ref f))(hk:bZ X.K (.ref f)=true)(hb:Binds X.K Z ps [])
  (J:∀ x,X.fn x=true) (ha:PA X (e::es) t) (Y:(x==("__debug__":Str))=false:=by decide) (he:bp (e::es) X.env=(false,eval e X.env)::bp es X.env:=by rfl) (G:(dI pos (bp es X.env)).any (·.1)=false:=by rfl) :
  PE X (.Call (.Name x p) (e::es) [] pos) (bL0 X.env.cells X.N X.env.kindOf sp t):=by
 intro y s σ H Q I h
 refine cu (ay3 I hg hm ?_ Y)
 refine iL (h₀:=X.base) I.ok.mod.kin hk (thn (ha pos y s σ H _ I h) λ us s1 ⟨vs,H1,I1,r,q⟩=>⟨I1.kIn,?_⟩) he G
 exact bz5 F hr hb J I1 r q
def bB4 (K:ac)(H:Hp)(f:Addr):Prop:=(∃ fd,H f=some (aM0 f fd))\/∃ oc od fd sl,K.lookup f=some ⟨oc,od,.func fd,sl⟩
theorem bB4.at {X:Cx}{p:List (Addr×Obj)}{σ:St}{H:Hp}{s:af}{f:Addr}(h:bB4 X.K H f)(I:Inv X p σ H s):PySem.W.FnAt f s.heap:=by
 rcases h with⟨y,h⟩|⟨oc,od,y,sl,h⟩
 ·exact⟨_,_,_,_,aw1 I.hok h⟩
 ·exact⟨_,_,_,_,I.kIn _ _ h⟩
def bT7 (P:aM)(w:World)(K:ac)(mg:Str->Option Value)(base:Heap)(k:Nat)(i:Nat)(t:TA):TE:=λ σ H Q=>∃ f,σ[i]?=some (some (.ref f))/\bB4 K H f/\t σ H λ vs H1=>bB4 K H1 f/\∃ R sp,ClOk P w K mg base k R f sp/\R H1/\sp vs H1 Q E0
theorem bQ4 {X:Cx}{k:Nat}{f:Addr}{sp:Sp}{R:Hp->Prop}{p:List (Addr×Obj)}{σ:St}{H:Hp}{s:af}{Q:VK}{us:List Value}{vs:List V}(F:ClOk X.prog X.w X.K X.mg X.base k R f sp)(y:Room k X.A)(I:Inv X p σ H s)(G:R H)(r:Vals vs us)(h:sp vs H Q E0) :
  wpAny (model X.prog X.w) X.A (call (.ref f) us) (EP X p σ Q) X.xe s:=by
 refine gb (eX (F.run X.A X.stack s H us vs Q y I.env0 G r h) λ r s' hq=>?_)
 cases r with
 | error e=>exact bf hq
 | ok fl =>
  cases fl with
  | ret u=>exact I.after hq
  | next=>exact bf hq
  | brk=>exact bf hq
  | cont=>exact bf hq
theorem bn5 {X:Cx}{P:aM}{w:World}{K:ac}{mg:Str->Option Value}{base:Heap}{k i:Nat}{x:Str}{p pos:Pos}{e:Expr}{es:List Expr}{t:TA}(hP:X.prog=P)(hw:X.w=w)(hK:X.K=K)(G:X.mg=mg)(J:X.base=base)(hr:Room k X.A)(hv:PE X (.Name x p) (bx6 i))(ha:PA X (e::es) t)
  (he:bp (e::es) X.env=(false,eval e X.env)::bp es X.env:=by rfl) (Y:(dI pos (bp es X.env)).any (·.1)=false:=by rfl) :
  PE X (.Call (.Name x p) (e::es) [] pos) (bT7 P w K mg base k i t):=by
 subst hP hw hK G J
 intro y s σ H Q I h
 obtain⟨f,hσ,hf,ht⟩:=h
 refine cu (thn (hv y s σ H (λ v H'=>v=.ref f/\H'=H) I ⟨.ref f,hσ,rfl,rfl⟩) λ u s0 ⟨v,H0,I0,r0,ev,eH⟩=>?_)
 subst ev
 subst eH
 cases r0
 exact PySem.W.callWith_F (q:=f) (hf.at I0) (thn (ha pos y s0 σ H0 _ I0 ht) λ us s1 ⟨vs,H1,Z,r,hF,R,sp,F,hR,q⟩=>⟨hF.at Z,bQ4 F hr Z hR r q⟩) he Y
noncomputable def az8 (K:ac)(names:List Str):List (Str×Addr×Addr):=names.filterMap λ x=>(bh K x).map λ p=>(x,p)
theorem au0 {K:ac}{names:List Str}{y:Str×Addr×Addr}:y∈az8 K names↔y.1∈names/\bh K y.1=some y.2:=by
 unfold az8
 rw[fe]
 constructor
 ·rintro⟨x,hx,e⟩
  obtain⟨p,hp,rfl⟩:=bR.mp e
  exact⟨hx,hp⟩
 ·rintro⟨hx,e⟩
  exact⟨y.1,hx,by rw[e];rfl⟩
def bG1 (K:ac)(names:List Str)(base:Heap):Prop:=∀ x∈names,∀ c P,bh K x=some (c,P)->bK base c P
def bw3 (K:ac)(names:List Str)(H:Hp):Prop:=∀ x∈names,∀ c P,bh K x=some (c,P)->H P=some (.tbl #[])
noncomputable def bJ8 (K:ac)(names:List Str)(ts:List Addr):Bool:=names.all λ x=>match bh K x with
 | some (c,P)=>jU K c P&&ts.contains P
 | none=>true
theorem ax2 {K:ac}{x:Str}(h:(bh K x).isSome=true):bh K x=some (((bh K x).getD (0,0)).1,((bh K x).getD (0,0)).2):=by
 obtain⟨p,e⟩:=fM.mp h
 rw[e]
 rfl
def bN6 (H:Hp)(P:Addr)(q:Str):Prop:=∃ ps:Array Value,H P=some (.tbl ps)/\jT ps.toList/\∀ pos cv,dC pos ps.toList=some cv->∃ c',cv=.ref c'/\H c'=some (jq c' q)
def TabsH (T:List (Addr×Str))(H:Hp):Prop:=∀ y∈T,bN6 H y.1 y.2
def bp5 (H H':Hp):Prop:=∀ b o,(∀ ps,o≠.tbl ps)->H b=some o->H' b=some o
theorem bp5.of {H p:Hp}(a:ai1 H p):bp5 H p:=λ c o _ h=>a c o h
theorem TabsH.keep {T:List (Addr×Str)}{H H':Hp}(h:TabsH T H)(k:∀ b o,(∀ J,o≠.lst J)->H b=some o->H' b=some o):TabsH T H':=λ y hy=>by
 obtain⟨ps,e,t,c⟩:=h y hy
 refine⟨ps,k _ _ (λ _=>by nofun) e,t,λ pos p q=>?_⟩
 obtain⟨G,e1,e2⟩:=c pos p q
 exact⟨G,e1,k _ _ (λ _=>by unfold jq;nofun) e2⟩
theorem TabsH.same {T:List (Addr×Str)}{H H':Hp}(h:TabsH T H)(s:ai1 H H'):TabsH T H':=h.keep λ b o _ e=>s b o e
theorem TabsH.new {T:List (Addr×Str)}{H:Hp}{a:Addr}{o:HO}(h:TabsH T H)(n:H a=none):TabsH T (upd H a o):=h.same ((ai1.refl H).new n)
theorem TabsH.put {T:List (Addr×Str)}{H:Hp}{a:Addr}{o:HO}{p:List V}(h:TabsH T H)(n:H a=some (.lst p)):TabsH T (upd H a o):=h.keep λ b u d e=>by
 rw[zd λ z=>by subst z;rw[n]at e;cases e;exact d _ rfl];exact e
theorem TabsH.init {T:List (Addr×Str)}{H:Hp}(h:∀ p∈T.map (·.1),H p=some (.tbl #[])):TabsH T H:=λ y hy =>
 ⟨#[],h _ (bF hy),trivial,λ pos G e=>by simp[dC]at e⟩
theorem codeAmong_add {pos:Pos}{a b:Int}{c p:Value}:∀(l:List Value),jT l->dC pos (l++[eJ a,eJ b,c])=some p->dC pos l=some p\/p=c:=by
 intro l
 fun_induction jT l with
 | case1 =>
  intro _ e
  simp only[dq,dC,eJ]at e
  split at e
  ·exact .inr (aF e).symm
  ·cases e
 | case2 x t y u z rest ih =>
  intro h e
  simp only[d6,dC]at e ⊢
  split at e
  ·rename_i q
   left;rw[if_pos q];exact e
  ·rename_i q
   rw[if_neg q];exact ih h e
 | case3 l h1 h2=>intro h;exact h.elim
theorem bm6 {cells:List (Str×Addr)}{N:List Str}{kd:Str->Option bQ}{σ:St}{Z H2:Hp}{f:Addr}{q:Str}{params:bA}{body:Expr}{scope:Scope}{fr:List Str}{cap:List V}(G:Caught cells N kd σ Z H2)
  (hf:∃ pm Y h,Z f=some (aM0 f (bU "<lambda>" q params body scope (ai8 cells scope.names []) pm (.ref Y) h))/\Z Y=some (jq Y q))
  (p:∀ x,scope.names.lookup x=some .free->∃ c,cells.lookup x=some c)
  (J:∀(i:Nat) (x:Str) (v:V),fr[i]?=some x->cap[i]?=some v->scope.names.lookup x=some .free/\(kd x=some .cell\/kd x=some .free)/\∃ j:Nat,N[j]?=some x/\σ[j]?=some (some v)) :
  aD3 H2 f q params body scope fr cap (ai8 cells scope.names []):=by
 obtain⟨pm,Y,h,h1,h2⟩:=hf
 have up:∀ b o,Z b=some o->H2 b=some o:=λ b o e=>by
  rw[G.ne b λ z=>by rw[G.free b z]at e;cases e];exact e
 have sub:∀ x c,(ai8 cells scope.names []).lookup x=some c->cells.lookup x=some c:=λ x c e=>by
  rcases clOf_mem (aD e)with z|z
  ·exact z
  ·exact absurd z (by simp)
 refine⟨pm,Y,h,up _ _ h1,up _ _ h2,λ x c e=>G.cells x c (sub x c e),λ x y c e1 e2=>G.inj x y c (sub x c e1) (sub y c e2),λ x k=>?_,λ i x v e1 e2=>?_⟩
 ·obtain⟨c,e⟩:=p x k
  exact⟨c,qI e (aD k)⟩
 ·obtain⟨k,kk,j,e3,e4⟩:=J i x v e1 e2
  obtain⟨c,e⟩:=p x k
  obtain⟨o,u,e5,e6,e7⟩:=G.cap j x v c e3 e4 kk e
  exact⟨c,o,u,qI e (aD k),e5,e6,e7⟩
theorem Caught.same {cells:List (Str×Addr)}{N:List Str}{kd:Str->Option bQ}{σ:St}{h y:Hp}(p:Caught cells N kd σ h y):ai1 h y:=λ b o e=>by
 rw[p.ne b λ z=>by rw[p.free b z]at e;cases e];exact e
theorem Fun.okC {P:aM}{w:World}{K:ac}{mg:Str->Option Value}{base:Heap}{x qual:Str}{st:Stmt}{f c:Addr}{G:bu}{N ps:List Str}{k:Nat}{sp:Sp}(F:Fun K x qual st f G)(Z:G.code=.ref c)(S:FnScope N ps (defScope st))(len:∀ vs H Q E,sp vs H Q E->vs.length=ps.length)
  (y:∀(A:aX) (p:List Env) (s:af) (H:Hp) (vs:List V) (Q:VK) (E:XK),Room k (A.deeper (eN qual (defScope st) s.heap.objs.size f (.ref c)))->sp vs H Q E ->
   ∃ t,PSs (az5 CX0 P w K mg base N qual (defScope st) f (.ref c) A p s H E).nox (zK st) t/\t { nx:=λ _ H'=>Q .non H',rt:=Q } (aj6 N vs) H):FnOk P w K mg base CX0 (k+1) f G ps sp:=by
 obtain⟨oc,od,kV,a1,pm,an,J,ct,a0,rfl,lk,hc⟩:=F.ex
 have e:J=.ref c:=Z
 subst e
 refine bG2 lk hc S len λ A p s H vs Q E hr Y=>?_
 obtain⟨t,h,q⟩:=y A p s H vs Q E hr Y
 exact⟨t,h.nox,q⟩
noncomputable def rowO (r:List (Option Int)):D:=.tup (r.map cm3)
theorem aW7 {X:Cx}{K:ac}(hc:X.calm=true)(hK:X.K=K):ag6 X (.builtin "min") (λ xs H Q=>∃ a ns,xs=[.ref a]/\SqL K H a (ns.map V.int)/\ns≠[]/\∀ m∈ns,(∀ y∈ns,m<=y)->Q (.int m) H):=by
 subst hK
 intro a1 s σ H xs us Q I r h
 obtain⟨a,ns,rfl,hS,Y,q⟩:=h
 obtain⟨u,rfl,ru⟩:=as0 r
 cases ru
 obtain⟨its,Z,J,hz⟩:=I.list hS
 have hl:=Z.length
 rw[aC]at hl
 have a0:0<ns.length:=io.mpr Y
 refine call_min_walk (dJ J.isList ?_)
 have p:a<s.heap.objs.size:=by obtain⟨o,_,e,_⟩:=J;exact aJ e
 have W:=k9 (prog:=X.prog) (w:=X.w) (A:=X.A.in1) (I.ok.hd hc) s.heap.objs.size a (aH p) its.toArray
 let val:Nat->Int:=λ i=>ns.getD i 0
 have G:∀ i v,its.toArray[i]?=some v->∃ t,v=Value.int (val i) t:=λ i v e=>by
  obtain⟨z,t,e1,e2⟩:=aV1 Z (i:=i) (v:=v) (by rw[dX]at e;exact e)
  refine⟨t,?_⟩
  rw[e2]
  show Value.int z t=Value.int (ns.getD i 0) t
  rw[aN,e1]
  rfl
 refine⟨_,_,_,_,_,_,_,rfl,W,⟨⟨_,a8 _ rfl,rfl,rfl⟩,?_⟩,λ b hb=>?_,by rw[ay];omega,CmpOf.ints_lt val G,λ v h' tk hP k=>?_⟩
 ·obtain⟨o,e,r⟩:=J.isList
  exact⟨o,ar _ e,r⟩
 ·show b<(s.heap.push _).objs.size
  rw[cf]
  rcases aE.mp hb with z|z
  ·rw[z];exact db _
  ·have z':b=a:=by simpa using z
   rw[z'];exact fF p
 ·obtain⟨z,t,e1,e2⟩:=aV1 Z (i:=ki (λ i j=>decide (val i<val j)) (its.toArray.size - 1)) (v:=v) (by rw[dX]at hP;exact hP)
  subst e2
  have hv:val (ki (λ i j=>decide (val i<val j)) (its.toArray.size - 1))=z:=by
   show ns.getD _ 0=z
   rw[aN,e1]
   rfl
  refine⟨.int z,H,I.kept (h':=h') (t':=tk) λ b o q=>k b o ?_ (ar _ q),⟨t,rfl⟩,q z (bq e1) λ y hy=>?_⟩
  ·intro z
   have z':b=s.heap.objs.size:=by simpa using z
   exact absurd (aJ q) (by rw[z'];exact bI _)
  ·obtain⟨j,hj,e3⟩:=g6.mp hy
   have:=ao7 val (its.toArray.size - 1) j (by simp only[ay];omega)
   rw[hv]at this
   have e4:val j=y:=by
    show ns.getD j 0=y
    rw[aN,ah hj]
    exact e3
   omega
noncomputable def mx (a b:Int):Int:=if b > a then b else a
section
variable {X:Cx}
end
noncomputable def mx3 (a b c:Int):Int:=mx (mx a b) c
theorem be8 {X:Cx}(hc:X.calm=true):ag6 X (.builtin "max") (λ y H Q=>∃ i j k,y=[.int i,.int j,.int k]/\Q (.int (mx3 i j k)) H):=by
 intro p s σ H y us Q I r h
 obtain⟨i,j,k,rfl,q⟩:=h
 cases r with
 | cons r1 r =>
  cases r with
  | cons r2 r =>
   cases r with
   | cons r3 r =>
    cases r
    obtain⟨Y,rfl⟩:=r1
    obtain⟨Z,rfl⟩:=r2
    obtain⟨J,rfl⟩:=r3
    refine max_three_ints (I.ok.hd hc) λ h' tk G=>⟨_,H,I.kept G,?_,q⟩
    unfold mx3 mx
    by_cases h1:j > i
    ·rw[if_pos h1,if_pos h1]
     by_cases h2:k > j
     ·rw[if_pos h2,if_pos h2];exact⟨_,rfl⟩
     ·rw[if_neg h2,if_neg h2];exact⟨_,rfl⟩
    ·rw[if_neg h1,if_neg h1]
     by_cases h2:k > i
     ·rw[if_pos h2,if_pos h2];exact⟨_,rfl⟩
     ·rw[if_neg h2,if_neg h2];exact⟨_,rfl⟩
noncomputable def rnd (x:Int):Int:=if x=0\/x=3 then x else 2
noncomputable def sharp (n:Nat)(s:Nat->Nat->Int)(i j:Nat):Int:=(minO ((aw n).map λ k=>mx3 (s i k) (rnd (s k k)) (s k j))).getD 3
section
variable {n:Nat} {s:Nat->Nat->Int}
end
def ao8 (H:Hp)(f:Addr)(name qual:Str)(params:bA)(body:List Stmt)(scope:Scope)(fr:List Str)(cap:List V)(clos:List (Str×Addr)):Prop :=
 ∃ doc pm c' ctv,H f=some (aM0 f (et name qual params body scope clos .none .none doc pm none (.ref c') ctv))/\H c'=some (jq c' qual)/\Cells clos H /\
  (∀ x y c,clos.lookup x=some c->clos.lookup y=some c->x=y)/\(∀ x,scope.names.lookup x=some .free->∃ c,clos.lookup x=some c)/\Cap clos H fr cap
theorem bj0 {cells:List (Str×Addr)}{N:List Str}{kd:Str->Option bQ}{σ:St}{H1 H2:Hp}{f:Addr}{q:Str}{name:Str}{params:bA}{body:List Stmt}{scope:Scope}{fr:List Str}{cap:List V}(J:Caught cells N kd σ H1 H2)
  (hf:∃ p pm Z h,H1 f=some (aM0 f (et name q params body scope (ai8 cells scope.names []) .none .none p pm none (.ref Z) h))/\H1 Z=some (jq Z q))
  (G:∀ x,scope.names.lookup x=some .free->∃ c,cells.lookup x=some c)
  (Y:∀(i:Nat) (x:Str) (v:V),fr[i]?=some x->cap[i]?=some v->scope.names.lookup x=some .free/\(kd x=some .cell\/kd x=some .free)/\∃ j:Nat,N[j]?=some x/\σ[j]?=some (some v)) :
  ao8 H2 f name q params body scope fr cap (ai8 cells scope.names []):=by
 obtain⟨p,pm,Z,h,h1,h2⟩:=hf
 have up:∀ b o,H1 b=some o->H2 b=some o:=λ b o e=>by
  rw[J.ne b λ z=>by rw[J.free b z]at e;cases e];exact e
 have sub:∀ x c,(ai8 cells scope.names []).lookup x=some c->cells.lookup x=some c:=λ x c e=>by
  rcases clOf_mem (aD e)with z|z
  ·exact z
  ·exact absurd z (by simp)
 refine⟨p,pm,Z,h,up _ _ h1,up _ _ h2,λ x c e=>J.cells x c (sub x c e),λ x y c e1 e2=>J.inj x y c (sub x c e1) (sub y c e2),λ x k=>?_,λ i x v e1 e2=>?_⟩
 ·obtain⟨c,e⟩:=G x k
  exact⟨c,qI e (aD k)⟩
 ·obtain⟨k,kk,j,e3,e4⟩:=Y i x v e1 e2
  obtain⟨c,e⟩:=G x k
  obtain⟨o,u,e5,e6,e7⟩:=J.cap j x v c e3 e4 kk e
  exact⟨c,o,u,qI e (aD k),e5,e6,e7⟩
theorem ao8.fn {K:ac}{H:Hp}{f:Addr}{name qual:Str}{params:bA}{body:List Stmt}{scope:Scope}{fr:List Str}{cap:List V}{p:List (Str×Addr)}(h:ao8 H f name qual params body scope fr cap p):bB4 K H f:=by
 obtain⟨G,Y,Z,y,J,_⟩:=h
 exact .inl ⟨_,J⟩
end L2
end
noncomputable section
namespace L2
open PySem PySem.Spec PyProof.Rows Builtin
section
variable {P:aM} {w:World} {A:aX} {E:Value->af->Prop} {s:af}
theorem aJ1 {it t:Addr}{i:Nat}{l:Array Value}{v:Value}{Q:Value->af->Prop}(y:s.heap.IsTupleIter it t i)(J:s.heap.IsTuple t l)(hv:l[i]?=some v)
  (k:∀ h',h'.IsTupleIter it t (i+1)->dH it s.heap h'->Q v { s with heap:=h' }):wpAny (model P w) A (bS (.ref it)) Q E s:=by
 obtain⟨o,e1,e2,h⟩:=id y
 obtain⟨p,p1,_,n,G⟩:=J
 unfold bS
 refine ai (cK (name:=bD "__next__") y.typeIs cw (da cw y.typeIs eY ?_ (eP _)))
 show wpAny _ _ (field (.ref it) 0 >>= _) _ _ _
 refine ai (dA e1 h (x:=.ref t) rfl ?_)
 show wpAny _ _ (if(Value.ref t==Value.none)=true then _ else _) _ _ _
 rw[if_neg (show ¬((Value.ref t==Value.none)=true)from λ z=>nomatch z)]
 show wpAny _ _ (field (.ref it) 1 >>= _) _ _ _
 refine ai (dA e1 h (x:=.int i 0) rfl ?_)
 show wpAny _ _ (seqItems? (.ref t) >>= _) _ _ _
 refine ai (wpAny_seqItems p1 G ?_)
 simp only[ci,hv]
 refine ai (wpAny_setField e1 h (by simp) (aI ⟨v,rfl,aI (k _ ⟨_,gJ _ e1 (Obj.isFreed_of_fields (iU h _)),(Obj.cls_mapFields ..).trans e2,by rw[iU h];simp[eJ]⟩ (ip ..))⟩))
theorem aQ2 {it t:Addr}{i:Nat}{l:Array Value}{Q:Value->af->Prop}(G:A.handled=none)(h:s.heap.IsTupleIter it t i)(Y:s.heap.IsTuple t l)(hv:l[i]?=none)
  (k:∀ h' e,j1 it s.heap h'->(∃ o,h'.get? e=some o/\o.cls=.type "StopIteration")->E (.ref e) { s with heap:=h' }):wpAny (model P w) A (bS (.ref it)) Q E s:=by
 obtain⟨o,e1,e2,y⟩:=id h
 obtain⟨p,p1,_,n,J⟩:=Y
 unfold bS
 refine ai (cK (name:=bD "__next__") h.typeIs cw (da cw h.typeIs eY ?_ (eP _)))
 show wpAny _ _ (field (.ref it) 0 >>= _) _ _ _
 refine ai (dA e1 y (x:=.ref t) rfl ?_)
 show wpAny _ _ (if(Value.ref t==Value.none)=true then _ else _) _ _ _
 rw[if_neg (show ¬((Value.ref t==Value.none)=true)from λ z=>nomatch z)]
 show wpAny _ _ (field (.ref it) 1 >>= _) _ _ _
 refine ai (dA e1 y (x:=.int i 0) rfl ?_)
 show wpAny _ _ (seqItems? (.ref t) >>= _) _ _ _
 refine ai (wpAny_seqItems p1 J ?_)
 simp only[ci,hv]
 refine ai (kt (ai (wpAny_setField e1 y (by simp) ?_)))
 show wpAny _ _ (newExc (.type "StopIteration") [] >>= _) _ _ (_:af)
 refine ai ?_
 simp only[newExc,newTuple]
 refine ai (bO ?_ (by size_fits))
 refine ai (m:=firstArgMember _ _) (wpAny_of_eq (a:=Value.none) (by first|rfl|(simp only[firstArgMember];rfl)) (bO ?_ (by size_fits)))
 simp only[raiseNew]
 refine ai (wpAny_handled ?_)
 first|rw[show A.in1.handled=none from G]|rw[G]
 exact ai (aI (wpAny_throw (k _ _ (((ip ..).extBut.push _).push _) ⟨_,a8 _ rfl,rfl⟩)))
end
structure Dw (P:aM)(w:World)(K:ac)(J:It)(it:Addr)(tn:Nat->Heap->Prop):Prop where
 obj:∀ i h,tn i h->∃ o,h.get? it=some o/\∀ v,o.data≠.cell v
 keep:∀ i h h',tn i h->(∀ o,h.get? it=some o->h'.get? it=some o)->tn i h'
 item:∀(X:Cx),X.prog=P->X.w=w->X.K=K->∀(A:aX) (i:Nat) (pins:List (Addr×Obj)) (s:af) (σ:St) (H:Hp) (Q:Value->af->Prop) (E:Value->af->Prop),Inv X pins σ H s->tn i s.heap->J.go i H ->
  (∀ x u h' tk,RelV x u->J.yld i H x H->tn (i+1) h'->dH it s.heap h'->Q u { s with heap:=h',toks:=tk })->wpAny (model P w) A (bS (.ref it)) Q E s
 done:∀(X:Cx),X.prog=P->X.w=w->X.K=K->∀(A:aX) (i:Nat) (pins:List (Addr×Obj)) (s:af) (σ:St) (H:Hp) (Q:Value->af->Prop) (E:Value->af->Prop),A.handled=none->Inv X pins σ H s->tn i s.heap->J.stop i H ->
  (∀ h' e,j1 it s.heap h'->(∃ o,h'.get? e=some o/\o.cls=.type "StopIteration")->E (.ref e) { s with heap:=h' })->wpAny (model P w) A (bS (.ref it)) Q E s
theorem bI4 {P:aM}{w:World}{K:ac}(a it:Addr):Dw P w K (Itl K a) it (λ i h=>h.IsListIter it a i) where
 obj:=λ i h st=>by
  obtain⟨o,e,c,d⟩:=st
  exact⟨o,e,λ v z=>by rw[d]at z;cases z⟩
 keep:=λ i h h' st k=>st.at k
 item:=by
  intro X J hw Z A i y s σ H Q E I st hg k
  subst J hw Z
  obtain⟨xs,x,hq,hx⟩:=hg
  obtain⟨its,G,p,hz⟩:=I.list hq
  obtain⟨u,hu,ru⟩:=G.get hx
  exact wpAny_nextOf_list_item st p.isList (x:=u) (by simpa using hu) λ h' Y sb=>k x u h' s.toks ru ⟨rfl,λ ys hy=>by rw[I.list_inj hy hq];exact hx⟩ Y sb
 done:=by
  intro X J hw Z A i y s σ H Q E hA I st hg k
  subst J hw Z
  obtain⟨xs,hq,hx⟩:=hg
  obtain⟨its,G,p,hz⟩:=I.list hq
  have hl:=G.length
  exact wpAny_nextOf_list_end hA st p.isList (by simp;omega) k
theorem bJ9 {P:aM}{w:World}{K:ac}(a it:Addr):Dw P w K (Itt K a) it (λ i h=>h.IsTupleIter it a i) where
 obj:=λ i h st=>by
  obtain⟨o,e,c,d⟩:=st
  exact⟨o,e,λ v z=>by rw[d]at z;cases z⟩
 keep:=λ i h h' st k=>st.at k
 item:=by
  intro X J hw Z A i y s σ H Q E I st hg k
  subst J hw Z
  obtain⟨xs,x,hq,hx⟩:=hg
  obtain⟨its,G,p,hz⟩:=I.tuple hq
  obtain⟨u,hu,ru⟩:=G.get hx
  exact aJ1 st (show s.heap.IsTuple a its.toArray from p) (v:=u) (by simpa using hu) λ h' Y sb=>k x u h' s.toks ru ⟨rfl,λ ys hy=>by rw[I.tuple_inj hy hq];exact hx⟩ Y sb
 done:=by
  intro X J hw Z A i y s σ H Q E hA I st hg k
  subst J hw Z
  obtain⟨xs,hq,hx⟩:=hg
  obtain⟨its,G,p,hz⟩:=I.tuple hq
  have hl:=G.length
  exact aQ2 hA st (show s.heap.IsTuple a its.toArray from p) (by simp;omega) k
theorem bO9 {P:aM}{w:World}{K:ac}(x:Str)(t:Tok)(it:Addr):Dw P w K (Its x) it (λ i h=>h.IsStrIter it (g7 x) x t i) where
 obj:=λ i h st=>by
  obtain⟨o,e,c,d⟩:=st
  exact⟨o,e,λ v z=>by rw[d]at z;cases z⟩
 keep:=λ i h h' st k=>by
  obtain⟨o,ho,r⟩:=st
  exact⟨o,k _ ho,r⟩
 item:=by
  intro X Y hw Z A i G s σ H Q E I st hg k
  subst Y hw Z
  have p:i<x.cps.size:=hg
  have hc:x.cps[i]?=some x.cps[i]:=by simp[p]
  unfold g7 at st k
  cases ha:x.cps.all (·<128)
  ·rw[ha]at st k
   exact wpAny_nextOf_wide_item st hc λ h' y J=>k (.str ⟨#[x.cps[i]]⟩) _ h' (s.toks+1) ⟨_,rfl⟩ ⟨rfl,_,hc,rfl⟩ y J
  ·rw[ha]at st k
   exact wpAny_nextOf_ascii_item st hc λ h' y J=>k (.str ⟨#[x.cps[i]]⟩) _ h' (s.toks+1) ⟨_,rfl⟩ ⟨rfl,_,hc,rfl⟩ y J
 done:=by
  intro X Y hw Z A i G s σ H Q E hA I st hg k
  subst Y hw Z
  have p:x.cps.size<=i:=hg
  have hc:x.cps[i]?=none:=by simp[p]
  unfold g7 at st
  cases ha:x.cps.all (·<128)
  ·rw[ha]at st
   exact wpAny_nextOf_wide_end hA st hc k
  ·rw[ha]at st
   exact wpAny_nextOf_ascii_end hA st hc k
section
variable {X:Cx} {pins:List (Addr×Obj)} {σ:St} {H:Hp} {s:af} {A:aX} {E:Value->af->Prop} {J1 J2:It} {t1 t2:Nat->Heap->Prop} {z ti to i1 i2:Addr} {n:Nat} {a b:Value}
end
def Mkr (v:Value)(o:Obj)(h:Heap):Prop:=∀(P:aM) (w:World) (A:aX) (E:Value->af->Prop) (s:af) (Q:Value->af->Prop),(∀ b u,h.get? b=some u->s.heap.get? b=some u) ->
 Q (.ref s.heap.objs.size) { s with heap:=s.heap.push o }->wpAny (model P w) A (kM v) Q E s
def Sr (K:ac)(H:Hp)(x:V)(J:It):Prop:=(∃ a,x=.ref a/\(∃ xs,SqL K H a xs)/\J=Itl K a)\/(∃ a,x=.ref a/\(∃ xs,SqT K H a xs)/\J=Itt K a)\/∃ y,x=.str y/\J=Its y
theorem Sr.mk {X:Cx}{G:List (Addr×Obj)}{σ:St}{H:Hp}{s:af}{x:V}{u:Value}{J:It}(I:Inv X G σ H s)(h:Sr X.K H x J)(r:RelV x u) :
  ∃(o:Obj) (Y:Addr->Nat->Heap->Prop),o.isFreed=false/\Mkr u o s.heap/\(∀ it,Dw X.prog X.w X.K J it (Y it))/\∀ it h',h'.get? it=some o->Y it 0 h':=by
 rcases h with⟨a,e,⟨Z,hq⟩,e'⟩|⟨a,e,⟨Z,hq⟩,e'⟩|⟨y,e,e'⟩
 ·subst e e';cases r
  obtain⟨its,rv,p,hz⟩:=I.list hq
  exact⟨_,λ it i h=>h.IsListIter it a i,rfl,λ P w A E s' Q hk q=>dJ (p.isList.at λ o e=>hk _ _ e) q,λ it=>bI4 a it,λ it h' e=>⟨_,e,rfl,rfl⟩⟩
 ·subst e e';cases r
  obtain⟨its,rv,p,hz⟩:=I.tuple hq
  exact⟨_,λ it i h=>h.IsTupleIter it a i,rfl,λ P w A E s' Q hk q=>iJ (Heap.IsTuple.at (show s.heap.IsTuple a its.toArray from p) λ o e=>hk _ _ e) q,λ it=>bJ9 a it,λ it h' e=>⟨_,e,rfl,rfl⟩⟩
 ·subst e e';obtain⟨t,rfl⟩:=r
  exact⟨_,λ it i h=>h.IsStrIter it (g7 y) y t i,rfl,λ P w A E s' Q hk q=>wpAny_pyIter_strU q,λ it=>bO9 y t it,λ it h' e=>⟨_,e,rfl,rfl⟩⟩
end L2
end
noncomputable section
namespace L2
open PySem PySem.Spec PyProof.Rows Builtin
open AutoSeq1 (wpAny_loadPart')
section
variable {X:Cx} {pins:List (Addr×Obj)} {σ:St} {H:Hp} {s:af} {A:aX} {E:Value->af->Prop} {J1:It} {t1:Nat->Heap->Prop} {z it:Addr} {n:Nat} {old:Value}
end
end L2
end
noncomputable section
namespace L2
open PySem PySem.Spec PyProof.Rows Builtin
open AutoSeq1 (wpAny_loadPart')
theorem aF4:fillsNumberSlot (.type "tuple") "mul"=pure false :=
 PySem.fillsNumberSlot_seq (id := "tuple.__mul__") (r:=some (.builtin "tuple.__rmul__")) dP.lookup (by decide +kernel) fV.lookup (by decide +kernel)
theorem aP9:seqRepeat? (.type "tuple")=pure (some (.builtin "tuple.__mul__")):=by
 unfold seqRepeat?
 rw[jV (T := "tuple") (name := "__mul__") (id := "tuple.__mul__") dP.lookup (by decide +kernel),jV (T := "tuple") (name := "__rmul__") (id := "tuple.__rmul__") fV.lookup (by decide +kernel)]
 rfl
theorem aA5 (a:Int)(t:Tok)(l:Addr)(o:Obj)(p:Array Value)(n:Nat)(y:Option Addr)(sl:Array (Option Value)) :
  Meets (Builtin.«int.__rmul__» ⟨[.int a t,.ref l],[]⟩) (λ _ R s=>s.heap.get? l=some { cls:=.type "tuple",dict:=y,data:=.seq p n,slots:=sl }/\R (.ok (.ret Value.notImplemented)) s) :=
 .of_wp λ prog w A R s h=>by obtain⟨hp,g,d,tk,os⟩:=s;obtain⟨hl,h⟩:=h;wp_walk;exact⟨_,rfl,h⟩
noncomputable def as2 {α:Type}:Nat->List α->List α
 | 0,_=>[]
 | n+1,a=>a++as2 n a
theorem aL4 {α:Type}(l:List α):∀(n:Nat) (h:Array α),(av n l.toArray).foldl (·++·) h=h++(as2 n l).toArray
 | 0,h=>by simp[as2]
 | n+1,h=>by rw[bE,b8,aL4 l n];simp[as2]
theorem aC9 {α:Type}(a:Array α):∀(n:Nat) (h:Array α),((av n a).foldl (·++·) h).size=h.size+a.size*n
 | 0,h=>by simp
 | n+1,h=>by rw[bE,b8,aC9 a n,Array.size_append,kN];omega
def TmA (items:Array Value)(k:Int)(l:Addr)(R:Value->af->Prop)(s:af):Prop :=
 ((items.isEmpty||k==1)=true->R (.ref l) s)/\((items.isEmpty||k==1)=false->R (.ref s.heap.objs.size) { s with heap:=s.heap.push { cls:=.type "tuple",data:=.seq ((av k.toNat items).foldl (·++·) #[]) } })
theorem ba5 {P:aM}{w:World}{A:aX}{E:Value->af->Prop}{s:af}{l:Addr}{p:Array Value}{k:Int}{t:Tok}{Q:Value->af->Prop}(h0:0<=k)(Y:k<=1000000)(hz:p.size*k.toNat<=1000000)(hl:IsTup s.heap l p)
  (h:TmA p k l Q s):wpAny (model P w) A (call (.builtin "tuple.__mul__") [.ref l,.int k t]) Q E s:=by
 refine da dP hl.typeIs PySem.F.entry_tuple_mul ?_ (PySem.F.args_tuple_mul_2 _ _)
 obtain⟨J,q2⟩:=h
 show wpAny _ _ (asIndex (.int k t) >>= _) _ _ _
 refine ai (aI ?_)
 rw[if_neg (by rw[decide_eq_false (by omega),decide_eq_false (by omega)];decide)]
 show wpAny _ _ (c8 (.ref l) >>= _) _ _ _
 refine ai (iB hl ?_)
 have G:(p.size:Int)*k<=1000000:=by
  have:((p.size*k.toNat:Nat):Int)<=1000000:=by omega
  rw[du,iq h0]at this
  exact this
 cases hb:(p.isEmpty||k==1)with
 | true =>
  rw[if_pos rfl]
  unfold ky
  refine ai (ai (gj hl.typeIs (aI ?_)))
  rw[if_pos (by decide)]
  exact ai (kt (aI ⟨_,rfl,J hb⟩))
 | false =>
  rw[if_neg aW]
  have y:p.isEmpty=false:=by
   rw[eA]at hb;exact hb.1
  have q:=q2 hb
  show wpAny _ _ (if(decide (k<=0)||p.isEmpty)=true then _ else _) _ _ _
  by_cases hk:k<=0
  ·rw[if_pos (by rw[decide_eq_true hk];rfl)]
   have:k.toNat=0:=by omega
   rw[this]at q
   exact ai (bO (aI ⟨_,rfl,q⟩) (by size_fits))
  ·rw[if_neg (by rw[decide_eq_false hk,y];decide)]
   show wpAny _ _ (if(p.size:Int)*k > (2^63 - 1) / 8 then _ else _) _ _ _
   rw[if_neg (by omega)]
   show wpAny _ _ (if fq ((p.size:Int)*k)=true then _ else _) _ _ _
   rw[if_neg (by unfold fq;rw[decide_eq_false (by unfold aP;omega)];decide)]
   refine ai (bO (aI ⟨_,rfl,q⟩) ?_)
   show Array.size _<=aP
   rw[aC9]
   show 0+_<=_
   rw[cT]
   have h3:p.size*k.toNat<=aP:=ao hz (by decide)
   exact h3
theorem aK6 {α:Type}:∀ n,as2 n ([]:List α)=[]
 | 0=>rfl
 | n+1=>by simp[as2,aK6 n]
theorem bl3 {α:Type}(l:List α):as2 1 l=l:=by simp[as2]
theorem aN3 {α:Type}(l:List α):∀ n,(as2 n l).length=l.length*n
 | 0=>by simp[as2]
 | n+1=>by simp[as2,aN3 l n,dD];omega
theorem Vals.repT {h:List V}{us:List Value}(r:Vals h us):∀ n,Vals (as2 n h) (as2 n us)
 | 0=>.nil
 | n+1=>r.append (Vals.repT r n)
def ce0 (K:ac):R2:=λ x y H Q=>∃ a xs n,x=.ref a/\y=.int n/\SqT K H a xs/\(0<=n/\n<=1000000/\xs.length*n.toNat<=1000000)/\∀ p H',ai1 H H'->SqT K H' p (as2 n.toNat xs)->(H' p=some (.tup (as2 n.toNat xs))\/(p=a/\as2 n.toNat xs=xs))->Q (.ref p) H'
theorem bw7 {X:Cx}{K:ac}(hK:X.K=K):OpR X (bX .Mult) (ce0 K):=by
 subst hK
 intro J s σ H x y v u Q I Z ry h
 obtain⟨a,G,n,rfl,rfl,ha,⟨h0,h1,hz⟩,q⟩:=h
 cases Z
 obtain⟨t,rfl⟩:=ry
 obtain⟨its,r1,p1,a0⟩:=I.tuple ha
 have p:=r1.length
 obtain⟨⟨cls,dd,data,sl⟩,ho,hc,Y,hd⟩:=id p1
 simp only at hc hd
 subst hc hd
 refine fv (T := "tuple") (U := "int") (by decide) p1.typeIs (λ s'=>gv s' n t) aF4 iR dw aP9 ii.lookup
  (fj dw (gv s n t) ik (gX _ _) (aA5 n t a default its.toArray Y dd sl) ⟨ho,⟨rfl,p1.typeIs,ba5 h0 h1 (by rw[ay,<-p];exact hz) p1 ⟨λ hb=>?_,λ hb=>?_⟩⟩⟩)
 ·have ex:as2 n.toNat G=G:=by
   rw[b9]at hb
   rcases hb with hb|hb
   ·have hi:its=[]:=by simpa using hb
    have hx:G=[]:=r1.nil_iff.mp hi
    rw[hx,aK6]
   ·have:n=1:=by simpa using hb
    subst this
    exact bl3 _
  exact⟨.ref a,H,I,rfl,q a H (ai1.refl H) (by rw[ex];exact ha) (.inr ⟨rfl,ex⟩)⟩
 ·have hp:=I.hok.fresh (am s.heap.objs.size)
  refine⟨.ref s.heap.objs.size,_,I.laid (t':=s.toks) (o:=.tup (as2 n.toNat G)) (λ b ob q=>ar _ q) (am _) ?_,rfl,q _ _ ((ai1.refl H).new hp) (SqT.of zm) (.inl zm)⟩
  refine⟨by rw[aN3];exact ao hz (by decide),as2 n.toNat its,r1.repT _,?_⟩
  rw[show(as2 n.toNat its).toArray=(av n.toNat its.toArray).foldl (·++·) #[]by rw[aL4];simp]
  exact⟨_,a8 _ rfl,rfl,_,rfl⟩
end L2
end
noncomputable section
namespace L2
open PySem PySem.Spec PyProof.Rows
noncomputable def bJ2 (x:List Nat):V:=.str ⟨x.toArray⟩
theorem aD1:∀ {p:List (List Nat)} {its:List Value},Vals (p.map bJ2) its->∃ l:List (Str×Tok),its=strValues l/\l.map (·.1)=p.map λ x=>(⟨x.toArray⟩:Str)
 | [],its,h=>by
  have:=h.length
  cases its with
  | nil=>exact⟨[],rfl,rfl⟩
  | cons _ _=>cases this
 | x::p,its,h=>by
  cases h with
  | cons r h =>
   obtain⟨t,rfl⟩:=r
   obtain⟨l,rfl,e⟩:=aD1 h
   exact⟨(⟨x.toArray⟩,t)::l,rfl,by rw[aG,aG,e]⟩
theorem aE0:∀(y:List (List Nat)) (h:List Nat),(y.map λ x=>(⟨x.toArray⟩:Str)).foldl (λ a p=>a++(⟨#[]⟩:Str).cps++p.cps) h.toArray=(h++y.flatten).toArray
 | [],h=>by simp
 | x::y,h=>by
  rw[aG,b8]
  have:h.toArray++(⟨#[]⟩:Str).cps++(⟨x.toArray⟩:Str).cps=(h++x).toArray:=by simp
  rw[this,aE0 y (h++x)]
  simp
theorem aQ1 (h:List (List Nat)):jK ⟨#[]⟩ (h.map λ x=>(⟨x.toArray⟩:Str))=⟨h.flatten.toArray⟩:=by
 cases h with
 | nil=>rfl
 | cons x h =>
  unfold jK
  rw[aG,List.drop_one,List.tail_cons,List.headD_cons]
  have:=aE0 h x
  rw[this]
  rfl
theorem aP4:∀(h:List (List Nat)) (n:Nat),(h.map λ x=>(⟨x.toArray⟩:Str)).foldl (λ a (p:Str)=>a+p.length+(⟨#[]⟩:Str).length) n=n+h.flatten.length
 | [],n=>by simp
 | x::h,n=>by
  rw[aG,b8,aP4 h]
  have:(⟨x.toArray⟩:Str).length=x.length:=by show x.toArray.size=_;simp
  have z:(⟨#[]⟩:Str).length=0:=rfl
  rw[this,z,cg,aL];omega
theorem bH7 {X:Cx}:MtR X "str.join" (λ x vs H Q=>∃(a:Addr) (G:List (List Nat)),x=.str ⟨#[]⟩/\vs=[.ref a]/\H a=some (.lst (G.map bJ2))/\G.flatten.length<=aP/\Q (bJ2 G.flatten) H):=by
 intro Z s σ H x vs v us Q I rx rv h
 obtain⟨a,G,rfl,rfl,hH,hz,q⟩:=h
 obtain⟨t,rfl⟩:=rx
 obtain⟨u,rfl,ru⟩:=rv.one
 cases ru
 obtain⟨_,its,n,r,hl,e⟩:=I.lstM hH
 obtain⟨l,rfl,el⟩:=aD1 r
 have J:dY ((l.map (·.1)).toArray.foldl (·+·.length+(⟨#[]⟩:Str).length) 0)=false:=by
  rw[el,List.foldl_toArray,aP4 G 0]
  unfold dY
  exact decide_eq_false (by omega)
 refine fj gM (iP s _ t) PySem.F.entry_str_join (PySem.F.args_str_join_2 _ _) (meets_str_join_list ⟨#[]⟩ t a l J) ⟨⟨_,e,rfl,n,rfl⟩,?_⟩
 have Y:=aQ1 G
 unfold joinMade
 split
 ·rename_i p
  have e1:[p.1]=G.map λ x=>(⟨x.toArray⟩:Str):=el
  have:p.1=⟨G.flatten.toArray⟩:=by
   cases G with
   | nil=>cases e1
   | cons y G =>
    cases G with
    | nil=>rw[aG,cF]at e1;rw[List.head_eq_of_cons_eq e1];simp
    | cons _ _=>rw[aG,aG]at e1;cases List.tail_eq_of_cons_eq e1
  show EP X Z σ Q (.str p.1 p.2) s
  rw[this]
  exact⟨bJ2 G.flatten,H,I,⟨_,rfl⟩,q⟩
 ·rw[el,Y]
  refine⟨?_,bJ2 G.flatten,H,I.tok _,⟨_,rfl⟩,q⟩
  show G.flatten.toArray.size<=_
  simpa using hz
section
variable {κ:Type} [DecidableEq κ]
noncomputable def aO8 (kvs:List (κ×V))(k:κ):Option V:=(kvs.find? λ kv=>decide (kv.1=k)).map (·.2)
noncomputable def at6 (kvs:List (κ×V))(k:κ)(v:V):List (κ×V) :=
 if(kvs.any λ kv=>decide (kv.1=k))=true then kvs.map (λ kv=>if kv.1=k then(kv.1,v)else kv)else kvs++[(k,v)]
theorem an1 {p:κ×V}{r:List (κ×V)}{k:κ}(e:p.1=k):aO8 (p::r) k=some p.2:=by simp[aO8,cX,e]
theorem an2 {p:κ×V}{r:List (κ×V)}{k:κ}(e:¬ p.1=k):aO8 (p::r) k=aO8 r k:=by simp[aO8,cX,e]
theorem ay8 (k:κ):∀ h:List (κ×V),(h.any λ y=>decide (y.1=k))=(aO8 h k).isSome
 | []=>rfl
 | p::r=>by
  rw[d9]
  by_cases e:p.1=k
  ·simp only[an1 e,decide_eq_true e,Bool.true_or,iT]
  ·rw[an2 e,decide_eq_false e,iC];exact ay8 k r
theorem jD (h:List (κ×V))(k:κ)(v:V):(at6 h k v).length<=h.length+1:=by
 unfold at6
 split
 ·rw[aC];omega
 ·rw[aL,aY,cj];omega
theorem aR7.isSome_eq {o:Option V}{u:Option Value}(r:aR7 o u):o.isSome=u.isSome:=by
 cases o with
 | none=>cases u with
  | none=>rfl
  | some _=>exact(show False from r).elim
 | some _=>cases u with
  | none=>exact(show False from r).elim
  | some _=>rfl
theorem aR7.getD {o:Option V}{u:Option Value}{d:V}{d':Value}(r:aR7 o u)(h:RelV d d'):RelV (o.getD d) (u.getD d'):=by
 cases o with
 | none=>cases u with
  | none=>exact h
  | some _=>exact(show False from r).elim
 | some _=>cases u with
  | none=>exact(show False from r).elim
  | some _=>exact r
theorem KV.val {y:List (κ×V)}{vs:List (κ×Value)}(r:KV y vs)(k:κ):aR7 (aO8 y k) (ie vs k):=by
 unfold KV at r
 induction r with
 | nil=>exact True.intro
 | @cons p q ps qs h t ih =>
  obtain⟨G,J⟩:=h
  by_cases e:p.1=k
  ·have e':q.1=k:=G.symm.trans e
   have b:ie (q::qs) k=some q.2:=by simp[ie,cX,e']
   rw[an1 e,b];exact J
  ·have e':¬ q.1=k:=λ z=>e (G.trans z)
   have b:ie (q::qs) k=ie qs k:=by simp[ie,cX,e']
   rw[an2 e,b];exact ih
theorem KV.any {p:List (κ×V)}{vs:List (κ×Value)}(r:KV p vs)(k:κ):(p.any λ y=>decide (y.1=k))=vs.any λ y=>decide (y.1=k):=by
 unfold KV at r
 induction r with
 | nil=>rfl
 | cons h t ih=>rw[d9,d9,ih,h.1]
theorem KV.repl {J:List (κ×V)}{vs:List (κ×Value)}(r:KV J vs)(k:κ){y:V}{u:Value}(ry:RelV y u) :
  KV (J.map λ G=>if G.1=k then(G.1,y)else G) (vs.map λ G=>if G.1=k then(G.1,u)else G):=by
 unfold KV at r ⊢
 induction r with
 | nil=>exact .nil
 | @cons p q ps qs h t ih =>
  rw[aG,aG]
  refine .cons ?_ ih
  obtain⟨Y,Z⟩:=h
  by_cases e:p.1=k
  ·rw[if_pos e,if_pos (Y.symm.trans e)];exact⟨Y,ry⟩
  ·rw[if_neg e,if_neg (λ z=>e (Y.trans z))];exact⟨Y,Z⟩
theorem KV.put {h:List (κ×V)}{vs:List (κ×Value)}(r:KV h vs)(k:κ){y:V}{u:Value}(p:RelV y u):KV (at6 h k y) (stored vs k u):=by
 unfold at6 stored
 rw[r.any k]
 by_cases e:(vs.any λ G=>decide (G.1=k))=true
 ·rw[if_pos e,if_pos e];exact r.repl k p
 ·rw[if_neg e,if_neg e];exact k6 r ⟨rfl,p⟩
theorem KV.length {h:List (κ×V)}{vs:List (κ×Value)}(r:KV h vs):h.length=vs.length:=iu r
end
theorem bn3 {P:aM}{w:World}{k:Key}{u:Value}(r:RelV (kV k) u):(z0 P w).is k u=true:=by
 cases k with
 | inl i=>obtain⟨t,e⟩:=(show ∃ t,u=Value.int i t from r);subst e;exact aJ9 P w i t
 | inr x=>obtain⟨t,e⟩:=(show ∃ t,u=Value.str x t from r);subst e;exact aH5 P w x t
theorem aC5 {P:aM}{w:World}:∀ {p:List Key} {us:List Value},Vals (p.map kV) us->ItemsAre (z0 P w) p us
 | [],_,r=>by rw[cF]at r;cases r;exact .nil
 | k::p,_,r=>by
  rw[aG]at r
  cases r with
  | cons h t=>exact .cons (bn3 h) (aC5 t)
abbrev KT (H:Hp):List (List Key×V)->List (List Key×Addr×Value)->Prop:=fK λ p q=>p.1=q.1/\H q.2.1=some (.tup (p.1.map kV))/\RelV p.2 q.2.2
theorem KT.val {H:Hp}{y:List (List Key×V)}{J:List (List Key×Addr×Value)}(r:KT H y J)(k:List Key):aR7 (aO8 y k) ((atKey J k).map (·.2)):=by
 induction r with
 | nil=>exact True.intro
 | @cons p q ps qs h t ih =>
  obtain⟨G,_,Y⟩:=h
  by_cases e:p.1=k
  ·have e':q.1=k:=G.symm.trans e
   have b:atKey (q::qs) k=some q.2:=by simp[atKey,cX,e']
   rw[an1 e,b];exact Y
  ·have e':¬ q.1=k:=λ z=>e (G.trans z)
   have b:atKey (q::qs) k=atKey qs k:=by simp[atKey,cX,e']
   rw[an2 e,b];exact ih
theorem KT.repl {H:Hp}{G:List (List Key×V)}{xs:List (List Key×Addr×Value)}(r:KT H G xs)(k:List Key){y:V}{u:Value}(ry:RelV y u) :
  KT H (G.map λ Y=>if Y.1=k then(Y.1,y)else Y) (xs.map (putAt k u)):=by
 induction r with
 | nil=>exact .nil
 | @cons p q ps qs h t ih =>
  rw[aG,aG]
  refine .cons ?_ ih
  obtain⟨J,Z,h3⟩:=h
  unfold putAt
  by_cases e:p.1=k
  ·rw[if_pos e,if_pos (J.symm.trans e)];exact⟨J,Z,ry⟩
  ·rw[if_neg e,if_neg (λ z=>e (J.trans z))];exact⟨J,Z,h3⟩
theorem KT.put {H:Hp}{h:List (List Key×V)}{p:List (List Key×Addr×Value)}(r:KT H h p)(k:List Key){b:Addr}{y:V}{u:Value}(hb:H b=some (.tup (k.map kV)))(G:RelV y u) :
  KT H (at6 h k y) (storedH p k b u):=by
 have e:(h.any λ J=>decide (J.1=k))=(atKey p k).isSome:=by
  rw[ay8,(r.val k).isSome_eq,Option.isSome_map]
 unfold at6 storedH
 rw[e]
 by_cases q:(atKey p k).isSome=true
 ·rw[if_pos q,if_pos q];exact r.repl k G
 ·rw[if_neg q,if_neg q];exact k6 r ⟨rfl,hb,G⟩
theorem KT.keeps {H H':Hp}{h:List (List Key×V)}{p:List (List Key×Addr×Value)}(r:KT H h p)(y:∀ b ys,H b=some (.tup ys)->H' b=some (.tup ys)):KT H' h p :=
 fK.mapP r λ _ _ z=>⟨z.1,y _ _ z.2.1,z.2.2⟩
section
variable {P:aM} {w:World} {H:Hp} {h:Heap} {a:Addr}
theorem bQ6 {u:HO}(ok:HOk P w H h)(e:Rd H a u):ag2 P w H h a u:=e.ok ok
theorem bA6 {p:List (Key×V)}(ok:HOk P w H h)(e:Rd H a (.dK p)):p.length<=aP/\(a==c7)=false/\∃ vs,KV p vs/\h.DictOf (z0 P w) a vs :=
 show ag2 P w H h a (.dK p)from bQ6 ok e
theorem bX9 {p:List (Key×V)}(ok:HOk P w H h)(e:H a=some (.dK p)):p.length<=aP/\(a==c7)=false/\∃ vs,KV p vs/\h.DictOf (z0 P w) a vs:=bA6 ok (.inl e)
theorem bf4 {p:List Key}(ok:HOk P w H h)(e:H a=some (.tup (p.map kV))):(hZ (z0 P w)).is h p a:=by
 obtain⟨_,its,r,o,G,y,n,h3⟩:=(show ag2 P w H h a (.tup (p.map kV))from ok a _ e)
 exact⟨o,its.toArray,n,G,y,h3,by simpa using aC5 r⟩
theorem by1 {G:List (List Key×V)}(ok:HOk P w H h)(e:Rd H a (.dT G)):G.length<=aP/\(a==c7)=false /\
  ∃ J,KT H G J/\h.DictOfH (hZ (z0 P w)) a J:=by
 obtain⟨z,y,J,r,o,es,Y,h1,h2,h3,h4,Z⟩:=(show ag2 P w H h a (.dT G)from bQ6 ok e)
 refine⟨z,y,J,r,o,es,Y,h1,h2,h3,h4,λ x hx=>?_,Z⟩
 have all:∀ {l:List (List Key×V)} {m:List (List Key×Addr×Value)},KT H l m->∀ x∈m,(hZ (z0 P w)).is h x.1 x.2.1:=by
  intro l m q
  induction q with
  | nil=>intro x hx;exact nomatch hx
  | @cons p q ps qs hq t ih =>
   intro x hx
   rcases aE.mp hx with e|hx
   ·subst e
    exact bf4 ok (by rw[<-hq.1];exact hq.2.1)
   ·exact ih x hx
 exact all r x hx
theorem cd6 {p:List (List Key×V)}(ok:HOk P w H h)(e:H a=some (.dT p)):p.length<=aP/\(a==c7)=false /\
  ∃ y,KT H p y/\h.DictOfH (hZ (z0 P w)) a y:=by1 ok (.inl e)
end
def bh2 (H:Hp)(a:Addr)(y:V)(r:Option V):Prop :=
 (∃ kvs k,Rd H a (.dK kvs)/\y=kV k/\r=aO8 kvs k)\/∃ kvs k b,Rd H a (.dT kvs)/\y=.ref b/\H b=some (.tup (k.map kV))/\r=aO8 kvs k
def bG0 (H:Hp)(a:Addr)(y v:V)(H':Hp):Prop :=
 (∃ kvs k,H a=some (.dK kvs)/\y=kV k/\kvs.length<aP/\H'=upd H a (.dK (at6 kvs k v))) \/
 ∃ kvs k b,H a=some (.dT kvs)/\y=.ref b/\H b=some (.tup (k.map kV))/\kvs.length<aP/\H'=upd H a (.dT (at6 kvs k v))
theorem bh2.k {H:Hp}{a:Addr}{h:List (Key×V)}{k:Key}(e:H a=some (.dK h)):bh2 H a (kV k) (aO8 h k):=.inl ⟨h,k,.inl e,rfl,rfl⟩
theorem bh2.t {H:Hp}{a b:Addr}{h:List (List Key×V)}{k:List Key}(e:H a=some (.dT h))(eb:H b=some (.tup (k.map kV))):bh2 H a (.ref b) (aO8 h k):=.inr ⟨h,k,b,.inl e,rfl,eb,rfl⟩
theorem bG0.k {H:Hp}{a:Addr}{h:List (Key×V)}{k:Key}{v:V}(e:H a=some (.dK h))(hl:h.length<aP):bG0 H a (kV k) v (upd H a (.dK (at6 h k v))):=.inl ⟨h,k,e,rfl,hl,rfl⟩
theorem bG0.t {H:Hp}{a b:Addr}{h:List (List Key×V)}{k:List Key}{v:V}(e:H a=some (.dT h))(eb:H b=some (.tup (k.map kV)))(hl:h.length<aP) :
  bG0 H a (.ref b) v (upd H a (.dT (at6 h k v))):=.inr ⟨h,k,b,e,rfl,eb,hl,rfl⟩
section
variable {X:Cx} {pins:List (Addr×Obj)} {σ:St} {H:Hp} {s:af} {a:Addr} {y v:V} {u r:Value} {o:Option V} {A:aX} {E:Value->af->Prop}
theorem Inv.big (I:Inv X pins σ H s):c7<s.heap.objs.size:=by
 have h:a7<s.heap.objs.size:=(I.mod.glob.keeps I.bk).lt
 exact cR (by decide) h
theorem aF0 {Q:Value->af->Prop}(hu:A.units+1<cLine)(I:Inv X pins σ H s)(g:bh2 H a y (some v))(ry:RelV y u)(h:∀ Y s',Inv X pins σ H s'->RelV v Y->Q Y s') :
  wpAny (model X.prog X.w) A (gi (.ref a) u) Q E s:=by
 rcases g with⟨Z,k,e,ey,l⟩|⟨Z,k,b,e,ey,eb,l⟩
 ·subst ey
  obtain⟨z,hd,vs,J,dd⟩:=bA6 I.hok e
  obtain⟨Y,hw,G⟩:=aR7.some_of (v:=v) (o:=ie vs k) (by rw[l];exact J.val k)
  exact wpAny_getItem_of (bn3 ry) dd.mapOf hw (h Y _ (I.tok _) G)
 ·subst ey
  cases(show u=Value.ref b from ry)
  obtain⟨z,hd,xs,J,dd⟩:=by1 I.hok e
  obtain⟨Y,hw,G⟩:=aR7.some_of (v:=v) (o:=(atKey xs k).map (·.2)) (by rw[l];exact J.val k)
  obtain⟨p,hp,a0⟩:=bR.mp hw
  refine wpAny_getItem_heap (iV hu) (bf4 I.hok eb) dd hp ?_
  rw[a0]
  exact h Y _ (I.tok _) G
theorem aJ5 {h':Heap}{t':Nat}{ob:HO}(I:Inv X pins σ H s)(mu:Mut (H a))(hs:dH a s.heap h')(h:∃ q,h'.get? a=some q)(new:ag2 X.prog X.w (upd H a ob) h' a ob) :
  Inv X pins σ (upd H a ob) { s with heap:=h',toks:=t' } :=
 I.write (x:=a) (e:=a) mu (.inl rfl) (λ b q hb z=>(hs.2 b hb).trans z) h new
theorem bp8 {P:aM}{w:World}{H':Hp}{h':Heap}{h:List (Key×V)}{vs:List (Key×Value)}(z:h.length<=aP)(hd:(a==c7)=false)(p:KV h vs)(dd:h'.DictOf (z0 P w) a vs) :
  ag2 P w H' h' a (.dK h):=⟨z,hd,vs,p,dd⟩
theorem az6 {H':Hp}{Q:Unit->af->Prop}(hu:A.units+1<cLine)(I:Inv X pins σ H s)(g:bG0 H a y v H')(ry:RelV y u)(rv:RelV v r)(h:∀ s',Inv X pins σ H' s'->Q () s') :
  wpAny (model X.prog X.w) A (setItem (.ref a) u r) Q E s:=by
 rcases g with⟨p,k,e,Z,l,Y⟩|⟨p,k,b,e,Z,eb,l,Y⟩
 ·subst Z Y
  obtain⟨z,hd,vs,G,dd⟩:=bX9 I.hok e
  have hz:vs.length<=aP:=by rw[<-G.length];exact z
  have hl:(at6 p k v).length<=aP:=by have:=jD p k v;omega
  refine wpAny_setItem_pairs (hsz:=hz) (bn3 ry) dd λ h' J hs=>h _ ?_
  have he:∃ q,h'.get? a=some q:=let⟨q,_,_,hq,_⟩:=J;⟨q,hq⟩
  exact aJ5 I (by rw[e];exact True.intro) hs he (bp8 hl hd (G.put k rv) J)
 ·subst Z Y
  cases(show u=Value.ref b from ry)
  obtain⟨z,hd,xs,G,dd⟩:=cd6 I.hok e
  have hz:xs.length<=aP:=by rw[<-iu G];exact z
  have hl:(at6 p k v).length<=aP:=by have:=jD p k v;omega
  refine wpAny_setItem_heap (hsz:=hz) (iV hu) (bf4 I.hok eb) dd λ h' J hs=>h _ ?_
  obtain⟨q,es,ep,hq,h2,h3,h4,_,h5⟩:=J
  refine aJ5 I (by rw[e];exact True.intro) hs ⟨q,hq⟩ ⟨hl,hd,_,(G.put k eb rv).keeps λ c ys ec=>?_,q,es,ep,hq,h2,h3,h4,h5⟩
  rw[zd (cf3 ec e (λ z=>nomatch z))]
  exact ec
end
section
variable {X:Cx} {pins:List (Addr×Obj)} {σ:St} {H:Hp} {s:af} {a:Addr} {kvs:List (Key×V)} {k:Key} {u:Value} {A:aX} {E:Value->af->Prop}
end
theorem ao0 {X:Cx}{h:List (Addr×Obj)}{σ:St}{H:Hp}{s:af}{a:Addr}{y:V}{o:Option V}(I:Inv X h σ H s)(g:bh2 H a y o):s.TypeIs (.ref a) "dict":=by
 rcases g with⟨p,k,e,_,_⟩|⟨p,k,b,e,_,_,_⟩
 ·obtain⟨_,_,vs,_,dd⟩:=bA6 I.hok e
  exact dd.typeIs
 ·obtain⟨_,_,G,_,dd⟩:=by1 I.hok e
  exact dd.typeIs
section
variable {X:Cx} {o i e value:Expr} {pos pos' tpos:Pos} {td ty tv:TE}
end
theorem aN0 {P:aM}{w:World}{H:Hp}(h:Heap)(hb:c7<h.objs.size):ag2 P w H (h.push { cls:=.type "dict",data:=.dict #[] }) h.objs.size (.dK []) :=
 ⟨c9 _,beq_eq_false_iff_ne.mpr (cy (aH hb)),[],.nil,Heap.DictOf.new h⟩
def bt7:TE:=λ _ H Q=>∀ p,H p=none->Q (.ref p) (upd H p (.dK []))
section
variable {X:Cx} {pos:Pos}
theorem bn2:PE X (.Dict [] [] pos) bt7:=λ p s σ H Q I h =>
 wpAny_Dict_empty ⟨.ref s.heap.objs.size,_,I.laid (a:=s.heap.objs.size) (o:=.dK []) (t':=s.toks) (λ _ _ q=>ar _ q) (am _) (aN0 s.heap I.big),rfl,h _ (I.hok.fresh (am _))⟩
end
noncomputable def aZ3:List (TE×TE)->St->Hp->(List (V×V)->Hp->Prop)->Prop
 | [],_,H,Q=>Q [] H
 | (tk,tv)::r,σ,H,Q=>tk σ H λ x H1=>tv σ H1 λ y H2=>aZ3 r σ H2 λ ps H3=>Q ((x,y)::ps) H3
abbrev VV:List (V×V)->List (Value×Value)->Prop:=fK λ p q=>RelV p.1 q.1/\RelV p.2 q.2
def PPs (X:Cx)(pos:Pos)(keys:List (Option Expr))(values:List Expr)(trs:List (TE×TE)):Prop :=
 ∀(pins:List (Addr×Obj)) (s:af) (σ:St) (H:Hp) (Q:List (V×V)->Hp->Prop),Inv X pins σ H s->aZ3 trs σ H Q ->
  wpAny (model X.prog X.w) X.A (evalPairs (pairTrees keys values X.env pos)) (λ vs s'=>∃ ps H',Inv X pins σ H' s'/\VV ps vs/\Q ps H') X.xe s
theorem bI1 {X:Cx}{pos:Pos}:PPs X pos [] [] []:=λ p s σ H Q I h=>pairTrees_nil_walk ⟨[],H,I,.nil,h⟩
theorem bh9 {X:Cx}{pos:Pos}{k v:Expr}{Z:List (Option Expr)}{vs:List Expr}{tk Y:TE}{G:List (TE×TE)}(hk:PE X k tk)(hv:PE X v Y)(hr:PPs X pos Z vs G) :
  PPs X pos (some k::Z) (v::vs) ((tk,Y)::G):=λ p s σ H Q I h =>
 pairTrees_cons_walk (thn (hk p s σ H _ I h) λ u s1 ⟨x,H1,I1,rx,q1⟩=>thn (hv p s1 σ H1 _ I1 q1) λ w2 s2 ⟨y,H2,I2,ry,q2⟩ =>
  thn (hr p s2 σ H2 _ I2 q2) λ ws s3 ⟨ps,H3,I3,J,q3⟩=>⟨(x,y)::ps,H3,I3,.cons ⟨rx,ry⟩ J,q3⟩)
noncomputable def aE3 (kvs more:List (Key×V)):List (Key×V):=more.foldl (λ acc kv=>at6 acc kv.1 kv.2) kvs
theorem KV.merge:∀ {more:List (Key×V)} {G:List (Key×Value)} {y:List (Key×V)} {vs:List (Key×Value)},KV more G->KV y vs->KV (aE3 y more) (merged vs G):=by
 intro more G y vs r
 unfold KV at r
 induction r generalizing y vs with
 | nil=>intro q;exact q
 | @cons p q ps qs h t ih =>
  intro r0
  have e:KV (at6 y p.1 p.2) (stored vs q.1 q.2):=by
   have:=r0.put p.1 h.2
   rw[<-h.1];exact this
  exact ih e
theorem ak3:∀(more h:List (Key×V)),(aE3 h more).length<=h.length+more.length
 | [],h=>by show h.length<=h.length+0;omega
 | p::r,h=>by
  have G:=ak3 r (at6 h p.1 p.2)
  have y:=jD h p.1 p.2
  show(aE3 (at6 h p.1 p.2) r).length<=_
  rw[aY];omega
theorem av2 {P:aM}{w:World}:∀ {y:List (Key×V)} {ws:List (Value×Value)},VV (y.map λ J=>(kV J.1,J.2)) ws->∃ G,Carries (z0 P w) ws G/\KV y G
 | [],_,r=>by rw[cF]at r;cases r;exact⟨[],True.intro,.nil⟩
 | p::y,_,r=>by
  rw[aG]at r
  cases r with
  | @cons a b as bs h t =>
   obtain⟨G,c,q⟩:=av2 (P:=P) (w:=w) t
   obtain⟨Z,Y⟩:=b
   exact⟨(p.1,Y)::G,⟨bn3 h.1,rfl,c⟩,.cons ⟨rfl,h.2⟩ q⟩
def bO5 (trs:List (TE×TE)):TE:=λ σ H Q=>∀ p,H p=none->aZ3 trs σ (upd H p (.dK [])) λ ps H2=>H2 p=some (.dK [])/\∃ kvs:List (Key×V),ps=kvs.map (λ kv=>(kV kv.1,kv.2))/\kvs.length<=15/\Q (.ref p) (upd H2 p (.dK (aE3 [] kvs)))
theorem bD6 {X:Cx}{pos:Pos}{keys:List (Option Expr)}{p:List Expr}{G:List (TE×TE)}(h:PPs X pos keys p G)(Z:keys.all (·.isSome)=true)(hl:keys.length=p.length)(h0:keys≠[])
  (a1:keys.length<=15):PE X (.Dict keys p pos) (bO5 G):=by
 intro J s σ H Q I q
 have hn:=I.hok.fresh (am s.heap.objs.size)
 have I1:=I.laid (a:=s.heap.objs.size) (o:=.dK []) (h':=s.heap.push { cls:=.type "dict",data:=.dict #[] }) (t':=s.toks) (λ _ _ q=>ar _ q) (am _) (aN0 s.heap I.big)
 refine wpAny_Dict_walk (knd:=z0 X.prog X.w) Z hl h0 a1 (thn (h J _ σ _ _ I1 (q _ hn)) λ ws s2 ⟨ps,H2,I2,a0,e,y,ep,lk,q2⟩=>?_)
 subst ep
 obtain⟨rs,c,rk⟩:=av2 (P:=X.prog) (w:=X.w) a0
 obtain⟨z,hd,a2,r0,dd⟩:=bX9 I2.hok e
 cases r0
 refine⟨rs,c,dd,λ h' Y hs=>⟨.ref s.heap.objs.size,_,?_,rfl,q2⟩⟩
 have hz:(aE3 [] y).length<=aP:=by
  have h1:=ak3 y []
  rw[cj]at h1
  rw[fB];omega
 have he:∃ q,h'.get? s.heap.objs.size=some q:=let⟨q,_,_,hq,_⟩:=Y;⟨q,hq⟩
 exact aJ5 I2 (by rw[e];exact True.intro) hs he (bp8 hz hd (rk.merge .nil) Y)
section
variable {X:Cx} {pins:List (Addr×Obj)} {σ:St} {H:Hp} {s:af} {a:Addr} {y d:V} {u r:Value} {o:Option V} {A:aX} {E:Value->af->Prop}
end
section
variable {X:Cx} {o e f:Expr} {apos cpos:Pos} {td ty tx:TE}
end
section
variable {P:aM} {w:World} {A:aX} {E:Value->af->Prop} {s:af}
end
section
variable {X:Cx} {pins:List (Addr×Obj)} {σ:St} {H:Hp} {s:af}
end
section
variable {prog:aM} {w:World} {A:aX} {R:kn->af->Prop} {I:Addr} {fp wr:List Addr} {n:Nat} {P:Nat->Value->Prop} {St:Nat->Heap->Prop} {kw:List (Str×Value)}
end
theorem bz6 (i:Int)(h:0<=i):kz i 1=i % 2:=by
 unfold kz
 rw[decide_eq_true h]
 show((i.toNat &&& (1:Int).toNat:Nat):Int)=_
 rw[show(1:Int).toNat=1 from rfl,Nat.and_one_is_mod]
 omega
theorem bG7 {X:Cx}:OpR X (bX .BitAnd) (rI (λ i j=>0<=i/\j=1) λ i j=>.int (i % 2)):=opI λ i j _ _ _ _ _ hc q=>by
 obtain⟨h0,rfl⟩:=hc
 refine and_int ?_
 rw[bz6 i h0]
 exact q
theorem aR4 {prog : aM} {w : World} {A : aX} {s : af} {K : ac} {x C : Addr}
  {R : kn -> af -> Prop} {tp : Value} (X : K.In s.heap) (L0 : ee (model prog w) s.heap (jQ (Value.ref x)) (Value.ref C))
  (hm : PySem.W.mroIn K C (Value.type "object") = some true) (h : R (Except.ok (Flow.ret (Value.ref C))) s) :
          f9 (model prog w) A
            (Code.call (Value.builtin "getset_descriptor.__get__")
              { pos := [Value.builtin "object.__class__", Value.ref x, tp] }) R s := by
  obtain⟨hh, g, dr, t, os⟩ := s
  have L1 := PySem.W.looks_mroIn (M := model prog w) X hm
  refine g8 iW.plain PySem.W.KF.entry_gs (iW.check (model prog w) A.in1 _ _ _ _ _ _ PySem.W.KF.type_class (PySem.W.KF.args_gs _ _ _) ?_)
  show wpAny (model prog w) A.in1 (do
                          let __x <- g9 { pos := [Value.builtin "object.__class__", Value.ref x, tp] }
                          match __x with
                            | (d, obj, snd) => de d obj) _ _ _
  rw[PySem.W.dga_obj]
  refine ai (aI ?_)
  simp only[]
  unfold de
  show wpAny (model prog w) A.in1 (do
      cL (Value.builtin "object.__class__") (Value.ref x)
      again (Code.builtin "object.__class__" { pos := [Value.ref x] })) _ _ _
  refine ai ?_
  unfold cL
  have e1 : f6 (Value.builtin "object.__class__") = pure (bD "__class__", Value.type "object") := by
    show pure (bD (cM "object.__class__").2, Value.type (cM "object.__class__").1) = _
    rw[PySem.W.KF.owner_class]
  rw[e1]
  refine ai (aI ?_)
  refine ai (ai (PySem.W.Looks.at L0 (PySem.W.Looks.at L1 (aI ?_))))
  refine aI ⟨Code.quiet_builtin _ (by decide +kernel), codeAny_builtin PySem.W.KF.entry_class ?_⟩
  refine ai ?_
  unfold shownTypeOf
  exact ai (PySem.W.Looks.at L0 (aI (aI h)))
theorem cb5 {M:Model}{h:Heap}{K:ac}{x D:Addr}{name:Str}{g a:Value}(X:K.In h)
 (y:bP K (Value.ref D) name=some (some a)) (p:dL K a (bD "__get__")=some (some g)) (h3:eK K a=some true) :
 ee M h (dE (Value.ref x) (Value.ref D) name) (Builtin.ObjectAttr.Found.bind g a):=by
 have L1:=eB (M:=M) X y
 have L2:=PySem.W.looks_specialIn (M:=M) X p
 have L3:=PySem.W.looks_takesIn (M:=M) X h3
 unfold dE
 refine cz L1 (cz (a:=some g) L2 ?_)
 refine cz (a:=some (g,a)) (cz L3 fG) (lb fG)
def XAt (h:Heap)(x C:Addr):Prop:=∃ ox,h.get? x=some ox/\ox.cls=Value.ref C
theorem XAt.type {M:Model}{h:Heap}{x C:Addr}(I:XAt h x C):ee M h (jQ (Value.ref x)) (Value.ref C):=by
 obtain⟨G,y,p⟩:=I
 exact p▸cz (lf y) fG
theorem bK6 {prog : aM} {w : World} {A : aX} {E : Value -> af -> Prop} {s : af} {K : ac}
  {x D : Addr} {name : Str} {Q : Option Value -> af -> Prop} {g a : Value}
  (X : K.In s.heap) (L0 : ee (model prog w) s.heap (jQ (Value.ref x)) (Value.ref D))
  (L1 : ee (model prog w) s.heap (dE (Value.ref x) (Value.ref D) name) (Builtin.ObjectAttr.Found.bind g a))
  (hga : bP K (Value.ref D) (bD "__getattribute__") = some (some (Value.builtin "BaseException.__getattribute__")))
  (hk : bP K (Value.ref D) (bD "__getattr__") = some none)
  {nm q : Str} {N : Addr} {bs bm : List Value} {hdct : Bool} {sn : List Str} {sub : List Value} {ab : Bool} {col : Option Bool} {dd : Option Addr} {k0 k1 k2 k3 k5 : Option Value} {newId : String} {o : Obj}
  (hC : s.heap.get? D = some (excClassObj nm q D N bs bm hdct sn sub ab col dd k0 k1 k2 k3 k5 newId)) (T : OwnTailQ s.heap [.type "ValueError", .type "Exception", .type "BaseException", .type "object"] bm) (hx : s.heap.get? x = some o) (hc : o.cls = .ref D)
  (h : wpAny (model prog w) A.in1 (call g [a, Value.ref x, Value.ref D]) (λ v s' => wpAny (model prog w) A (handedOut v) (λ v s'' => Q (some v) s'') (λ _ _ => False) s') (λ _ _ => False) { heap := s.heap, gens := s.gens, drawn := s.drawn, toks := s.toks + 1, os := s.os }) :
          wpAny (model prog w) A (getAttr? (Value.ref x) name) Q E s := by
  obtain⟨hh, gg, d, t, os⟩ := s
  have Lg := eB (M := model prog w) X hga
  have L2 := eB (M := model prog w) X hk
  have f3 := dZ.ga.bind (Value.ref x)
  unfold getAttr?
  refine ai (wpAny_mkText ?_)
  unfold getAttrBy?
  refine ai (wpAny_attempt (cI (ai (PySem.W.Looks.at L0 (ai (PySem.W.Looks.at Lg ?_))))))
  refine wpAny_ite_false rfl ?_
  refine ai (wpAny_ite_true rfl (PySem.W.Looks.at L2 ?_))
  refine ai (wpAny_attempt (cI ?_))
  refine wpAny_ite_false rfl ?_
  refine ai (wpAny_of_eq f3 (gb ?_))
  refine g8 dZ.ga.plain F.entry_bexc_ga ?_
  refine wpAny_check_ga_own dZ hC T hx hc ?_
  refine ai (aI ?_)
  refine ai (aI (ai (PySem.W.Looks.at L0 (ai (PySem.W.Looks.at L1 ?_)))))
  refine ai (cI (bz h (λ v s' z => aI ?_) λ _ _ z => z.elim))
  exact bz z (λ v s'' hv => aI hv) λ _ _ z => z.elim
noncomputable def zP (h:Heap)(l:List Addr):Heap:={ h with objs:=h.objs.mapIdx λ i o=>if i∈l then { o with data:=.freed } else o }
theorem zH {h:Heap}{l:List Addr}{b:Addr}(hb:b∈l):(zP h l).get? b=none:=by
 unfold Heap.get? zP
 simp only[gN]
 cases e:h.objs[b]? with
 | none=>rfl
 | some o=>simp only[aq,if_pos hb]
theorem jc {h:Heap}{l:List Addr}{b:Addr}(hb:b ∉ l):(zP h l).get? b=h.get? b:=by
 unfold Heap.get? zP
 simp only[gN]
 cases e:h.objs[b]? with
 | none=>rfl
 | some o=>simp only[aq,if_neg hb]
theorem qx {h:Heap}{l:List Addr}:(zP h l).StaysIn h:=λ b o e=>by
 by_cases hb:b∈l
 ·rw[zH hb]at e;cases e
 ·rwa [jc hb]at e
theorem without_none {h:Heap}{l:List Addr}{b:Addr}(e:(zP h l).get? b=none):b∈l\/h.get? b=none:=by
 by_cases hb:b∈l
 ·exact .inl hb
 ·rw[jc hb]at e;exact .inr e
theorem aq5 {h base p:Heap}:∀ {l:List Env},h.FunFrames base l->(∀ b∈frs l,p.get? b=none)->h.FunFrames p l
 | [],_,_=>True.intro
 | env::l,⟨k,⟨L,o,hf,_,ho,hd⟩,r⟩,hb=>by
  have y:frs (env::l)=L::frs l:=by unfold frs;rw[bM,hf]
  rw[y]at hb
  exact⟨k,⟨L,o,hf,hb L (aB ..),ho,hd⟩,aq5 r λ b z=>hb b (aj _ z)⟩
theorem HOk.part {P:aM}{w:World}{H:Hp}{h h':Heap}(x:HOk P w H h)(k:∀ b u o,H b=some u->h.get? b=some o->h'.get? b=some o):HOk P w H h':=λ a o e =>
 (x a o e).stay (λ b u hb q=>by
  rcases hb with rfl|hb
  ·exact k _ _ _ e q
  ·exact k _ _ _ hb q) (λ _ q=>q) λ _ _ q=>q
theorem ag2.at_ {P:aM}{w:World}{H:Hp}{h:Heap}{a:Addr}{o:HO}(x:ag2 P w H h a o):∃ u,h.get? a=some u:=by
 cases o with
 | lst xs=>obtain⟨_,_,_,_,e⟩:=x;exact⟨_,e⟩
 | tup xs=>obtain⟨_,_,_,ob,e,_⟩:=x;exact⟨_,e⟩
 | dK kvs=>obtain⟨_,_,_,_,o,_,_,e,_⟩:=x;exact⟨_,e⟩
 | dT kvs=>obtain⟨_,_,_,_,o,_,_,e,_⟩:=x;exact⟨_,e⟩
 | set S n=>obtain⟨o,_,_,_,e,_⟩:=x;exact⟨_,e⟩
 | ins C dx fs=>obtain⟨_,_,_,e,_⟩:=x;exact⟨_,e⟩
 | own y=>exact x
 | xd fs=>obtain⟨_,⟨_,_,_,e,_⟩,_⟩:=x;exact⟨_,e⟩
 | rng lo hi=>obtain⟨_,_,_,e⟩:=x;exact⟨_,e⟩
 | frz ob u=>obtain⟨e,_⟩:=x;exact⟨_,e⟩
 | tbl ps=>exact⟨_,(show h.get? a=some _ from x)⟩
 | met f y=>exact⟨_,(show h.get? a=some _ from x)⟩
 | ext φ=>obtain⟨_,e,_⟩:=x;exact e
structure Fly (h0:Heap)(H:Hp)(h:Heap)(a C:Addr):Prop where
 new:h0.get? a=none
 free:H a=none
 at_:∃ a0 oe vs T oT ts,h.get? a=some oe/\(oe.cls=.ref C/\vs[0]?=some a0)/\oe.data=.fields vs/\vs[1]?=some (.ref T)/\h0.get? T=none/\H T=none/\T≠a/\h.get? T=some oT/\oT.data=.fields ts/\ts[3]?=some .none
section
variable {X:Cx} {pins:List (Addr×Obj)} {σ:St} {H:Hp} {s:af} {a C:Addr} {a0:Value}
theorem aZ1 (I:Inv X pins σ H s)(G:X.ex=[]){bs:List Addr}(a2:∀ b∈frs X.stack,b∈bs)(hb:∀ b∈bs,b∈frs X.stack\/(X.s₀.heap.get? b=none/\H b=none))(n0:X.s₀.heap.get? a=none)(nH:H a=none)(p:∀ b∈X.fs,b∈frs X.stack)
  {h':Heap} (L:Heap.LeftW (zP s.heap bs) X.stack a (.ref C) a0 s.heap h'):Un X.fs [] X.H₀ H X.s₀.heap h'/\HOk X.prog X.w H h'/\Fly X.s₀.heap H h' a C:=by
 obtain⟨st,ff,tr,sl⟩:=L
 have un:=I.base
 rw[G]at un
 have keep:∀ b o,b ∉ bs->s.heap.get? b=some o->h'.get? b=some o:=λ b o n e=>st b o (by rw[jc n];exact e)
 have slot:∀ b o,b∈frs X.stack->s.heap.get? b=some o->∃ sl,h'.get? b=some { o with slots:=sl }:=λ b o n e=>by
  obtain⟨_,o',e',d⟩:=I.stack.mem n
  rw[e]at e';cases e'
  exact sl b o e d
 have out:∀ b o,X.s₀.heap.get? b=some o->b ∉ frs X.stack->b ∉ bs:=λ b o e n z=>by
  rcases hb b z with q|⟨q,_⟩
  ·exact n q
  ·rw[e]at q;cases q
 have Y:∀ b o,X.s₀.heap.get? b=some o->b ∉ X.fs->b ∉ frs X.stack:=λ b o e n z=>by
  rcases aE.mp (I.stkSub b z)with q|q
  ·subst q
   exact absurd (aJ e) (Nat.not_lt.mpr I.ok.above)
  ·exact n q
 refine⟨⟨λ b o e n h nx=>?_,λ b o e n h nx=>?_,un.free,λ b o e nx=>?_,un.tups,un.frzs,un.tbls⟩,I.hok.part λ b u o e q=>?_,⟨n0,nH,?_⟩⟩
 ·exact keep b o (out b o e (Y b o e h)) (un.keep b o e n h nx)
 ·obtain⟨a1,e1⟩:=un.slot b o e n h nx
  obtain⟨J,e2⟩:=slot b _ (p b h) e1
  exact⟨J,e2⟩
 ·obtain⟨o1,e1⟩:=un.there b o e nx
  by_cases z:b∈frs X.stack
  ·obtain⟨_,e2⟩:=slot b _ z e1
   exact⟨_,e2⟩
  ·exact⟨_,keep b o1 (out b o e z) e1⟩
 ·refine keep b o (λ z=>?_) q
  rcases hb b z with y|⟨_,y⟩
  ·rw[I.stkFree b y]at e;cases e
  ·rw[y]at e;cases e
 ·obtain⟨oe,vs,T,oT,ts,h1,h2,h3,h4,h5,h6,h7,Z,h9⟩:=tr
  have key:X.s₀.heap.get? T=none/\H T=none:=by
   rcases without_none h5 with z|z
   ·rcases hb T z with y|y
    ·obtain⟨_,o',e',d⟩:=ff.mem y
     rw[h7]at e';cases e'
     exact absurd Z (d _)
    ·exact y
   ·refine⟨?_,?_⟩
    ·cases e:X.s₀.heap.get? T with
     | none=>rfl
     | some o=>obtain⟨o',e'⟩:=un.there T o e (by simp);rw[z]at e';cases e'
    ·cases e:H T with
     | none=>rfl
     | some o=>obtain⟨u,e'⟩:=(I.hok T o e).at_;rw[z]at e';cases e'
  exact⟨a0,oe,vs,T,oT,ts,h1,h2,h3,h4,key.1,key.2,h6,h7,Z,h9⟩
theorem aZ0 {oe:Obj}{vs:Array Value}(I:Inv X pins σ H s)(J:X.ex=[])(h:X.stack=X.env::X.outer)(p:X.env.frame=some X.env.locals)(n0:X.s₀.heap.get? a=none)(nH:H a=none)
  (h1:s.heap.get? a=some oe) (h2:oe.cls=.ref C) (h3:oe.data=.fields vs) (Z:vs[1]?=some .none) (h5:vs[0]?=some a0) {Q:Unit->af->Prop} {E:Value->af->Prop}
  (k:∀ h',Un X.fs [] X.H₀ H X.s₀.heap h'->HOk X.prog X.w H h'->Fly X.s₀.heap H h' a C->Q () { s with heap:=h' }):wpAny (model X.prog X.w) X.A (leaving X.env (.ref a)) Q E s:=by
 have Y:s.heap.FunFrames (zP s.heap (a::frs X.stack)) X.stack:=aq5 I.stack λ b hb=>zH (aj _ hb)
 have y:∀ b∈X.fs,b∈frs X.stack:=λ b hb=>by rw[h];unfold frs;rw[bM,p];exact aj _ hb
 have G:=I.ok.frames
 rw[h]at G
 refine wpAny_leaving_firstW (base:=zP s.heap (a::frs X.stack)) G (by rw[<-h];exact Y) p h1 qx (zH (aB ..)) h3 Z h5 λ h' L=>?_
 rw[h2,<-h]at L
 obtain⟨u,o,f⟩:=aZ1 I J (λ b hb=>aj _ hb) (λ b hb=>by
  rcases aE.mp hb with q|q
  ·subst q;exact .inr ⟨n0,nH⟩
  ·exact .inl q) n0 nH y L
 exact k h' u o f
theorem aT7 (I:Inv X pins σ H s)(Y:X.ex=[])(h:X.stack=X.env::X.outer)(p:X.env.frame=some X.env.locals)(F:Fly X.s₀.heap H s.heap a C){Q:Unit->af->Prop}{E:Value->af->Prop}
  (k:∀ h',Un X.fs [] X.H₀ H X.s₀.heap h'->HOk X.prog X.w H h'->Fly X.s₀.heap H h' a C->Q () { s with heap:=h' }):wpAny (model X.prog X.w) X.A (leaving X.env (.ref a)) Q E s:=by
 obtain⟨n0,nH,a0,oe,vs,T,oT,ts,h1,h2,h3,h4,h5,h6,h7,h8,h9,J⟩:=F
 have Z:s.heap.FunFrames (zP s.heap (a::T::frs X.stack)) X.stack:=aq5 I.stack λ b hb=>zH (aj _ (aj _ hb))
 have y:∀ b∈X.fs,b∈frs X.stack:=λ b hb=>by rw[h];unfold frs;rw[bM,p];exact aj _ hb
 have G:=I.ok.frames
 rw[h]at G
 refine wpAny_leaving_nextW (base:=zP s.heap (a::T::frs X.stack)) G (by rw[<-h];exact Z) p ⟨oe,vs,T,oT,ts,h1,h2,h3,h4,zH (by simp),h7,h8,h9,J⟩ qx (zH (aB ..)) λ h' L=>?_
 rw[<-h]at L
 obtain⟨u,o,f⟩:=aZ1 I Y (λ b hb=>aj _ (aj _ hb)) (λ b hb=>by
  rcases aE.mp hb with q|q
  ·subst q;exact .inr ⟨n0,nH⟩
  ·rcases aE.mp q with q|q
   ·subst q;exact .inr ⟨h5,h6⟩
   ·exact .inl q) n0 nH y L
 exact k h' u o f
end
noncomputable def CX1 (P:aM)(w:World):CXT:=λ outer H s E e s'=>∃ a C H',e=.ref a/\s'.os=s.os/\eU s'.gens/\Un (frs outer) [] H H' s.heap s'.heap/\HOk P w H' s'.heap/\Fly s.heap H' s'.heap a C/\E e (some C) H'
theorem CX1.inv {X:Cx}{p:List (Addr×Obj)}{σ:St}{H:Hp}{s s':af}{E:XK}{e:Value}(I:Inv X p σ H s)(G:X.ex=[])(h:CX1 X.prog X.w X.stack H s E e s') :
  ∃ a C H',e=.ref a/\Inv X p σ H' s'/\Fly X.s₀.heap H' s'.heap a C/\E e (some C) H':=by
 obtain⟨a,C,H',rfl,os,bare,un,hok,F,q⟩:=h
 have y:∀ b,s.heap.get? b=none->X.s₀.heap.get? b=none:=λ b z=>by
  cases e:X.s₀.heap.get? b with
  | none=>rfl
  | some o=>obtain⟨o',e'⟩:=I.base.there b o e (by rw[G];simp);rw[z]at e';cases e'
 obtain⟨n0,nH,a0,oe,vs,T,J,ts,h1,h2,h3,Y,Z,h6,h7⟩:=F
 exact⟨a,C,H',rfl,I.call' os un hok bare (ch:=[]) (λ b z=>absurd z (by simp)),⟨y _ n0,nH,a0,oe,vs,T,J,ts,h1,h2,h3,Y,y _ Z,h6,h7⟩,q⟩
section
variable {P:aM} {w:World} {K:ac} {mg:Str->Option Value} {base:Heap} {N:List Str} {qual:Str} {scope:Scope} {f:Addr} {cd:Value} {A:aX} {outer:List Env} {s0:af} {H0:Hp} {E:XK}
theorem cc3:al4 (CX1 P w) (az5 (CX1 P w) P w K mg base N qual scope f cd A outer s0 H0 E) E:=by
 intro p σ H s e s' I h
 obtain⟨a,C,H',rfl,J,F,q⟩:=CX1.inv I rfl h
 exact aT7 J rfl rfl rfl F λ h' u o y=>⟨a,C,H',rfl,J.os,J.bare,u,o,y,q⟩
def aT1 (X:Cx)(E:XK):Prop:=∀(pins:List (Addr×Obj)) (σ:St) (H:Hp) (s:af) (h':Heap) (a C:Addr) (args:List Value),Inv X pins σ H s->Heap.MadeExcOf s.heap h' a (.ref C) args->E (.ref a) (some C) H->X.xe (.ref a) { s with heap:=h' }
theorem ch2:aT1 (az5 (CX1 P w) P w K mg base N qual scope f cd A outer s0 H0 E) E:=by
 intro h σ H s h' a C args I M q
 have J:Inv (az5 (CX1 P w) P w K mg base N qual scope f cd A outer s0 H0 E) h σ H { s with heap:=h' }:=I.kept (t':=s.toks) M.keeps
 obtain⟨t,p,_⟩:=M.there
 refine aZ0 (a0:=.ref t) J rfl rfl rfl ?_ ?_ p rfl rfl rfl rfl λ G u o F=>⟨a,C,H,rfl,J.os,J.bare,u,o,F,q⟩
 ·show s0.heap.get? a=none
  cases e:s0.heap.get? a with
  | none=>rfl
  | some o =>
   obtain⟨y,e'⟩:=I.base.there a o e (by show a ∉ ([]:List Addr);simp)
   rw[M.new]at e';cases e'
 ·cases e:H a with
  | none=>rfl
  | some o =>
   obtain⟨u,e'⟩:=(I.hok a o e).at_
   rw[M.new]at e';cases e'
end
noncomputable def excTail:List Value:=[.type "ValueError",.type "Exception",.type "BaseException",.type "object"]
noncomputable def nsQ (K:ac)(N:Addr):Bool:=match K.lookup N with
 | some ⟨_,_,.dict es _,_⟩=>(es.all λ e=>match e.key with|.str _ _=>true|_=>false)&&kA.all λ n=>(nsFind es n).isNone
 | _=>false
noncomputable def bp1 (K:ac):List Value->Bool
 | .ref A::tl=>(match K.lookup A with|some ⟨_,_,.cls cd,_⟩=>nsQ K cd.ns|_=>false)&&bp1 K tl
 | l=>l==excTail
noncomputable def cd5 (K:ac)(C:Addr):Bool:=match K.lookup C with
 | some ⟨c,_,.cls cd,⟨[_,_,_,_,k4,_]⟩⟩=>c==.type "type"&&(!cd.hasDel&&(nsQ K cd.ns&&((match cd.mro with|m::tl=>m==.ref C&&bp1 K tl|[]=>false)&&k4==some (.builtin "ValueError.__new__"))))
 | _=>false
theorem br0 {K:ac}{N:Addr}(h:nsQ K N=true):∃ p:Str->Option Value,(∀ n∈kA,p n=none)/\∀ h:Heap,K.In h->h.Ns N p:=by
 unfold nsQ at h
 split at h
 ·rename_i c d es y sl e
  rw[ag]at h
  refine⟨nsFind es,λ n hn=>?_,λ hp G=>⟨_,es,y,G _ _ e,rfl,λ x hx=>?_,λ _=>rfl⟩⟩
  ·have:=aO.mp h.2 n hn
   exact Option.isNone_iff_eq_none.mp this
  ·have:=Array.all_eq_true'.mp h.1 x hx
   split at this
   ·rename_i q;exact⟨_,_,q⟩
   ·cases this
 ·cases h
theorem aO9 {K:ac}:∀ {l:List Value},bp1 K l=true->∀ h:Heap,K.In h->OwnTailQ h excTail l
 | l,h,hp,hK=>by
  unfold bp1 at h
  split at h
  ·rename_i A J
   rw[ag]at h
   obtain⟨p,y⟩:=h
   split at p
   ·rename_i c d G sl e
    obtain⟨Y,q,n⟩:=br0 p
    exact .own (hK _ _ e) (n hp hK) q (aO9 y hp hK)
   ·cases p
  ·have:=eq_of_beq h
   subst this
   exact .base
structure ExcCls (K:ac)(C:Addr):Prop where
 obj:∃ bm N nm q bs hdct sn sub ab col dd k0 k1 k2 k3 k5 mN,K.lookup C=some (excClassObj nm q C N bs bm hdct sn sub ab col dd k0 k1 k2 k3 k5 "ValueError.__new__")/\(∀ n∈kA,mN n=none)/\∀ h:Heap,K.In h->h.Ns N mN/\OwnTailQ h excTail bm
theorem bE9 {K:ac}{C:Addr}(h:cd5 K C=true):ExcCls K C:=by
 unfold cd5 at h
 split at h
 ·rename_i c dd Y k0 k1 k2 k3 k4 k5 e
  obtain⟨nm,bs,Z,N,q,hdct,sn,sub,ab,col,G⟩:=Y
  simp only[ag,dQ]at h
  obtain⟨h1,y,h3,p,h5⟩:=h
  split at p
  ·rename_i m tl
   rw[ag]at p
   have e1:=eq_of_beq h1
   have e5:=eq_of_beq h5
   have e4:=eq_of_beq p.1
   subst e1 e5 e4
   have y:G=false:=y
   subst y
   obtain⟨mN,q',n⟩:=br0 h3
   exact⟨tl,N,nm,q,bs,hdct,sn,sub,ab,col,dd,k0,k1,k2,k3,k5,mN,e,q',λ hp J=>⟨n hp J,aO9 p.2 hp J⟩⟩
  ·cases p
 ·cases h
theorem bj1 {K:ac}{x D:Addr}(hc:ExcCls K D)(y:bP K (.ref D) (bD "__getattribute__")=some (some (.builtin "BaseException.__getattribute__")))(hk:bP K (.ref D) (bD "__getattr__")=some none)
  (Z:bP K (.ref D) (bD "__class__")=some (some (.builtin "object.__class__")))
  (hs:dL K (.builtin "object.__class__") (bD "__get__")=some (some (.builtin "getset_descriptor.__get__")))
  (G:eK K (.builtin "object.__class__")=some true) (Y:fL K D (.type "object")=some true) :
  dR K (.ref x) (.ref D) (λ h=>XAt h x D):=by
 obtain⟨bm,N,nm,q,bs,hdct,sn,sub,ab,col,dd,k0,k1,k2,k3,k5,mN,hl,hq,hN⟩:=hc.obj
 refine⟨λ M h _ I=>I.type,λ M h X I=>?_,λ h J dd its n sl X p=>?_,λ {prog w A E Q s} X I h=>?_⟩
 ·intro A' Q' E' s' k q
  exact ai (wpAny_loadPart (k _ _ (X _ _ hl)) (aI q))
 ·cases e:(Value.ref D==Value.ref J)with
  | false=>rfl
  | true =>
   have e:=eq_of_beq e
   cases e
   rw[X _ _ hl]at p
   cases congrArg (λ o:Option Obj=>o.map Obj.data) p
 ·obtain⟨o,ho,hcl⟩:=I
  have L:=XAt.type (M:=model prog w) ⟨o,ho,hcl⟩
  exact bK6 X L (cb5 X Z hs G) y hk (X _ _ hl) (hN _ X).2 ho hcl (gb (aR4 X L Y (PySem.W.handed_on rfl h)))
noncomputable def excI (K:ac)(C:Addr):Bool:=bP K (.ref C) (bD "__getattribute__")==some (some (.builtin "BaseException.__getattribute__"))&&(bP K (.ref C) (bD "__getattr__")==some none&&(bP K (.ref C) (bD "__class__")==some (some (.builtin "object.__class__"))&&(dL K (.builtin "object.__class__") (bD "__get__")==some (some (.builtin "getset_descriptor.__get__"))&&(eK K (.builtin "object.__class__")==some true&&fL K C (.type "object")==some true))))
theorem bw2 {K:ac}{x C:Addr}(hc:ExcCls K C)(h:excI K C=true):dR K (.ref x) (.ref C) (λ h=>XAt h x C):=by
 unfold excI at h
 simp only[ag]at h
 obtain⟨h0,G,y,h3,J,p⟩:=h
 exact bj1 hc (eq_of_beq h0) (eq_of_beq G) (eq_of_beq y) (eq_of_beq h3) (eq_of_beq J) (eq_of_beq p)
section
variable {X:Cx} {E:XK} {C:Addr} {x:Str}
theorem bl2 {np G pos p:Pos}{y:Str}{j:Nat}(T:aT1 X E)(hc:ExcCls X.K C)(hg:Gl X x)(hm:X.mg x=some (.ref C))(hh:X.A.handled=none)(hd:(x==("__debug__":Str))=false) :
  PS X (.Raise (some (.Call (.Name x np) [.Constant (.str y) j p] [] G)) none pos) (λ D σ H=>∀ a,E (.ref a) (some C) H):=by
 intro h s σ H D I q
 obtain⟨bm,N,nm,q',bs,hdct,sn,sub,ab,col,dd,k0,k1,k2,k3,k5,mN,e,hq,hN⟩:=hc.obj
 have Z:=hN _ I.kIn
 refine wpAny_Raise_call_subT (nm:=nm) (q:=q') (C:=C) (N:=N) (bs:=bs) (hdct:=hdct) (sn:=sn) (sub:=sub) (ab:=ab) (col:=col) (dd:=dd) (k0:=k0) (k1:=k1) (k2:=k2) (k3:=k3) (k5:=k5) hG (OwnTail.hasType Z.2.tail hG.hasBase) hh rfl (hq _ (aB ..)) ?_
 refine thn (ao9 (v:=.ref C) hg hm rfl hd h s σ H (λ v Y=>v=.ref C/\Y=H) I ⟨rfl,rfl⟩) λ u s1 ⟨v,Y,I1,r,e1,e2⟩=>?_
 subst e1 e2
 refine⟨r,gU ?_⟩
 have pa:PA X [.Constant (.str y) j p] (aF9 (tC (.str y)) bs3):=zW br1 ai2
 refine thn (pa G h s1 σ Y (λ vs H2=>vs.length=1/\H2=Y) I1 ⟨rfl,rfl⟩) λ us s2 ⟨vs,H2,J,r2,e3,e4⟩=>?_
 subst e4
 have hl:us.length=1:=by rw[<-r2.length];exact e3
 refine⟨rfl,by show us.length<=_;rw[hl];decide,J.kIn _ _ e,(hN _ J.kIn).1,(hN _ J.kIn).2.tail,λ h' a M=>?_⟩
 exact T h σ H2 s2 h' a C us J M (q a)
end
structure Tr (X:Cx)(pins:List (Addr×Obj))(σ:St)(H:Hp)(s:af)(a C:Addr)(fl:Value):Prop where
 inv:Inv X pins σ H s
 n0:X.s₀.heap.get? a=none
 nH:H a=none
 np:∀ p∈X.pn++pins,p.1≠a
 tr:∃ a0 oe vs T oT ts,s.heap.get? a=some oe/\(oe.cls=.ref C/\vs[0]?=some a0)/\oe.data=.fields vs/\vs[1]?=some (.ref T)/\X.s₀.heap.get? T=none/\H T=none/\(∀ p∈X.pn++pins,p.1≠T)/\T≠a/\s.heap.get? T=some oT/\oT.data=.fields ts/\ts[3]?=some fl
section
variable {X:Cx} {pins:List (Addr×Obj)} {σ:St} {H:Hp} {s:af} {a C T:Addr} {fl fl' a0:Value} {h':Heap}
theorem Tr.stk (h:X.stack=X.env::X.outer)(p:X.env.frame=some X.env.locals):∀ b∈X.fs,b∈frs X.stack:=λ b hb=>by rw[h];unfold frs;rw[bM,p];exact aj _ hb
theorem Tr.moved (t:Tr X pins σ H s a C fl)(a2:X.ex=[])(c3:X.stack=X.env::X.outer)(b1:X.env.frame=some X.env.locals){oT:Obj}{ts:Array Value}(a6:X.s₀.heap.get? T=none)(a5:H T=none)(a4:∀ p∈X.pn++pins,p.1≠T)(b6:s.heap.get? T=some oT)(b5:oT.data=.fields ts)
  (st:(zP s.heap (a::T::frs X.stack)).StaysIn h') (ff:h'.FunFrames (zP s.heap (a::T::frs X.stack)) X.stack) (tr:h'.TracedAtW (zP s.heap (a::T::frs X.stack)) a (.ref C) a0 fl')
  (sl:∀ b o,s.heap.get? b=some o->(∀ vs,o.data≠.fields vs)->∃ sl,h'.get? b=some { o with slots:=sl }):Tr X pins σ H { s with heap:=h' } a C fl':=by
 have I:=t.inv
 have un:=I.base
 rw[a2]at un
 have a3:=Tr.stk c3 b1
 obtain⟨b0,oe,vs,_,_,_,g1,_,g3,_⟩:=t.tr
 have a1:∀ b,b∈a::T::frs X.stack->b=a\/b=T\/b∈frs X.stack:=λ b hb=>by
  rcases aE.mp hb with q|q
  ·exact .inl q
  ·exact .inr (aE.mp q)
 have keep:∀ b o,b≠a->b≠T->b ∉ frs X.stack->s.heap.get? b=some o->h'.get? b=some o:=λ b o n1 n2 n3 e=>st b o (by
  rw[jc λ z=>(a1 b z).elim n1 λ z=>z.elim n2 n3];exact e)
 have slot:∀ b o,b∈frs X.stack->s.heap.get? b=some o->∃ sl,h'.get? b=some { o with slots:=sl }:=λ b o n e=>by
  obtain⟨_,o',e',d⟩:=I.stack.mem n
  rw[e]at e';cases e'
  exact sl b o e d
 have c0:∀ b o,X.s₀.heap.get? b=some o->b ∉ X.fs->b ∉ frs X.stack:=λ b o e n z=>by
  rcases aE.mp (I.stkSub b z)with q|q
  ·subst q
   exact absurd (aJ e) (Nat.not_lt.mpr I.ok.above)
  ·exact n q
 have h:∀ b o,X.s₀.heap.get? b=some o->b≠a/\b≠T:=λ b o e=>⟨λ z=>(by rw[z,t.n0]at e;cases e),λ z=>(by rw[z,a6]at e;cases e)⟩
 have c4:∀ b o,s.heap.get? b=some o->(∀ vs,o.data≠.fields vs)->b≠a/\b≠T:=λ b o e d=>⟨λ z=>(by rw[z,g1]at e;cases e;exact d _ g3),λ z=>(by rw[z,b6]at e;cases e;exact d _ b5)⟩
 have up:∀ b o,s.heap.get? b=some o->(∀ vs,o.data≠.fields vs)->∃ sl,h'.get? b=some { o with slots:=sl }:=sl
 have Z:Inv X pins σ H { s with heap:=h' }:=by
  refine⟨I.ok,I.os,I.bare,?_,?_,λ x c e=>?_,I.free,I.freeC,λ p hp=>?_,I.hok.part λ b u o e q=>?_,I.len⟩
  ·rw[a2]
   refine⟨λ b o e n Y nx=>?_,λ b o e n Y nx=>?_,un.free,λ b o e nx=>?_,un.tups,un.frzs,un.tbls⟩
   ·exact keep b o (h b o e).1 (h b o e).2 (c0 b o e Y) (un.keep b o e n Y nx)
   ·obtain⟨b3,e1⟩:=un.slot b o e n Y nx
    obtain⟨J,e2⟩:=slot b _ (a3 b Y) e1
    exact⟨J,e2⟩
   ·obtain⟨o1,e1⟩:=un.there b o e nx
    by_cases z:b∈frs X.stack
    ·obtain⟨_,e2⟩:=slot b _ z e1
     exact⟨_,e2⟩
    ·exact⟨_,keep b o1 (h b o e).1 (h b o e).2 z e1⟩
  ·obtain⟨m,⟨o,es,ep,ho,hd,hr⟩,hl⟩:=I.loc
   obtain⟨b3,e1⟩:=up _ o ho (λ vs z=>by rw[hd]at z;cases z)
   refine⟨m,⟨_,es,ep,e1,hd,hr⟩,λ i x v h1 h2 h3=>?_⟩
   obtain⟨u,r,lk⟩:=hl i x v h1 h2 h3
   refine⟨u,r,?_⟩
   rcases lk with z|⟨z1,c,z2,oc,z3,z4⟩
   ·exact .inl z
   ·obtain⟨J,e2⟩:=up c oc z3 (λ vs z=>by rw[z4]at z;cases z)
    exact .inr ⟨z1,c,z2,_,e2,z4⟩
  ·obtain⟨v,oc,z3,z4⟩:=I.cell x c e
   obtain⟨J,e2⟩:=up c oc z3 (λ vs z=>by rw[z4]at z;cases z)
   exact⟨v,_,e2,z4⟩
  ·obtain⟨q1,q2,q3,q4,q5⟩:=I.pin p hp
   refine⟨keep _ _ (t.np p hp) (a4 p hp) (λ z=>?_) q1,q2,q3,q4,q5⟩
   rcases aE.mp (I.stkSub _ z)with q|q
   ·exact q3 q
   ·exact q4 q
  ·refine keep b o (λ z=>?_) (λ z=>?_) (λ z=>?_) q
   ·rw[z,t.nH]at e;cases e
   ·rw[z,a5]at e;cases e
   ·rw[I.stkFree b z]at e;cases e
 refine⟨Z,t.n0,t.nH,t.np,?_⟩
 obtain⟨c1,b4,G,c2,b2,h1,h2,h3,h4,h5,h6,h7,h8,h9⟩:=tr
 have key:X.s₀.heap.get? G=none/\H G=none/\∀ p∈X.pn++pins,p.1≠G:=by
  rcases without_none h5 with z|z
  ·rcases a1 G z with y|y|y
   ·exact absurd y h6
   ·subst y;exact⟨a6,a5,a4⟩
   ·obtain⟨_,o',e',d⟩:=ff.mem y
    rw[h7]at e';cases e'
    exact absurd h8 (d _)
  ·refine⟨?_,?_,λ p hp y=>?_⟩
   ·cases e:X.s₀.heap.get? G with
    | none=>rfl
    | some o=>obtain⟨o',e'⟩:=un.there G o e (by simp);rw[z]at e';cases e'
   ·cases e:H G with
    | none=>rfl
    | some o=>obtain⟨u,e'⟩:=(I.hok G o e).at_;rw[z]at e';cases e'
   ·have:=(I.pin p hp).1
    rw[y,z]at this;cases this
 exact⟨a0,c1,b4,G,c2,b2,h1,h2,h3,h4,key.1,key.2.1,key.2.2,h6,h7,h8,h9⟩
theorem Tr.noted (t:Tr X pins σ H s a C .none)(J:X.ex=[])(h:X.stack=X.env::X.outer)(p:X.env.frame=some X.env.locals){Q:Unit->af->Prop}{E:Value->af->Prop}
  (k:∀ h' fl,Tr X pins σ H { s with heap:=h' } a C fl->Q () { s with heap:=h' }):wpAny (model X.prog X.w) X.A (jS (.ref a) X.env) Q E s:=by
 have I:=t.inv
 obtain⟨a0,oe,vs,T,oT,ts,h1,h2,h3,h4,h5,h6,Y,h7,h8,h9,G⟩:=t.tr
 have Z:s.heap.FunFrames (zP s.heap (a::T::frs X.stack)) X.stack:=aq5 I.stack λ b hb=>zH (aj _ (aj _ hb))
 have y:=I.ok.frames
 rw[h]at y
 refine wpAny_noteFrame_onW (base:=zP s.heap (a::T::frs X.stack)) y (by rw[<-h];exact Z) p ⟨oe,vs,T,oT,ts,h1,h2,h3,h4,zH (by simp),h7,h8,h9,G⟩ qx (zH (aB ..)) λ h' L=>?_
 rw[<-h]at L
 obtain⟨st,ff,tr,sl⟩:=L
 exact k h' _ (t.moved J h p h5 h6 Y h8 h9 st ff tr sl)
theorem Tr.down (t:Tr X pins σ H s a C fl)(y:X.ex=[])(Y:X.stack=X.env::X.outer)(h:X.env.frame=some X.env.locals){A:aX}{Q:Unit->af->Prop}{E:Value->af->Prop}
  (k:∀ h',Tr X pins σ H { s with heap:=h' } a C .none->Q () { s with heap:=h' }):wpAny (model X.prog X.w) A (kJ (.ref a) none) Q E s:=by
 have I:=t.inv
 obtain⟨a0,oe,vs,T,oT,ts,h1,h2,h3,h4,h5,h6,G,h7,Z,h9,p⟩:=t.tr
 have J:s.heap.FunFrames (zP s.heap (a::T::frs X.stack)) X.stack:=aq5 I.stack λ b hb=>zH (aj _ (aj _ hb))
 refine wpAny_setFlight_noneW (base:=zP s.heap (a::T::frs X.stack)) qx J ⟨oe,vs,T,oT,ts,h1,h2,h3,h4,zH (by simp),h7,Z,h9,p⟩ λ h' st ff tr sl=>?_
 exact k h' (t.moved y Y h h5 h6 G Z h9 st ff tr.at λ b o e d=>⟨o.slots,sl b o e d⟩)
theorem CX1.tr {s':af}{E:XK}{e:Value}(I:Inv X pins σ H s)(Z:X.ex=[])(h:CX1 X.prog X.w X.stack H s E e s') :
  ∃ a C H',e=.ref a/\Tr X pins σ H' s' a C .none/\E e (some C) H':=by
 have h0:=h
 obtain⟨a,C,H',rfl,os,bare,un,hok,F,q⟩:=h
 obtain⟨a',C',a1,e,J,G,q'⟩:=CX1.inv I Z h0
 have Y:∀ b,s.heap.get? b=none->X.s₀.heap.get? b=none:=λ b z=>by
  cases e:X.s₀.heap.get? b with
  | none=>rfl
  | some o=>obtain⟨o',e'⟩:=I.base.there b o e (by rw[Z];simp);rw[z]at e';cases e'
 have pn:∀ b,s.heap.get? b=none->∀ p∈X.pn++pins,p.1≠b:=λ b z p hp y=>by
  have:=(I.pin p hp).1
  rw[y,z]at this;cases this
 obtain⟨n0,nH,a0,oe,vs,T,oT,ts,h1,h2,h3,h4,h5,h6,h7⟩:=F
 exact⟨a,C,H',rfl,⟨I.call' os un hok bare (ch:=[]) (λ b z=>absurd z (by simp)),Y _ n0,nH,pn _ n0,a0,oe,vs,T,oT,ts,h1,h2,h3,h4,Y _ h5,h6,pn _ h5,h7⟩,q⟩
end
noncomputable abbrev Cx.hnd (X:Cx)(a:Addr)(oe:Obj):Cx:={ X with A:=X.A.mark (some (.ref a)),calm:=false,pn:=(a,oe)::X.pn,xe:=λ _ _=>False }
section
variable {X:Cx} {pins:List (Addr×Obj)} {σ:St} {H:Hp} {s:af} {a C:Addr} {oe:Obj} {fl:Value}
theorem Cx.Ok.hnd (ok:X.Ok)(a:Addr)(oe:Obj):(X.hnd a oe).Ok:=⟨ok.mod,ok.kind,ok.glob,ok.blt,ok.above,ok.inj,ok.has,ok.cab,(λ z=>by cases z),ok.frames,ok.stk,ok.exf,ok.bs,ok.bsz,ok.noex,ok.exfs,ok.funs,ok.frf⟩
theorem Inv.apart (I:Inv X pins σ H s){b:Addr}{o:Obj}{vs:Array Value}(e:s.heap.get? b=some o)(d:o.data=.fields vs):b≠X.env.locals/\b ∉ X.fs/\∀ v,o.data≠.cell v:=by
 refine⟨λ z=>?_,λ z=>?_,λ v z=>by rw[d]at z;cases z⟩
 ·obtain⟨m,⟨h,es,p,ho,hd,_⟩,_⟩:=I.loc
  rw[<-z,e]at ho;cases ho
  rw[d]at hd;cases hd
 ·obtain⟨_,h,e',d'⟩:=I.funs.mem z
  rw[e]at e';cases e'
  exact d' _ d
theorem Inv.hnd {vs:Array Value}(I:Inv X pins σ H s)(e:s.heap.get? a=some oe)(n:H a=none)(d:oe.data=.fields vs):Inv (X.hnd a oe) pins σ H s :=
 ⟨I.ok.hnd a oe,I.os,I.bare,I.base,I.loc,I.cell,I.free,I.freeC,λ p hp=>by
  rcases aE.mp hp with z|z
  ·subst z;exact⟨e,n,I.apart e d⟩
  ·exact I.pin p z,I.hok,I.len⟩
theorem Inv.unhnd (ok:X.Ok)(I:Inv (X.hnd a oe) pins σ H s):Inv X pins σ H s:=⟨ok,I.os,I.bare,I.base,I.loc,I.cell,I.free,I.freeC,λ p hp=>I.pin p (aj _ hp),I.hok,I.len⟩
theorem ba1 {M:Model}{A:aX}{E:Value->af->Prop}{i:Nat}{x:Str}{v:V}{Q:Unit->af->Prop}(I:Inv X pins σ H s)(hN:X.N.Nodup)(hi:X.N[i]?=some x)(hx:X.env.scope.names.lookup x=some .local)(hv:σ[i]?=some (some v))
  (h:∀ s',Inv X pins (σ.set i none) H s'->Q () s'):wpAny M A (unbindName X.env x) Q E s:=by
 obtain⟨m,hn,hl⟩:=id I.loc
 have J:(X.env.scope.kind==.class||(X.env.scope.kind==.module&&X.env.locals != X.env.globals))=false:=by rw[I.ok.kind];rfl
 obtain⟨u,r,lk⟩:=hl i x v hi hv (.inl hx)
 have hm:m x=some u:=by
  rcases lk with⟨_,e⟩|⟨e,_⟩
  ·exact e
  ·have Z:X.env.kindOf x=some .local:=hx
   rw[Z]at e
   rcases e with e|e<;>cases e
 have cne:=I.cne
 refine wpAny_unbindName_local hx hn hm J λ h' u' Y hs=>?_
 obtain⟨oL,_,_,a0,_⟩:=id hn
 have G:∀ b o,X.s₀.heap.get? b=some o->b≠X.env.locals:=λ b o e=>aH (az (aJ e) I.ok.above)
 refine h _ ⟨I.ok,I.os,I.bare,⟨λ b o e n hb hx=>?_,λ b o e n hb hx=>?_,I.base.free,λ b o e hx=>?_,I.base.tups,I.base.frzs,I.base.tbls⟩,⟨_,Y,λ j y v' e1 e2 e3=>?_⟩,λ y c e=>?_,I.free,I.freeC,λ p hp=>?_,I.hok.part λ b w o e q=>?_,by rw[bJ];exact I.len⟩
 ·exact(hs.2 b (G b o e)).trans (I.base.keep b o e n hb hx)
 ·obtain⟨sl,e1⟩:=I.base.slot b o e n hb hx
  exact⟨sl,(hs.2 b (G b o e)).trans e1⟩
 ·obtain⟨o',e1⟩:=I.base.there b o e hx
  exact⟨o',(hs.2 b (G b o e)).trans e1⟩
 ·have hj:j≠i:=λ z=>by
   subst z
   rw[aZ (ae.mp hv).1]at e2
   cases e2
  rw[be (cy hj)]at e2
  obtain⟨w,r',q⟩:=hl j y v' e1 e2 e3
  refine⟨w,r',?_⟩
  rcases q with⟨k,e⟩|⟨k,c,e,z⟩
  ·refine .inl ⟨k,?_⟩
   have:y≠x:=λ e=>hj (az2 hN e1 (e▸hi))
   simp[this,e]
  ·exact .inr ⟨k,c,e,z.sameBut hs (cne y c e)⟩
 ·obtain⟨w',z⟩:=I.cell y c e
  exact⟨w',z.sameBut hs (cne y c e)⟩
 ·obtain⟨e,n,ne,nf,d⟩:=I.pin p hp
  exact⟨(hs.2 p.1 ne).trans e,n,ne,nf,d⟩
 ·refine(hs.2 b λ z=>?_).trans q
  rw[z,I.free]at e;cases e
theorem Tr.own (t:Tr X pins σ H s a C fl):∃ oe vs,s.heap.get? a=some oe/\oe.cls=.ref C/\oe.data=.fields vs:=by
 obtain⟨a0,oe,vs,T,y,ts,p,h,h3,_⟩:=t.tr
 exact⟨oe,vs,p,h.1,h3⟩
theorem Tr.again (t:Tr X pins σ H s a C fl){Q:V->Hp->Prop}{e:Expr}{v:V}(he:∀ oe,PE (X.hnd a oe) e (tC v)){E:Value->af->Prop}{R:Value->af->Prop}
  (k:∀ u s',RelV v u->Tr X pins σ H s' a C fl->R u s'):wpAny (model X.prog X.w) (X.A.mark (some (.ref a))) (eval e X.env) R E s:=by
 obtain⟨a0,oe,vs,T,y,ts,h1,h2,h3,h4,h5,h6,Y,h7,Z,h9,G⟩:=t.tr
 have I:=t.inv
 have J:Inv (X.hnd a oe) ((T,y)::pins) σ H s:=(I.hnd h1 t.nH h3).pins_of λ p hp=>by
  rcases aE.mp hp with z|z
  ·subst z;exact⟨Z,h6,I.apart Z h9⟩
  ·exact I.pin p (aV _ z)
 refine bz (he oe ((T,y)::pins) s σ H (λ w H1=>w=v/\H1=H) J ⟨rfl,rfl⟩) (λ u s1 ⟨w,H1,h,r,e1,e2⟩=>?_) (λ _ _ z=>bf z)
 subst e1 e2
 refine k u s1 r ⟨(h.pins_of λ p hp=>h.pin p (aV _ (aj _ hp))).unhnd I.ok,t.n0,t.nH,t.np,a0,oe,vs,T,y,ts,(h.pin (a,oe) (aB ..)).1,h2,h3,h4,h5,h6,Y,h7,(h.pin (T,y) (aV _ (aB ..))).1,h9,G⟩
theorem aY6 {x n:Str}{i:Nat}{np pos:Pos}{b₀:Stmt}{h:List Stmt}{rest:List fR}{th:TS}{D:Ends}(t:Tr X pins σ H s a C .none)(J:X.ex=[])(Y:X.stack=X.env::X.outer)(G:X.env.frame=some X.env.locals)
  (hc:ExcCls X.K C) (hg:Gl X x) (hm:X.mg x=some (.ref C)) (hd:(x==("__debug__":Str))=false) (hN:X.N.Nodup) (hi:X.N[i]?=some n) (hl:X.env.scope.names.lookup n=some .local)
  (hb:∀ oe,oe.cls=.ref C->PSs (X.hnd a oe) (b₀::h) th) (hq:th { nx:=λ _ _=>False,rt:=D.rt } (σ.set i (some (.ref a))) H) :
  wpAny (model X.prog X.w) X.A (jS (.ref a) X.env) (λ _ s₂=>wpAny (model X.prog X.w) X.A (kJ (.ref a) none) (λ _ s₃=>wpAny (model X.prog X.w) X.A (handleBy (.ref a) X.env (.ExceptHandler (some (.Name x np)) (some n) (b₀::h) pos::rest)) (SP X pins D) X.xe s₃) X.xe s₂) X.xe s:=by
 obtain⟨bm,N,nm,q,bs,hdct,sn,sub,ab,col,dd,k0,k1,k2,k3,k5,mN,e,a3,a6⟩:=hc.obj
 refine t.noted J Y G λ h2 fl t2=>t2.down J Y G λ h3 t3=>?_
 refine handleBy_own_as (bmB:=excTail) (newId := "ValueError.__new__") (mg:=X.mg) (x:=x) (C:=C) rfl ?_
 refine t3.again (Q:=λ _ _=>True) (v:=.ref C) (λ oe=>ao9 (X:=X.hnd a oe) hg hm rfl hd) λ u s4 r t4=>?_
 have K4:=a6 _ t4.inv.kIn
 obtain⟨b1,b6,b2,b0,b4⟩:=t4.own
 refine⟨r,⟨hm,bm,N,nm,q,bs,hdct,sn,sub,ab,col,dd,k0,k1,k2,k3,k5,mN,t4.inv.kIn _ _ e,K4.1,a3,K4.2⟩,⟨b1,b2,b0⟩,?_⟩
 refine t4.down J Y G λ h5 Z=>?_
 obtain⟨y,b5,a0,a4,a1⟩:=Z.own
 have J5:Inv X ((a,y)::pins) σ H { s4 with heap:=h5 }:=Z.inv.pins_of λ p hp=>by
  rcases aE.mp hp with z|z
  ·subst z;exact⟨a0,Z.nH,Z.inv.apart a0 a1⟩
  ·exact Z.inv.pin p (aV _ z)
 refine an5 J5 hN hi (.inl hl) (v:=.ref a) rfl (λ s6 J6=>?_) (.inr hl)
 have J7:Inv (X.hnd a y) pins (σ.set i (some (.ref a))) H s6:=(J6.pins_of λ p hp=>J6.pin p (aV _ (aj _ hp))).hnd (J6.pin (a,y) (aV _ (aB ..))).1 Z.nH a1
 refine bz (hb y a4 pins s6 _ H { nx:=λ _ _=>False,rt:=D.rt } J7 hq) (λ f s8 z=>?_) (λ _ _ z=>bf z)
 cases f with
 | next=>obtain⟨_,_,_,z⟩:=z;exact bf z
 | brk=>obtain⟨_,_,_,z⟩:=z;exact bf z
 | cont=>obtain⟨_,_,_,z⟩:=z;exact bf z
 | ret u8 =>
  obtain⟨v8,σ8,H8,J8,r8,q8⟩:=z
  have J8:=J8.unhnd Z.inv.ok
  refine ai (wpAny_bindName (an5 J8 hN hi (.inl hl) (v:=.non) (u:=.none) rfl (λ s9 J9=>?_) (.inr hl)))
  have a5:i < σ8.length:=by rw[J8.len];exact(ae.mp hi).1
  exact wpAny_onRaise (ba1 J9 hN hi hl (by rw[aZ a5]) λ b3 a2=>⟨v8,_,H8,a2,r8,q8⟩)
end
end L2
end
noncomputable section
namespace DV
inductive D where
 | non|bl (b:Bool)|int (i:Int)|str (x:List Nat)|tup (l:List D)|ref (n:Nat)|fn (f:String)|clo (f:String) (cs:List D)
noncomputable instance:DecidableEq D:=λ a b=>fW (a=b)
noncomputable instance (x:D):Decidable (x=.non):=match x with
 | .non=>.isTrue rfl
 | .bl _=>.isFalse nofun
 | .int _=>.isFalse nofun
 | .str _=>.isFalse nofun
 | .tup _=>.isFalse nofun
 | .ref _=>.isFalse nofun
 | .fn _=>.isFalse nofun
 | .clo _ _=>.isFalse nofun
inductive O where
 | lst (l:List D)|ro (l:List D)|dic (l:List (D×D))|ins (c:String) (fs:List (String×D))|dit (l:List (D×D))
noncomputable instance:DecidableEq O:=λ a b=>fW (a=b)
noncomputable abbrev Sto:=List O
noncomputable def O.kd:O->Nat
 | .lst _=>0|.ro _=>1|.dic _=>2|.ins _ _=>3|.dit _=>4
inductive R (α:Type) where
 | ok (a:α) (s:Sto)|exc (e:D) (s:Sto)|bad
noncomputable abbrev M (α:Type):=Sto->R α
noncomputable def R.bind {α β:Type}(r:R α)(f:α->Sto->R β):R β:=match r with
 | .ok a s=>f a s
 | .exc e s=>.exc e s
 | .bad=>.bad
@[simp] theorem R.bind_ok {α β:Type} (a:α) (s:Sto) (f:α->Sto->R β):(R.ok a s).bind f=f a s:=rfl
@[simp] theorem R.bind_bad {α β:Type} (f:α->Sto->R β):(R.bad:R α).bind f=.bad:=rfl
@[simp] theorem R.bind_exc {α β:Type} (e:D) (s:Sto) (f:α->Sto->R β):(R.exc e s:R α).bind f=.exc e s:=rfl
theorem R.bind_inv {α β:Type}{r:R α}{f:α->Sto->R β}{b:β}{t:Sto}(h:r.bind f=.ok b t):∃ a s,r=.ok a s/\f a s=.ok b t:=by
 cases r with
 | ok a s=>exact⟨a,s,rfl,h⟩
 | exc e s=>cases h
 | bad=>cases h
@[simp] theorem R.bind_assoc {α β γ:Type} (r:R α) (f:α->Sto->R β) (g:β->Sto->R γ):(r.bind f).bind g=r.bind λ a s=>(f a s).bind g:=by cases r<;>rfl
mutual
noncomputable def D.bnd (n:Nat):D->Bool
 | .tup l=>D.bndL n l
 | .ref k=>decide (k<n)
 | .clo _ l=>D.bndL n l
 | _=>true
noncomputable def D.bndL (n:Nat):List D->Bool
 | []=>true
 | d::l=>D.bnd n d&&D.bndL n l
end
noncomputable def O.bnd (n:Nat):O->Bool
 | .lst l=>D.bndL n l
 | .ro l=>D.bndL n l
 | .dic l=>D.bndL n (l.map (·.1))&&D.bndL n (l.map (·.2))
 | .ins _ fs=>D.bndL n (fs.map (·.2))
 | .dit l=>D.bndL n (l.map (·.1))&&D.bndL n (l.map (·.2))
mutual
noncomputable def D.plain:D->Bool
 | .non=>true|.int _=>true|.str _=>true
 | .tup l=>D.plainL l
 | _=>false
noncomputable def D.plainL:List D->Bool
 | []=>true
 | d::l=>D.plain d&&D.plainL l
end
mutual
noncomputable def D.ncl:D->Bool
 | .tup l=>D.nclL l
 | .clo _ _=>false
 | _=>true
noncomputable def D.nclL:List D->Bool
 | []=>true
 | d::l=>D.ncl d&&D.nclL l
end
noncomputable def O.ncl:O->Bool
 | .lst l=>D.nclL l
 | .ro l=>D.nclL l
 | .dic l=>D.nclL (l.map (·.2))
 | .dit l=>D.nclL (l.map (·.2))
 | _=>false
noncomputable def D.key:D->Bool
 | .int _=>true|.str _=>true|_=>false
noncomputable def D.hdI:List D->Bool
 | .int _::_=>true|_=>false
noncomputable def D.keyS:D->Bool
 | .int _=>true|.str x=>decide (x.length<=1000)|_=>false
noncomputable def D.keyT:D->Bool
 | .tup l=>D.hdI l&&(l.all D.keyS&&decide (l.length<=1000))|_=>false
noncomputable def LIM:Nat:=1000000
@[irreducible] noncomputable def BIG:Nat:=2^60000
@[irreducible] noncomputable def DIVL:Nat:=2^4096
inductive BOp where
 | add|sub|mul|fdiv|mod|pow|shl|shr|band|bor
 deriving DecidableEq
inductive COp where
 | eq|ne|lt|le|gt|ge|isin|notin
 deriving DecidableEq
inductive Cn where
 | non|bl (b:Bool)|int (i:Int)|str (x:List Nat)
 deriving DecidableEq
noncomputable def Cn.d:Cn->D
 | .non=>.non|.bl b=>.bl b|.int i=>.int i|.str x=>.str x
inductive Bi where
 | len|abs|int|str|min2|max2|max3|min3|isInt|isBool|isStr|isTup|isList|ord
 deriving DecidableEq
inductive Mk where
 | tuple|list|all|any|sum|min|max|sorted|lenset
 deriving DecidableEq
inductive Mt where
 | append|pop|index|count|reverse|clear|bitlen|get1|get2|setdefault|update|split|partition
 deriving DecidableEq
inductive Tg where
 | one (i:Nat)|tup (is:List Nat)
 deriving DecidableEq
mutual
inductive E where
 | var (i:Nat)|cst (c:Cn)|glob (x:String)
 | bin (op:BOp) (a b:E)|neg (a:E)|not (a:E)
 | cmp (op:COp) (a b:E)|chain (o p:COp) (a b c:E)
 | isN (a:E)|notN (a:E)|isB (a:E) (b:Bool)|notB (a:E) (b:Bool)
 | and (a b:E)|or (a b:E)|ite (c a b:E)
 | tup (es:Es)|lst (es:Es)|dic (ks vs:Es)|dicT|get2 (o k d:E)|bitl (a:E)|lrng (a:E)
 | ix (a b:E)|slL (a lo:E)|slU (a hi:E)|slLU (a lo hi:E)|rev (a:E)
 | call (f:String) (as:As)|callC (f:String) (as:As)|callV (i:Nat) (es:Es)
 | bi (b:Bi) (es:Es)|mk (k:Mk) (l:L)|mkD (k:Mk) (l:L) (d:E)
 | meth (m:Mt) (o:E) (es:Es)|ext (o:E) (l:L)|extS (o e:E)|join (o e:E)|mks (k:Mk) (e:E)|mkDs (k:Mk) (e d:E)
inductive Es where
 | nil|cons (e:E) (es:Es)
inductive As where
 | nil|ex (e:E) (as:As)|lam (id:String) (caps:List Nat) (as:As)|fn (f:String) (as:As)
inductive I where
 | seq (e:E)|rng1 (a:E)|rng2 (a b:E)|rng3 (a b:E) (c:Int)|enum (it:I)|zip (a b:I)|items (e:E)
inductive L where
 | comp (tg:Tg) (it:I) (e:E) (caps:List (Option Nat))|compIf (tg:Tg) (it:I) (c e:E) (caps:List (Option Nat))|disp (es:Es)|seq (e:E)|itm (e:E)
end
mutual
inductive S where
 | asg (tg:Tg) (e:E)|setIx (o i e:E)|aug (i:Nat) (e:E)|ex (e:E)|ret (e:E)|retN
 | ite (c:E) (a b:Ss)|whl (c:E) (b:Ss)|for_ (tg:Tg) (it:I) (b:Ss)|pass|cont|brk|raise|und (i:Nat)
inductive Ss where
 | nil|cons (s:S) (ss:Ss)
end
noncomputable abbrev Env:=List (Option D)
noncomputable def ah2 (o:O):M D:=λ s=>.ok (.ref s.length) (s++[o])
noncomputable def pur (d:D):M D:=λ s=>.ok d s
noncomputable def bad {α:Type}:M α:=λ _=>.bad
noncomputable def mulOk (a b:Int):Bool:=decide (a.natAbs<2^64)||decide (b.natAbs<2^64)||(decide (a.natAbs<BIG)&&decide (b.natAbs<BIG))
noncomputable def rep:Nat->List Nat->List Nat
 | 0,_=>[]
 | n+1,a=>a++rep n a
noncomputable def am8:Nat->List D->List D
 | 0,_=>[]
 | n+1,a=>a++am8 n a
noncomputable def qN:BOp->D->D->M D
 | .add,.int a,.int b=>pur (.int (a+b))
 | .add,.str a,.str b=>if a.length+b.length<=LIM then pur (.str (a++b))else bad
 | .add,.tup a,.tup b=>if a.length+b.length<=LIM then pur (.tup (a++b))else bad
 | .add,.ref a,.ref b=>λ s=>match s[a]?,s[b]? with
  | some (.lst l),some (.lst m)=>if l.length+m.length<=LIM then ah2 (.lst (l++m)) s else .bad
  | _,_=>.bad
 | .sub,.int a,.int b=>pur (.int (a - b))
 | .mul,.int a,.int b=>if mulOk a b then pur (.int (a*b))else bad
 | .mul,.str a,.int n=>if 0<=n/\n<=1000000/\a.length*n.toNat<=LIM then pur (.str (rep n.toNat a))else bad
 | .mul,.tup a,.int n=>if 0<=n/\n<=1000000/\a.length*n.toNat<=LIM then pur (.tup (am8 n.toNat a))else bad
 | .mul,.ref a,.int n=>λ s=>match s[a]? with
  | some (.lst l)=>if 0<=n/\n<=1000000/\l.length*n.toNat<=LIM then ah2 (.lst (am8 n.toNat l)) s else .bad
  | _=>.bad
 | .fdiv,.int a,.int b=>if 0<b/\b<(DIVL:Int)then pur (.int (a / b))else bad
 | .mod,.int a,.int b=>if 0<b then pur (.int (a % b))else bad
 | .pow,.int a,.int b=>if 0<=b/\b<=1000000/\a.natAbs<2^64 then pur (.int (a^b.toNat))else bad
 | .shl,.int a,.int b=>if 0<=b/\b<=1000000/\a.natAbs<2^64 then pur (.int (a*2^b.toNat))else bad
 | .shr,.int a,.int b=>if 0<=b then pur (.int (a / 2^b.toNat))else bad
 | .band,.int a,.int b=>if 0<=a/\b=1 then pur (.int (a % 2))else bad
 | _,_,_=>bad
noncomputable def kd (s:Sto):D->Nat
 | .non=>0|.bl _=>1|.int _=>1|.str _=>2|.tup _=>3
 | .ref r=>match s[r]? with|some (.lst _)=>4|_=>9
 | _=>9
noncomputable def aC2 (a b:Nat):Bool:=a==9||b==9||a==b
noncomputable def b2i (b:Bool):Int:=if b then 1 else 0
noncomputable def aI6:D->D->Option Bool
 | .non,.non=>some true
 | .bl a,.bl b=>some (a==b)
 | .int a,.int b=>some (a==b)
 | .bl a,.int b=>some (b2i a==b)
 | .int a,.bl b=>some (a==b2i b)
 | .str a,.str b=>some (a==b)
 | _,_=>none
noncomputable def ai5 (s:Sto)(a b:D):Option Bool:=match aI6 a b with
 | some z=>some z
 | none=>if aC2 (kd s a) (kd s b)then none else some false
noncomputable def eqL (f:D->D->Option Bool):List D->List D->Option Bool
 | [],[]=>some true
 | [],_::_=>some false
 | _::_,[]=>some false
 | a::l,b::m=>match f a b,eqL f l m with
  | some x,some y=>some (x&&y)
  | _,_=>none
noncomputable def eqv (s:Sto):Nat->D->D->Option Bool
 | 0,a,b=>ai5 s a b
 | n+1,a,b=>match a,b with
  | .tup l,.tup m=>eqL (eqv s n) l m
  | .ref x,.ref y=>match s[x]?,s[y]? with
   | some (.lst l),some (.lst m)=>if l.length=m.length then eqL (eqv s n) l m else some false
   | _,_=>none
  | a,b=>ai5 s a b
noncomputable def DEEP:Nat:=30
noncomputable def eqM (a b:D):M D:=λ s=>match eqv s DEEP a b with
 | some r=>.ok (.bl r) s
 | none=>.bad
noncomputable def inL (s:Sto)(x:D):List D->Option Bool
 | []=>some false
 | y::l=>match eqv s DEEP y x,inL s x l with
  | some a,some b=>some (a||b)
  | _,_=>none
noncomputable def look (k:D):List (D×D)->Option D
 | []=>none
 | (a,v)::l=>if a=k then some v else look k l
noncomputable def inM (a b:D):M Bool:=λ s=>match b with
 | .tup l=>match inL s a l with|some r=>.ok r s|none=>.bad
 | .ref r=>match s[r]? with
  | some (.lst l)=>match inL s a l with|some r=>.ok r s|none=>.bad
  | some (.dic l)=>if a.key then .ok (look a l).isSome s else .bad
  | some (.dit l)=>if a.keyT then .ok (look a l).isSome s else .bad
  | _=>.bad
 | .str y=>match a with|.str [c]=>.ok (decide (c∈y)) s|_=>.bad
 | _=>.bad
noncomputable def qO:COp->D->D->M D
 | .eq,a,b=>eqM a b
 | .ne,a,b=>λ s=>match eqv s DEEP a b with|some r=>.ok (.bl (!r)) s|none=>.bad
 | .lt,.int a,.int b=>pur (.bl (decide (a<b)))
 | .le,.int a,.int b=>pur (.bl (decide (a<=b)))
 | .gt,.int a,.int b=>pur (.bl (decide (b<a)))
 | .ge,.int a,.int b=>pur (.bl (decide (b<=a)))
 | _,_,_=>bad
noncomputable def ixn (n:Nat)(i:Int):Option Nat:=if 0<=i then(if i<n then some i.toNat else none)else if -(n:Int)<=i then some (i+n).toNat else none
noncomputable def sbd (n:Nat)(i:Int):Nat:=if 0<=i then min i.toNat n else(i+n).toNat
noncomputable def loB (n:Nat):Option Int->Nat
 | none=>0
 | some i=>sbd n i
noncomputable def hiB (n:Nat):Option Int->Nat
 | none=>n
 | some i=>sbd n i
noncomputable def aF2 {α:Type}(l:List α)(lo hi:Option Int):List α:=(l.drop (loB l.length lo)).take (hiB l.length hi - loB l.length lo)
noncomputable def ixM (a b:D):M D:=λ s=>match a,b with
 | .tup l,.int i=>match(ixn l.length i).bind λ j=>l[j]? with|some d=>.ok d s|none=>.bad
 | .str l,.int i=>match(ixn l.length i).bind λ j=>l[j]? with|some c=>.ok (.str [c]) s|none=>.bad
 | .ref r,b=>match s[r]? with
  | some (.lst l)=>match b with
   | .int i=>match(ixn l.length i).bind λ j=>l[j]? with|some d=>.ok d s|none=>.bad
   | _=>.bad
  | some (.ro l)=>match b with
   | .int i=>match(ixn l.length i).bind λ j=>l[j]? with|some d=>.ok d s|none=>.bad
   | _=>.bad
  | some (.dic l)=>if b.key then match look b l with|some d=>.ok d s|none=>.bad else .bad
  | some (.dit l)=>if b.keyT then match look b l with|some d=>.ok d s|none=>.bad else .bad
  | _=>.bad
 | _,_=>.bad
noncomputable def slM (a:D)(lo hi:Option Int):M D:=λ s=>match a with
 | .tup l=>.ok (.tup (aF2 l lo hi)) s
 | .str l=>.ok (.str (aF2 l lo hi)) s
 | .ref r=>match s[r]? with
  | some (.lst l)=>ah2 (.lst (aF2 l lo hi)) s
  | _=>.bad
 | _=>.bad
noncomputable def ce4 (a:D):M D:=λ s=>match a with
 | .str l=>.ok (.str l.reverse) s
 | .ref r=>match s[r]? with
  | some (.lst l)=>ah2 (.lst l.reverse) s
  | _=>.bad
 | _=>.bad
noncomputable def at4:List D->Option (List Bool)
 | []=>some []
 | .bl b::l=>(at4 l).map (b::·)
 | _=>none
noncomputable def jn:List D->Option (List Int)
 | []=>some []
 | .int i::l=>(jn l).map (i::·)
 | _=>none
noncomputable def am5:List D->Option (List (List Nat))
 | []=>some []
 | .str i::l=>(am5 l).map (i::·)
 | _=>none
noncomputable def by6 (d:D):M D:=λ s=>match d with
 | .tup l=>.ok (.int l.length) s
 | .str l=>.ok (.int l.length) s
 | .ref r=>match s[r]? with
  | some (.lst l)=>.ok (.int l.length) s
  | some (.ro l)=>.ok (.int l.length) s
  | _=>.bad
 | _=>.bad
noncomputable def isK (k:Nat)(d:D):M D:=λ s=>match d with
 | .non=>.ok (.bl false) s
 | .bl _=>.ok (.bl (k==1||k==2)) s
 | .int _=>.ok (.bl (k==1)) s
 | .str _=>.ok (.bl (k==3)) s
 | .tup _=>.ok (.bl (k==4)) s
 | .ref r=>match s[r]? with
  | some (.lst _)=>.ok (.bl (k==5)) s
  | _=>.bad
 | _=>.bad
noncomputable def bi1 (f:D->M D):List D->M D
 | [d]=>f d
 | _=>bad
noncomputable def bi:Bi->List D->M D
 | .len,l=>bi1 by6 l
 | .abs,l=>λ s=>match jn l with|some [i]=>.ok (.int (if i<0 then -i else i)) s|_=>.bad
 | .int,l=>λ s=>match at4 l with|some [b]=>.ok (.int (if b then 1 else 0)) s|_=>.bad
 | .min2,l=>λ s=>match jn l with|some [a,b]=>.ok (.int (if b<a then b else a)) s|_=>.bad
 | .max2,l=>λ s=>match jn l with|some [a,b]=>.ok (.int (if b > a then b else a)) s|_=>.bad
 | .max3,l=>λ s=>match jn l with|some [a,b,c]=>.ok (.int (max (max a b) c)) s|_=>.bad
 | .isInt,l=>bi1 (isK 1) l
 | .isBool,l=>bi1 (isK 2) l
 | .isStr,l=>bi1 (isK 3) l
 | .isTup,l=>bi1 (isK 4) l
 | .isList,l=>bi1 (isK 5) l
 | _,_=>bad
noncomputable def bM9:List Int->Option Int
 | []=>none
 | a::l=>some (l.foldl min a)
noncomputable def cj0:List Int->Option Int
 | []=>none
 | a::l=>some (l.foldl max a)
noncomputable def ins (a:Int):List Int->List Int
 | []=>[a]
 | b::l=>if a<=b then a::b::l else b::ins a l
noncomputable def bY4:List Int->List Int
 | []=>[]
 | a::l=>ins a (bY4 l)
noncomputable def cn6 (is:List Int):Bool:=is.all (λ i=>decide (-1000000000<=i/\i<=1000000000))&&decide (is.length<=1000000)
noncomputable def mk:Mk->List D->M D
 | .tuple,l=>λ s=>.ok (.tup l) s
 | .list,l=>ah2 (.lst l)
 | .all,l=>λ s=>match at4 l with|some bs=>.ok (.bl (bs.all id)) s|none=>.bad
 | .any,l=>λ s=>match at4 l with|some bs=>.ok (.bl (bs.any id)) s|none=>.bad
 | .sum,l=>λ s=>match jn l with|some is=>if cn6 is then .ok (.int is.sum) s else .bad|none=>.bad
 | .min,l=>λ s=>match(jn l).bind bM9 with|some m=>.ok (.int m) s|none=>.bad
 | .max,l=>λ s=>match(jn l).bind cj0 with|some m=>.ok (.int m) s|none=>.bad
 | .sorted,l=>λ s=>match jn l with|some is=>ah2 (.lst ((bY4 is).map D.int)) s|none=>.bad
 | .lenset,l=>bad
noncomputable def mkD (k:Mk)(l:List D)(d:D):M D:=λ s=>match k with
 | .min=>match jn l with|some is=>(match bM9 is with|some m=>.ok (.int m) s|none=>.ok d s)|none=>.bad
 | .max=>match jn l with|some is=>(match cj0 is with|some m=>.ok (.int m) s|none=>.ok d s)|none=>.bad
 | _=>.bad
noncomputable def aB9 (k v:D)(l:List (D×D)):List (D×D):=if(look k l).isSome then l.map (λ p=>if p.1=k then(p.1,v)else p)else l++[(k,v)]
noncomputable def setIx (o i v:D):Sto->R Unit:=λ s=>match o with
 | .ref r=>match s[r]? with
  | some (.lst l)=>match i with
   | .int i=>match ixn l.length i with|some j=>.ok () (s.set r (.lst (l.set j v)))|none=>.bad
   | _=>.bad
  | some (.dic l)=>if i.key&&decide (l.length<LIM)then .ok () (s.set r (.dic (aB9 i v l)))else .bad
  | some (.dit l)=>if i.keyT&&decide (l.length<LIM)then .ok () (s.set r (.dit (aB9 i v l)))else .bad
  | _=>.bad
 | _=>.bad
noncomputable def cg3 (o k e:D):M D:=λ s=>match o with
 | .ref r=>match s[r]? with
  | some (.dit l)=>if k.keyT then .ok ((look k l).getD e) s else .bad
  | _=>.bad
 | _=>.bad
noncomputable def idx (s:Sto)(x:D):Nat->List D->Option Nat
 | _,[]=>none
 | n,y::l=>match eqv s DEEP y x with
  | some true=>some n
  | some false=>idx s x (n+1) l
  | none=>none
noncomputable def meth:Mt->D->List D->M D
 | .append,.ref r,[d]=>λ s=>match s[r]? with
  | some (.lst l)=>if l.length<LIM then .ok .non (s.set r (.lst (l++[d])))else .bad
  | _=>.bad
 | .pop,.ref r,[]=>λ s=>match s[r]? with
  | some (.lst l)=>match l.getLast? with|some d=>.ok d (s.set r (.lst l.dropLast))|none=>.bad
  | _=>.bad
 | .reverse,.ref r,[]=>λ s=>match s[r]? with
  | some (.lst l)=>.ok .non (s.set r (.lst l.reverse))
  | _=>.bad
 | .clear,.ref r,[]=>λ s=>match s[r]? with
  | some (.lst l)=>.ok .non (s.set r (.lst []))
  | _=>.bad
 | .index,.ref r,[d]=>λ s=>match s[r]? with
  | some (.lst l)=>match inL s d l,idx s d 0 l with|some true,some n=>.ok (.int n) s|_,_=>.bad
  | _=>.bad
 | _,_,_=>bad
noncomputable def bN4 (o:D)(l:List D):M D:=λ s=>match o with
 | .ref r=>match s[r]? with
  | some (.lst m)=>if m.length+l.length<=LIM then .ok .non (s.set r (.lst (m++l)))else .bad
  | _=>.bad
 | _=>.bad
noncomputable def aA6 (x y:D):M D:=λ s=>match x with
 | .str []=>match y with
  | .ref r=>match s[r]? with
   | some (.lst l)=>match am5 l with
    | some ss=>if ss.flatten.length<=LIM then .ok (.str ss.flatten) s else .bad
    | none=>.bad
   | _=>.bad
  | _=>.bad
 | _=>.bad
noncomputable def extS (o d:D):M D:=λ s=>match d with
 | .ref k=>match s[k]? with
  | some (.lst l)=>bN4 o l s
  | _=>.bad
 | _=>.bad
structure Fns where
 call:String->List D->M D
 lam:String->List D->List D->M D
 con:String->Option D
 xcall:String->List D->Sto->Option (String×Sto)
 xc:String->Bool
 xt:String->Bool
noncomputable def aW2 (ρ:Env)(i:Nat):M D:=λ s=>match ρ[i]? with|some (some d)=>.ok d s|_=>.bad
noncomputable def aj5 (ρ:Env):List Nat->Option (List D)
 | []=>some []
 | i::is=>match ρ[i]?,aj5 ρ is with|some (some d),some l=>some (d::l)|_,_=>none
noncomputable def qS (ρ:Env)(caps:List (Option Nat)):Env:=caps.map λ o=>match o with|none=>none|some j=>(ρ[j]?).join
noncomputable def aF8 (ρ:Env)(i:Nat)(d:D):Option Env:=if i < ρ.length then some (ρ.set i (some d))else none
noncomputable def ap9 (ρ:Env)(i:Nat):Option Env:=if i < ρ.length then some (ρ.set i none)else none
noncomputable def ap5 (ρ:Env):List Nat->List D->Option Env
 | [],[]=>some ρ
 | i::is,d::l=>(aF8 ρ i d).bind λ ρ=>ap5 ρ is l
 | _,_=>none
noncomputable def ah7 (ρ:Env):Tg->D->Option Env
 | .one i,d=>aF8 ρ i d
 | .tup is,.tup l=>ap5 ρ is l
 | _,_=>none
structure Sq where
 its:List D
 src:List Nat
noncomputable def aF7 (d:D):M Sq:=λ s=>match d with
 | .tup l=>.ok ⟨l,[]⟩ s
 | .str l=>.ok ⟨l.map λ c=>.str [c],[]⟩ s
 | .ref r=>match s[r]? with
  | some (.lst l)=>.ok ⟨l,[r]⟩ s
  | some (.ro l)=>.ok ⟨l,[]⟩ s
  | _=>.bad
 | _=>.bad
noncomputable def aQ3 (d:D):M Sq:=λ s=>match d with
 | .tup l=>.ok ⟨l,[]⟩ s
 | .str l=>.ok ⟨l.map λ c=>.str [c],[]⟩ s
 | .ref r=>match s[r]? with
  | some (.lst l)=>.ok ⟨l,[r]⟩ s
  | some (.ro l)=>.ok ⟨l,[]⟩ s
  | _=>.bad
 | _=>.bad
noncomputable def bk2 (d:D):M Sq:=λ s=>match d with
 | .tup l=>.ok ⟨l,[]⟩ s
 | .ref r=>match s[r]? with
  | some (.lst l)=>.ok ⟨l,[r]⟩ s
  | some (.ro l)=>.ok ⟨l,[]⟩ s
  | _=>.bad
 | _=>.bad
noncomputable def cm4 (p:D×D):D:=match p.1 with
 | .tup l=>.tup (l++[p.2])
 | _=>.non
noncomputable def ch8 (d:D):Sto->R (List D):=λ s=>match d with
 | .ref r=>match s[r]? with
  | some (.dit l)=>if l.length<=LIM then .ok (l.map cm4) s else .bad
  | _=>.bad
 | _=>.bad
noncomputable def aT5 (d:D):Sto->R (List D):=λ s=>match d with
 | .tup l=>.ok l s
 | .str l=>.ok (l.map λ c=>.str [c]) s
 | .ref r=>match s[r]? with
  | some (.lst l)=>.ok l s
  | some (.ro l)=>.ok l s
  | _=>.bad
 | _=>.bad
noncomputable def bJ4 (d:D):Sto->R (List D):=λ s=>match d with
 | .ref r=>match s[r]? with
  | some (.lst l)=>.ok l s
  | _=>.bad
 | _=>.bad
noncomputable def W62:Int:=4611686018427387904
noncomputable def ai7 (a b:Int):List D:=(aw (b - a).toNat).map λ(k:Nat)=>.int (a+k)
noncomputable def bitsN (i:Int):Nat:=if i=0 then 0 else i.natAbs.log2+1
noncomputable def bT6 (x:D):M D:=λ s=>match x with|.int i=>.ok (.int (bitsN i:Nat)) s|_=>.bad
noncomputable def bO0 (x:D):M D:=λ s=>match x with|.int i=>if 0<=i/\i<=1000000 then ah2 (.lst (ai7 0 i)) s else .bad|_=>.bad
noncomputable def cl8 (a b c:Int):List D:=if 0<c then(aw ((b - a+c - 1) / c).toNat).map λ(k:Nat)=>.int (a+c*k)else(aw ((a - b+(-c) - 1) / (-c)).toNat).map λ(k:Nat)=>.int (a+c*k)
noncomputable def bH6 (n:Nat):List D->List D
 | []=>[]
 | d::l=>.tup [.int n,d]::bH6 (n+1) l
noncomputable def cd4:List D->List D->List D
 | a::l,b::m=>.tup [a,b]::cd4 l m
 | _,_=>[]
noncomputable def chk (s0 s:Sto)(src:List Nat):Bool:=src.all λ r=>decide (s[r]?=s0[r]?)
noncomputable def tru {α:Type}(r:R D)(f:Bool->Sto->R α):R α:=r.bind λ d s=>match d with|.bl b=>f b s|_=>.bad
@[simp] theorem qd {α:Type} (b:Bool) (s:Sto) (f:Bool->Sto->R α):tru (.ok (.bl b) s) f=f b s:=rfl
noncomputable def jb (ok:Sto->Bool)(g:D->Env->Sto->R (Option D×Env)):List D->Env->Sto->R (List D)
 | [],_,s=>if ok s then .ok [] s else .bad
 | d::l,ρ,s=>if ok s then(g d ρ s).bind λ p s=>(jb ok g l p.2 s).bind λ r s=>.ok (match p.1 with|some v=>v::r|none=>r) s else .bad
mutual
noncomputable def ev (F:Fns):E->Env->Sto->R D
 | .var i,ρ,s=>aW2 ρ i s
 | .cst c,_,s=>.ok c.d s
 | .glob x,_,s=>match F.con x with|some d=>.ok d s|none=>.bad
 | .bin op a b,ρ,s=>(ev F a ρ s).bind λ x s=>(ev F b ρ s).bind λ y s=>qN op x y s
 | .neg a,ρ,s=>(ev F a ρ s).bind λ x s=>match x with|.int i=>.ok (.int (-i)) s|_=>.bad
 | .not a,ρ,s=>tru (ev F a ρ s) λ b s=>.ok (.bl (!b)) s
 | .cmp op a b,ρ,s=>(ev F a ρ s).bind λ x s=>(ev F b ρ s).bind λ y s=>qO op x y s
 | .chain o p a b c,ρ,s=>(ev F a ρ s).bind λ x s=>(ev F b ρ s).bind λ y s=>tru (qO o x y s) λ k s=>if k then(ev F c ρ s).bind λ z s=>qO p y z s else .ok (.bl false) s
 | .isN a,ρ,s=>(ev F a ρ s).bind λ x s=>.ok (.bl (decide (x=.non))) s
 | .notN a,ρ,s=>(ev F a ρ s).bind λ x s=>.ok (.bl (!decide (x=.non))) s
 | .isB a b,ρ,s=>(ev F a ρ s).bind λ x s=>match x with|.bl c=>.ok (.bl (c==b)) s|_=>.bad
 | .notB a b,ρ,s=>(ev F a ρ s).bind λ x s=>match x with|.bl c=>.ok (.bl (!(c==b))) s|_=>.bad
 | .and a b,ρ,s=>tru (ev F a ρ s) λ c s=>if c then tru (ev F b ρ s) λ c s=>.ok (.bl c) s else .ok (.bl false) s
 | .or a b,ρ,s=>tru (ev F a ρ s) λ c s=>if c then .ok (.bl true) s else tru (ev F b ρ s) λ c s=>.ok (.bl c) s
 | .ite c a b,ρ,s=>tru (ev F c ρ s) λ k s=>if k then ev F a ρ s else ev F b ρ s
 | .tup es,ρ,s=>(evs F es ρ s).bind λ l s=>.ok (.tup l) s
 | .lst es,ρ,s=>(evs F es ρ s).bind λ l s=>ah2 (.lst l) s
 | .dic .nil .nil,ρ,s=>ah2 (.dic []) s
 | .dic (.cons k .nil) (.cons v .nil),ρ,s=>(ev F k ρ (s++[.dic []])).bind λ kd s1=>(ev F v ρ s1).bind λ vd s2=>if kd.key=true/\s2[s.length]?=some (.dic [])then .ok (.ref s.length) (s2.set s.length (.dic [(kd,vd)]))else .bad
 | .dic _ _,ρ,s=>.bad
 | .dicT,_,s=>ah2 (.dit []) s
 | .get2 o k d,ρ,s=>(ev F o ρ s).bind λ x s=>(ev F k ρ s).bind λ y s=>(ev F d ρ s).bind λ z s=>cg3 x y z s
 | .bitl a,ρ,s=>(ev F a ρ s).bind λ x s=>bT6 x s
 | .lrng a,ρ,s=>(ev F a ρ s).bind λ x s=>bO0 x s
 | .ix a b,ρ,s=>(ev F a ρ s).bind λ x s=>(ev F b ρ s).bind λ y s=>ixM x y s
 | .slL a lo,ρ,s=>(ev F a ρ s).bind λ x s=>(ev F lo ρ s).bind λ y s=>match y with|.int i=>slM x (some i) none s|_=>.bad
 | .slU a hi,ρ,s=>(ev F a ρ s).bind λ x s=>(ev F hi ρ s).bind λ y s=>match y with|.int i=>slM x none (some i) s|_=>.bad
 | .slLU a lo hi,ρ,s=>(ev F a ρ s).bind λ x s=>(ev F lo ρ s).bind λ y s=>match y with|.int i=>(ev F hi ρ s).bind (λ z s=>match z with|.int j=>slM x (some i) (some j) s|_=>.bad)|_=>.bad
 | .rev a,ρ,s=>(ev F a ρ s).bind λ x s=>ce4 x s
 | .call f as,ρ,s=>(al5 F as ρ s).bind λ l s=>F.call f l s
 | .callC f as,ρ,s=>(al5 F as ρ s).bind λ l s=>(F.call f l s).bind λ d s'=>if(d.ncl&&s'.all O.ncl)=true then .ok d s' else .bad
 | .callV i es,ρ,s=>(evs F es ρ s).bind λ l s=>match ρ[i]? with
  | some (some (.fn f))=>F.call f l s
  | some (some (.clo id cs))=>F.lam id cs l s
  | _=>.bad
 | .bi b es,ρ,s=>(evs F es ρ s).bind λ l s=>bi b l s
 | .mk k it,ρ,s=>(evL F it ρ s).bind λ q s=>mk k q s
 | .mkD k it d,ρ,s=>(evL F it ρ s).bind λ q s=>(ev F d ρ s).bind λ d s=>mkD k q d s
 | .meth m o es,ρ,s=>(ev F o ρ s).bind λ x s=>(evs F es ρ s).bind λ l s=>meth m x l s
 | .ext o it,ρ,s=>(ev F o ρ s).bind λ x s=>(evL F it ρ s).bind λ q s=>bN4 x q s
 | .extS o e,ρ,s=>(ev F o ρ s).bind λ x s=>(ev F e ρ s).bind λ y s=>extS x y s
 | .join o e,ρ,s=>(ev F o ρ s).bind λ x s=>(ev F e ρ s).bind λ y s=>aA6 x y s
 | .mks k e,ρ,s=>(ev F e ρ s).bind λ x s=>(bJ4 x s).bind λ q s=>mk k q s
 | .mkDs k e d,ρ,s=>(ev F e ρ s).bind λ x s=>(ev F d ρ s).bind λ z s=>(bJ4 x s).bind λ q s=>mkD k q z s
noncomputable def evs (F:Fns):Es->Env->Sto->R (List D)
 | .nil,_,s=>.ok [] s
 | .cons e es,ρ,s=>(ev F e ρ s).bind λ d s=>(evs F es ρ s).bind λ l s=>.ok (d::l) s
noncomputable def al5 (F:Fns):As->Env->Sto->R (List D)
 | .nil,_,s=>.ok [] s
 | .ex e as,ρ,s=>(ev F e ρ s).bind λ d s=>(al5 F as ρ s).bind λ l s=>.ok (d::l) s
 | .lam id caps as,ρ,s=>match aj5 ρ caps with
  | some cs=>(al5 F as ρ s).bind λ l s=>.ok (.clo id cs::l) s
  | none=>.bad
 | .fn f as,ρ,s=>(al5 F as ρ s).bind λ l s=>.ok (.fn f::l) s
noncomputable def evI (F:Fns):I->Env->Sto->R Sq
 | .seq e,ρ,s=>(ev F e ρ s).bind λ d s=>aF7 d s
 | .rng1 a,ρ,s=>(ev F a ρ s).bind λ x s=>match x with|.int i=>if -W62<=i/\i<W62 then .ok ⟨ai7 0 i,[]⟩ s else .bad|_=>.bad
 | .rng2 a b,ρ,s=>(ev F a ρ s).bind λ x s=>(ev F b ρ s).bind λ y s=>match x,y with|.int i,.int j=>if(-W62<=i/\i<W62)/\-W62<=j/\j<W62 then .ok ⟨ai7 i j,[]⟩ s else .bad|_,_=>.bad
 | .rng3 a b c,ρ,s=>(ev F a ρ s).bind λ x s=>(ev F b ρ s).bind λ y s=>match x,y with|.int i,.int j=>if c=2/\(0<=i/\i<1048576)/\0<=j/\j<1048576 then .ok ⟨cl8 i j c,[]⟩ s else .bad|_,_=>.bad
 | .enum (.seq e),ρ,s=>(ev F e ρ s).bind λ d s=>(bk2 d s).bind λ q s=>.ok ⟨bH6 0 q.its,q.src⟩ s
 | .zip (.seq a) (.seq b),ρ,s=>(ev F a ρ s).bind λ x s=>(ev F b ρ s).bind λ y s=>(aQ3 x s).bind λ p s=>(aQ3 y s).bind λ q s=>.ok ⟨cd4 p.its q.its,p.src++q.src⟩ s
 | .enum _,_,_=>.bad
 | .zip _ _,_,_=>.bad
 | .items e,ρ,s=>.bad
noncomputable def evL (F:Fns):L->Env->Sto->R (List D)
 | .comp tg it e caps,ρ,s=>(evI F it ρ s).bind λ q s0=>if q.its.length<=LIM then jb (λ s=>chk s0 s q.src) (λ d ρ s=>match ah7 ρ tg d with
   | some ρ=>(ev F e ρ s).bind λ v s=>.ok (some v,ρ) s
   | none=>.bad) q.its (qS ρ caps) s0 else .bad
 | .compIf tg it c e caps,ρ,s=>(evI F it ρ s).bind λ q s0=>if q.its.length<=LIM then jb (λ s=>chk s0 s q.src) (λ d ρ s=>match ah7 ρ tg d with
   | some ρ=>tru (ev F c ρ s) λ k s=>if k then(ev F e ρ s).bind λ v s=>.ok (some v,ρ) s else .ok (none,ρ) s
   | none=>.bad) q.its (qS ρ caps) s0 else .bad
 | .disp es,ρ,s=>evs F es ρ s
 | .seq e,ρ,s=>(ev F e ρ s).bind λ d s=>aT5 d s
 | .itm e,ρ,s=>(ev F e ρ s).bind λ d s=>ch8 d s
end
inductive Ct where
 | next (ρ:Env)|ret (d:D)|cont (ρ:Env)|brk (ρ:Env)
noncomputable def aU0 (ok:Sto->Bool)(g:D->Env->Sto->R Ct):List D->Env->Sto->R Ct
 | [],ρ,s=>if ok s then .ok (.next ρ) s else .bad
 | d::l,ρ,s=>if ok s then(g d ρ s).bind λ c s=>match c with
   | .next ρ=>aU0 ok g l ρ s
   | .cont ρ=>aU0 ok g l ρ s
   | .brk ρ=>.ok (.next ρ) s
   | .ret d=>.ok (.ret d) s
  else .bad
noncomputable def al7 (c:Env->Sto->R D)(g:Env->Sto->R Ct):Nat->Env->Sto->R Ct
 | 0,_,_=>.bad
 | n+1,ρ,s=>tru (c ρ s) λ b s=>if b then(g ρ s).bind λ c' s=>match c' with
   | .next ρ=>al7 c g n ρ s
   | .cont ρ=>al7 c g n ρ s
   | .brk ρ=>.ok (.next ρ) s
   | .ret d=>.ok (.ret d) s
  else .ok (.next ρ) s
open Classical in
noncomputable def whl (c:Env->Sto->R D)(g:Env->Sto->R Ct)(ρ:Env)(s:Sto):R Ct :=
 if h:∃ n,al7 c g n ρ s≠.bad then al7 c g h.choose ρ s else .bad
mutual
noncomputable def ex (F:Fns):S->Env->Sto->R Ct
 | .asg tg e,ρ,s=>(ev F e ρ s).bind λ d s=>match ah7 ρ tg d with|some ρ=>.ok (.next ρ) s|none=>.bad
 | .setIx o i e,ρ,s=>(ev F e ρ s).bind λ d s=>(ev F o ρ s).bind λ x s=>(ev F i ρ s).bind λ y s=>(setIx x y d s).bind λ _ s=>.ok (.next ρ) s
 | .aug i e,ρ,s=>(aW2 ρ i s).bind λ x s=>(ev F e ρ s).bind λ y s=>match x,y with
  | .int a,.int b=>match aF8 ρ i (.int (a+b))with|some ρ=>.ok (.next ρ) s|none=>.bad
  | _,_=>.bad
 | .ex e,ρ,s=>(ev F e ρ s).bind λ _ s=>.ok (.next ρ) s
 | .ret e,ρ,s=>(ev F e ρ s).bind λ d s=>.ok (.ret d) s
 | .retN,_,s=>.ok (.ret .non) s
 | .ite c a b,ρ,s=>tru (ev F c ρ s) λ k s=>if k then exs F a ρ s else exs F b ρ s
 | .whl c b,ρ,s=>whl (ev F c) (exs F b) ρ s
 | .for_ tg it b,ρ,s=>(evI F it ρ s).bind λ q s0=>aU0 (λ s=>chk s0 s q.src) (λ d ρ s=>match ah7 ρ tg d with
   | some ρ=>exs F b ρ s
   | none=>.bad) q.its ρ s0
 | .pass,ρ,s=>.ok (.next ρ) s
 | .cont,ρ,s=>.ok (.cont ρ) s
 | .brk,ρ,s=>.ok (.brk ρ) s
 | .raise,_,_=>.bad
 | .und i,ρ,s=>match ap9 ρ i with|some ρ=>.ok (.next ρ) s|none=>.bad
noncomputable def exs (F:Fns):Ss->Env->Sto->R Ct
 | .nil,ρ,s=>.ok (.next ρ) s
 | .cons st ss,ρ,s=>(ex F st ρ s).bind λ c s=>match c with|.next ρ=>exs F ss ρ s|c=>.ok c s
end
structure Df where
 name:String
 ps:Nat
 vs:Nat
 body:Ss
structure Lm where
 id:String
 ps:Nat
 cs:Nat
 body:E
inductive HT where
 | isi (cs:List String)|one (c:String)|not (t:HT)|or (a b:HT)
inductive Hd where
 | ret (t:HT)|iff (t:HT) (b:Bool) (h:Hd)
noncomputable def subC (c d:String):Bool:=c==d||(d == "TollError"||d == "ValueError")
noncomputable def HT.val (c:String):HT->Bool
 | .isi cs=>cs.any (subC c)
 | .one d=>subC c d
 | .not t=>!t.val c
 | .or a b=>if a.val c then true else b.val c
noncomputable def HT.ok (p:String->Bool):HT->Bool
 | .isi cs=>cs.all p
 | .one d=>p d
 | .not t=>t.ok p
 | .or a b=>a.ok p&&b.ok p
noncomputable def Hd.val (c:String):Hd->Bool
 | .ret t=>t.val c
 | .iff t b h=>if t.val c then b else h.val c
noncomputable def Hd.ok (p:String->Bool):Hd->Bool
 | .ret t=>t.ok p
 | .iff t _ h=>t.ok p&&h.ok p
inductive XB where
 | no|rais (c:String)|call (f:String) (as:As)|iteT (c:E) (a r:XB)|seq (s:S) (b:XB)
noncomputable def xB (F:Fns):XB->Env->Sto->Option (String×Sto)
 | .no,_,_=>none
 | .rais c,_,s=>if F.xc c=true then some (c,s)else none
 | .call f as,ρ,s=>match al5 F as ρ s with|.ok l s1=>F.xcall f l s1|_=>none
 | .iteT c a r,ρ,s=>match ev F c ρ s with|.ok (.bl b) s1=>if b then xB F a ρ s1 else xB F r ρ s1|_=>none
 | .seq st b,ρ,s=>match ex F st ρ s with|.ok (.next ρ1) s1=>xB F b ρ1 s1|_=>none
structure Xf where
 ps:Nat
 vs:Nat
 body:XB
structure Tf where
 ps:Nat
 vs:Nat
 body:Ss
 xb:XB
 c:String
 i:Nat
 h:Hd
 tl:Ss
structure Pr where
 df:String->Option Df
 lm:String->Option Lm
 con:String->Option D
 xf:String->Option Xf
 tf:String->Option Tf
 xc:String->Bool
 xt:String->Bool
noncomputable def as9 (st st':Sto):Bool:=(aw st.length).all λ i=>decide (st'[i]?=st[i]?)||(match st'[i]? with|some o=>o.bnd st.length|none=>false)
noncomputable def af7 (st:Sto)(d:D)(st':Sto):R D :=
 if as9 st st' then
  match d with
  | .ref r=>if r<st.length then .ok d (st'.take st.length)else match st'[r]? with
   | some o=>if o.bnd st.length then .ok (.ref st.length) (st'.take st.length++[o])else .ok d st'
   | none=>.bad
  | d=>if d.bnd st.length then .ok d (st'.take st.length)else .ok d st'
 else .ok d st'
noncomputable def bt4 (F:Fns)(d:Tf)(l:List D)(s:Sto):R D:=match xB F d.xb (l.map some++av d.vs none) s with
 | some (c,s')=>if c=d.c/\F.xc c=true/\d.h.ok F.xt=true then af7 s (.bl (d.h.val c)) s' else .bad
 | none=>(exs F d.body (l.map some++av d.vs none) s).bind λ c s1=>match c with
  | .ret v=>af7 s v s1
  | .next ρ=>(exs F d.tl ρ s1).bind λ c s2=>match c with
   | .ret v=>af7 s v s2
   | .next _=>af7 s .non s2
   | _=>.bad
  | _=>.bad
noncomputable def aa1 (P:Pr):Nat->Fns
 | 0=>⟨λ _ _ _=>.bad,λ _ _ _ _=>.bad,P.con,λ _ _ _=>none,P.xc,P.xt⟩
 | n+1=>⟨λ f l s=>match P.df f with
   | some d=>if l.length=d.ps then(exs (aa1 P n) d.body (l.map some++av d.vs none) s).bind λ c s'=>match c with
     | .ret v=>af7 s v s'
     | .next _=>af7 s .non s'
     | _=>.bad else .bad
   | none=>match P.tf f with
    | some d=>if l.length=d.ps then bt4 (aa1 P n) d l s else .bad
    | none=>.bad,
  λ id cs l s=>match P.lm id with
   | some d=>if l.length=d.ps/\cs.length=d.cs/\(D.nclL l&&D.nclL cs&&s.all O.ncl)=true then(ev (aa1 P n) d.body (l.map some++cs.map some) s).bind λ v s'=>af7 s v s' else .bad
   | none=>.bad,P.con,
  λ f l s=>match P.xf f with
   | some d=>if l.length=d.ps then xB (aa1 P n) d.body (l.map some++av d.vs none) s else none
   | none=>none,P.xc,P.xt⟩
def KP (s s':Sto):Prop:=∀(i:Nat) (o:O),s[i]?=some o->∃ o',s'[i]?=some o'/\o'.kd=o.kd
theorem KP.refl (s:Sto):KP s s:=λ i o h=>⟨o,h,rfl⟩
theorem KP.trans {a b c:Sto}(h:KP a b)(g:KP b c):KP a c:=λ i o e=>by
 obtain⟨p,e1,k1⟩:=h i o e
 obtain⟨o2,e2,k2⟩:=g i p e1
 exact⟨o2,e2,k2.trans k1⟩
theorem KP.app (s t:Sto):KP s (s++t):=λ i o e=>⟨o,by rw[aA (ae.mp e).1];exact e,rfl⟩
theorem KP.set {s:Sto}{r:Nat}{o p:O}(h:s[r]?=some p)(k:o.kd=p.kd):KP s (s.set r o):=λ i u e=>by
 by_cases z:r=i
 ·subst z
  rw[h]at e;cases e
  exact⟨o,aZ (ae.mp h).1,k⟩
 ·exact⟨u,by rw[be z];exact e,rfl⟩
def KR {α:Type}(s:Sto)(r:R α):Prop:=∀ a s',r=.ok a s'->KP s s'
theorem KR.bad {α:Type}{s:Sto}:KR s (.bad:R α):=λ _ _ h=>by cases h
theorem KR.ok {α:Type}{s:Sto}{a:α}:KR s (.ok a s):=λ _ _ h=>by cases h;exact KP.refl _
theorem KR.bind {α β:Type}{s:Sto}{r:R α}{f:α->Sto->R β}(h:KR s r)(g:∀ a s1,KR s1 (f a s1)):KR s (r.bind f):=λ b s' e=>by
 obtain⟨a,s1,e1,e2⟩:=R.bind_inv e
 exact(h a s1 e1).trans (g a s1 b s' e2)
theorem KR.tru {α:Type}{s:Sto}{r:R D}{f:Bool->Sto->R α}(h:KR s r)(g:∀ a s1,KR s1 (f a s1)):KR s (tru r f):=KR.bind h λ a s1=>by
 cases a with
 | bl b=>exact g b s1
 | _=>exact KR.bad
theorem KR.if {α:Type}{s:Sto}{c:Prop}[Decidable c]{a b:R α}(h:KR s a)(g:KR s b):KR s (if c then a else b):=by split;exact h;exact g
theorem KR.al {s:Sto}{o:O}:KR s (ah2 o s):=λ _ _ h=>by cases h;exact KP.app _ _
theorem KR.pu {s:Sto}{d:D}:KR s (pur d s):=λ _ _ h=>by cases h;exact KP.refl _
theorem KR.bd {s:Sto}:KR s ((DV.bad:M D) s):=λ _ _ h=>by cases h
theorem KR.im {s:Sto}{c:Prop}{_:Decidable c}{d:D}:KR s ((if c then pur d else DV.bad:M D) s):=by split;exact KR.pu;exact KR.bd
theorem KR.ia {s:Sto}{c:Prop}{_:Decidable c}{o:O}:KR s (if c then ah2 o s else .bad):=KR.if KR.al KR.bd
theorem bn9 (op:BOp)(x y:D)(s:Sto):KR s (qN op x y s):=by
 cases op with
 | add=>cases x with
  | int a=>cases y with
   | int b=>exact KR.pu
   | _=>exact KR.bd
  | str a=>cases y with
   | str b=>exact KR.im
   | _=>exact KR.bd
  | tup a=>cases y with
   | tup b=>exact KR.im
   | _=>exact KR.bd
  | ref a=>cases y with
   | ref b =>
    show KR s (match s[a]?,s[b]? with|some (.lst l),some (.lst m)=>if l.length+m.length<=LIM then ah2 (.lst (l++m)) s else .bad|_,_=>.bad)
    split
    ·exact KR.ia
    ·exact KR.bd
   | _=>exact KR.bd
  | _=>exact KR.bd
 | sub=>cases x with
  | int a=>cases y with
   | int b=>exact KR.pu
   | _=>exact KR.bd
  | _=>exact KR.bd
 | mul=>cases x with
  | int a=>cases y with
   | int b=>exact KR.im
   | _=>exact KR.bd
  | str a=>cases y with
   | int b=>exact KR.im
   | _=>exact KR.bd
  | tup a=>cases y with
   | int b=>exact KR.im
   | _=>exact KR.bd
  | ref a=>cases y with
   | int n =>
    show KR s (match s[a]? with|some (.lst l)=>if 0<=n/\n<=1000000/\l.length*n.toNat<=LIM then ah2 (.lst (am8 n.toNat l)) s else .bad|_=>.bad)
    split
    ·exact KR.ia
    ·exact KR.bd
   | _=>exact KR.bd
  | _=>exact KR.bd
 | fdiv=>cases x with
  | int a=>cases y with
   | int b=>exact KR.im
   | _=>exact KR.bd
  | _=>exact KR.bd
 | mod=>cases x with
  | int a=>cases y with
   | int b=>exact KR.im
   | _=>exact KR.bd
  | _=>exact KR.bd
 | pow=>cases x with
  | int a=>cases y with
   | int b=>exact KR.im
   | _=>exact KR.bd
  | _=>exact KR.bd
 | shl=>cases x with
  | int a=>cases y with
   | int b=>exact KR.im
   | _=>exact KR.bd
  | _=>exact KR.bd
 | shr=>cases x with
  | int a=>cases y with
   | int b=>exact KR.im
   | _=>exact KR.bd
  | _=>exact KR.bd
 | band=>cases x with
  | int a=>cases y with
   | int b=>exact KR.im
   | _=>exact KR.bd
  | _=>exact KR.bd
 | _=>exact KR.bd
theorem aV0 (op:COp)(x y:D)(s:Sto):KR s (qO op x y s):=by
 have p:∀ a b:D,KR s (inM a b s):=λ a b=>by
  intro r s' h
  unfold inM at h
  split at h
  ·split at h<;>cases h;exact KP.refl _
  ·split at h
   ·split at h<;>cases h;exact KP.refl _
   ·split at h<;>cases h;exact KP.refl _
   ·split at h<;>cases h;exact KP.refl _
   ·cases h
  ·split at h<;>cases h;exact KP.refl _
  ·cases h
 cases op with
 | isin=>intro a s' h;exact absurd h (by nofun)
 | notin=>intro a s' h;exact absurd h (by nofun)
 | eq=>intro a s' h;change eqM x y s=_ at h;unfold eqM at h;split at h<;>cases h;exact KP.refl _
 | ne =>
  intro a s' h
  change(match eqv s DEEP x y with|some r=>R.ok (D.bl (!r)) s|none=>.bad)=_ at h
  split at h<;>cases h;exact KP.refl _
 | _ =>
  intro a s' h
  cases x with
  | int i=>(cases y with
   | int j=>cases h;exact KP.refl _
   | _=>cases h)
  | _=>cases h
theorem cb3 (x y:D)(s:Sto):KR s (ixM x y s):=by
 intro a s' h
 unfold ixM at h
 repeat' split at h
 all_goals first|(cases h;exact KP.refl _;done)|(cases h;done)
theorem bF5 (x:D)(y p:Option Int)(s:Sto):KR s (slM x y p s):=by
 intro a s' h
 unfold slM at h
 repeat' split at h
 all_goals first|(cases h;exact KP.refl _;done)|(cases h;exact KP.app _ _;done)|(cases h;done)
theorem bw8 (x:D)(s:Sto):KR s (aT5 x s):=by
 intro a s' h
 unfold aT5 at h
 repeat' split at h
 all_goals first|(cases h;exact KP.refl _;done)|(cases h;done)
theorem bc2 (x:D)(s:Sto):KR s (bJ4 x s):=by
 intro a s' h
 unfold bJ4 at h
 repeat' split at h
 all_goals first|(cases h;exact KP.refl _;done)|(cases h;done)
theorem bG4 (x:D)(s:Sto):KR s (aF7 x s):=by
 intro a s' h
 unfold aF7 at h
 repeat' split at h
 all_goals first|(cases h;exact KP.refl _;done)|(cases h;done)
theorem aK8 (x:D)(s:Sto):KR s (aQ3 x s):=by
 intro a s' h
 unfold aQ3 at h
 repeat' split at h
 all_goals first|(cases h;exact KP.refl _;done)|(cases h;done)
theorem bi7 (x:D)(s:Sto):KR s (bk2 x s):=by
 intro a s' h
 unfold bk2 at h
 repeat' split at h
 all_goals first|(cases h;exact KP.refl _;done)|(cases h;done)
theorem bw5 (x y:D)(s:Sto):KR s (aA6 x y s):=by
 intro a s' h
 unfold aA6 at h
 repeat' split at h
 all_goals first|(cases h;exact KP.refl _;done)|(cases h;done)
theorem cg6 (b:Bi)(l:List D)(s:Sto):KR s (bi b l s):=by
 have k1:∀ f:D->M D,(∀ d,KR s (f d s))->KR s (bi1 f l s):=λ f p=>by
  cases l with
  | nil=>exact KR.bad
  | cons d t=>(cases t with
   | nil=>exact p d
   | cons _ _=>exact KR.bad)
 have k2:∀ k d,KR s (isK k d s):=λ k d=>by
  intro a s' h
  unfold isK at h
  repeat' split at h
  all_goals first|(cases h;exact KP.refl _;done)|(cases h;done)
 have k3:∀ d,KR s (by6 d s):=λ d=>by
  intro a s' h
  unfold by6 at h
  repeat' split at h
  all_goals first|(cases h;exact KP.refl _;done)|(cases h;done)
 cases b with
 | len=>exact k1 _ k3
 | isInt=>exact k1 _ (k2 1)
 | isBool=>exact k1 _ (k2 2)
 | isStr=>exact k1 _ (k2 3)
 | isTup=>exact k1 _ (k2 4)
 | isList=>exact k1 _ (k2 5)
 | _ =>
  intro a s' h
  unfold bi at h
  first|(cases h;done)|(simp only at h;split at h<;>first|(cases h;exact KP.refl _;done)|(cases h;done))
theorem bU1 (k:Mk)(l:List D)(s:Sto):KR s (mk k l s):=by
 cases k with
 | tuple=>exact KR.ok
 | list=>exact KR.al
 | lenset=>exact KR.bad
 | _ =>
  intro a s' h
  unfold mk at h
  simp only at h
  repeat' split at h
  all_goals first|(cases h;exact KP.refl _;done)|(cases h;exact KP.app _ _;done)|(cases h;done)
theorem bq1 (k:Mk)(l:List D)(d:D)(s:Sto):KR s (mkD k l d s):=by
 intro a s' h
 unfold mkD at h
 repeat' split at h
 all_goals first|(cases h;exact KP.refl _;done)|(cases h;done)
theorem bv0 (m : Mt) (o : D) (l : List D) (s : Sto) : KR s (meth m o l s) := by
  have lc : ∀ {r : Nat} {f : List D -> R D}, (∀ l, s[r]? = some (.lst l) -> KR s (f l)) -> KR s (match s[r]? with|some (.lst l) => f l|_ => .bad : R D) := λ {r f} h => by
    cases e : s[r]? with
    | none => exact KR.bad
    | some ob => cases ob with
      | lst l => exact h l e
      | _ => exact KR.bad
  cases o with
  | ref r => cases m with
    | append => match l with
      | [d] => exact lc λ l e => KR.if (λ _ _ h => by cases h; exact KP.set e rfl) KR.bad
      | [] => exact KR.bd
      | _ :: _ :: _ => exact KR.bd
    | pop => match l with
      | [] => exact lc λ l e => by
                show KR s (match l.getLast? with|some d => R.ok d (s.set r (.lst l.dropLast))|none => .bad : R D)
                split
                · exact λ _ _ h => by cases h; exact KP.set e rfl
                · exact KR.bad
      | _ :: _ => exact KR.bd
    | reverse => match l with
      | [] => exact lc λ l e => λ _ _ h => by cases h; exact KP.set e rfl
      | _ :: _ => exact KR.bd
    | clear => match l with
      | [] => exact lc λ l e => λ _ _ h => by cases h; exact KP.set e rfl
      | _ :: _ => exact KR.bd
    | index => match l with
      | [d] => exact lc λ l e => by
                show KR s (match inL s d l, idx s d 0 l with|some true, some n => R.ok (.int n) s|_, _ => .bad : R D)
                split
                · exact λ _ _ h => by cases h; exact KP.refl _
                · exact KR.bad
      | [] => exact KR.bd
      | _ :: _ :: _ => exact KR.bd
    | _ => exact KR.bd
  | _ => cases m <;> exact KR.bd
theorem bc3 (o:D)(l:List D)(s:Sto):KR s (bN4 o l s):=by
 intro a s' h
 unfold bN4 at h
 repeat' split at h
 all_goals first|(cases h;done)|(rename_i e _;cases h;exact KP.set e rfl;done)
theorem bj6 (o i v:D)(s:Sto):KR s (setIx o i v s):=by
 intro a s' h
 unfold setIx at h
 cases o with
 | ref r =>
  simp only at h
  cases e:s[r]? with
  | none=>rw[e]at h;cases h
  | some ob =>
   rw[e]at h
   cases ob with
   | lst l =>
    cases i with
    | int k=>simp only at h;split at h<;>cases h;exact KP.set e rfl
    | _=>cases h
   | dic l=>simp only at h;split at h<;>cases h;exact KP.set e rfl
   | dit l=>simp only at h;split at h<;>cases h;exact KP.set e rfl
   | _=>cases h
 | _=>cases h
theorem bz8 (o k e:D)(s:Sto):KR s (cg3 o k e s):=by
 intro a s' h
 unfold cg3 at h
 repeat' split at h
 all_goals first|(cases h;exact KP.refl _;done)|(cases h;done)
theorem bv8 (d:D)(s:Sto):KR s (ch8 d s):=by
 intro a s' h
 unfold ch8 at h
 repeat' split at h
 all_goals first|(cases h;exact KP.refl _;done)|(cases h;done)
structure FK (F:Fns):Prop where
 call:∀ f l s,KR s (F.call f l s)
 lam:∀ id cs l s,KR s (F.lam id cs l s)
 xcall:∀ f l s c s',F.xcall f l s=some (c,s')->KP s s'
theorem ay9 {ok:Sto->Bool}{g:D->Env->Sto->R (Option D×Env)}(h:∀ d ρ s,KR s (g d ρ s)):∀(l:List D) (ρ:Env) (s:Sto),KR s (jb ok g l ρ s)
 | [],ρ,s=>KR.if KR.ok KR.bad
 | d::l,ρ,s=>KR.if (KR.bind (h d ρ s) λ p s1=>KR.bind (ay9 h l p.2 s1) λ r s2=>KR.ok) KR.bad
section
variable {F:Fns} (hF:FK F)
theorem aZ8 (ρ:Env)(i:Nat)(s:Sto):KR s (aW2 ρ i s):=by
 intro a s' h
 unfold aW2 at h
 split at h<;>cases h;exact KP.refl _
include hF
mutual
theorem zb:∀(e:E) (ρ:Env) (s:Sto),KR s (ev F e ρ s)
 | .var i,ρ,s=>aZ8 ρ i s
 | .cst c,ρ,s=>KR.ok
 | .glob x,ρ,s=>by
  intro a s' h
  change(match F.con x with|some d=>R.ok d s|none=>.bad)=_ at h
  split at h<;>cases h;exact KP.refl _
 | .bin op a b,ρ,s=>KR.bind (zb a ρ s) λ x s=>KR.bind (zb b ρ s) λ y s=>bn9 op x y s
 | .neg a,ρ,s=>KR.bind (zb a ρ s) λ x s=>by
  cases x with
  | int i=>exact KR.ok
  | _=>exact KR.bad
 | .not a,ρ,s=>KR.tru (zb a ρ s) λ b s=>KR.ok
 | .cmp op a b,ρ,s=>KR.bind (zb a ρ s) λ x s=>KR.bind (zb b ρ s) λ y s=>aV0 op x y s
 | .chain o p a b c,ρ,s=>KR.bind (zb a ρ s) λ x s=>KR.bind (zb b ρ s) λ y s=>KR.tru (aV0 o x y s) λ k s=>KR.if (KR.bind (zb c ρ s) λ z s=>aV0 p y z s) KR.ok
 | .isN a,ρ,s=>KR.bind (zb a ρ s) λ x s=>KR.ok
 | .notN a,ρ,s=>KR.bind (zb a ρ s) λ x s=>KR.ok
 | .isB a b,ρ,s=>KR.bind (zb a ρ s) λ x s=>by
  cases x with
  | bl i=>exact KR.ok
  | _=>exact KR.bad
 | .notB a b,ρ,s=>KR.bind (zb a ρ s) λ x s=>by
  cases x with
  | bl i=>exact KR.ok
  | _=>exact KR.bad
 | .and a b,ρ,s=>KR.tru (zb a ρ s) λ c s=>KR.if (KR.tru (zb b ρ s) λ c s=>KR.ok) KR.ok
 | .or a b,ρ,s=>KR.tru (zb a ρ s) λ c s=>KR.if KR.ok (KR.tru (zb b ρ s) λ c s=>KR.ok)
 | .ite c a b,ρ,s=>KR.tru (zb c ρ s) λ k s=>KR.if (zb a ρ s) (zb b ρ s)
 | .tup es,ρ,s=>KR.bind (ak2 es ρ s) λ l s=>KR.ok
 | .lst es,ρ,s=>KR.bind (ak2 es ρ s) λ l s=>KR.al
 | .dic .nil .nil,ρ,s=>KR.al
 | .dic (.cons k .nil) (.cons v .nil),ρ,s=>by
  intro a s' h
  obtain⟨kd,s1,e1,h⟩:=R.bind_inv (show(ev F k ρ (s++[.dic []])).bind _=_ from h)
  obtain⟨G,s2,e2,h⟩:=R.bind_inv h
  split at h
  case isFalse=>cases h
  rename_i hc
  cases h
  exact((KP.app _ _).trans ((zb k ρ _ _ _ e1).trans (zb v ρ _ _ _ e2))).trans (KP.set hc.2 rfl)
 | .dic .nil (.cons _ _),ρ,s=>KR.bad
 | .dic (.cons _ .nil) .nil,ρ,s=>KR.bad
 | .dic (.cons _ .nil) (.cons _ (.cons _ _)),ρ,s=>KR.bad
 | .dic (.cons _ (.cons _ _)) _,ρ,s=>KR.bad
 | .dicT,ρ,s=>KR.al
 | .bitl a,ρ,s=>KR.bind (zb a ρ s) λ x s=>by
  intro a s' h
  unfold bT6 at h
  repeat' split at h
  all_goals first|(cases h;exact KP.refl _;done)|(cases h;done)
 | .lrng a,ρ,s=>KR.bind (zb a ρ s) λ x s=>by
  intro a s' h
  unfold bO0 at h
  repeat' split at h
  all_goals first|(cases h;exact KP.app _ _;done)|(cases h;done)
 | .get2 o k d,ρ,s=>KR.bind (zb o ρ s) λ x s=>KR.bind (zb k ρ s) λ y s=>KR.bind (zb d ρ s) λ z s=>bz8 x y z s
 | .ix a b,ρ,s=>KR.bind (zb a ρ s) λ x s=>KR.bind (zb b ρ s) λ y s=>cb3 x y s
 | .slL a lo,ρ,s=>KR.bind (zb a ρ s) λ x s=>KR.bind (zb lo ρ s) λ y s=>by
  cases y with
  | int i=>exact bF5 _ _ _ _
  | _=>exact KR.bad
 | .slU a hi,ρ,s=>KR.bind (zb a ρ s) λ x s=>KR.bind (zb hi ρ s) λ y s=>by
  cases y with
  | int i=>exact bF5 _ _ _ _
  | _=>exact KR.bad
 | .slLU a lo hi,ρ,s=>KR.bind (zb a ρ s) λ x s=>KR.bind (zb lo ρ s) λ y s=>by
  cases y with
  | int i =>
   refine KR.bind (zb hi ρ s) λ z s=>?_
   cases z with
   | int j=>exact bF5 _ _ _ _
   | _=>exact KR.bad
  | _=>exact KR.bad
 | .rev a,ρ,s=>KR.bind (zb a ρ s) λ x s=>by
  cases x with
  | str l=>exact KR.ok
  | ref r =>
   intro a s' h
   unfold ce4 at h
   repeat' split at h
   all_goals first|(cases h;exact KP.refl _;done)|(cases h;exact KP.app _ _;done)|(cases h;done)
  | _=>exact KR.bad
 | .call f as,ρ,s=>KR.bind (al8 as ρ s) λ l s=>hF.call f l s
 | .callC f as,ρ,s=>KR.bind (al8 as ρ s) λ l s=>KR.bind (hF.call f l s) λ d s'=>KR.if KR.ok KR.bad
 | .callV i es,ρ,s=>KR.bind (ak2 es ρ s) λ l s=>by
  intro a s' h
  split at h
  ·exact hF.call _ _ _ _ _ h
  ·exact hF.lam _ _ _ _ _ _ h
  ·cases h
 | .bi b es,ρ,s=>KR.bind (ak2 es ρ s) λ l s=>cg6 b l s
 | .mk k it,ρ,s=>KR.bind (aW6 it ρ s) λ q s=>bU1 k q s
 | .mkD k it d,ρ,s=>KR.bind (aW6 it ρ s) λ q s=>KR.bind (zb d ρ s) λ d s=>bq1 k q d s
 | .meth m o es,ρ,s=>KR.bind (zb o ρ s) λ x s=>KR.bind (ak2 es ρ s) λ l s=>bv0 m x l s
 | .ext o it,ρ,s=>KR.bind (zb o ρ s) λ x s=>KR.bind (aW6 it ρ s) λ q s=>bc3 x q s
 | .extS o e,ρ,s=>KR.bind (zb o ρ s) λ x s=>KR.bind (zb e ρ s) λ y s=>by
  intro a s' h
  unfold extS at h
  repeat' split at h
  all_goals first|(cases h;done)|exact bc3 _ _ _ _ _ h
 | .join o e,ρ,s=>KR.bind (zb o ρ s) λ x s=>KR.bind (zb e ρ s) λ y s=>bw5 x y s
 | .mks k e,ρ,s=>KR.bind (zb e ρ s) λ x s=>KR.bind (bc2 x s) λ q s=>bU1 k q s
 | .mkDs k e d,ρ,s=>KR.bind (zb e ρ s) λ x s=>KR.bind (zb d ρ s) λ z s=>KR.bind (bc2 x s) λ q s=>bq1 k q z s
theorem ak2:∀(es:Es) (ρ:Env) (s:Sto),KR s (evs F es ρ s)
 | .nil,ρ,s=>KR.ok
 | .cons e es,ρ,s=>KR.bind (zb e ρ s) λ d s=>KR.bind (ak2 es ρ s) λ l s=>KR.ok
theorem al8:∀(p:As) (ρ:Env) (s:Sto),KR s (al5 F p ρ s)
 | .nil,ρ,s=>KR.ok
 | .ex e p,ρ,s=>KR.bind (zb e ρ s) λ d s=>KR.bind (al8 p ρ s) λ l s=>KR.ok
 | .lam id caps p,ρ,s=>by
  intro a s' h
  change(match aj5 ρ caps with|some cs=>(al5 F p ρ s).bind λ l s=>R.ok (D.clo id cs::l) s|none=>.bad)=_ at h
  split at h
  ·exact KR.bind (al8 p ρ s) (λ l s=>KR.ok) _ _ h
  ·cases h
 | .fn f p,ρ,s=>KR.bind (al8 p ρ s) λ l s=>KR.ok
theorem aU3:∀(it:I) (ρ:Env) (s:Sto),KR s (evI F it ρ s)
 | .seq e,ρ,s=>KR.bind (zb e ρ s) λ d s=>bG4 d s
 | .rng1 a,ρ,s=>KR.bind (zb a ρ s) λ x s=>by
  cases x with
  | int i=>exact KR.if KR.ok KR.bad
  | _=>exact KR.bad
 | .rng2 a b,ρ,s=>KR.bind (zb a ρ s) λ x s=>KR.bind (zb b ρ s) λ y s=>by
  cases x with
  | int i=>(cases y with
   | int j=>exact KR.if KR.ok KR.bad
   | _=>exact KR.bad)
  | _=>exact KR.bad
 | .rng3 a b c,ρ,s=>KR.bind (zb a ρ s) λ x s=>KR.bind (zb b ρ s) λ y s=>by
  cases x with
  | int i=>(cases y with
   | int j=>exact KR.if KR.ok KR.bad
   | _=>exact KR.bad)
  | _=>exact KR.bad
 | .enum (.seq e),ρ,s=>KR.bind (zb e ρ s) λ d s=>KR.bind (bi7 d s) λ q s=>KR.ok
 | .zip (.seq a) (.seq b),ρ,s=>KR.bind (zb a ρ s) λ x s=>KR.bind (zb b ρ s) λ y s=>KR.bind (aK8 x s) λ p s=>KR.bind (aK8 y s) λ q s=>KR.ok
 | .enum (.rng1 _),ρ,s=>KR.bad
 | .enum (.rng2 _ _),ρ,s=>KR.bad
 | .enum (.rng3 _ _ _),ρ,s=>KR.bad
 | .enum (.enum _),ρ,s=>KR.bad
 | .enum (.zip _ _),ρ,s=>KR.bad
 | .enum (.items _),ρ,s=>KR.bad
 | .zip (.rng1 _) _,ρ,s=>KR.bad
 | .zip (.rng2 _ _) _,ρ,s=>KR.bad
 | .zip (.rng3 _ _ _) _,ρ,s=>KR.bad
 | .zip (.enum _) _,ρ,s=>KR.bad
 | .zip (.zip _ _) _,ρ,s=>KR.bad
 | .zip (.items _) _,ρ,s=>KR.bad
 | .zip (.seq _) (.rng1 _),ρ,s=>KR.bad
 | .zip (.seq _) (.rng2 _ _),ρ,s=>KR.bad
 | .zip (.seq _) (.rng3 _ _ _),ρ,s=>KR.bad
 | .zip (.seq _) (.enum _),ρ,s=>KR.bad
 | .zip (.seq _) (.zip _ _),ρ,s=>KR.bad
 | .zip (.seq _) (.items _),ρ,s=>KR.bad
 | .items e,ρ,s=>KR.bad
theorem aW6:∀(it:L) (ρ:Env) (s:Sto),KR s (evL F it ρ s)
 | .comp tg it e caps,ρ,s=>KR.bind (aU3 it ρ s) λ q s0=>KR.if (ay9 (λ d ρ s=>by
   intro a s' h
   split at h
   ·exact KR.bind (zb e _ s) (λ v s=>KR.ok) _ _ h
   ·cases h) _ _ _) KR.bad
 | .compIf tg it c e caps,ρ,s=>KR.bind (aU3 it ρ s) λ q s0=>KR.if (ay9 (λ d ρ s=>by
   intro a s' h
   split at h
   ·exact KR.tru (zb c _ s) (λ k s=>KR.if (KR.bind (zb e _ s) λ v s=>KR.ok) KR.ok) _ _ h
   ·cases h) _ _ _) KR.bad
 | .disp es,ρ,s=>ak2 es ρ s
 | .seq e,ρ,s=>KR.bind (zb e ρ s) λ d s=>bw8 d s
 | .itm e,ρ,s=>KR.bind (zb e ρ s) λ d s=>bv8 d s
end
theorem aG5 {ok:Sto->Bool}{g:D->Env->Sto->R Ct}(h:∀ d ρ s,KR s (g d ρ s)):∀(l:List D) (ρ:Env) (s:Sto),KR s (aU0 ok g l ρ s)
 | [],ρ,s=>KR.if KR.ok KR.bad
 | d::l,ρ,s=>KR.if (KR.bind (h d ρ s) λ c s=>by
   cases c with
   | next ρ=>exact aG5 h l ρ s
   | cont ρ=>exact aG5 h l ρ s
   | brk ρ=>exact KR.ok
   | ret d=>exact KR.ok) KR.bad
theorem aI0 {c:Env->Sto->R D}{g:Env->Sto->R Ct}(hc:∀ ρ s,KR s (c ρ s))(h:∀ ρ s,KR s (g ρ s)):∀(n:Nat) (ρ:Env) (s:Sto),KR s (al7 c g n ρ s)
 | 0,ρ,s=>KR.bad
 | n+1,ρ,s=>KR.tru (hc ρ s) λ b s=>KR.if (KR.bind (h ρ s) λ p s=>by
   cases p with
   | next ρ=>exact aI0 hc h n ρ s
   | cont ρ=>exact aI0 hc h n ρ s
   | brk ρ=>exact KR.ok
   | ret d=>exact KR.ok) KR.ok
mutual
theorem bW9:∀(st:S) (ρ:Env) (s:Sto),KR s (ex F st ρ s)
 | .asg tg e,ρ,s=>KR.bind (zb hF e ρ s) λ d s=>by
  intro a s' h
  split at h<;>cases h;exact KP.refl _
 | .setIx o i e,ρ,s=>KR.bind (zb hF e ρ s) λ d s=>KR.bind (zb hF o ρ s) λ x s=>KR.bind (zb hF i ρ s) λ y s=>KR.bind (bj6 x y d s) λ _ s=>KR.ok
 | .aug i e,ρ,s=>KR.bind (aZ8 ρ i s) λ x s=>KR.bind (zb hF e ρ s) λ y s=>by
  intro a s' h
  repeat' split at h
  all_goals first|(cases h;exact KP.refl _;done)|(cases h;done)
 | .ex e,ρ,s=>KR.bind (zb hF e ρ s) λ d s=>KR.ok
 | .ret e,ρ,s=>KR.bind (zb hF e ρ s) λ d s=>KR.ok
 | .retN,ρ,s=>KR.ok
 | .ite c a b,ρ,s=>KR.tru (zb hF c ρ s) λ k s=>KR.if (am3 a ρ s) (am3 b ρ s)
 | .whl c b,ρ,s=>by
  intro r s' h
  change whl (ev F c) (exs F b) ρ s=_ at h
  unfold whl at h
  split at h
  ·exact aI0 hF (λ ρ s=>zb hF c ρ s) (λ ρ s=>am3 b ρ s) _ ρ s _ _ h
  ·cases h
 | .for_ tg it b,ρ,s=>KR.bind (aU3 hF it ρ s) λ q s0=>aG5 hF (λ d ρ s=>by
   intro a s' h
   split at h
   ·exact am3 b _ _ _ _ h
   ·cases h) _ _ _
 | .pass,ρ,s=>KR.ok
 | .cont,ρ,s=>KR.ok
 | .brk,ρ,s=>KR.ok
 | .raise,ρ,s=>KR.bad
 | .und i,ρ,s=>by
  intro a s' h
  change(match ap9 ρ i with|some ρ=>R.ok (Ct.next ρ) s|none=>.bad)=_ at h
  split at h<;>cases h;exact KP.refl _
theorem am3:∀(h:Ss) (ρ:Env) (s:Sto),KR s (exs F h ρ s)
 | .nil,ρ,s=>KR.ok
 | .cons st h,ρ,s=>KR.bind (bW9 st ρ s) λ c s=>by
  cases c with
  | next ρ=>exact am3 h ρ s
  | _=>exact KR.ok
end
end
theorem qY {s st:Sto}{d:D}(h:KP s st):KR s (af7 s d st):=by
 have tk:∀ t,KP s (st.take s.length++t):=λ t i o e=>by
  obtain⟨y,e',k⟩:=h i o e
  have G:=(ae.mp e).1
  have J:=(ae.mp e').1
  refine⟨y,?_,k⟩
  rw[aA (by rw[br];omega),iX,if_pos G];exact e'
 have p:KP s (st.take s.length):=by have:=tk [];rwa [bo]at this
 intro a s' e
 unfold af7 at e
 repeat' split at e
 all_goals first|(cases e;exact p;done)|(cases e;exact tk _;done)|(cases e;exact h;done)|(cases e;done)
theorem bb1 {F:Fns}(p:FK F):∀(b:XB) (ρ:Env) (s:Sto) (c:String) (s':Sto),xB F b ρ s=some (c,s')->KP s s'
 | .no,ρ,s,c,s',h=>by cases h
 | .rais d,ρ,s,c,s',h=>by
  change(if F.xc d=true then some (d,s)else none)=_ at h
  split at h
  ·cases h;exact KP.refl _
  ·cases h
 | .call f as,ρ,s,c,s',h=>by
  change(match al5 F as ρ s with|.ok l s1=>F.xcall f l s1|_=>none)=_ at h
  split at h
  ·rename_i l s1 e;exact(al8 p as ρ s _ _ e).trans (p.xcall _ _ _ _ _ h)
  ·cases h
 | .iteT d a r,ρ,s,c,s',h=>by
  change(match ev F d ρ s with|.ok (.bl b) s1=>if b then xB F a ρ s1 else xB F r ρ s1|_=>none)=_ at h
  split at h
  ·rename_i b s1 e
   have k:=zb p d ρ s _ _ e
   split at h
   ·exact k.trans (bb1 p a _ _ _ _ h)
   ·exact k.trans (bb1 p r _ _ _ _ h)
  ·cases h
 | .seq st b,ρ,s,c,s',h=>by
  change(match ex F st ρ s with|.ok (.next ρ1) s1=>xB F b ρ1 s1|_=>none)=_ at h
  split at h
  ·rename_i ρ1 s1 e;exact(bW9 p st ρ s _ _ e).trans (bb1 p b _ _ _ _ h)
  ·cases h
theorem bI2 {F:Fns}(p:FK F)(d:Tf)(l:List D)(s:Sto):KR s (bt4 F d l s):=by
 intro a s' h
 unfold bt4 at h
 split at h
 ·rename_i c s1 e
  have k:=bb1 p _ _ _ _ _ e
  split at h
  ·exact qY k _ _ h
  ·cases h
 ·obtain⟨c,s1,e1,h⟩:=R.bind_inv h
  have k1:=am3 p _ _ _ _ _ e1
  cases c with
  | ret v=>exact qY k1 _ _ h
  | next ρ =>
   obtain⟨c,s2,e2,h⟩:=R.bind_inv h
   have k2:=k1.trans (am3 p _ _ _ _ _ e2)
   cases c with
   | ret v=>exact qY k2 _ _ h
   | next ρ=>exact qY k2 _ _ h
   | _=>cases h
  | _=>cases h
theorem ai9 (P:Pr):∀ n,FK (aa1 P n)
 | 0=>⟨λ _ _ _=>KR.bad,λ _ _ _ _=>KR.bad,λ _ _ _ _ _ h=>by cases h⟩
 | n+1=>by
  refine⟨λ f l s=>?_,λ id cs l s=>?_,λ f l s c s' h=>?_⟩
  ·intro a s' h
   unfold aa1 at h
   simp only at h
   split at h
   case h_2 =>
    split at h
    case h_2=>cases h
    split at h
    case isFalse=>cases h
    exact bI2 (ai9 P n) _ _ _ _ _ h
   split at h
   case isFalse=>cases h
   obtain⟨c,s1,e1,h⟩:=R.bind_inv h
   have k1:=am3 (ai9 P n) _ _ _ _ _ e1
   cases c with
   | ret v=>exact qY k1 _ _ h
   | next ρ=>exact qY k1 _ _ h
   | _=>cases h
  ·intro a s' h
   unfold aa1 at h
   simp only at h
   split at h
   case h_2=>cases h
   split at h
   case isFalse=>cases h
   obtain⟨v,s1,e1,h⟩:=R.bind_inv h
   exact qY (zb (ai9 P n) _ _ _ _ _ e1) _ _ h
  ·unfold aa1 at h
   simp only at h
   split at h
   case h_2=>cases h
   split at h
   case isFalse=>cases h
   exact bb1 (ai9 P n) _ _ _ _ _ h
end DV
end
open DV renaming Sto->lh,D->li,Env->ln,R->lp,ev->lr,aa1->lu,LIM->lv,tru->lx,Pr->ly,aB9->lz,Fns->lA,rep->lB,DEEP->lC,ah7->lE,Es->lF,aF2->lG,O->lH,eqv->lI,evs->lJ,kd->lK,eqL->lL,subC->lM,aj5->lN,Bi->lO,Tg->lP,Ct->lQ,am8->lR,sbd->lS,chk->lT,al5->lU,look->lV,As->lW,loB->lX,ah2->lY,ixn->lZ,jn->l7,ai5->l8,aC2->l9,M->ma,at4->mf,ai7->mn,aF8->mq,Sq->mr,qS->mw,mk->my,Lm->mz,Df->mB,hiB->mD,slM->mF,ap5->mG,E->mH,meth->mJ,jb->mK,Mk->mM,Mt->mO,xB->mP,aI6->mQ,COp->mR,pur->mU,bi1->mV,aU0->mW,am5->mY,bi->mZ,BOp->ng,isK->nh,W62->nk,bM9->nq,evI->nr,as9->nu
open DV.D renaming bndL->lj,bnd->lq,hdI->lw,keyS->lD,nclL->l6,ncl->ni
open DV.O renaming bnd->ls,ncl->nj
noncomputable section
namespace L2
theorem fb {α:Type}{d:α}{s:lh}{p:Prop}(h:(DV.R.bad:lp α)=.ok d s):p:=nomatch h
open PySem PySem.Spec PyProof.Rows
structure LamI where
 qual:Str
 params:bA
 body:Expr
 scope:Scope
 ps:List Str
 fr:List Str
 nm:Option (Str×Pos)
def CloAt (H:Hp)(f:Addr)(J:LamI)(cap:List V)(clos:List (Str×Addr)):Prop:=match J.nm with
 | none=>aD3 H f J.qual J.params J.body J.scope J.fr cap clos
 | some p=>ao8 H f p.1 J.qual J.params [.Return (some J.body) p.2] J.scope J.fr cap clos
def aq4 (H:Hp)(f:Addr)(J:LamI)(clos:List (Str×Addr)):Prop:=match J.nm with
 | none=>∃ pm c' ctv,H f=some (aM0 f (bU "<lambda>" J.qual J.params J.body J.scope clos pm (.ref c') ctv))/\H c'=some (jq c' J.qual)
 | some p=>∃ doc pm c' ctv,H f=some (aM0 f (et p.1 J.qual J.params [.Return (some J.body) p.2] J.scope clos .none .none doc pm none (.ref c') ctv))/\H c'=some (jq c' J.qual)
structure Gm where
 K:ac
 fa:String->Option Addr
 lg:String->LamI->Prop
 T:List (Addr×Str)
variable (Γ:Gm)
mutual
noncomputable def RV (φ:Nat->Addr)(H:Hp):li->V->Prop
 | .non,v=>v=.non
 | .bl b,v=>v=.bl b
 | .int i,v=>v=.int i
 | .str x,v=>v=.str ⟨x.toArray⟩/\x.length<=lv
 | .tup l,v=>∃ a xs,v=.ref a/\(SqT Γ.K H a xs/\(lw l=true->H a=some (.tup xs)))/\RVL φ H l xs
 | .ref n,v=>v=.ref (φ n)
 | .fn f,v=>∃ a,Γ.fa f=some a/\v=.ref a
 | .clo id cs,v=>∃ f cap J clos,v=.ref f/\Γ.lg id J/\CloAt H f J cap clos/\cap.length=J.fr.length/\RVL φ H cs cap
noncomputable def RVL (φ:Nat->Addr)(H:Hp):List li->List V->Prop
 | [],xs=>xs=[]
 | d::l,xs=>∃ x r,xs=x::r/\RV φ H d x/\RVL φ H l r
end
noncomputable def ca4:HO->Bool
 | .tup _=>true
 | .frz _ _=>true
 | .ext _=>true
 | _=>false
def Kp (H H':Hp):Prop:=∀ b o,H b=some o->ca4 o=true->H' b=some o
theorem Kp.refl (H:Hp):Kp H H:=λ _ _ h _=>h
theorem Kp.trans {H y p:Hp}(a:Kp H y)(b:Kp y p):Kp H p:=λ c o h f=>b c o (a c o h f) f
theorem Kp.new {H y:Hp}{p:Addr}{o:HO}(a:Kp H y)(h:y p=none):Kp H (upd y p o):=λ c u e f=>by
 have e1:=a c u e f
 rw[zd (zC e1 h)];exact e1
theorem Kp.put {H y:Hp}{p:Addr}{o u:HO}(a:Kp H y)(h:y p=some u)(G:ca4 u=false):Kp H (upd y p o):=λ c v e f=>by
 have e1:=a c v e f
 rw[zd (λ z=>by subst z;rw[h]at e1;cases e1;rw[G]at f;cases f)];exact e1
theorem Kp.sqT {K:ac}{H H':Hp}{a:Addr}{p:List V}(e:Kp H H')(h:SqT K H a p):SqT K H' a p:=by
 rcases h with(h|⟨o,h⟩)|h
 ·exact .inl (.inl (e _ _ h rfl))
 ·exact .inl (.inr ⟨o,e _ _ h rfl⟩)
 ·exact .inr h
theorem aD3.kp {H H':Hp}{f:Addr}{qual:Str}{params:bA}{body:Expr}{scope:Scope}{fr:List Str}{cap:List V}{p:List (Str×Addr)}(h:aD3 H f qual params body scope fr cap p)(e:Kp H H'):aD3 H' f qual params body scope fr cap p:=by
 obtain⟨G,c',y,h1,Z,h3,J,Y,h6⟩:=h
 refine⟨G,c',y,e _ _ h1 rfl,e _ _ Z rfl,λ x c q=>?_,J,Y,λ i x v a b=>?_⟩
 ·obtain⟨o,v,z,d⟩:=h3 x c q
  exact⟨o,v,e _ _ z rfl,d⟩
 ·obtain⟨c,o,u,z1,z2,z3⟩:=h6 i x v a b
  exact⟨c,o,u,z1,e _ _ z2 rfl,z3⟩
theorem ao8.kp {H H':Hp}{f:Addr}{name qual:Str}{params:bA}{body:List Stmt}{scope:Scope}{fr:List Str}{cap:List V}{p:List (Str×Addr)}(h:ao8 H f name qual params body scope fr cap p)(e:Kp H H'):ao8 H' f name qual params body scope fr cap p:=by
 obtain⟨G,J,c',y,h1,h2,h3,Y,Z,h6⟩:=h
 refine⟨G,J,c',y,e _ _ h1 rfl,e _ _ h2 rfl,λ x c q=>?_,Y,Z,λ i x v a b=>?_⟩
 ·obtain⟨o,v,z,d⟩:=h3 x c q
  exact⟨o,v,e _ _ z rfl,d⟩
 ·obtain⟨c,o,u,z1,z2,z3⟩:=h6 i x v a b
  exact⟨c,o,u,z1,e _ _ z2 rfl,z3⟩
theorem CloAt.kp {H H':Hp}{f:Addr}{J:LamI}{cap:List V}{y:List (Str×Addr)}(h:CloAt H f J cap y)(e:Kp H H'):CloAt H' f J cap y:=by
 unfold CloAt at h ⊢
 cases q:J.nm with
 | none=>rw[q]at h;exact aD3.kp h e
 | some p=>rw[q]at h;exact ao8.kp h e
theorem aq4.kp {H H':Hp}{f:Addr}{J:LamI}{y:List (Str×Addr)}(h:aq4 H f J y)(e:Kp H H'):aq4 H' f J y:=by
 unfold aq4 at h ⊢
 cases q:J.nm with
 | none =>
  rw[q]at h
  obtain⟨Y,Z,G,h1,h2⟩:=h
  exact⟨Y,Z,G,e _ _ h1 rfl,e _ _ h2 rfl⟩
 | some p =>
  rw[q]at h
  obtain⟨a0,Y,Z,G,h1,h2⟩:=h
  exact⟨a0,Y,Z,G,e _ _ h1 rfl,e _ _ h2 rfl⟩
theorem CloAt.fn {K:ac}{H:Hp}{f:Addr}{J:LamI}{cap:List V}{y:List (Str×Addr)}(h:CloAt H f J cap y):bB4 K H f:=by
 unfold CloAt at h
 cases q:J.nm with
 | none=>rw[q]at h;obtain⟨Z,c',G,Y,_⟩:=h;exact .inl ⟨_,Y⟩
 | some p=>rw[q]at h;exact ao8.fn h
structure Gw (φ:Nat->Addr)(n:Nat)(H:Hp)(φ':Nat->Addr)(H':Hp):Prop where
 map:∀ i,i<n->φ' i=φ i
 kp:Kp H H'
variable {Γ:Gm}
mutual
theorem RV.monoW {φ φ':Nat->Addr}{n:Nat}{H H':Hp}(g:Gw φ n H φ' H'):∀(d:li) (v:V),d.bnd n=true->RV Γ φ H d v->RV Γ φ' H' d v
 | .non,_,_,h=>by unfold RV at h ⊢;exact h
 | .bl _,_,_,h=>by unfold RV at h ⊢;exact h
 | .int _,_,_,h=>by unfold RV at h ⊢;exact h
 | .str _,_,_,h=>by unfold RV at h ⊢;exact h
 | .tup l,_,b,h=>by
  unfold RV at h ⊢
  unfold lq at b
  obtain⟨a,y,e,q,r⟩:=h
  exact⟨a,y,e,⟨g.kp.sqT q.1,λ z=>g.kp _ _ (q.2 z) rfl⟩,RVL.monoW g l y b r⟩
 | .ref k,_,b,h=>by
  unfold RV at h ⊢
  unfold lq at b
  rw[g.map k (of_decide_eq_true b)];exact h
 | .fn _,_,_,h=>by unfold RV at h ⊢;exact h
 | .clo id cs,_,b,h=>by
  unfold RV at h ⊢
  unfold lq at b
  obtain⟨f,cap,J,p,e,Z,Y,h3,G⟩:=h
  exact⟨f,cap,J,p,e,Z,Y.kp g.kp,h3,RVL.monoW g cs cap b G⟩
theorem RVL.monoW {φ φ':Nat->Addr}{n:Nat}{H H':Hp}(g:Gw φ n H φ' H'):∀(l:List li) (p:List V),lj n l=true->RVL Γ φ H l p->RVL Γ φ' H' l p
 | [],_,_,h=>by unfold RVL at h ⊢;exact h
 | d::l,_,b,h=>by
  unfold RVL at h ⊢
  unfold lj at b
  rw[ag]at b
  obtain⟨x,r,e,q,t⟩:=h
  exact⟨x,r,e,RV.monoW g d x b.1 q,RVL.monoW g l r b.2 t⟩
end
mutual
theorem zy {n m:Nat}(h:n<=m):∀ d:li,d.bnd n=true->d.bnd m=true
 | .non,_=>rfl
 | .bl _,_=>rfl
 | .int _,_=>rfl
 | .str _,_=>rfl
 | .tup l,b=>by unfold lq at b ⊢;exact ac5 h l b
 | .ref k,b=>by unfold lq at b ⊢;exact decide_eq_true (az (of_decide_eq_true b) h)
 | .fn _,_=>rfl
 | .clo _ l,b=>by unfold lq at b ⊢;exact ac5 h l b
theorem ac5 {n m:Nat}(h:n<=m):∀ l:List li,lj n l=true->lj m l=true
 | [],_=>rfl
 | d::l,b=>by
  unfold lj at b ⊢
  rw[ag]at b ⊢
  exact⟨zy h d b.1,ac5 h l b.2⟩
end
theorem ad2 {n:Nat}:∀ {l:List li},lj n l=true↔∀ d∈l,d.bnd n=true
 | []=>by unfold lj;simp
 | d::l=>by
  unfold lj
  rw[ag,ad2 (l:=l)]
  simp
theorem qi {n:Nat}{l m:List li}(h:lj n l=true)(h':lj n m=true):lj n (l++m)=true :=
 ad2.mpr λ d hd=>(cB.mp hd).elim (ad2.mp h d) (ad2.mp h' d)
theorem ax0 {n:Nat}{l m:List li}(h:lj n l=true)(s:∀ d∈m,d∈l):lj n m=true:=ad2.mpr λ d hd=>ad2.mp h d (s d hd)
theorem ak9 {n:Nat}{l:List li}{i:Nat}{d:li}(h:lj n l=true)(e:l[i]?=some d):d.bnd n=true:=ad2.mp h d (bq e)
section
variable {φ:Nat->Addr} {H:Hp}
theorem RVL.nil:RVL Γ φ H [] []:=by unfold RVL;rfl
theorem RVL.cons {d:li}{l:List li}{x:V}{h:List V}(a:RV Γ φ H d x)(b:RVL Γ φ H l h):RVL Γ φ H (d::l) (x::h):=by unfold RVL;exact⟨x,h,rfl,a,b⟩
theorem RVL.unnil {p:List V}(h:RVL Γ φ H [] p):p=[]:=by unfold RVL at h;exact h
theorem RVL.uncons {d:li}{l:List li}{p:List V}(h:RVL Γ φ H (d::l) p):∃ x r,p=x::r/\RV Γ φ H d x/\RVL Γ φ H l r:=by unfold RVL at h;exact h
theorem RVL.length:∀ {l:List li} {p:List V},RVL Γ φ H l p->p.length=l.length
 | [],_,h=>by rw[h.unnil];rfl
 | d::l,_,h=>by
  obtain⟨x,r,rfl,_,t⟩:=h.uncons
  rw[aY,aY,RVL.length t]
theorem RVL.get:∀ {l:List li} {p:List V} {i:Nat} {d:li},RVL Γ φ H l p->l[i]?=some d->∃ x,p[i]?=some x/\RV Γ φ H d x
 | [],_,_,_,_,e=>by simp at e
 | d::l,_,0,d',h,e=>by
  obtain⟨x,r,rfl,q,t⟩:=h.uncons
  have e':d=d':=by simpa using e
  subst e'
  exact⟨x,rfl,q⟩
 | d::l,_,i+1,_,h,e=>by
  obtain⟨x,r,rfl,q,t⟩:=h.uncons
  obtain⟨y,e1,e2⟩:=RVL.get (i:=i) t (by simpa using e)
  exact⟨y,by simpa using e1,e2⟩
theorem RVL.append:∀ {l m:List li} {p ys:List V},RVL Γ φ H l p->RVL Γ φ H m ys->RVL Γ φ H (l++m) (p++ys)
 | [],_,_,_,h,h'=>by rw[h.unnil];exact h'
 | d::l,_,_,_,h,h'=>by
  obtain⟨x,r,rfl,q,t⟩:=h.uncons
  exact .cons q (RVL.append t h')
theorem RVL.drop:∀ {l:List li} {p:List V} (n:Nat),RVL Γ φ H l p->RVL Γ φ H (l.drop n) (p.drop n)
 | _,_,0,h=>h
 | [],_,n+1,h=>by rw[h.unnil];exact .nil
 | d::l,_,n+1,h=>by
  obtain⟨x,r,rfl,q,t⟩:=h.uncons
  exact RVL.drop n t
theorem RVL.take:∀ {l:List li} {p:List V} (n:Nat),RVL Γ φ H l p->RVL Γ φ H (l.take n) (p.take n)
 | _,_,0,h=>.nil
 | [],_,n+1,h=>by rw[h.unnil];exact .nil
 | d::l,_,n+1,h=>by
  obtain⟨x,r,rfl,q,t⟩:=h.uncons
  exact .cons q (RVL.take n t)
theorem RVL.set:∀ {l:List li} {p:List V} {d:li} {x:V} (i:Nat),RVL Γ φ H l p->RV Γ φ H d x->RVL Γ φ H (l.set i d) (p.set i x)
 | [],_,_,_,_,h,_=>by rw[h.unnil];exact .nil
 | d::l,_,_,_,0,h,q=>by
  obtain⟨x,r,rfl,_,t⟩:=h.uncons
  exact .cons q t
 | d::l,_,_,_,i+1,h,q=>by
  obtain⟨x,r,rfl,y,t⟩:=h.uncons
  exact .cons y (RVL.set i t q)
theorem RVL.reverse:∀ {l:List li} {p:List V},RVL Γ φ H l p->RVL Γ φ H l.reverse p.reverse
 | [],_,h=>by rw[h.unnil];exact .nil
 | d::l,_,h=>by
  obtain⟨x,r,rfl,q,t⟩:=h.uncons
  rw[dN,dN]
  exact(RVL.reverse t).append (.cons q .nil)
theorem RV.intE {i:Int}{v:V}(h:RV Γ φ H (.int i) v):v=.int i:=by unfold RV at h;exact h
theorem RV.blE {i:Bool}{v:V}(h:RV Γ φ H (.bl i) v):v=.bl i:=by unfold RV at h;exact h
theorem RV.nonE {v:V}(h:RV Γ φ H .non v):v=.non:=by unfold RV at h;exact h
theorem RV.strE {x:List Nat}{v:V}(h:RV Γ φ H (.str x) v):v=.str ⟨x.toArray⟩:=by unfold RV at h;exact h.1
theorem RV.strL {x:List Nat}{v:V}(h:RV Γ φ H (.str x) v):x.length<=lv:=by unfold RV at h;exact h.2
theorem RV.tupE {l:List li}{v:V}(h:RV Γ φ H (.tup l) v):∃ a p,v=.ref a/\SqT Γ.K H a p/\RVL Γ φ H l p:=by unfold RV at h;obtain⟨a,p,e,q,r⟩:=h;exact⟨a,p,e,q.1,r⟩
theorem RV.tupZ {l:List li}{v:V}(h:RV Γ φ H (.tup l) v):∃ a p,(v=.ref a/\(lw l=true->H a=some (.tup p)))/\SqT Γ.K H a p/\RVL Γ φ H l p:=by unfold RV at h;obtain⟨a,p,e,q,r⟩:=h;exact⟨a,p,⟨e,q.2⟩,q.1,r⟩
theorem RVL.tonil {l:List li}(h:RVL Γ φ H l []):l=[]:=dF.mp h.length.symm
theorem RV.tupK {l:List li}{v:V}(h:RV Γ φ H (.tup l) v)(z:lw l=true):∃ a p,v=.ref a/\H a=some (.tup p)/\RVL Γ φ H l p:=by unfold RV at h;obtain⟨a,p,e,q,r⟩:=h;exact⟨a,p,e,q.2 z,r⟩
theorem RV.refE {n:Nat}{v:V}(h:RV Γ φ H (.ref n) v):v=.ref (φ n):=by unfold RV at h;exact h
theorem RV.intI {i:Int}:RV Γ φ H (.int i) (.int i):=by unfold RV;rfl
theorem RV.blI {i:Bool}:RV Γ φ H (.bl i) (.bl i):=by unfold RV;rfl
theorem RV.nonI:RV Γ φ H .non .non:=by unfold RV;rfl
theorem RV.strI {x:List Nat}(h:x.length<=lv):RV Γ φ H (.str x) (.str ⟨x.toArray⟩):=by unfold RV;exact⟨rfl,h⟩
theorem RV.tupI {l:List li}{a:Addr}{p:List V}(h:H a=some (.tup p))(q:RVL Γ φ H l p):RV Γ φ H (.tup l) (.ref a):=by unfold RV;exact⟨a,p,rfl,⟨SqT.of h,λ _=>h⟩,q⟩
theorem RV.tupC {l:List li}{a:Addr}{p:List V}(h:SqT Γ.K H a p)(z:lw l=true->H a=some (.tup p))(q:RVL Γ φ H l p):RV Γ φ H (.tup l) (.ref a):=by unfold RV;exact⟨a,p,rfl,⟨h,z⟩,q⟩
theorem RV.refI {n:Nat}:RV Γ φ H (.ref n) (.ref (φ n)):=by unfold RV;rfl
end
theorem bx3 {n:Nat}{l:List li}(h:lw (lR n l)=true):lw l=true:=by
 cases n with
 | zero=>cases h
 | succ n =>
  cases l with
  | nil => 
   have:∀ k,lR k ([]:List li)=[]:=λ k=>by
    induction k with
    | zero=>rfl
    | succ k ih=>show[]++lR k []=[];rw[ih];rfl
   rw[this]at h;cases h
  | cons a l =>
   have e:lR (n+1) (a::l)=a::(l++lR n (a::l)):=rfl
   rw[e]at h
   cases a with
   | int _=>rfl
   | _=>cases h
theorem ba3 {α:Type}{l:List α}{p y:Option Int}(h:(lG l p y).length=l.length):lG l p y=l:=by
 unfold lG at h ⊢
 rw[br,d5]at h
 by_cases z:l=[]
 ·subst z;simp
 ·have hp:=io.mpr z
  have e1:lX l.length p=0:=by omega
  rw[e1]at h ⊢
  rw[fu]
  exact b7 (by omega)
def SqF (K:ac)(H:Hp)(a:Addr)(xs:List V):Prop:=SqL K H a xs/\∀ H',Kp H H'->SqL K H' a xs
noncomputable def aI8:li->Option Key
 | .int i=>some (.inl i)
 | .str x=>some (.inr ⟨x.toArray⟩)
 | _=>none
noncomputable def qM:List li->Option (List Key)
 | []=>some []
 | d::l=>match aI8 d,qM l with
  | some k,some r=>some (k::r)
  | _,_=>none
noncomputable def bJ6:li->Option (List Key)
 | .tup l=>if(lw l&&(l.all lD&&decide (l.length<=1000)))=true then qM l else none
 | _=>none
noncomputable def RVD {κ:Type}(kf:li->Option κ)(Γ:Gm)(φ:Nat->Addr)(H:Hp):List (li×li)->List (κ×V)->Prop
 | [],kvs=>kvs=[]
 | (d,e)::l,kvs=>∃ k v r,kvs=(k,v)::r/\kf d=some k/\RV Γ φ H e v/\RVD kf Γ φ H l r
variable (Γ)
noncomputable def RO (φ:Nat->Addr)(H:Hp)(a:Addr):lH->Prop
 | .lst l=>∃ xs,H a=some (.lst xs)/\RVL Γ φ H l xs
 | .ro l=>∃ xs,SqF Γ.K H a xs/\RVL Γ φ H l xs
 | .dic l=>∃ kvs,H a=some (.dK kvs)/\RVD aI8 Γ φ H l kvs
 | .dit l=>∃ kvs,H a=some (.dT kvs)/\RVD bJ6 Γ φ H l kvs
 | .ins _ _=>False
noncomputable abbrev okd:lH->Nat:=DV.O.kd
noncomputable def isMut:lH->Bool
 | .ro _=>false
 | _=>true
structure Rp (φ:Nat->Addr)(H:Hp)(s:lh):Prop where
 inj:∀(i j:Nat) (o o':lH),s[i]?=some o->s[j]?=some o'->isMut o=true->isMut o'=true->φ i=φ j->i=j
 obj:∀(i:Nat) (o:lH),s[i]?=some o->RO Γ φ H (φ i) o
 wf:∀(i:Nat) (o:lH),s[i]?=some o->o.bnd s.length=true
 tab:TabsH Γ.T H
structure RE (φ:Nat->Addr)(H:Hp)(n:Nat)(ρ:ln)(σ:St):Prop where
 len:ρ.length=σ.length
 val:∀(i:Nat) (d:li),ρ[i]?=some (some d)->d.bnd n=true/\∃ v,σ[i]?=some (some v)/\RV Γ φ H d v
structure Gr (φ:Nat->Addr)(s:lh)(H:Hp)(φ':Nat->Addr)(s':lh)(H':Hp):Prop where
 w:Gw φ s.length H φ' H'
 le:s.length<=s'.length
 new:∀ i:Nat,s.length<=i->i<s'.length->H (φ' i)=none
 kd:∀(i:Nat) (o o':lH),s[i]?=some o->s'[i]?=some o'->okd o'=okd o
 st:∀ b,H b≠none->H' b≠none
 fr:∀ b o,H b=some o->(∀ ps,o≠.tbl ps)->(∀(i:Nat) (ob:lH),s[i]?=some ob->isMut ob=true->φ i≠b)->H' b=some o
variable {Γ}
theorem bv5 {o p:lH}(h:okd p=okd o)(m:isMut p=true):isMut o=true:=by
 cases o with
 | ro _=>cases p with
  | ro _=>cases m
  | _=>cases h
 | _=>rfl
theorem Gr.mu {φ φ':Nat->Addr}{s s':lh}{H H':Hp}(g:Gr φ s H φ' s' H')(i:Nat)(o h:lH)(e:s[i]?=some o)(e':s'[i]?=some h)(m:isMut h=true):isMut o=true:=bv5 (g.kd i o h e e') m
theorem Gr.refl (φ:Nat->Addr)(s:lh)(H:Hp):Gr φ s H φ s H:=⟨⟨λ _ _=>rfl,Kp.refl H⟩,am _,λ i G p=>absurd p (by omega),λ i o y e e'=>by rw[e]at e';cases e';rfl,λ _ h=>h,λ _ _ h _ _=>h⟩
theorem Gr.trans {φ φ1 φ2:Nat->Addr}{s s1 s2:lh}{H H1 Z:Hp}(a:Gr φ s H φ1 s1 H1)(b:Gr φ1 s1 H1 φ2 s2 Z)(_h:s.length<=s1.length):Gr φ s H φ2 s2 Z:=by
 refine⟨⟨λ i p=>(b.w.map i (az p a.le)).trans (a.w.map i p),a.w.kp.trans b.w.kp⟩,ao a.le b.le,λ i h1 h2=>?_,λ i o o' e e'=>?_,λ c h=>b.st c (a.st c h),λ c o h Y ne=>?_⟩
 ·by_cases p:i<s1.length
  ·rw[b.w.map i p];exact a.new i h1 p
  ·have e:=b.new i (by omega) h2
   cases q:H (φ2 i)with
   | none=>rfl
   | some o=>exact absurd e (a.st _ (by rw[q];simp))
 ·have hl:i<s1.length:=az (ae.mp e).1 a.le
  obtain⟨y,e1⟩:∃ y,s1[i]?=some y:=⟨s1[i],ah hl⟩
  exact(b.kd i y o' e1 e').trans (a.kd i o y e e1)
 ·refine b.fr c o (a.fr c o h Y ne) Y λ i ob e m z=>?_
  by_cases p:i<s.length
  ·obtain⟨G,J⟩:∃ G,s[i]?=some G:=⟨s[i],ah p⟩
   exact ne i G J (a.mu i G ob J e m) (by rw[<-a.w.map i p];exact z)
  ·have:=a.new i (by omega) (ae.mp e).1
   rw[z,h]at this;cases this
theorem RV.mono {φ φ':Nat->Addr}{s s':lh}{H H':Hp}(g:Gr φ s H φ' s' H')(d:li)(v:V)(b:d.bnd s.length=true)(h:RV Γ φ H d v):RV Γ φ' H' d v:=RV.monoW g.w d v b h
theorem RVL.mono {φ φ':Nat->Addr}{s s':lh}{H H':Hp}(g:Gr φ s H φ' s' H')(d:List li)(v:List V)(b:lj s.length d=true)(h:RVL Γ φ H d v):RVL Γ φ' H' d v:=RVL.monoW g.w d v b h
theorem RE.mono {φ φ':Nat->Addr}{s s':lh}{H H':Hp}{ρ:ln}{σ:St}(h:RE Γ φ H s.length ρ σ)(g:Gr φ s H φ' s' H')(hn:s.length<=s'.length):RE Γ φ' H' s'.length ρ σ :=
 ⟨h.len,λ i d e=>by
  obtain⟨b,v,e1,e2⟩:=h.val i d e
  exact⟨zy hn d b,v,e1,RV.mono g d v b e2⟩⟩
def ai4 (Γ:Gm)(φ:Nat->Addr)(s:lh)(H:Hp)(d:li)(s':lh)(Q:VK):Prop :=
 ∀ v φ' H',Gr φ s H φ' s' H'->s.length<=s'.length->d.bnd s'.length=true->RV Γ φ' H' d v->Rp Γ φ' H' s'->Q v H'
theorem ai4.trans {φ φ1:Nat->Addr}{s s1 s':lh}{H y:Hp}{d:li}{Q:VK}(h:ai4 Γ φ s H d s' Q)(g:Gr φ s H φ1 s1 y)(l:s.length<=s1.length):ai4 Γ φ1 s1 y d s' Q :=
 λ v φ' H' g' G b r p=>h v φ' H' (g.trans g' l) (ao l G) b r p
theorem ai4.here {φ:Nat->Addr}{s:lh}{H:Hp}{d:li}{Q:VK}{v:V}(h:ai4 Γ φ s H d s Q)(p:Rp Γ φ H s)(b:d.bnd s.length=true)(r:RV Γ φ H d v):Q v H :=
 h v φ H (Gr.refl φ s H) (am _) b r p
theorem RVD.monoW {κ:Type}{y:li->Option κ}{φ φ':Nat->Addr}{n:Nat}{H H':Hp}(g:Gw φ n H φ' H'):∀(l:List (li×li)) (p:List (κ×V)),lj n (l.map (·.2))=true->RVD y Γ φ H l p->RVD y Γ φ' H' l p
 | [],_,_,h=>h
 | (d,e)::l,_,b,h=>by
  obtain⟨k,v,r,e1,e2,G,J⟩:=h
  rw[aG]at b
  unfold lj at b
  rw[ag]at b
  exact⟨k,v,r,e1,e2,RV.monoW g e v b.1 G,RVD.monoW g l r b.2 J⟩
theorem RO.mono {φ φ':Nat->Addr}{n:Nat}{H H':Hp}{a:Addr}{o:lH}(h:RO Γ φ H a o)(g:Gw φ n H φ' H')(b:o.bnd n=true)(hl:isMut o=true->∀ u,H a=some u->H' a=some u):RO Γ φ' H' a o:=by
 cases o with
 | lst l =>
  unfold ls at b
  obtain⟨y,e,r⟩:=h
  exact⟨y,hl rfl _ e,RVL.monoW g l y b r⟩
 | ro l =>
  unfold ls at b
  obtain⟨y,e,r⟩:=h
  exact⟨y,⟨e.2 _ g.kp,λ G k=>e.2 _ (g.kp.trans k)⟩,RVL.monoW g l y b r⟩
 | dic l =>
  unfold ls at b
  rw[ag]at b
  obtain⟨p,e,r⟩:=h
  exact⟨p,hl rfl _ e,RVD.monoW g l p b.2 r⟩
 | dit l =>
  unfold ls at b
  rw[ag]at b
  obtain⟨p,e,r⟩:=h
  exact⟨p,hl rfl _ e,RVD.monoW g l p b.2 r⟩
 | ins _ _=>exact h.elim
theorem RO.there {φ:Nat->Addr}{H:Hp}{a:Addr}{o:lH}(h:RO Γ φ H a o)(m:isMut o=true):∃ u,H a=some u/\ca4 u=false/\∀ ps,u≠.tbl ps:=by
 cases o with
 | lst l=>obtain⟨p,e,_⟩:=h;exact⟨_,e,rfl,by nofun⟩
 | ro l=>cases m
 | dic l=>obtain⟨p,e,_⟩:=h;exact⟨_,e,rfl,by nofun⟩
 | dit l=>obtain⟨p,e,_⟩:=h;exact⟨_,e,rfl,by nofun⟩
 | ins _ _=>exact h.elim
theorem Rp.addr {φ:Nat->Addr}{H:Hp}{s:lh}(p:Rp Γ φ H s){i:Nat}{l:List li}(e:s[i]?=some (.lst l)):∃ h,H (φ i)=some (.lst h)/\RVL Γ φ H l h:=p.obj i _ e
theorem qA {n m:Nat}(h:n<=m)(o:lH)(b:o.bnd n=true):o.bnd m=true:=by
 cases o with
 | lst l=>unfold ls at b ⊢;exact ac5 h l b
 | ro l=>unfold ls at b ⊢;exact ac5 h l b
 | dic l =>
  unfold ls at b ⊢
  rw[ag]at b ⊢
  exact⟨ac5 h _ b.1,ac5 h _ b.2⟩
 | dit l =>
  unfold ls at b ⊢
  rw[ag]at b ⊢
  exact⟨ac5 h _ b.1,ac5 h _ b.2⟩
 | ins c l=>unfold ls at b ⊢;exact ac5 h _ b
theorem TabsH.keepF {T:List (Addr×Str)}{H H':Hp}(h:TabsH T H)(k:∀ b o,(ca4 o=true\/∃ ps,o=.tbl ps)->H b=some o->H' b=some o):TabsH T H':=λ y hy=>by
 obtain⟨ps,e,t,c⟩:=h y hy
 refine⟨ps,k _ _ (.inr ⟨_,rfl⟩) e,t,λ pos p q=>?_⟩
 obtain⟨G,e1,e2⟩:=c pos p q
 exact⟨G,e1,k _ _ (.inl rfl) e2⟩
theorem Rp.new {φ:Nat->Addr}{H:Hp}{s:lh}{p:Addr}{u:HO}{o:lH}(r:Rp Γ φ H s)(hp:H p=none)(hb:o.bnd s.length=true)
  (ho:∀ φ' H',Gw φ s.length H φ' H'->H' p=some u->RO Γ φ' H' p o):Gr φ s H (λ i=>if i=s.length then p else φ i) (s++[o]) (upd H p u)/\Rp Γ (λ i=>if i=s.length then p else φ i) (upd H p u) (s++[o]):=by
 have g:Gw φ s.length H (λ i=>if i=s.length then p else φ i) (upd H p u):=⟨λ i y=>if_neg (aH y),(Kp.refl H).new hp⟩
 have key:∀ i G,(s++[o])[i]?=some G->(i<s.length/\s[i]?=some G)\/(i=s.length/\G=o):=λ i G e=>by
  rcases fH i s.length with h|h|h
  ·rw[aA h]at e;exact .inl ⟨h,e⟩
  ·subst h;simp at e;exact .inr ⟨rfl,e.symm⟩
  ·rw[bT (by simp;omega)]at e;cases e
 refine⟨⟨g,by simp,λ i h1 h2=>?_,λ i o1 o2 e1 e2=>?_,λ b hb=>?_,λ b ob hb _ _=>by rw[zd (zC hb hp)];exact hb⟩,λ i j oi Z Y ej mi mj e=>?_,λ i G e=>?_,λ i G e=>?_,r.tab.new hp⟩
 ·rw[aL,cb]at h2
  rw[if_pos (by omega)];exact hp
 ·rcases key i o2 e2 with⟨_,e⟩|⟨y,_⟩
  ·rw[e1]at e;cases e;rfl
  ·have:=(ae.mp e1).1;omega
 ·unfold upd;split
  ·simp
  ·exact hb
 ·rcases key i oi Y with⟨y,Y⟩|⟨y,rfl⟩<;>rcases key j Z ej with⟨hj,ej⟩|⟨hj,ej'⟩
  ·rw[if_neg (aH y),if_neg (aH hj)]at e
   exact r.inj i j oi Z Y ej mi mj e
  ·rw[if_neg (aH y),if_pos hj]at e
   obtain⟨u,J,_,_⟩:=(r.obj i oi Y).there mi
   rw[e,hp]at J;cases J
  ·rw[if_neg (aH hj),if_pos y]at e
   obtain⟨u,J,_,_⟩:=(r.obj j Z ej).there mj
   rw[<-e,hp]at J;cases J
  ·rw[y,hj]
 ·rcases key i G e with⟨y,e⟩|⟨y,rfl⟩
  ·show RO Γ _ _ (if i=s.length then p else φ i) G
   rw[if_neg (aH y)]
   exact(r.obj i G e).mono g (r.wf i G e) λ _ v hv=>by rw[zd (zC hv hp)];exact hv
  ·show RO Γ _ _ (if i=s.length then p else φ i) G
   rw[if_pos y]
   exact ho _ _ g zm
 ·rw[aL,cb]
  rcases key i G e with⟨y,e⟩|⟨y,rfl⟩
  ·exact qA (eD _) _ (r.wf i G e)
  ·exact qA (eD _) _ hb
theorem Rp.set {φ:Nat->Addr}{H:Hp}{s:lh}{k:Nat}{u:HO}{o y:lH}(r:Rp Γ φ H s)(hk:s[k]?=some y)(Y:isMut y=true)(hb:o.bnd s.length=true)
  (ho:∀ H',Gw φ s.length H φ H'->H' (φ k)=some u->RO Γ φ H' (φ k) o) (Z:okd o=okd y:=by rfl):Gr φ s H φ (s.set k o) (upd H (φ k) u)/\Rp Γ φ (upd H (φ k) u) (s.set k o):=by
 obtain⟨v0,G,f0,a0⟩:=(r.obj k y hk).there Y
 have a1:k<s.length:=(ae.mp hk).1
 have g:Gw φ s.length H φ (upd H (φ k) u):=⟨λ _ _=>rfl,(Kp.refl H).put G f0⟩
 have key:∀ i p,(s.set k o)[i]?=some p->(i≠k/\s[i]?=some p)\/(i=k/\p=o):=λ i p e=>by
  by_cases h:i=k
  ·subst h;rw[aZ a1]at e;exact .inr ⟨rfl,(aF e).symm⟩
  ·rw[be (cy h)]at e;exact .inl ⟨h,e⟩
 have mm:∀ i p,(s.set k o)[i]?=some p->isMut p=true->∃ J,s[i]?=some J/\isMut J=true:=λ i p e m=>by
  rcases key i p e with⟨_,e⟩|⟨h,_⟩
  ·exact⟨p,e,m⟩
  ·exact⟨y,by rw[h];exact hk,Y⟩
 refine⟨⟨g,by simp,λ i h1 h2=>by rw[bJ]at h2;omega,λ i o1 o2 e1 e2=>?_,λ b hb=>?_,λ b ob hb nt ne=>by rw[zd (cy (ne k y hk Y))];exact hb⟩,λ i j oi oj ei ej mi mj e=>?_,λ i p e=>?_,λ i p e=>?_,r.tab.keepF λ b v hv q=>?_⟩
 ·rcases key i o2 e2 with⟨_,e⟩|⟨h,rfl⟩
  ·rw[e1]at e;cases e;rfl
  ·subst h;rw[hk]at e1;cases e1;exact Z
 ·unfold upd;split
  ·simp
  ·exact hb
 ·obtain⟨o1,e1,m1⟩:=mm i oi ei mi
  obtain⟨o2,e2,m2⟩:=mm j oj ej mj
  exact r.inj i j o1 o2 e1 e2 m1 m2 e
 ·rcases key i p e with⟨h,e⟩|⟨h,rfl⟩
  ·refine(r.obj i p e).mono g (r.wf i p e) λ m v hv=>?_
   rw[zd λ z=>h (r.inj i k p y e hk m Y z)];exact hv
  ·subst h
   exact ho _ g zm
 ·rw[bJ]
  rcases key i p e with⟨_,e⟩|⟨_,rfl⟩
  ·exact r.wf i p e
  ·exact hb
 ·rw[zd λ z=>by
   subst z;rw[G]at q;cases q
   rcases hv with h|⟨ps,h⟩
   ·rw[f0]at h;cases h
   ·exact a0 _ h]
  exact q
theorem Rp.same {φ:Nat->Addr}{H H':Hp}{s:lh}(r:Rp Γ φ H s)(e:ai1 H H'):Gr φ s H φ s H'/\Rp Γ φ H' s:=by
 have g:Gw φ s.length H φ H':=⟨λ _ _=>rfl,λ b o h _=>e b o h⟩
 exact⟨⟨g,am _,λ i J y=>absurd y (by omega),λ i o G e e'=>by rw[e]at e';cases e';rfl,λ b hb=>by
  cases q:H b with
  | none=>exact absurd q hb
  | some o=>rw[e b o q];simp,λ b o h _ _=>e b o h⟩,r.inj,λ i o h=>(r.obj i o h).mono g (r.wf i o h) λ _ u p=>e _ u p,r.wf,r.tab.same e⟩
section
variable {φ:Nat->Addr} {H:Hp} {s:lh} {Q:VK}
theorem ai4.alloc {l:List li}{y:List V}(h:ai4 Γ φ s H (.ref s.length) (s++[.lst l]) Q)(r:Rp Γ φ H s)(hl:RVL Γ φ H l y)(hb:lj s.length l=true){p:Addr}(hp:H p=none):Q (.ref p) (upd H p (.lst y)):=by
 obtain⟨g,G⟩:=r.new (o:=.lst l) (u:=.lst y) hp hb λ φ' H' g e=>⟨y,e,RVL.monoW g l y hb hl⟩
 have:=h (.ref p) _ _ g (by simp) (by unfold lq;simp) (by unfold RV;simp) G
 exact this
theorem ai4.tup {l:List li}{y:List V}(h:ai4 Γ φ s H (.tup l) s Q)(r:Rp Γ φ H s)(hl:RVL Γ φ H l y)(hb:lj s.length l=true){p:Addr}(hp:H p=none):Q (.ref p) (upd H p (.tup y)):=by
 obtain⟨g,G⟩:=r.same (H':=upd H p (.tup y)) ((ai1.refl H).new hp)
 exact h _ _ _ g (am _) (by unfold lq;exact hb) (RV.tupI zm (RVL.mono g l y hb hl)) G
theorem ai4.put {k:Nat}{l l0:List li}{p:List V}{d:li}{v:V}(h:ai4 Γ φ s H d (s.set k (.lst l)) Q)(r:Rp Γ φ H s)(hk:s[k]?=some (.lst l0))(hl:RVL Γ φ H l p)(hb:lj s.length l=true)
  (hd:d.bnd s.length=true) (hv:RV Γ φ H d v):Q v (upd H (φ k) (.lst p)):=by
 obtain⟨g,y⟩:=r.set (o:=.lst l) (u:=.lst p) hk rfl hb λ H' g e=>⟨p,e,RVL.monoW g l p hb hl⟩
 exact h _ _ _ g (by simp) (by rw[bJ];exact hd) (RV.mono g d v hd hv) y
end
variable {Γ:Gm}
theorem keyOf_inj {a b:li}{k:Key}(ha:aI8 a=some k)(hb:aI8 b=some k):a=b:=by
 cases a with
 | int i =>
  cases ha
  cases b with
  | int j=>cases hb;rfl
  | str y=>cases hb
  | _=>cases hb
 | str x =>
  cases ha
  cases b with
  | int j=>cases hb
  | str y =>
   have h:=aF hb
   injection h with h
   injection h with h
   have p:y=x:=by simpa using h
   rw[p]
  | _=>cases hb
 | _=>cases ha
theorem aw2 {d:li}(h:d.key=true):∃ k,aI8 d=some k:=by
 cases d with
 | int i=>exact⟨_,rfl⟩
 | str x=>exact⟨_,rfl⟩
 | _=>cases h
theorem aM9 {φ:Nat->Addr}{H:Hp}{d:li}{k:Key}{v:V}(h:aI8 d=some k)(r:RV Γ φ H d v):v=kV k:=by
 cases d with
 | int i=>cases h;exact r.intE
 | str x=>cases h;exact r.strE
 | _=>cases h
def bK9 {κ:Type}(kf:li->Option κ):Prop:=∀ {a b:li} {k:κ},kf a=some k->kf b=some k->a=b
theorem au1:∀ {a b:List li} {k:List Key},qM a=some k->qM b=some k->a=b
 | [],[],k,_,_=>rfl
 | [],y::b,k,ha,hb=>by
  cases ha
  unfold qM at hb
  split at hb<;>cases hb
 | x::a,[],k,ha,hb=>by
  cases hb
  unfold qM at ha
  split at ha<;>cases ha
 | x::a,y::b,k,ha,hb=>by
  unfold qM at ha hb
  split at ha
  ·rename_i k1 r1 e1 e2
   cases ha
   split at hb
   ·rename_i k2 G h p
    cases hb
    rw[keyOf_inj e1 h,au1 e2 p]
   ·cases hb
  ·cases ha
theorem av5 {d:li}{k:List Key}(h:bJ6 d=some k):∃ l,d=.tup l/\(lw l=true/\l.all lD=true/\l.length<=1000)/\qM l=some k:=by
 cases d with
 | tup l =>
  have h:(if(lw l&&(l.all lD&&decide (l.length<=1000)))=true then qM l else none)=some k:=h
  by_cases z:(lw l&&(l.all lD&&decide (l.length<=1000)))=true
  ·rw[if_pos z]at h;rw[ag,ag]at z;exact⟨l,rfl,⟨z.1,z.2.1,of_decide_eq_true z.2.2⟩,h⟩
  ·rw[if_neg z]at h;cases h
 | _=>cases h
theorem keyT_inj:bK9 bJ6:=λ ha hb=>by
 obtain⟨l,rfl,_,p⟩:=av5 ha
 obtain⟨m,rfl,_,h⟩:=av5 hb
 rw[au1 p h]
theorem aX9 {d:li}(h:d.keyS=true):∃ k,aI8 d=some k:=by
 cases d with
 | int i=>exact⟨_,rfl⟩
 | str x=>exact⟨_,rfl⟩
 | _=>cases h
theorem aq2:∀ {l:List li},l.all lD=true->∃ k,qM l=some k
 | [],_=>⟨[],rfl⟩
 | d::l,h=>by
  rw[cZ,ag]at h
  obtain⟨k,hk⟩:=aX9 h.1
  obtain⟨r,p⟩:=aq2 h.2
  exact⟨k::r,by unfold qM;rw[hk,p]⟩
theorem aD5 {d:li}(h:d.keyT=true):∃ k,bJ6 d=some k:=by
 cases d with
 | tup l =>
  have h:(lw l&&(l.all lD&&decide (l.length<=1000)))=true:=h
  have h':=h
  rw[ag,ag]at h'
  obtain⟨k,hk⟩:=aq2 h'.2.1
  exact⟨k,by show(if(lw l&&(l.all lD&&decide (l.length<=1000)))=true then qM l else none)=some k;rw[if_pos h];exact hk⟩
 | _=>cases h
theorem bc1 {φ:Nat->Addr}{H:Hp}:∀ {l:List li} {k:List Key} {p:List V},qM l=some k->RVL Γ φ H l p->p=k.map kV
 | [],k,p,h,r=>by cases h;exact r.unnil
 | d::l,k,p,h,r=>by
  unfold qM at h
  split at h
  ·rename_i k1 r1 e1 e2
   cases h
   obtain⟨x,ys,rfl,G,y⟩:=r.uncons
   rw[aM9 e1 G,bc1 e2 y,aG]
  ·cases h
theorem ba7 {φ:Nat->Addr}{H:Hp}{d:li}{k:List Key}{v:V}(h:bJ6 d=some k)(r:RV Γ φ H d v):∃ b,v=.ref b/\H b=some (.tup (k.map kV)):=by
 obtain⟨l,rfl,z,hk⟩:=av5 h
 obtain⟨a,G,e,p,y⟩:=r.tupK z.1
 rw[bc1 hk y]at p
 exact⟨a,e,p⟩
section
variable {κ:Type} [DecidableEq κ] {kf:li->Option κ}
theorem RVD.val {φ:Nat->Addr}{H:Hp}{d:li}{k:κ}(G:bK9 kf)(hk:kf d=some k):∀ {l:List (li×li)} {p:List (κ×V)},RVD kf Γ φ H l p->(lV d l=none/\aO8 p k=none)\/∃ e v,lV d l=some e/\aO8 p k=some v/\RV Γ φ H e v/\e∈l.map (·.2)
 | [],p,h=>by
  have h:p=[]:=h
  subst h
  exact .inl ⟨rfl,rfl⟩
 | (a,e)::l,p,h=>by
  obtain⟨y,v,r,rfl,e2,e3,e4⟩:=h
  by_cases z:a=d
  ·subst z
   rw[hk]at e2;cases e2
   exact .inr ⟨e,v,by unfold lV;rw[if_pos rfl],an1 rfl,e3,by simp⟩
  ·have Y:¬ y=k:=λ q=>z (G e2 (by rw[q];exact hk))
   have J:lV d ((a,e)::l)=lV d l:=by
    conv=>lhs;unfold lV
    rw[if_neg z]
   rw[J,an2 (show ¬(y,v).1=k from Y)]
   rcases RVD.val G hk e4 with q|⟨e',v',Z,q2,q3,q4⟩
   ·exact .inl q
   ·exact .inr ⟨e',v',Z,q2,q3,by simp at q4 ⊢;exact .inr q4⟩
theorem RVD.repl {φ:Nat->Addr}{H:Hp}{d e:li}{k:κ}{v:V}(J:bK9 kf)(hk:kf d=some k)(hv:RV Γ φ H e v):∀ {l:List (li×li)} {y:List (κ×V)},RVD kf Γ φ H l y->RVD kf Γ φ H (l.map λ p=>if p.1=d then(p.1,e)else p) (y.map λ G=>if G.1=k then(G.1,v)else G)
 | [],y,h=>by
  have h:y=[]:=h
  subst h;exact(rfl:([]:List (κ×V))=[])
 | (a,e0)::l,y,h=>by
  obtain⟨Y,v0,r,rfl,e2,e3,Z⟩:=h
  rw[aG,aG]
  by_cases z:a=d
  ·subst z
   rw[hk]at e2;cases e2
   rw[if_pos rfl,if_pos rfl]
   exact⟨k,v,_,rfl,hk,hv,RVD.repl J hk hv Z⟩
  ·have zk:¬ Y=k:=λ q=>z (J e2 (by rw[q];exact hk))
   rw[if_neg z,if_neg zk]
   exact⟨Y,v0,_,rfl,e2,e3,RVD.repl J hk hv Z⟩
theorem RVD.snoc {φ:Nat->Addr}{H:Hp}{d e:li}{k:κ}{v:V}(G:bK9 kf)(hk:kf d=some k)(hv:RV Γ φ H e v):∀ {l:List (li×li)} {p:List (κ×V)},RVD kf Γ φ H l p->RVD kf Γ φ H (l++[(d,e)]) (p++[(k,v)])
 | [],p,h=>by
  have h:p=[]:=h
  subst h;exact⟨k,v,[],rfl,hk,hv,rfl⟩
 | (a,e0)::l,p,h=>by
  obtain⟨y,v0,r,rfl,e2,J,Y⟩:=h
  exact⟨y,v0,_,rfl,e2,J,RVD.snoc G hk hv Y⟩
theorem RVD.put {φ:Nat->Addr}{H:Hp}{d e:li}{k:κ}{v:V}{l:List (li×li)}{p:List (κ×V)}(y:bK9 kf)(hk:kf d=some k)(hv:RV Γ φ H e v)(h:RVD kf Γ φ H l p):RVD kf Γ φ H (lz d e l) (at6 p k v):=by
 unfold lz at6
 rw[ay8]
 rcases h.val y hk with⟨G,q2⟩|⟨e',v',G,q2,_⟩
 ·rw[G,q2];exact h.snoc y hk hv
 ·rw[G,q2];exact h.repl y hk hv
theorem RVD.get {φ:Nat->Addr}{H:Hp}:∀ {l:List (li×li)} {p:List (κ×V)} {i:Nat} {d e:li},RVD kf Γ φ H l p->l[i]?=some (d,e)->∃ k v,p[i]?=some (k,v)/\kf d=some k/\RV Γ φ H e v
 | [],_,_,_,_,_,h=>by cases h
 | (a,b)::l,p,0,d,e,h,q=>by
  obtain⟨k,v,r,rfl,e2,y,G⟩:=h
  cases q
  exact⟨k,v,rfl,e2,y⟩
 | (a,b)::l,p,i+1,d,e,h,q=>by
  obtain⟨k,v,r,rfl,e2,y,G⟩:=h
  exact RVD.get (i:=i) G (show l[i]?=some (d,e)from q)
theorem RVD.keys {φ:Nat->Addr}{H:Hp}:∀ {l:List (li×li)} {p:List (κ×V)},RVD kf Γ φ H l p->∀ kv∈p,∃ d,kf d=some kv.1
 | [],p,h,kv,hk=>by
  have h:p=[]:=h
  subst h;cases hk
 | (a,b)::l,p,h,kv,hk=>by
  obtain⟨k,v,r,rfl,e2,G,y⟩:=h
  rcases aE.mp hk with z|z
  ·subst z;exact⟨a,e2⟩
  ·exact RVD.keys y kv z
theorem RVD.length {φ:Nat->Addr}{H:Hp}:∀ {l:List (li×li)} {p:List (κ×V)},RVD kf Γ φ H l p->p.length=l.length
 | [],p,h=>by
  have h:p=[]:=h
  subst h;rfl
 | (a,e)::l,p,h=>by
  obtain⟨G,v,r,rfl,e2,J,y⟩:=h
  rw[aY,aY,RVD.length y]
end
theorem aP3 {n:Nat}{d e:li}{l:List (li×li)}(h:(DV.O.dic l).bnd n=true)(hd:d.bnd n=true)(y:e.bnd n=true):(DV.O.dic (lz d e l)).bnd n=true:=by
 unfold ls at h ⊢
 rw[ag]at h ⊢
 obtain⟨Y,J⟩:=h
 have g1:=ad2.mp Y
 have G:=ad2.mp J
 unfold lz
 refine⟨ad2.mpr λ x hx=>?_,ad2.mpr λ x hx=>?_⟩
 ·obtain⟨p,hp,rfl⟩:=aS.mp hx
  split at hp
  ·obtain⟨q,hq,rfl⟩:=aS.mp hp
   split
   ·exact g1 _ (bF (f:=(·.1)) hq)
   ·exact g1 _ (bF (f:=(·.1)) hq)
  ·rcases cB.mp hp with q|q
   ·exact g1 _ (bF (f:=(·.1)) q)
   ·rw[cx.mp q];exact hd
 ·obtain⟨p,hp,rfl⟩:=aS.mp hx
  split at hp
  ·obtain⟨q,hq,rfl⟩:=aS.mp hp
   split
   ·exact y
   ·exact G _ (bF (f:=(·.2)) hq)
  ·rcases cB.mp hp with q|q
   ·exact G _ (bF (f:=(·.2)) q)
   ·rw[cx.mp q];exact y
theorem bj2 {n:Nat}{d e:li}{l:List (li×li)}(h:(DV.O.dit l).bnd n=true)(hd:d.bnd n=true)(p:e.bnd n=true):(DV.O.dit (lz d e l)).bnd n=true:=aP3 h hd p
theorem aL8 {f:li->li->Option Bool}{a b:li}{l m:List li}{z:Bool}(h:lL f (a::l) (b::m)=some z):∃ x y,f a b=some x/\lL f l m=some y/\z=(x&&y):=by
 unfold lL at h
 cases e1:f a b with
 | none=>rw[e1]at h;cases h
 | some x =>
  cases e2:lL f l m with
  | none=>rw[e1,e2]at h;cases h
  | some y=>rw[e1,e2]at h;exact⟨x,y,rfl,rfl,(aF h).symm⟩
theorem bg5 {f:li->li->Option Bool}:∀ {l m:List li} {z:Bool},lL f l m=some z->∃ e:Nat->Bool,(∀ j d d',l[j]?=some d->m[j]?=some d'->f d d'=some (e j))/\((l.length==m.length)&&(aw (min l.length m.length)).all e)=z
 | [],[],z,h=>by
  unfold lL at h
  cases h
  exact⟨λ _=>true,λ j d d' h=>by simp at h,by simp⟩
 | [],b::m,z,h=>by
  unfold lL at h
  cases h
  exact⟨λ _=>true,λ j d d' h=>by simp at h,by simp⟩
 | a::l,[],z,h=>by
  unfold lL at h
  cases h
  exact⟨λ _=>true,λ j d d' J p=>by simp at p,by simp⟩
 | a::l,b::m,z,h=>by
  obtain⟨x,y,e1,e2,Y⟩:=aL8 h
  obtain⟨e,J,p⟩:=bg5 e2
  refine⟨λ j=>match j with|0=>x|j+1=>e j,λ j d d' g1 G=>?_,?_⟩
  ·cases j with
   | zero=>simp at g1 G;subst g1;subst G;exact e1
   | succ j=>exact J j d d' (by simpa using g1) (by simpa using G)
  ·rw[aY,aY,show min (l.length+1) (m.length+1)=min l.length m.length+1 by omega,gz,cZ,List.all_map,Y,<-p]
   have:((l.length+1==m.length+1)=(l.length==m.length)):=by
    by_cases q:l.length=m.length
    ·simp[q]
    ·have:¬ l.length+1=m.length+1:=by omega
     simp[q]
   rw[this]
   show((l.length==m.length)&&(x&&(aw _).all e))=_
   cases x<;>cases(l.length==m.length)<;>simp
section
variable {X:Cx} {pins:List (Addr×Obj)} {σ:St} {H:Hp} {sh:af} {φ:Nat->Addr} {s:lh}
theorem ar7 (I:Inv X pins σ H sh){a:Addr}{p ys:List V}(h:H a=some (.lst p))(h':SqT X.K H a ys):False:=by
 rcases h' with(z|⟨o,z⟩)|⟨o,its,n,hk,_⟩
 ·rw[h]at z;cases z
 ·rw[h]at z;cases z
 ·have:=(I.bs a o (I.mod.kin a o hk)).2
  rw[h]at this;cases this
theorem rv_two (I:Inv X pins σ H sh)(hK:X.K=Γ.K)(R:Rp Γ φ H s){a b:li}{x:V}(Y:RV Γ φ H a x)(y:RV Γ φ H b x)(n1:lK s a≠9)(G:lK s b≠9):a=b\/∃ l m p Z,a=.tup l/\b=.tup m/\x=.ref p/\RVL Γ φ H l Z/\RVL Γ φ H m Z:=by
 have J:∀ {r:Nat},lK s (.ref r)≠9->∃ l,s[r]?=some (.lst l):=λ {r} h=>by
  have h:(match s[r]? with|some (DV.O.lst l)=>4|_=>9:Nat)≠9:=h
  cases hs:s[r]? with
  | none=>rw[hs]at h;exact absurd rfl h
  | some o =>
   rw[hs]at h
   cases o with
   | lst l=>exact⟨l,rfl⟩
   | _=>exact absurd rfl h
 cases a with
 | non=>have e:=Y.nonE;subst e;cases b with
  | non=>exact .inl rfl
  | bl _=>cases y.blE
  | int _=>cases y.intE
  | str _=>cases y.strE
  | tup _=>obtain⟨_,_,e,_⟩:=y.tupE;cases e
  | ref _=>cases y.refE
  | fn _=>exact absurd rfl G
  | clo _ _=>exact absurd rfl G
 | bl p=>have e:=Y.blE;subst e;cases b with
  | non=>cases y.nonE
  | bl _=>cases y.blE;exact .inl rfl
  | int _=>cases y.intE
  | str _=>cases y.strE
  | tup _=>obtain⟨_,_,e,_⟩:=y.tupE;cases e
  | ref _=>cases y.refE
  | fn _=>exact absurd rfl G
  | clo _ _=>exact absurd rfl G
 | int p=>have e:=Y.intE;subst e;cases b with
  | non=>cases y.nonE
  | bl _=>cases y.blE
  | int _=>cases y.intE;exact .inl rfl
  | str _=>cases y.strE
  | tup _=>obtain⟨_,_,e,_⟩:=y.tupE;cases e
  | ref _=>cases y.refE
  | fn _=>exact absurd rfl G
  | clo _ _=>exact absurd rfl G
 | str p=>have e:=Y.strE;subst e;cases b with
  | non=>cases y.nonE
  | bl _=>cases y.blE
  | int _=>cases y.intE
  | str q =>
   have e':p.toArray=q.toArray:=Str.mk.inj (V.str.inj y.strE)
   have a0:p=q:=by simpa using congrArg i3 e'
   subst a0;exact .inl rfl
  | tup _=>obtain⟨_,_,e,_⟩:=y.tupE;cases e
  | ref _=>cases y.refE
  | fn _=>exact absurd rfl G
  | clo _ _=>exact absurd rfl G
 | tup l =>
  obtain⟨p,Z,e,q1,d1⟩:=Y.tupE;subst e;cases b with
  | non=>cases y.nonE
  | bl _=>cases y.blE
  | int _=>cases y.intE
  | str _=>cases y.strE
  | tup m =>
   obtain⟨p',ys,e,q2,d2⟩:=y.tupE
   cases e
   rw[<-hK]at q1 q2
   rw[I.tuple_inj q2 q1]at d2
   exact .inr ⟨l,m,p,Z,rfl,rfl,rfl,d1,d2⟩
  | ref r =>
   cases y.refE
   obtain⟨m,hm⟩:=J G
   obtain⟨ys,hy,_⟩:=R.addr hm
   rw[<-hK]at q1
   exact(ar7 I hy q1).elim
  | fn _=>exact absurd rfl G
  | clo _ _=>exact absurd rfl G
 | ref r =>
  have e:=Y.refE;subst e
  obtain⟨l,hl⟩:=J n1
  obtain⟨Z,hx,_⟩:=R.addr hl
  cases b with
  | non=>cases y.nonE
  | bl _=>cases y.blE
  | int _=>cases y.intE
  | str _=>cases y.strE
  | tup m =>
   obtain⟨p',ys,e,q2,d2⟩:=y.tupE
   cases e
   rw[<-hK]at q2
   exact(ar7 I hx q2).elim
  | ref r' =>
   obtain⟨m,hm⟩:=J G
   have e:φ r=φ r':=V.ref.inj y.refE
   rw[R.inj r r' _ _ hl hm rfl rfl e]
   exact .inl rfl
  | fn _=>exact absurd rfl G
  | clo _ _=>exact absurd rfl G
 | fn _=>exact absurd rfl n1
 | clo _ _=>exact absurd rfl n1
theorem ju {a b:li}{z:Bool}(h:l8 s a b=some z):mQ a b=some z\/(mQ a b=none/\l9 (lK s a) (lK s b)=false/\z=false):=by
 unfold l8 at h
 cases e:mQ a b with
 | some w=>rw[e]at h;exact .inl h
 | none =>
  rw[e]at h
  cases q:l9 (lK s a) (lK s b)with
  | true=>rw[q]at h;cases h
  | false=>rw[q]at h;exact .inr ⟨rfl,rfl,(aF h).symm⟩
theorem bo2 {a b:li}{z:Bool}(h:mQ a b=some z):lK s a≠9/\lK s b≠9:=by
 cases a<;>cases b<;>first|(cases h;done)|(constructor<;>(intro z;cases z))
theorem aD9 {a b:li}{z:Bool}(h:l8 s a b=some z):lK s a≠9/\lK s b≠9:=by
 rcases ju h with h|⟨_,h,_⟩
 ·exact bo2 h
 ·unfold l9 at h
  simp only[eA,beq_eq_false_iff_ne]at h
  exact⟨h.1.1,h.1.2⟩
theorem aI2 {a:li}{z:Bool}(h:l8 s a a=some z):z=true:=by
 rcases ju h with h|⟨_,h,_⟩
 ·cases a<;>cases h<;>first|rfl|exact beq_self_eq_true _
 ·unfold l9 at h;simp at h
theorem aN1 (I:Inv X pins σ H sh)(hK:X.K=Γ.K)(R:Rp Γ φ H s):∀(n:Nat) (a b:li) (x:V) (z:Bool),lI s n a b=some z->RV Γ φ H a x->RV Γ φ H b x->z=true:=by
 have Y:∀(a b:li) (x:V) (z:Bool),l8 s a b=some z->RV Γ φ H a x->RV Γ φ H b x->z=true:=by
  intro a b x z h G y
  rcases rv_two I hK R G y (aD9 h).1 (aD9 h).2 with e|⟨l,m,_,_,rfl,rfl,_⟩
  ·subst e;exact aI2 h
  ·rcases ju h with h|⟨_,h,_⟩
   ·cases h
   ·unfold l9 at h;simp[lK]at h
 intro n
 induction n with
 | zero=>intro a b x z h;unfold lI at h;exact Y a b x z h
 | succ n ih =>
  have a0:∀(l m:List li) (J:List V) (z:Bool),lL (lI s n) l m=some z->RVL Γ φ H l J->RVL Γ φ H m J->z=true:=by
   intro l
   induction l with
   | nil =>
    intro m J z h G y
    cases m with
    | nil=>unfold lL at h;exact(aF h).symm
    | cons b m=>obtain⟨x,r,e,_⟩:=y.uncons;rw[G.unnil]at e;cases e
   | cons a l ihl =>
    intro m J z h G y
    cases m with
    | nil=>obtain⟨x,r,e,_⟩:=G.uncons;rw[y.unnil]at e;cases e
    | cons b m =>
     obtain⟨p,q,e1,e2,ez⟩:=aL8 h
     obtain⟨v,r,rfl,g1,g2⟩:=G.uncons
     obtain⟨v',r',e,g3,g4⟩:=y.uncons
     cases e
     rw[ez,ih a b v p e1 g1 g3,ihl m r q e2 g2 g4];rfl
  intro a b x z h G y
  unfold lI at h
  split at h
  ·rename_i l m
   obtain⟨a,J,rfl,q1,d1⟩:=G.tupE
   obtain⟨b,ys,e,q2,Z⟩:=y.tupE
   cases e
   rw[<-hK]at q1 q2
   rw[I.tuple_inj q2 q1]at Z
   exact a0 l m J z h d1 Z
  ·rename_i p q
   split at h
   ·rename_i l m hl hm
    obtain⟨J,e1,d1⟩:=R.addr hl
    obtain⟨ys,e2,Z⟩:=R.addr hm
    have e:=G.refE.symm.trans y.refE
    have e':φ p=φ q:=V.ref.inj e
    rw[e',e2]at e1
    have e3:ys=J:=by injection (aF e1)
    subst e3
    split at h
    ·exact a0 l m ys z h d1 Z
    ·rename_i a1;exact absurd (d1.length.symm.trans Z.length) a1
   ·cases h
  ·exact Y a b x z h G y
end
variable {Γ:Gm}
inductive Vw (sh:af):Nat->Value->Prop where
 | non:Vw sh 0 .none
 | bl (b:Bool):Vw sh 1 (.bool b)
 | int (i:Int) (t:Tok):Vw sh 1 (.int i t)
 | str (x:Str) (t:Tok):Vw sh 2 (.str x t)
 | tup {l:Addr} {items:Array Value} (h:sh.heap.IsTuple l items):Vw sh 3 (.ref l)
 | lst {l:Addr} {items:Array Value} (h:sh.heap.IsList l items):Vw sh 4 (.ref l)
theorem Vw.eq {A:aX}{sh:af}{k G:Nat}{u v:Value}(a:Vw sh k u)(b:Vw sh G v)(y:k≠G)(p:A.units<cLine):iY A sh u v false:=by
 cases a with
 | non=>cases b with
  | non=>exact absurd rfl y
  | bl b=>exact SeqAt.EqAt.none_bool b
  | int i t=>exact SeqAt.EqAt.none_int i t
  | str x t=>exact SeqAt.EqAt.none_str x t
  | tup h=>exact SeqAt.EqAt.none_tuple h p
  | lst h=>exact SeqAt.EqAt.none_list h p
 | bl a=>cases b with
  | non=>exact SeqAt.EqAt.bool_none a
  | bl b=>exact absurd rfl y
  | int i t=>exact absurd rfl y
  | str x t=>exact SeqAt.EqAt.bool_str a x t
  | tup h=>exact SeqAt.EqAt.bool_tuple a h p
  | lst h=>exact SeqAt.EqAt.bool_list a h p
 | int a q=>cases b with
  | non=>exact SeqAt.EqAt.int_none a q
  | bl b=>exact absurd rfl y
  | int i t=>exact absurd rfl y
  | str x t=>exact iG a q x t
  | tup h=>exact SeqAt.EqAt.int_tuple a q h p
  | lst h=>exact SeqAt.EqAt.int_list a q h p
 | str a q=>cases b with
  | non=>exact SeqAt.EqAt.str_none a q
  | bl b=>exact SeqAt.EqAt.str_bool a q b
  | int i t=>exact iH a q i t
  | str x t=>exact absurd rfl y
  | tup h=>exact SeqAt.EqAt.str_tuple a q h p
  | lst h=>exact SeqAt.EqAt.str_list a q h p
 | tup g=>cases b with
  | non=>exact SeqAt.EqAt.tuple_none g p
  | bl b=>exact SeqAt.EqAt.tuple_bool b g p
  | int i t=>exact SeqAt.EqAt.tuple_int i t g p
  | str x t=>exact SeqAt.EqAt.tuple_str x t g p
  | tup h=>exact absurd rfl y
  | lst h=>exact SeqAt.EqAt.tuple_list g h p
 | lst g=>cases b with
  | non=>exact SeqAt.EqAt.list_none g p
  | bl b=>exact SeqAt.EqAt.list_bool b g p
  | int i t=>exact SeqAt.EqAt.list_int i t g p
  | str x t=>exact SeqAt.EqAt.list_str x t g p
  | tup h=>exact SeqAt.EqAt.list_tuple g h p
  | lst h=>exact absurd rfl y
theorem Vw.rc {A:aX}{sh:af}{k G:Nat}{u v:Value}(a:Vw sh k u)(b:Vw sh G v)(y:k≠G)(p:A.units<cLine):la A sh u v false:=by
 cases a with
 | non=>cases b with
  | non=>exact absurd rfl y
  | bl b=>exact SeqAt.RcAt.none_bool b
  | int i t=>exact SeqAt.RcAt.none_int i t
  | str x t=>exact SeqAt.RcAt.none_str x t
  | tup h=>exact SeqAt.RcAt.none_tuple h p
  | lst h=>exact SeqAt.RcAt.none_list h p
 | bl a=>cases b with
  | non=>exact SeqAt.RcAt.bool_none a
  | bl b=>exact absurd rfl y
  | int i t=>exact absurd rfl y
  | str x t=>exact SeqAt.RcAt.bool_str a x t
  | tup h=>exact SeqAt.RcAt.bool_tuple a h p
  | lst h=>exact SeqAt.RcAt.bool_list a h p
 | int a q=>cases b with
  | non=>exact SeqAt.RcAt.int_none a q
  | bl b=>exact absurd rfl y
  | int i t=>exact absurd rfl y
  | str x t=>exact SeqAt.RcAt.int_str a q x t
  | tup h=>exact SeqAt.RcAt.int_tuple a q h p
  | lst h=>exact SeqAt.RcAt.int_list a q h p
 | str a q=>cases b with
  | non=>exact SeqAt.RcAt.str_none a q
  | bl b=>exact SeqAt.RcAt.str_bool a q b
  | int i t=>exact SeqAt.RcAt.str_int a q i t
  | str x t=>exact absurd rfl y
  | tup h=>exact SeqAt.RcAt.str_tuple a q h p
  | lst h=>exact SeqAt.RcAt.str_list a q h p
 | tup g=>cases b with
  | non=>exact SeqAt.RcAt.tuple_none g p
  | bl b=>exact SeqAt.RcAt.tuple_bool b g p
  | int i t=>exact SeqAt.RcAt.tuple_int i t g p
  | str x t=>exact SeqAt.RcAt.tuple_str x t g p
  | tup h=>exact absurd rfl y
  | lst h=>exact SeqAt.RcAt.tuple_list g h p
 | lst g=>cases b with
  | non=>exact SeqAt.RcAt.list_none g p
  | bl b=>exact SeqAt.RcAt.list_bool b g p
  | int i t=>exact SeqAt.RcAt.list_int i t g p
  | str x t=>exact SeqAt.RcAt.list_str x t g p
  | tup h=>exact SeqAt.RcAt.list_tuple g h p
  | lst h=>exact absurd rfl y
theorem Vw.ne {A:aX}{sh:af}{k G:Nat}{u v:Value}(a:Vw sh k u)(b:Vw sh G v)(y:k≠G)(p:A.units<cLine):kO A sh u v true:=by
 cases a with
 | non=>cases b with
  | non=>exact absurd rfl y
  | bl b=>exact SeqAt.RcNeAt.none_bool b
  | int i t=>exact SeqAt.RcNeAt.none_int i t
  | str x t=>exact SeqAt.RcNeAt.none_str x t
  | tup h=>exact SeqAt.RcNeAt.none_tuple h p
  | lst h=>exact SeqAt.RcNeAt.none_list h p
 | bl a=>cases b with
  | non=>exact SeqAt.RcNeAt.bool_none a
  | bl b=>exact absurd rfl y
  | int i t=>exact absurd rfl y
  | str x t=>exact SeqAt.RcNeAt.bool_str a x t
  | tup h=>exact SeqAt.RcNeAt.bool_tuple a h p
  | lst h=>exact SeqAt.RcNeAt.bool_list a h p
 | int a q=>cases b with
  | non=>exact SeqAt.RcNeAt.int_none a q
  | bl b=>exact absurd rfl y
  | int i t=>exact absurd rfl y
  | str x t=>exact SeqAt.RcNeAt.int_str a q x t
  | tup h=>exact SeqAt.RcNeAt.int_tuple a q h p
  | lst h=>exact SeqAt.RcNeAt.int_list a q h p
 | str a q=>cases b with
  | non=>exact SeqAt.RcNeAt.str_none a q
  | bl b=>exact SeqAt.RcNeAt.str_bool a q b
  | int i t=>exact SeqAt.RcNeAt.str_int a q i t
  | str x t=>exact absurd rfl y
  | tup h=>exact SeqAt.RcNeAt.str_tuple a q h p
  | lst h=>exact SeqAt.RcNeAt.str_list a q h p
 | tup g=>cases b with
  | non=>exact SeqAt.RcNeAt.tuple_none g p
  | bl b=>exact SeqAt.RcNeAt.tuple_bool b g p
  | int i t=>exact SeqAt.RcNeAt.tuple_int i t g p
  | str x t=>exact SeqAt.RcNeAt.tuple_str x t g p
  | tup h=>exact absurd rfl y
  | lst h=>exact SeqAt.RcNeAt.tuple_list g h p
 | lst g=>cases b with
  | non=>exact SeqAt.RcNeAt.list_none g p
  | bl b=>exact SeqAt.RcNeAt.list_bool b g p
  | int i t=>exact SeqAt.RcNeAt.list_int i t g p
  | str x t=>exact SeqAt.RcNeAt.list_str x t g p
  | tup h=>exact SeqAt.RcNeAt.list_tuple g h p
  | lst h=>exact absurd rfl y
theorem bO8 (a b:List Nat):((⟨a.toArray⟩:Str)==⟨b.toArray⟩)=(a==b):=by
 by_cases e:a=b
 ·subst e;simp
 ·have:(⟨a.toArray⟩:Str)≠⟨b.toArray⟩:=λ q=>e (by simpa using congrArg (λ z=>z.cps.toList) q)
  rw[beq_eq_false_iff_ne.mpr this,beq_eq_false_iff_ne.mpr e]
structure Cmp (A:aX)(sh:af)(u v:Value)(z:Bool):Prop where
 rc:la A sh u v z
 ne:kO A sh u v (!z)
section
variable {X:Cx} {pins:List (Addr×Obj)} {σ:St} {H:Hp} {sh:af} {φ:Nat->Addr} {s:lh}
theorem bO2 (I:Inv X pins σ H sh)(p:X.K=Γ.K)(R:Rp Γ φ H s){d:li}{x:V}{u:Value}(h:RV Γ φ H d x)(r:RelV x u)(hk:lK s d≠9):Vw sh (lK s d) u:=by
 cases d with
 | non=>have e:=h.nonE;subst e;cases r;exact .non
 | bl b=>have e:=h.blE;subst e;cases r;exact .bl b
 | int i=>have e:=h.intE;subst e;obtain⟨t,rfl⟩:=r;exact .int i t
 | str y=>have e:=h.strE;subst e;obtain⟨t,rfl⟩:=r;exact .str _ t
 | tup l =>
  obtain⟨a,G,e,q,_⟩:=h.tupE
  subst e;cases r
  rw[<-p]at q
  obtain⟨its,_,t,_⟩:=I.tuple q
  exact .tup t
 | ref n =>
  have e:=h.refE;subst e;cases r
  have hk:(match s[n]? with|some (DV.O.lst l)=>4|_=>9:Nat)≠9:=hk
  show Vw sh (match s[n]? with|some (DV.O.lst l)=>4|_=>9:Nat) _
  cases hs:s[n]? with
  | none=>rw[hs]at hk;exact absurd rfl hk
  | some o =>
   rw[hs]at hk
   cases o with
   | lst l =>
    obtain⟨G,e,_⟩:=R.addr hs
    obtain⟨its,_,t,_⟩:=I.list (SqL.of e)
    exact .lst t.isList
   | _=>exact absurd rfl hk
 | fn _=>exact absurd rfl hk
 | clo _ _=>exact absurd rfl hk
theorem aD2 (I:Inv X pins σ H sh)(hK:X.K=Γ.K)(R:Rp Γ φ H s){a b:li}{x y:V}{u v:Value}{A:aX}{z:Bool}(h:l8 s a b=some z)(J:RV Γ φ H a x)(p:RV Γ φ H b y)(r1:RelV x u)(G:RelV y v)(Y:A.units<cLine) :
  iY A sh u v z/\Cmp A sh u v z:=by
 rcases ju h with h|⟨_,hn,hz⟩
 ·cases a<;>cases b<;>try cases h
  ·cases J.nonE;cases p.nonE;cases r1;cases G
   exact⟨gE _,SeqAt.RcAt.none_none,SeqAt.RcNeAt.none_none⟩
  ·cases J.blE;cases p.blE;cases r1;cases G
   exact⟨SeqAt.EqAt.bool_bool _ _,SeqAt.RcAt.bool_bool _ _,SeqAt.RcNeAt.bool_bool _ _⟩
  ·cases J.blE;cases p.intE;cases r1;obtain⟨t',rfl⟩:=G
   exact⟨SeqAt.EqAt.bool_int _ _ _,SeqAt.RcAt.bool_int _ _ _,SeqAt.RcNeAt.bool_int _ _ _⟩
  ·cases J.intE;cases p.blE;obtain⟨t,rfl⟩:=r1;cases G
   exact⟨SeqAt.EqAt.int_bool _ _ _,SeqAt.RcAt.int_bool _ _ _,SeqAt.RcNeAt.int_bool _ _ _⟩
  ·cases J.intE;cases p.intE;obtain⟨t,rfl⟩:=r1;obtain⟨t',rfl⟩:=G
   exact⟨SeqAt.EqAt.int_int _ _ _ _,SeqAt.RcAt.int_int _ _ _ _,SeqAt.RcNeAt.int_int _ _ _ _⟩
  ·cases J.strE;cases p.strE;obtain⟨t,rfl⟩:=r1;obtain⟨t',rfl⟩:=G
   rw[<-bO8]
   exact⟨SeqAt.EqAt.str_str _ _ _ _,SeqAt.RcAt.str_str _ _ _ _,SeqAt.RcNeAt.str_str _ _ _ _⟩
 ·subst hz
  unfold l9 at hn
  simp only[eA,beq_eq_false_iff_ne]at hn
  have Z:=bO2 I hK R J r1 hn.1.1
  have w2:=bO2 I hK R p G hn.1.2
  exact⟨Z.eq w2 hn.2 Y,Z.rc w2 hn.2 Y,Z.ne w2 hn.2 Y⟩
theorem bq6 (I:Inv X pins σ H sh)(hK:X.K=Γ.K)(R:Rp Γ φ H s):∀(n:Nat) (a b:li) (x y:V) (u v:Value) (A:aX) (z:Bool),lI s n a b=some z->RV Γ φ H a x->RV Γ φ H b y->RelV x u->RelV y v->Room n A ->
  iY A sh u v z/\Cmp A sh u v z:=by
 intro n
 induction n with
 | zero=>intro a b x y u v A z h h1 h2 r1 r2 J;unfold lI at h;exact aD2 I hK R h h1 h2 r1 r2 J.units0
 | succ n ih =>
  have G:∀ {l m:List li} {xs ys:List V} {its its':List Value} {A:aX} {e:Nat->Bool},RVL Γ φ H l xs->RVL Γ φ H m ys->Vals xs its->Vals ys its'->Room n A->(∀ j d d',l[j]?=some d->m[j]?=some d'->lI s n d d'=some (e j)) ->
    ∀ j (h1:j<its.toArray.size) (h2:j<its'.toArray.size),iY A sh its.toArray[j] its'.toArray[j] (e j):=by
   intro l m xs ys its its' A e d1 d2 v1 v2 J he j h1 h2
   have l1:=v1.length
   have l2:=v2.length
   have e1:=d1.length
   have e2:=d2.length
   have a4:j<its.length:=by simpa using h1
   have a3:j<its'.length:=by simpa using h2
   have hj:j<l.length:=by omega
   have a1:j<m.length:=by omega
   obtain⟨x,ex,dx⟩:=d1.get (ah hj)
   obtain⟨y,ey,dy⟩:=d2.get (ah a1)
   obtain⟨u,eu,ru⟩:=v1.get ex
   obtain⟨w,ew,a2⟩:=v2.get ey
   have g1:its.toArray[j]=u:=by
    have:=ah a4
    rw[eu]at this
    simpa using(aF this).symm
   have g2:its'.toArray[j]=w:=by
    have:=ah a3
    rw[ew]at this
    simpa using(aF this).symm
   rw[g1,g2]
   exact(ih _ _ x y u w A (e j) (he j _ _ (ah hj) (ah a1)) dx dy ru a2 J).1
  intro a b x y u v A z h h1 h2 r1 r2 J
  have hz:=h
  unfold lI at h
  split at h
  ·rename_i l m
   obtain⟨p,xs,ex,q1,d1⟩:=id h1.tupE
   obtain⟨q,ys,ey,q2,d2⟩:=id h2.tupE
   subst ex;subst ey
   cases r1;cases r2
   rw[<-hK]at q1 q2
   obtain⟨its,v1,t1,_⟩:=I.tuple q1
   obtain⟨its',v2,t2,_⟩:=I.tuple q2
   obtain⟨e,he,Z⟩:=bg5 h
   have l1:=v1.length
   have l2:=v2.length
   have e1:=d1.length
   have e2:=d2.length
   have sz:((aw (min its.toArray.size its'.toArray.size)).all e&&its.toArray.size==its'.toArray.size)=z:=by
    rw[<-Z,Bool.and_comm,show its.toArray.size=l.length by simp;omega,show its'.toArray.size=m.length by simp;omega]
   have key:=SeqAt.RcAt.tuples (A:=A) (s:=sh) (e:=e) t1 t2 J.units0 (G d1 d2 v1 v2 J.in1 he)
   have Y:=SeqAt.RcNeAt.tuples (A:=A) (s:=sh) (e:=e) t1 t2 J.units0 (G d1 d2 v1 v2 J.in1 he)
   rw[sz]at key Y
   refine⟨?_,key,Y⟩
   by_cases hab:p=q
   ·subst hab
    rw[aN1 I hK R _ _ _ _ _ hz h1 h2]
    exact gE _
   ·exact iZ hab key
  ·rename_i p q
   split at h
   ·rename_i l m hl hm
    obtain⟨xs,e1,d1⟩:=R.addr hl
    obtain⟨ys,e2,d2⟩:=R.addr hm
    have ex:=h1.refE
    have ey:=h2.refE
    subst ex;subst ey
    cases r1;cases r2
    obtain⟨its,v1,t1,_⟩:=I.list (SqL.of e1)
    obtain⟨its',v2,t2,_⟩:=I.list (SqL.of e2)
    have l1:=v1.length
    have l2:=v2.length
    have c1:=d1.length
    have c2:=d2.length
    have fin:Cmp A sh (.ref (φ p)) (.ref (φ q)) z:=by
     split at h
     ·rename_i a0
      obtain⟨e,he,Z⟩:=bg5 h
      have sz:(aw its.toArray.size).all e=z:=by
       rw[<-Z,show its.toArray.size=l.length by simp;omega,a0]
       simp
      have key:=SeqAt.RcAt.lists (A:=A) (s:=sh) (e:=e) t1.isList t2.isList (by simp;omega) J.units0 (G d1 d2 v1 v2 J.in1 he)
      have Y:=SeqAt.RcNeAt.lists (A:=A) (s:=sh) (e:=e) t1.isList t2.isList (by simp;omega) J.units0 (G d1 d2 v1 v2 J.in1 he)
      rw[sz]at key Y
      exact⟨key,Y⟩
     ·rename_i a0
      cases h
      have hs:(its.toArray.size != its'.toArray.size)=true:=by simp;omega
      exact⟨SeqAt.RcAt.lists_lengths t1.isList t2.isList hs J.units0,SeqAt.RcNeAt.lists_lengths t1.isList t2.isList hs J.units0⟩
    refine⟨?_,fin⟩
    by_cases hab:φ p=φ q
    ·rw[aN1 I hK R _ _ _ _ _ hz RV.refI (by rw[hab];exact RV.refI),hab]
     exact gE _
    ·exact iZ hab fin.rc
   ·cases h
  ·exact aD2 I hK R h h1 h2 r1 r2 J.units0
end
variable {Γ:Gm} {X:Cx}
noncomputable def cc4:ng->Operator
 | .add=>.Add|.sub=>.Sub|.mul=>.Mult|.fdiv=>.FloorDiv|.mod=>.Mod|.pow=>.Pow|.shl=>.LShift|.shr=>.RShift|.band=>.BitAnd|.bor=>.BitOr
noncomputable def bH5:mR->CmpOp
 | .eq=>.Eq|.ne=>.NotEq|.lt=>.Lt|.le=>.LtE|.gt=>.Gt|.ge=>.GtE|.isin=>.In|.notin=>.NotIn
def rOp (Γ:Gm)(f:li->li->lh->lp li):R2:=λ x y H Q=>∃ φ s a b d s',Rp Γ φ H s/\RV Γ φ H a x/\RV Γ φ H b y/\a.bnd s.length=true/\b.bnd s.length=true/\f a b s=.ok d s'/\ai4 Γ φ s H d s' Q
theorem qj {d e:li}{s t:lh}(h:mU d s=.ok e t):d=e/\s=t:=by
 unfold mU at h
 cases h
 exact⟨rfl,rfl⟩
theorem qC {o:lH}{e:li}{s t:lh}(h:lY o s=.ok e t):e=.ref s.length/\t=s++[o]:=by
 unfold lY at h
 cases h
 exact⟨rfl,rfl⟩
theorem bx9 (a b:List Nat):(⟨a.toArray⟩:Str)++⟨b.toArray⟩=⟨(a++b).toArray⟩:=by
 show Str.append _ _=_
 unfold Str.append
 simp
theorem qw:lv<=aP:=by rw[fB];decide
theorem bG3:OpR X (bX .Mult) (rI (λ i j=>DV.mulOk i j=true) λ i j=>.int (i*j)):=opI λ i j _ _ _ _ _ hc q=>mul_int q (by
 unfold DV.mulOk at hc
 simp only[b9,ag,decide_eq_true_eq]at hc
 rcases hc with(h|h)|⟨y,p⟩
 ·exact bZ8.ok (.inl (by omega))
 ·exact bZ8.ok (.inr (by omega))
 ·unfold DV.BIG at y p
  exact IntMulOk.of_le (m:=60000) (n:=60000) (intBits_le_iff.mpr y) (intBits_le_iff.mpr p) (by decide))
theorem aO2 (l:List Nat):∀(n:Nat) (h:Array Nat),(av n l.toArray).foldl (·++·) h=h++(lB n l).toArray
 | 0,h=>by simp[lB]
 | n+1,h=>by
  rw[bE,b8,aO2 l n]
  simp[lB,iI]
theorem bD5 (l:List Nat):lB 1 l=l:=by simp[lB]
theorem bf0:∀ n,lB n []=[]
 | 0=>rfl
 | n+1=>by simp[lB,bf0 n]
theorem rep_len (l:List Nat):∀ n,(lB n l).length=l.length*n
 | 0=>by simp[lB]
 | n+1=>by simp[lB,rep_len l n,dD];omega
theorem bB3:OpR X (bX .Mult) (λ x y H Q=>∃(l:List Nat) (n:Int),x=.str ⟨l.toArray⟩/\y=.int n/\(0<=n/\n<=1000000/\l.length*n.toNat<=lv)/\Q (.str ⟨(lB n.toNat l).toArray⟩) H):=by
 intro J s σ H x y v u Q I Y ry h
 obtain⟨l,n,rfl,rfl,⟨h0,h1,h2⟩,q⟩:=h
 obtain⟨t,rfl⟩:=Y
 obtain⟨t',rfl⟩:=ry
 have p:(⟨l.toArray⟩:Str).length=l.length:=by show l.toArray.size=_;simp
 have hL:=qw
 have Z:=ao1
 refine SB.mul ⟨?_,λ hn _=>?_,λ hn _=>?_⟩ λ t2 k=>?_
 ·rw[decide_eq_false (by omega),decide_eq_false (by omega)];rfl
 ·rw[p]
  have G:1<=n:=by omega
  intro a0
  have h3:(l.length:Int)*n<=1000000:=by
   have:((l.length*n.toNat:Nat):Int)<=(lv:Nat):=Int.ofNat_le.mpr h2
   rw[du,iq h0]at this
   have e:((lv:Nat):Int)=1000000:=by unfold lv;rfl
   omega
  have h4:(l.length:Int)<=1000000:=by
   have:(l.length:Int)*1<=(l.length:Int)*n:=cN G (by omega)
   omega
  have h5:(1000000:Int)<=(2^63 - 1) / n:=by
   rw[Int.le_ediv_iff_mul_le (by omega)]
   have:(1000000:Int)*n<=1000000*1000000:=cN h1 (by omega)
   omega
  omega
 ·rw[p]
  unfold dY
  exact decide_eq_false (by omega)
 ·have e:Txt.mul ⟨l.toArray⟩ n=⟨(lB n.toNat l).toArray⟩:=by
   unfold Txt.mul
   split
   ·have:n.toNat=0:=by omega
    rw[this];rfl
   ·split
    ·rename_i hc
     rw[b9]at hc
     rcases hc with hc|hc
     ·have:n=1:=by simpa using hc
      subst this
      show(⟨l.toArray⟩:Str)=⟨(lB 1 l).toArray⟩
      rw[bD5]
     ·have:l=[]:=by
       have:=eq_of_beq hc
       rw[p]at this
       exact dF.mp this
      subst this
      rw[bf0]
    ·show(⟨(av n.toNat l.toArray).foldl (·++·) #[]⟩:Str)=_
     rw[aO2];simp
  rw[e]
  exact⟨.str _,H,I.tok _,⟨_,rfl⟩,q⟩
theorem aq8 {n:Nat}{l:List li}(h:lj n l=true):∀ k,lj n (lR k l)=true
 | 0=>rfl
 | k+1=>qi h (aq8 h k)
theorem RVL.repD {φ:Nat->Addr}{H:Hp}{l:List li}{p:List V}(h:RVL Γ φ H l p):∀ k,RVL Γ φ H (lR k l) (as2 k p)
 | 0=>RVL.nil
 | k+1=>h.append (RVL.repD h k)
theorem aE8 {α:Type}(h:List α):∀ k,as2 k h=(av k h).flatten
 | 0=>rfl
 | k+1=>by rw[bE,cg,<-aE8 h k];rfl
theorem bV9 (hK:X.K=Γ.K)(op:ng):OpR X (bX (cc4 op)) (rOp Γ (DV.qN op)):=by
 intro J s σ H x y v u Q I Z ry h
 obtain⟨φ,st,a,b,d,a0,R,ha,hb,na,nb,G,q⟩:=h
 cases op with
 | add =>
  cases a with
  | int a =>
   cases b with
   | int b =>
    change(mU _) st=_ at G
    obtain⟨rfl,rfl⟩:=qj G
    have ex:=ha.intE;have Y:=hb.intE;subst ex;subst Y
    exact bR8 J s σ H _ _ v u Q I Z ry ⟨_,_,rfl,rfl,q.here R rfl RV.intI⟩
   | _=>exact fb G
  | str a =>
   cases b with
   | str b =>
    change(if _ then _ else _:ma li) st=_ at G
    split at G
    ·rename_i hl
     obtain⟨rfl,rfl⟩:=qj G
     have ex:=ha.strE;have Y:=hb.strE;subst ex;subst Y
     refine aR2 J s σ H _ _ v u Q I Z ry ⟨_,_,rfl,rfl,?_,?_⟩
     ·show a.toArray.size+b.toArray.size<=_
      simp only[ay]
      exact ao hl qw
     ·rw[bx9];exact q.here R rfl (RV.strI (by rw[aL];exact hl))
    ·exact fb G
   | _=>exact fb G
  | tup a =>
   cases b with
   | tup b =>
    change(if _ then _ else _:ma li) st=_ at G
    split at G
    ·rename_i hl
     obtain⟨rfl,rfl⟩:=qj G
     obtain⟨p,xs,⟨rfl,z1⟩,h1,d1⟩:=ha.tupZ
     obtain⟨p',ys,⟨rfl,z2⟩,h2,d2⟩:=hb.tupZ
     refine bB5 hK J s σ H _ _ v u Q I Z ry ⟨p,p',xs,ys,rfl,rfl,h1,h2,?_,λ t H' e ht hn=>?_⟩
     ·rw[d1.length,d2.length];exact ao hl qw
     ·obtain⟨g,r'⟩:=R.same e
      unfold lq at na nb
      refine q _ _ _ g (am _) (by unfold lq;exact qi na nb) (RV.tupC ht (λ z=>?_) ((RVL.mono g _ _ na d1).append (RVL.mono g _ _ nb d2))) r'
      rcases hn with hn|⟨rfl,rfl⟩|⟨rfl,rfl⟩
      ·exact hn
      ·rw[d2.tonil,bo]at z;rw[bo];exact e _ _ (z1 z)
      ·rw[d1.tonil]at z;exact e _ _ (z2 z)
    ·exact fb G
   | _=>exact fb G
  | ref a =>
   cases b with
   | ref b =>
    change(match st[a]?,st[b]? with|some (DV.O.lst l),some (DV.O.lst m)=>if l.length+m.length<=lv then lY (.lst (l++m)) st else .bad|_,_=>.bad:lp li)=_ at G
    split at G
    ·rename_i l m h1 h2
     split at G
     ·rename_i hl
      obtain⟨rfl,rfl⟩:=qC G
      obtain⟨xs,e1,d1⟩:=R.addr h1
      obtain⟨ys,e2,d2⟩:=R.addr h2
      have ex:=ha.refE;have Y:=hb.refE;subst ex;subst Y
      have b1:=R.wf _ _ h1
      have b2:=R.wf _ _ h2
      unfold ls at b1 b2
      refine bR1 J s σ H _ _ v u Q I Z ry ⟨φ a,φ b,xs,ys,rfl,rfl,e1,e2,?_,λ p hp=>?_⟩
      ·rw[d1.length,d2.length];exact ao hl qw
      ·exact q.alloc R (d1.append d2) (qi b1 b2) hp
     ·exact fb G
    ·exact fb G
   | _=>exact fb G
  | _=>exact fb G
 | sub =>
  cases a with
  | int a =>
   cases b with
   | int b =>
    change(mU _) st=_ at G
    obtain⟨rfl,rfl⟩:=qj G
    have ex:=ha.intE;have Y:=hb.intE;subst ex;subst Y
    exact bQ9 J s σ H _ _ v u Q I Z ry ⟨_,_,rfl,rfl,q.here R rfl RV.intI⟩
   | _=>exact fb G
  | _=>exact fb G
 | mul =>
  cases a with
  | int a =>
   cases b with
   | int b =>
    change(if _ then _ else _:ma li) st=_ at G
    split at G
    ·rename_i hc
     obtain⟨rfl,rfl⟩:=qj G
     have ex:=ha.intE;have Y:=hb.intE;subst ex;subst Y
     exact bG3 J s σ H _ _ v u Q I Z ry ⟨_,_,rfl,rfl,hc,q.here R rfl RV.intI⟩
    ·exact fb G
   | _=>exact fb G
  | str a =>
   cases b with
   | int b =>
    change(if _ then _ else _:ma li) st=_ at G
    split at G
    ·rename_i hc
     obtain⟨rfl,rfl⟩:=qj G
     have ex:=ha.strE;have Y:=hb.intE;subst ex;subst Y
     exact bB3 J s σ H _ _ v u Q I Z ry ⟨_,_,rfl,rfl,hc,q.here R rfl (RV.strI (by rw[rep_len];exact hc.2.2))⟩
    ·exact fb G
   | _=>exact fb G
  | tup a =>
   cases b with
   | int b =>
    change(if _ then _ else _:ma li) st=_ at G
    split at G
    ·rename_i hc
     obtain⟨rfl,rfl⟩:=qj G
     obtain⟨p,xs,⟨rfl,z1⟩,h1,d1⟩:=ha.tupZ
     have Y:=hb.intE;subst Y
     refine bw7 hK J s σ H _ _ v u Q I Z ry ⟨p,xs,_,rfl,rfl,h1,⟨hc.1,hc.2.1,by rw[d1.length];exact hc.2.2⟩,λ t H' e ht hn=>?_⟩
     obtain⟨g,r'⟩:=R.same e
     unfold lq at na
     refine q _ _ _ g (am _) (by unfold lq;exact aq8 na _) (RV.tupC ht (λ z=>?_) (RVL.repD (RVL.mono g _ _ na d1) _)) r'
     rcases hn with hn|⟨rfl,ex⟩
     ·exact hn
     ·rw[ex];exact e _ _ (z1 (bx3 z))
    ·exact fb G
   | _=>exact fb G
  | ref a =>
   cases b with
   | int b =>
    change(match st[a]? with|some (DV.O.lst l)=>if 0<=b/\b<=1000000/\l.length*b.toNat<=lv then lY (.lst (lR b.toNat l)) st else .bad|_=>.bad:lp li)=_ at G
    split at G
    ·rename_i l h1
     split at G
     ·rename_i hc
      obtain⟨rfl,rfl⟩:=qC G
      obtain⟨xs,e1,d1⟩:=R.addr h1
      have ex:=ha.refE;have Y:=hb.intE;subst ex;subst Y
      have b1:=R.wf _ _ h1
      unfold ls at b1
      refine bT9 J s σ H _ _ v u Q I Z ry ⟨φ a,b,xs,rfl,rfl,e1,by omega,by omega,?_,λ p hp=>?_⟩
      ·rw[d1.length];exact ao hc.2.2 qw
      ·rw[<-aE8];exact q.alloc R (RVL.repD d1 _) (aq8 b1 _) hp
     ·exact fb G
    ·exact fb G
   | _=>exact fb G
  | _=>exact fb G
 | fdiv =>
  cases a with
  | int a =>
   cases b with
   | int b =>
    change(if _ then _ else _:ma li) st=_ at G
    split at G
    ·rename_i hc
     obtain⟨rfl,rfl⟩:=qj G
     have ex:=ha.intE;have Y:=hb.intE;subst ex;subst Y
     refine bj3 J s σ H _ _ v u Q I Z ry ⟨_,_,rfl,rfl,⟨hc.1,?_⟩,q.here R rfl RV.intI⟩
     have:=hc.2
     unfold DV.DIVL at this
     simpa using this
    ·exact fb G
   | _=>exact fb G
  | _=>exact fb G
 | mod =>
  cases a with
  | int a =>
   cases b with
   | int b =>
    change(if _ then _ else _:ma li) st=_ at G
    split at G
    ·rename_i hc
     obtain⟨rfl,rfl⟩:=qj G
     have ex:=ha.intE;have Y:=hb.intE;subst ex;subst Y
     exact bY7 J s σ H _ _ v u Q I Z ry ⟨_,_,rfl,rfl,hc,q.here R rfl RV.intI⟩
    ·exact fb G
   | _=>exact fb G
  | _=>exact fb G
 | pow =>
  cases a with
  | int a =>
   cases b with
   | int b =>
    change(if _ then _ else _:ma li) st=_ at G
    split at G
    ·rename_i hc
     obtain⟨rfl,rfl⟩:=qj G
     have ex:=ha.intE;have Y:=hb.intE;subst ex;subst Y
     exact bX4 J s σ H _ _ v u Q I Z ry ⟨_,_,rfl,rfl,hc,q.here R rfl RV.intI⟩
    ·exact fb G
   | _=>exact fb G
  | _=>exact fb G
 | shl =>
  cases a with
  | int a =>
   cases b with
   | int b =>
    change(if _ then _ else _:ma li) st=_ at G
    split at G
    ·rename_i hc
     obtain⟨rfl,rfl⟩:=qj G
     have ex:=ha.intE;have Y:=hb.intE;subst ex;subst Y
     exact bM7 J s σ H _ _ v u Q I Z ry ⟨_,_,rfl,rfl,hc,q.here R rfl RV.intI⟩
    ·exact fb G
   | _=>exact fb G
  | _=>exact fb G
 | shr =>
  cases a with
  | int a =>
   cases b with
   | int b =>
    change(if _ then _ else _:ma li) st=_ at G
    split at G
    ·rename_i hc
     obtain⟨rfl,rfl⟩:=qj G
     have ex:=ha.intE;have Y:=hb.intE;subst ex;subst Y
     exact bX3 J s σ H _ _ v u Q I Z ry ⟨_,_,rfl,rfl,hc,q.here R rfl RV.intI⟩
    ·exact fb G
   | _=>exact fb G
  | _=>exact fb G
 | band =>
  cases a with
  | int a =>
   cases b with
   | int b =>
    change(if _ then _ else _:ma li) st=_ at G
    split at G
    ·rename_i hc
     obtain⟨rfl,rfl⟩:=qj G
     have ex:=ha.intE;have Y:=hb.intE;subst ex;subst Y
     exact bG7 J s σ H _ _ v u Q I Z ry ⟨_,_,rfl,rfl,hc,q.here R rfl RV.intI⟩
    ·exact fb G
   | _=>exact fb G
  | _=>exact fb G
 | bor=>exact fb G
variable {Γ:Gm} {X:Cx} {pins:List (Addr×Obj)} {σ:St} {H:Hp} {sh:af} {φ:Nat->Addr} {s:lh}
variable {Γ:Gm} {X:Cx}
theorem aa0 {α β:Type}{r:lp α}{f:α->lh->lp β}{b:β}{t:lh}(h:r.bind f=.ok b t):∃ a s,r=.ok a s/\f a s=.ok b t:=DV.R.bind_inv h
theorem az1 {op:mR}{a b d:li}{st p:lh}(ho:op=.lt\/op=.le\/op=.gt\/op=.ge)(h:DV.qO op a b st=.ok d p):∃ i j,a=.int i/\b=.int j:=by
 rcases ho with rfl|rfl|rfl|rfl <;>
 (cases a with
 | int i =>
  (cases b with
  | int j=>exact⟨i,j,rfl,rfl⟩
  | _=>cases h)
 | _=>cases h)
theorem bP2 (hK:X.K=Γ.K)(hr:Room (lC+1) X.A)(op:mR):OpR X (e9 (bH5 op)) (rOp Γ (DV.qO op)):=by
 intro G s σ H x y v u Q I Y Z h
 obtain⟨φ,st,a,b,d,a0,R,ha,hb,na,nb,p,q⟩:=h
 cases op with
 | eq =>
  have p:DV.eqM a b st=.ok d a0:=p
  unfold DV.eqM at p
  cases e:lI st lC a b with
  | none=>rw[e]at p;cases p
  | some z =>
   rw[e]at p;cases p
   exact(bq6 I hK R _ a b x y v u X.A z e ha hb Y Z (hr.mono (by omega))).2.rc X.prog X.w X.xe _ ⟨.bl z,H,I,rfl,q.here R rfl RV.blI⟩
 | ne =>
  have p:(match lI st lC a b with|some r=>.ok (.bl (!r)) st|none=>.bad:lp li)=.ok d a0:=p
  cases e:lI st lC a b with
  | none=>rw[e]at p;cases p
  | some z =>
   rw[e]at p;cases p
   exact(bq6 I hK R _ a b x y v u X.A z e ha hb Y Z (hr.mono (by omega))).2.ne X.prog X.w X.xe _ ⟨.bl (!z),H,I,rfl,q.here R rfl RV.blI⟩
 | lt =>
  obtain⟨i,j,rfl,rfl⟩:=az1 (.inl rfl) p
  cases p
  have ex:=ha.intE;have J:=hb.intE;subst ex;subst J
  exact ce1 G s σ H _ _ v u Q I Y Z ⟨_,_,rfl,rfl,q.here R rfl RV.blI⟩
 | le =>
  obtain⟨i,j,rfl,rfl⟩:=az1 (.inr (.inl rfl)) p
  cases p
  have ex:=ha.intE;have J:=hb.intE;subst ex;subst J
  exact cg7 G s σ H _ _ v u Q I Y Z ⟨_,_,rfl,rfl,q.here R rfl RV.blI⟩
 | gt =>
  obtain⟨i,j,rfl,rfl⟩:=az1 (.inr (.inr (.inl rfl))) p
  cases p
  have ex:=ha.intE;have J:=hb.intE;subst ex;subst J
  exact cf8 G s σ H _ _ v u Q I Y Z ⟨_,_,rfl,rfl,q.here R rfl RV.blI⟩
 | ge =>
  obtain⟨i,j,rfl,rfl⟩:=az1 (.inr (.inr (.inr rfl))) p
  cases p
  have ex:=ha.intE;have J:=hb.intE;subst ex;subst J
  exact cg4 G s σ H _ _ v u Q I Y Z ⟨_,_,rfl,rfl,q.here R rfl RV.blI⟩
 | isin=>cases p
 | notin=>cases p
theorem aV5 {φ:Nat->Addr}{H:Hp}{l:List li}{p:List V}{i:Int}{d:li}(h:RVL Γ φ H l p)(e:((lZ l.length i).bind λ j=>l[j]?)=some d):∃ v,atI p i=some v/\RV Γ φ H d v:=by
 cases hj:lZ l.length i with
 | none=>rw[hj]at e;cases e
 | some j =>
  rw[hj]at e
  obtain⟨v,e1,e2⟩:=h.get (show l[j]?=some d from e)
  refine⟨v,?_,e2⟩
  unfold atI
  have:ixN p.length i=some j:=by rw[h.length];exact hj
  rw[this];exact e1
theorem aK1 {l:List li}{i:Int}{d:li}(e:((lZ l.length i).bind λ j=>l[j]?)=some d):d∈l:=by
 cases hj:lZ l.length i with
 | none=>rw[hj]at e;cases e
 | some j=>rw[hj]at e;exact bq (show l[j]?=some d from e)
theorem ch0 (hK:X.K=Γ.K)(hu:X.A.units+1<cLine):IxR X (rOp Γ DV.ixM):=by
 intro J Y Z s σ H x y v u Q I rx ry h hs
 obtain⟨φ,st,a,b,d,a4,R,ha,hb,na,nb,G,q⟩:=h
 unfold DV.ixM at G
 cases a with
 | tup l =>
  cases b with
  | int i =>
   simp only at G
   split at G
   ·rename_i d' e
    cases G
    obtain⟨p,xs,rfl,h1,d1⟩:=ha.tupE
    have ey:=hb.intE;subst ey
    obtain⟨w,e1,e2⟩:=aV5 d1 e
    unfold lq at na
    exact bu2 hK J Y Z s σ H _ _ v u Q I rx ry ⟨p,xs,i,w,rfl,rfl,h1,e1,q.here R (ad2.mp na _ (aK1 e)) e2⟩ hs
   ·exact fb G
  | _=>exact fb G
 | str l =>
  cases b with
  | int i =>
   simp only at G
   split at G
   ·rename_i c e
    cases G
    have hl:=ha.strL
    have ex:=ha.strE;have ey:=hb.intE;subst ex;subst ey
    exact ix_str J Y Z s σ H _ _ v u Q I rx ry ⟨⟨l.toArray⟩,i,c,rfl,rfl,by show l.toArray.size<=_;rw[ay];exact ao hl qw,e,q.here R rfl (RV.strI (by simp;decide))⟩ hs
   ·exact fb G
  | _=>exact fb G
 | ref r =>
  have ex:=ha.refE;subst ex
  simp only at G
  cases hsr:st[r]? with
  | none=>rw[hsr]at G;cases G
  | some o =>
   rw[hsr]at G
   cases o with
   | lst l =>
    cases b with
    | int i =>
     simp only at G
     split at G
     ·rename_i d' e
      cases G
      have ey:=hb.intE;subst ey
      obtain⟨xs,e1,d1⟩:=R.addr hsr
      obtain⟨w,e2,e3⟩:=aV5 d1 e
      have wf:=R.wf _ _ hsr
      unfold ls at wf
      exact aK7 hK J Y Z s σ H _ _ v u Q I rx ry ⟨φ r,xs,i,w,rfl,rfl,SqL.of e1,e2,q.here R (ad2.mp wf _ (aK1 e)) e3⟩ hs
     ·exact fb G
    | _=>exact fb G
   | ro l =>
    cases b with
    | int i =>
     simp only at G
     split at G
     ·rename_i d' e
      cases G
      have ey:=hb.intE;subst ey
      obtain⟨xs,e1,d1⟩:=R.obj _ _ hsr
      obtain⟨w,e2,e3⟩:=aV5 d1 e
      have wf:=R.wf _ _ hsr
      unfold ls at wf
      exact aK7 hK J Y Z s σ H _ _ v u Q I rx ry ⟨φ r,xs,i,w,rfl,rfl,e1.1,e2,q.here R (ad2.mp wf _ (aK1 e)) e3⟩ hs
     ·exact fb G
    | _=>exact fb G
   | dic l =>
    simp only at G
    split at G
    case isFalse=>exact fb G
    rename_i a0
    obtain⟨k,hk⟩:=aw2 a0
    obtain⟨a3,e1,d1⟩:=R.obj r _ hsr
    have ey:=aM9 hk hb;subst ey
    cases rx
    rcases d1.val keyOf_inj hk with⟨q1,_⟩|⟨e,v',q1,q2,q3,q4⟩
    ·rw[q1]at G;cases G
    ·rw[q1]at G
     cases G
     have wf:=R.wf _ _ hsr
     unfold ls at wf
     rw[ag]at wf
     have g:bh2 H (φ r) (kV k) (some v'):=by rw[<-q2];exact bh2.k e1
     exact ko (ao0 I g) fw.lookup (aF0 hu I g ry λ w' s' I' a1=>⟨v',H,I',a1,q.here R (ad2.mp wf.2 _ q4) q3⟩) hs
   | dit l =>
    simp only at G
    split at G
    case isFalse=>exact fb G
    rename_i a0
    obtain⟨k,hk⟩:=aD5 a0
    obtain⟨a3,e1,d1⟩:=R.obj r _ hsr
    obtain⟨kb,ey,a2⟩:=ba7 hk hb;subst ey
    cases rx
    rcases d1.val keyT_inj hk with⟨q1,_⟩|⟨e,v',q1,q2,q3,q4⟩
    ·rw[q1]at G;cases G
    ·rw[q1]at G
     cases G
     have wf:=R.wf _ _ hsr
     unfold ls at wf
     rw[ag]at wf
     have g:bh2 H (φ r) (.ref kb) (some v'):=by rw[<-q2];exact bh2.t e1 a2
     exact ko (ao0 I g) fw.lookup (aF0 hu I g ry λ w' s' I' a1=>⟨v',H,I',a1,q.here R (ad2.mp wf.2 _ q4) q3⟩) hs
   | ins c l=>cases b<;>cases G
 | _=>cases b<;>cases G
theorem bd6 (n d:Nat)(i:Int):HT.sIx n d (some i)=lS n i:=by
 show(if i<0 then(i+(n:Int)).toNat else min i.toNat n)=_
 unfold lS
 by_cases h:i<0
 ·rw[if_pos h,if_neg (by omega)]
 ·rw[if_neg h,if_pos (by omega)]
theorem bq2 {φ:Nat->Addr}{H:Hp}{l:List li}{y:List V}(h:RVL Γ φ H l y)(G p:Option Int):RVL Γ φ H (lG l G p) (aR9 y G p):=by
 unfold lG aR9
 have e1:HT.sIx y.length 0 G=lX l.length G:=by
  cases G with
  | none=>rfl
  | some i=>rw[bd6,h.length];rfl
 have e2:HT.sIx y.length y.length p=mD l.length p:=by
  cases p with
  | none=>exact h.length
  | some i=>rw[bd6,h.length];rfl
 rw[e1,e2]
 exact(h.drop _).take _
theorem aM7 {α:Type}{l:List α}{p h:Option Int}:∀ d∈lG l p h,d∈l:=λ d hd=>List.mem_of_mem_drop (List.mem_of_mem_take hd)
theorem bn4 {α:Type}(l:List α)(p h:Option Int):(lG l p h).length<=l.length:=by
 unfold lG
 rw[br,d5]
 omega
theorem cc2 (p y:Option Int)(n:Nat):bB p y 1 n=(aw (mD n y - lX n p)).map (lX n p+·):=by
 rw[<-sliceRange_one]
 unfold bB
 have cl:∀ i:Int,max 0 (min (if i<0 then i+(n:Int)else i) (n:Int))=((lS n i:Nat):Int):=λ i=>by
  unfold lS
  by_cases h:i<0
  ·rw[if_pos h,if_neg (by omega)];omega
  ·rw[if_neg h,if_pos (by omega)];omega
 simp only[show((1:Int) > 0)=True by simp,if_true]
 cases p<;>cases y<;>simp only[cl,lX,mD]<;>rfl
theorem aN7 {l:List Nat}:∀(a k:Nat),a+k<=l.length->((aw k).map (a+·)).filterMap (λ x=>l.toArray[x]?)=(l.drop a).take k
 | a,0,_=>by simp
 | a,k+1,h=>by
  rw[cY,bv,List.filterMap_append,aN7 a k (by omega)]
  have hk:a+k<l.length:=by omega
  rw[List.take_add_one,List.getElem?_drop]
  simp[hk]
theorem bh1 (l:List Nat)(p h:Option Int):eO ⟨l.toArray⟩ p h=⟨(lG l p h).toArray⟩:=by
 unfold eO
 have hn:(⟨l.toArray⟩:Str).length=l.length:=by show l.toArray.size=_;simp
 rw[hn,cc2]
 have hb:mD l.length h<=l.length:=by
  cases h with
  | none=>exact am _
  | some i=>show lS l.length i<=_;unfold lS;split<;>omega
 have ha:lX l.length p<=l.length:=by
  cases p with
  | none=>exact c9 _
  | some i=>show lS l.length i<=_;unfold lS;split<;>omega
 unfold lG
 generalize mD l.length h=b at *
 generalize lX l.length p=a at *
 by_cases hc:((1:Int)==1&&((aw (b - a)).map (a+·)).length==l.length)=true
 ·rw[if_pos hc]
  have:b - a=l.length:=by simpa using hc
  have h0:a=0\/l.length=0:=by omega
  rcases h0 with h0|h0
  ·subst h0
   rw[this];simp
  ·have:l=[]:=dF.mp h0
   subst this;simp
 ·rw[if_neg hc]
  by_cases hab:a<=b
  ·have e:=aN7 (l:=l) a (b - a) (by omega)
   show(⟨(gZ (λ x=>l.toArray[x]?) _).toArray⟩:Str)=_
   rw[e]
  ·rw[show b - a=0 by omega];simp
def rSl (Γ:Gm):V->Option Int->Option Int->Hp->VK->Prop:=λ x lo hi H Q=>∃ φ s a d s',Rp Γ φ H s/\RV Γ φ H a x/\a.bnd s.length=true/\mF a lo hi s=.ok d s'/\ai4 Γ φ s H d s' Q
theorem ca6 (hK:X.K=Γ.K):SlR X (rSl Γ):=by
 intro y s σ H x v vl vu J Y sl Q I rx hs Z pu h
 obtain⟨φ,st,a,d,a0,R,ha,na,G,q⟩:=h
 unfold mF at G
 cases a with
 | tup l =>
  cases G
  obtain⟨p,xs,⟨rfl,z1⟩,h1,d1⟩:=ha.tupZ
  unfold lq at na
  refine bw6 hK y s σ H _ v vl vu J Y sl Q I rx hs Z pu ⟨p,xs,rfl,h1,λ t H' e ht hn=>?_⟩
  obtain⟨g,r'⟩:=R.same e
  have d2:=bq2 (RVL.mono g _ _ na d1) J Y
  refine q _ _ _ g (am _) (by unfold lq;exact ax0 na aM7) (RV.tupC ht (λ z=>?_) d2) r'
  rcases hn with hn|⟨rfl,ex⟩
  ·exact hn
  ·rw[ex]
   refine e _ _ (z1 ?_)
   have hl:(lG l J Y).length=l.length:=by rw[<-d2.length,ex,d1.length]
   rwa [ba3 hl]at z
 | str l =>
  cases G
  have hl:=ha.strL
  have ex:=ha.strE;subst ex
  refine bO4 y s σ H _ v vl vu J Y sl Q I rx hs Z pu ⟨_,rfl,by show l.toArray.size<=_;rw[ay];exact ao hl qw,?_⟩
  rw[bh1]
  exact q.here R rfl (RV.strI (ao (bn4 l J Y) hl))
 | ref r =>
  have ex:=ha.refE;subst ex
  simp only at G
  cases hsr:st[r]? with
  | none=>rw[hsr]at G;cases G
  | some o =>
   rw[hsr]at G
   cases o with
   | lst l =>
    obtain⟨rfl,rfl⟩:=qC G
    obtain⟨xs,e1,d1⟩:=R.addr hsr
    have wf:=R.wf _ _ hsr
    unfold ls at wf
    exact bh8 hK y s σ H _ v vl vu J Y sl Q I rx hs Z pu ⟨φ r,xs,rfl,SqL.of e1,λ p hp=>q.alloc R (bq2 d1 J Y) (ax0 wf aM7) hp⟩
   | _=>exact fb G
 | _=>exact fb G
variable {Γ:Gm} {X:Cx}
def rCl (Γ:Gm)(f:List li->lh->lp li):List V->Hp->VK->Prop:=λ xs H Q=>∃ φ s l d s',Rp Γ φ H s/\RVL Γ φ H l xs/\lj s.length l=true/\f l s=.ok d s'/\ai4 Γ φ s H d s' Q
theorem RVL.one {φ:Nat->Addr}{H:Hp}{d:li}{p:List V}(h:RVL Γ φ H [d] p):∃ x,p=[x]/\RV Γ φ H d x:=by
 obtain⟨x,r,rfl,G,y⟩:=h.uncons
 rw[y.unnil];exact⟨x,rfl,G⟩
theorem by0 (a b c:Int):mx3 a b c=max (max a b) c:=by unfold mx3 mx;split<;>split<;>omega
noncomputable def biN:lO->Option (String×Nat)
 | .len=>some ("len",1)|.abs=>some ("abs",1)|.min2=>some ("min",2)|.max2=>some ("max",2)|.max3=>some ("max",3)|_=>none
theorem qz:∀ {l:List li} {is:List Int},l7 l=some is->l=is.map DV.D.int
 | [],is,h=>by unfold l7 at h;cases h;rfl
 | d::l,is,h=>by
  cases d with
  | int i =>
   have h:(l7 l).map (i::·)=some is:=h
   cases e:l7 l with
   | none=>rw[e]at h;cases h
   | some m=>rw[e]at h;cases h;rw[qz e];rfl
  | _=>cases h
theorem ap3:∀ {l:List li} {is:List Bool},mf l=some is->l=is.map DV.D.bl
 | [],is,h=>by unfold mf at h;cases h;rfl
 | d::l,is,h=>by
  cases d with
  | bl i =>
   have h:(mf l).map (i::·)=some is:=h
   cases e:mf l with
   | none=>rw[e]at h;cases h
   | some m=>rw[e]at h;cases h;rw[ap3 e];rfl
  | _=>cases h
theorem RVL.ints {φ:Nat->Addr}{H:Hp}:∀ {is:List Int} {p:List V},RVL Γ φ H (is.map DV.D.int) p->p=is.map V.int
 | [],_,h=>h.unnil
 | i::is,_,h=>by
  obtain⟨x,r,rfl,G,y⟩:=RVL.uncons h
  rw[G.intE,RVL.ints y];rfl
theorem RVL.bls {φ:Nat->Addr}{H:Hp}:∀ {is:List Bool} {p:List V},RVL Γ φ H (is.map DV.D.bl) p->p=is.map V.bl
 | [],_,h=>h.unnil
 | i::is,_,h=>by
  obtain⟨x,r,rfl,G,y⟩:=RVL.uncons h
  rw[G.blE,RVL.bls y];rfl
theorem bg6 {f:li->ma li}{l:List li}{s s':lh}{d:li}(h:mV f l s=.ok d s'):∃ a,l=[a]/\f a s=.ok d s':=by
 match l,h with
 | [a],h=>exact⟨a,rfl,h⟩
 | [],h=>exact fb h
 | _::_::_,h=>exact fb h
theorem aX0 (Z:X.K=Γ.K)(hc:X.calm=true){b:lO}{nm:String}{k:Nat}(hn:biN b=some (nm,k)):ag6 X (.builtin nm) (rCl Γ (mZ b)):=by
 intro y s σ H xs us Q I r h
 obtain⟨φ,st,l,d,Y,R,hl,nl,G,q⟩:=h
 cases b with
 | len =>
  cases hn
  have G:mV DV.by6 l st=.ok d Y:=G
  obtain⟨a,rfl,J⟩:=bg6 G
  clear G
  obtain⟨x,rfl,hx⟩:=hl.one
  unfold DV.by6 at J
  cases a with
  | tup l =>
   cases J
   obtain⟨p,ys,rfl,h1,d1⟩:=hx.tupE
   refine aq7 Z y s σ H _ us Q I r ⟨p,ys,rfl,.inr h1,?_⟩
   rw[d1.length];exact q.here R rfl RV.intI
  | str l =>
   cases J
   have hL:=hx.strL
   have e:=hx.strE;subst e
   refine aC4 y s σ H _ us Q I r ⟨_,rfl,by show l.toArray.size<=_;rw[ay];exact ao hL qw,?_⟩
   show Q (.int ((l.toArray.size:Nat):Int)) H
   rw[ay]
   exact q.here R rfl RV.intI
  | ref n =>
   have e:=hx.refE;subst e
   simp only at J
   cases hs:st[n]? with
   | none=>rw[hs]at J;cases J
   | some o =>
    rw[hs]at J
    cases o with
    | lst l =>
     cases J
     obtain⟨ys,e1,d1⟩:=R.addr hs
     refine aq7 Z y s σ H _ us Q I r ⟨φ n,ys,rfl,.inl (SqL.of e1),?_⟩
     rw[d1.length];exact q.here R rfl RV.intI
    | ro l =>
     cases J
     obtain⟨ys,e1,d1⟩:=R.obj _ _ hs
     refine aq7 Z y s σ H _ us Q I r ⟨φ n,ys,rfl,.inl e1.1,?_⟩
     rw[d1.length];exact q.here R rfl RV.intI
    | dic l=>exact fb J
    | dit l=>exact fb J
    | ins c l=>exact fb J
  | _=>exact fb J
 | abs =>
  cases hn
  have G:(match l7 l with|some [i]=>.ok (.int (if i<0 then -i else i)) st|_=>.bad:lp li)=.ok d Y:=G
  split at G
  ·rename_i i e
   cases G
   have:=qz e;subst this
   have:=RVL.ints hl;subst this
   exact bm3 y s σ H _ us Q I r ⟨i,rfl,q.here R rfl RV.intI⟩
  ·exact fb G
 | min2 =>
  cases hn
  have G:(match l7 l with|some [a,b]=>.ok (.int (if b<a then b else a)) st|_=>.bad:lp li)=.ok d Y:=G
  split at G
  ·rename_i a b e
   cases G
   have:=qz e;subst this
   have:=RVL.ints hl;subst this
   exact aU4 hc y s σ H _ us Q I r ⟨_,_,rfl,q.here R rfl RV.intI⟩
  ·exact fb G
 | max2 =>
  cases hn
  have G:(match l7 l with|some [a,b]=>.ok (.int (if b > a then b else a)) st|_=>.bad:lp li)=.ok d Y:=G
  split at G
  ·rename_i a b e
   cases G
   have:=qz e;subst this
   have:=RVL.ints hl;subst this
   exact bc8 hc y s σ H _ us Q I r ⟨_,_,rfl,q.here R rfl RV.intI⟩
  ·exact fb G
 | max3 =>
  cases hn
  have G:(match l7 l with|some [a,b,c]=>.ok (.int (max (max a b) c)) st|_=>.bad:lp li)=.ok d Y:=G
  split at G
  ·rename_i a b c e
   cases G
   have:=qz e;subst this
   have:=RVL.ints hl;subst this
   refine be8 hc y s σ H _ us Q I r ⟨_,_,_,rfl,?_⟩
   rw[by0]
   exact q.here R rfl RV.intI
  ·exact fb G
 | _=>cases hn
theorem bN2:ag6 X (.type "int") (rCl Γ (mZ .int)):=by
 intro p s σ H Y us Q I r h
 obtain⟨φ,st,l,d,G,R,hl,J,y,q⟩:=h
 have y:(match mf l with|some [b]=>.ok (.int (if b then 1 else 0)) st|_=>.bad:lp li)=.ok d G:=y
 split at y
 ·rename_i b e
  cases y
  have:=ap3 e;subst this
  have:=RVL.bls hl;subst this
  exact aY4 p s σ H _ us Q I r (.inr ⟨b,rfl,q.here R rfl RV.intI⟩)
 ·exact fb y
noncomputable def at0:Nat->String
 | 1 => "int" | 2 => "bool" | 3 => "str" | 4 => "tuple" | _ => "list"
theorem bF1 {K:ac}(k:Nat)(hk:1<=k/\k<=5):bH K (.type "NoneType") (.type (at0 k))=some false/\bH K (.type "bool") (.type (at0 k))=some (k==1||k==2) /\
  bH K (.type "int") (.type (at0 k))=some (k==1)/\bH K (.type "str") (.type (at0 k))=some (k==3)/\bH K (.type "tuple") (.type (at0 k))=some (k==4)/\bH K (.type "list") (.type (at0 k))=some (k==5):=by
 obtain⟨p,y⟩:=hk
 rcases(by omega:k=1\/k=2\/k=3\/k=4\/k=5)with h|h|h|h|h<;>subst h<;>refine⟨?_,?_,?_,?_,?_,?_⟩<;>with_unfolding_all rfl
theorem aQ9 {p:List (Addr×Obj)}{σ:St}{H:Hp}{s:af}{A:aX}{E:Value->af->Prop}{Q:Value->af->Prop}{c:Value}{b:Bool}{a:Addr}{y:List V}(I:Inv X p σ H s)(G:SqT X.K H a y)(e:bH X.K (.type "tuple") c=some b)
  (h:∀ tk,Q (.bool b) { s with toks:=tk }):wpAny (model X.prog X.w) A (call (.builtin "isinstance") [.ref a,c]) Q E s:=by
 obtain⟨its,_,⟨o,g1,J,_⟩,_⟩:=I.tuple G
 exact bG iK I.kIn ⟨o,g1,J⟩ e (λ z=>nomatch z) h
theorem bT0 (hK:X.K=Γ.K){k:Nat}(hk:1<=k/\k<=5):ag6 X (.builtin "isinstance") (λ Y H Q=>∃ x,Y=[x,.ty (at0 k)]/\rCl Γ (mV (nh k)) [x] H Q):=by
 intro J s σ H Y us Q I r h
 obtain⟨x,rfl,φ,st,l,d,G,R,hl,nl,hf,q⟩:=h
 obtain⟨a,rfl,y⟩:=bg6 hf
 clear hf
 obtain⟨u,w',rfl,r1,r2⟩:=bi0 r
 cases r2
 obtain⟨x',e',hx⟩:=hl.one
 cases e'
 obtain⟨k0,k1,k2,k3,k4,k5⟩:=bF1 (K:=X.K) k hk
 unfold nh at y
 cases a with
 | non=>cases y;have e:=hx.nonE;subst e;exact jp I r1 .non k0 λ tk=>⟨.bl _,H,I.tok _,rfl,q.here R rfl RV.blI⟩
 | bl b=>cases y;have e:=hx.blE;subst e;exact jp I r1 (.bl b) k1 λ tk=>⟨.bl _,H,I.tok _,rfl,q.here R rfl RV.blI⟩
 | int b=>cases y;have e:=hx.intE;subst e;exact jp I r1 (.int b) k2 λ tk=>⟨.bl _,H,I.tok _,rfl,q.here R rfl RV.blI⟩
 | str b=>cases y;have e:=hx.strE;subst e;exact jp I r1 (.str _) k3 λ tk=>⟨.bl _,H,I.tok _,rfl,q.here R rfl RV.blI⟩
 | tup l =>
  cases y
  obtain⟨p,ys,rfl,Z,d1⟩:=hx.tupE
  cases r1
  rw[<-hK]at Z
  exact aQ9 I Z k4 λ tk=>⟨.bl _,H,I.tok _,rfl,q.here R rfl RV.blI⟩
 | ref n =>
  have e:=hx.refE;subst e
  have y:(match st[n]? with|some (.lst _)=>.ok (.bl (k==5)) st|_=>.bad:lp li)=.ok d G:=y
  cases hs:st[n]? with
  | none=>rw[hs]at y;cases y
  | some o =>
   rw[hs]at y
   cases o with
   | lst l =>
    cases y
    obtain⟨ys,e1,d1⟩:=R.addr hs
    exact jp I r1 (.lst e1) k5 λ tk=>⟨.bl _,H,I.tok _,rfl,q.here R rfl RV.blI⟩
   | _=>exact fb y
 | _=>exact fb y
variable {X:Cx}
theorem bx1 {bs:List Bool}{its:List Value}(r:Vals (bs.map V.bl) its){i:Nat}{v:Value}(h:its[i]?=some v):∃ z,bs[i]?=some z/\v=Value.bool z:=by
 induction bs generalizing its i with
 | nil=>rw[cF]at r;cases r;simp at h
 | cons b bs ih =>
  rw[aG]at r
  cases r with
  | cons r1 r2 =>
   cases i with
   | zero =>
    cases r1
    have:_=v:=aF h
    exact⟨b,rfl,this.symm⟩
   | succ i=>exact ih r2 h
theorem aW5 {bs:List Bool}:(aw bs.length).all (λ i=>bs.getD i false)=bs.all id:=by
 rw[eQ,aO,aO]
 constructor
 ·intro h b hb
  obtain⟨i,p,e⟩:=g6.mp hb
  have:=h i (cq.mpr p)
  rw[aN,ah p]at this
  rw[<-e];exact this
 ·intro h i p
  have p:=cq.mp p
  rw[aN,ah p]
  exact h _ (List.getElem_mem p)
theorem aV6 {K:ac}(hc:X.calm=true)(hK:X.K=K):ag6 X (.builtin "all") (λ Y H Q=>∃(a:Addr) (bs:List Bool),Y=[.ref a]/\SqL K H a (bs.map V.bl)/\Q (.bl (bs.all id)) H):=by
 subst hK
 intro J s σ H Y us Q I r h
 obtain⟨a,bs,rfl,hS,q⟩:=h
 obtain⟨u,rfl,ru⟩:=as0 r
 cases ru
 obtain⟨its,Z,y,hz⟩:=I.list hS
 have hl:=Z.length
 rw[aC]at hl
 refine call_all_walk (dJ y.isList ?_)
 have G:a<s.heap.objs.size:=by obtain⟨o,_,e,_⟩:=y;exact aJ e
 have W:=k9 (prog:=X.prog) (w:=X.w) (A:=X.A.in1) (I.ok.hd hc) s.heap.objs.size a (aH G) its.toArray
 refine⟨_,_,_,_,_,_,λ i=>bs.getD i false,rfl,W,⟨⟨_,a8 _ rfl,rfl,rfl⟩,?_⟩,λ i v s' Q' E' p hQ=>?_,λ h' tk k=>?_⟩
 ·obtain⟨o,e,r⟩:=y.isList
  exact⟨o,ar _ e,r⟩
 ·obtain⟨z,e1,e2⟩:=bx1 Z (i:=i) (v:=v) (by have p:its.toArray[i]?=some v:=p;rw[dX]at p;exact p)
  subst e2
  refine cE ?_
  have:bs.getD i false=z:=by rw[aN,e1];rfl
  rw[<-this];exact hQ
 ·have es:its.toArray.size=bs.length:=by rw[ay];omega
  rw[es,aW5]
  refine⟨.bl (bs.all id),H,I.kept (h':=h') (t':=tk) λ b o q=>k b o ?_ (ar _ q),rfl,q⟩
  intro z
  have z':b=s.heap.objs.size:=by simpa using z
  exact absurd (aJ q) (by rw[z'];exact bI _)
noncomputable def sgV (x:List Nat):List V:=x.map λ c=>.str ⟨#[c]⟩
theorem bI7 {vs:List V}{p:List Value}(hl:vs.length=p.length)(h:∀(i:Nat) (x:V) (u:Value),vs[i]?=some x->p[i]?=some u->RelV x u):Vals vs p:=by
 induction vs generalizing p with
 | nil=>cases p with
  | nil=>exact .nil
  | cons _ _=>cases hl
 | cons v vs ih=>cases p with
  | nil=>cases hl
  | cons a p=>exact .cons (h 0 v a rfl rfl) (ih (by simpa using hl) λ i x u e1 e2=>h (i+1) x u e1 e2)
theorem at9 {x:List Nat}{p:Array Value}(h:ItemsOf (SignAt ⟨x.toArray⟩) p x.length):Vals (sgV x) p.toList:=by
 have hl:(sgV x).length=p.toList.length:=by unfold sgV;rw[aC];simpa using h.1.symm
 refine bI7 hl λ i v u e1 e2=>?_
 obtain⟨c,t,y,G⟩:=h.2 i u (by rw[<-gL];exact e2)
 unfold sgV at e1
 rw[ax]at e1
 have y:x[i]?=some c:=by simpa using y
 rw[y]at e1
 cases e1
 exact⟨t,G⟩
theorem aG2 (hc:X.calm=true):ag6 X (.type "tuple") (λ Y H Q=>∃ x:List Nat,Y=[.str ⟨x.toArray⟩]/\x.length<=lv/\∀ l,H l=none->Q (.ref l) (upd H l (.tup (sgV x)))):=by
 intro p s σ H Y us Q I r h
 obtain⟨x,rfl,hl,q⟩:=h
 obtain⟨u,rfl,Z⟩:=as0 r
 obtain⟨t,rfl⟩:=Z
 have hz:(sgV x).length<=aP:=by unfold sgV;rw[aC];exact ao hl qw
 refine call_tuple_str (I.ok.hd hc) _ t (λ h' tk y kp G=>?_) (by show x.toArray.size<=_;rw[ay];exact ao hl qw)
 have G:ItemsOf (SignAt ⟨x.toArray⟩) y x.length:=by simpa using G
 have rv:=at9 G
 have J:Inv X p σ H { s with heap:=h',toks:=tk }:=I.kept (t':=tk) kp
 have I2:Inv X p σ (upd H h'.objs.size (.tup (sgV x))) { s with heap:=h'.push { cls:=.type "tuple",data:=.seq y },toks:=tk } :=
  J.laid (t':=tk) (λ b o e=>ar _ e) (am _) (show ag2 X.prog X.w _ _ _ (.tup (sgV x))from⟨hz,y.toList,rv,jO _ _⟩)
 exact⟨.ref h'.objs.size,_,I2,rfl,q _ (J.hok.fresh (am _))⟩
theorem aS9 (hc:X.calm=true):ag6 X (.type "list") (λ J H Q=>∃ x:List Nat,J=[.str ⟨x.toArray⟩]/\x.length<=lv/\∀ l,H l=none->Q (.ref l) (upd H l (.lst (sgV x)))):=by
 intro G s σ H J us Q I r h
 obtain⟨x,rfl,hl,q⟩:=h
 obtain⟨u,rfl,Y⟩:=as0 r
 obtain⟨t,rfl⟩:=Y
 have hz:(sgV x).length<=aP:=by unfold sgV;rw[aC];exact ao hl qw
 refine call_list_str (I.ok.hd hc) _ t (λ h' tk p c' kp e y=>?_) (by show x.toArray.size<=_;rw[ay];exact ao hl qw)
 have y:ItemsOf (SignAt ⟨x.toArray⟩) p x.length:=by simpa using y
 have Z:=at9 y
 exact⟨.ref s.heap.objs.size,_,I.laid (t':=tk) kp (am _) (show ag2 X.prog X.w _ h' _ (.lst (sgV x))from⟨hz,p.toList,c',Z,e⟩),rfl,q _ (I.hok.fresh (am _))⟩
section
variable {Γ:Gm} {φ φ':Nat->Addr} {H H' H1 H2 H3:Hp} {clos:List (Str×Addr)} {s s':lh}
theorem qf (hc:Cells clos H){a:Addr}{u:HO}(e:H a=some u)(h:∀ o,u≠.frz o (.own a)):isC clos a≠true:=λ z=>by
 obtain⟨o,v,q,_⟩:=hc.at z
 rw[e]at q;cases q;exact h o rfl
theorem SqT.dropC {K:ac}{a:Addr}{p:List V}(hc:Cells clos H)(h:SqT K H a p):SqT K (af8 clos H) a p:=by
 rcases h with(h|⟨o,h⟩)|h
 ·exact .inl (.inl (by rw[af8.ne (qf hc h (λ _ z=>by cases z))];exact h))
 ·exact .inl (.inr ⟨o,by rw[af8.ne (qf hc h (λ _ z=>by cases z))];exact h⟩)
 ·exact .inr h
theorem SqL.dropC {K:ac}{a:Addr}{p:List V}(hc:Cells clos H)(h:SqL K H a p):SqL K (af8 clos H) a p:=by
 rcases h with(h|⟨o,h⟩)|h
 ·exact .inl (.inl (by rw[af8.ne (qf hc h (λ _ z=>by cases z))];exact h))
 ·exact .inl (.inr ⟨o,by rw[af8.ne (qf hc h (λ _ z=>by cases z))];exact h⟩)
 ·exact .inr h
theorem SqF.dropC {K:ac}{a:Addr}{y:List V}(hc:Cells clos H)(h:SqF K H a y):SqF K (af8 clos H) a y:=by
 refine⟨SqL.dropC hc h.1,λ p k=>?_⟩
 have hk:Kp H (λ b=>if isC clos b=true then H b else p b):=λ b o e f=>by
  by_cases z:isC clos b=true
  ·show(if isC clos b=true then H b else p b)=_;rw[if_pos z];exact e
  ·show(if isC clos b=true then H b else p b)=_
   rw[if_neg z]
   exact k b o (by rw[af8.ne z];exact e) f
 have q:=h.2 _ hk
 have at_:∀ u,(if isC clos a=true then H a else p a)=some u->(∀ o,u≠.frz o (.own a))->p a=some u:=λ u e G=>by
  by_cases z:isC clos a=true
  ·rw[if_pos z]at e
   exact absurd z (qf hc e G)
  ·rw[if_neg z]at e;exact e
 rcases q with(q|⟨o,q⟩)|q
 ·exact .inl (.inl (at_ _ q (λ _ z=>by cases z)))
 ·exact .inl (.inr ⟨o,at_ _ q (λ _ z=>by cases z)⟩)
 ·exact .inr q
mutual
theorem RV.dropC (hc:Cells clos H):∀(d:li) (v:V),d.ncl=true->RV Γ φ H d v->RV Γ φ (af8 clos H) d v
 | .non,_,_,h=>by unfold RV at h ⊢;exact h
 | .bl _,_,_,h=>by unfold RV at h ⊢;exact h
 | .int _,_,_,h=>by unfold RV at h ⊢;exact h
 | .str _,_,_,h=>by unfold RV at h ⊢;exact h
 | .tup l,_,n,h=>by
  unfold RV at h ⊢
  unfold ni at n
  obtain⟨a,p,e,q,r⟩:=h
  exact⟨a,p,e,⟨SqT.dropC hc q.1,λ z=>by rw[af8.ne (qf hc (q.2 z) (λ _ z=>by cases z))];exact q.2 z⟩,RVL.dropC hc l p n r⟩
 | .ref k,_,_,h=>by unfold RV at h ⊢;exact h
 | .fn _,_,_,h=>by unfold RV at h ⊢;exact h
 | .clo id cs,_,n,h=>by unfold ni at n;cases n
theorem RVL.dropC (hc:Cells clos H):∀(l:List li) (p:List V),l6 l=true->RVL Γ φ H l p->RVL Γ φ (af8 clos H) l p
 | [],_,_,h=>by unfold RVL at h ⊢;exact h
 | d::l,_,n,h=>by
  unfold l6 at n
  rw[ag]at n
  obtain⟨x,r,e,G,y⟩:=h.uncons
  subst e
  exact .cons (RV.dropC hc d x n.1 G) (RVL.dropC hc l r n.2 y)
end
theorem RVD.dropC {κ:Type}{y:li->Option κ}(hc:Cells clos H):∀(l:List (li×li)) (p:List (κ×V)),l6 (l.map (·.2))=true->RVD y Γ φ H l p->RVD y Γ φ (af8 clos H) l p
 | [],_,_,h=>h
 | (d,e)::l,_,n,h=>by
  obtain⟨k,v,r,e1,e2,G,J⟩:=h
  rw[aG]at n
  unfold l6 at n
  rw[ag]at n
  exact⟨k,v,r,e1,e2,RV.dropC hc e v n.1 G,RVD.dropC hc l r n.2 J⟩
theorem RO.dropC {a:Addr}{o:lH}(hc:Cells clos H)(h:RO Γ φ H a o)(n:o.ncl=true):RO Γ φ (af8 clos H) a o:=by
 cases o with
 | lst l =>
  obtain⟨p,e,r⟩:=h
  exact⟨p,by rw[af8.ne (qf hc e (λ _ z=>by cases z))];exact e,RVL.dropC hc l p n r⟩
 | ro l =>
  obtain⟨p,e,r⟩:=h
  exact⟨p,SqF.dropC hc e,RVL.dropC hc l p n r⟩
 | dic l =>
  obtain⟨p,e,r⟩:=h
  exact⟨p,by rw[af8.ne (qf hc e (λ _ z=>by cases z))];exact e,RVD.dropC hc l p n r⟩
 | dit l =>
  obtain⟨p,e,r⟩:=h
  exact⟨p,by rw[af8.ne (qf hc e (λ _ z=>by cases z))];exact e,RVD.dropC hc l p n r⟩
 | ins _ _=>exact h.elim
theorem TabsH.dropC {T:List (Addr×Str)}(hc:Cells clos H)(h:TabsH T H):TabsH T (af8 clos H):=λ y hy=>by
 obtain⟨ps,e,t,c⟩:=h y hy
 refine⟨ps,by rw[af8.ne (qf hc e (λ _ z=>by cases z))];exact e,t,λ pos p q=>?_⟩
 obtain⟨G,e1,e2⟩:=c pos p q
 exact⟨G,e1,by rw[af8.ne (qf hc e2 (λ _ z=>by unfold jq at z;cases z))];exact e2⟩
theorem Rp.dropC (hc:Cells clos H)(r:Rp Γ φ H s)(n:s.all nj=true):Rp Γ φ (af8 clos H) s :=
 ⟨r.inj,λ i o e=>RO.dropC hc (r.obj i o e) (aO.mp n o (bq e)),r.wf,TabsH.dropC hc r.tab⟩
theorem Gr.caught {N:List Str}{kd:Str->Option bQ}{σ:St}(h:Caught clos N kd σ H1 H2)(g:Gr φ s H2 φ' s' H3):Gr φ s H1 φ' s' (af8 clos H3):=by
 have p:∀ b o,H1 b=some o->isC clos b≠true:=λ b o e z=>by rw[h.free b z]at e;cases e
 have up:∀ b o,H1 b=some o->H2 b=some o:=λ b o e=>by rw[h.ne b (p b o e)];exact e
 refine⟨⟨g.w.map,λ b o e f=>?_⟩,g.le,λ i J y=>?_,g.kd,λ b e=>?_,λ b o e Y G=>?_⟩
 ·rw[af8.ne (p b o e)];exact g.w.kp b o (up b o e) f
 ·have:=g.new i J y
  by_cases z:isC clos (φ' i)=true
  ·exact h.free _ z
  ·rw[<-h.ne _ z];exact this
 ·cases q:H1 b with
  | none=>exact absurd q e
  | some o =>
   rw[af8.ne (p b o q)]
   exact g.st b (by rw[up b o q];simp)
 ·rw[af8.ne (p b o e)];exact g.fr b o (up b o e) Y G
theorem aZ6 (h:∀ b,isC clos b=true->H' b=none):ai1 H' (Put clos H H'):=λ b o e=>by
 rw[Put.ne (λ z=>by rw[h b z]at e;cases e)];exact e
theorem Gr.put (hc:Cells clos H)(p:∀ b,isC clos b=true->H' b=none)(hK:∀ b o,Γ.K.lookup b=some o->H b=none)(Z:Rp Γ φ' H' s')(g:Gr φ s (af8 clos H) φ' s' H'):Gr φ s H φ' s' (Put clos H H'):=by
 refine⟨⟨g.w.map,λ b o e f=>?_⟩,g.le,λ i h1 J=>?_,g.kd,λ b e=>?_,λ b o e Y no=>?_⟩
 ·by_cases z:isC clos b=true
  ·rw[Put.cell z];exact e
  ·rw[Put.ne z];exact g.w.kp b o (by rw[af8.ne z];exact e) f
 ·have hd:=g.new i h1 J
  by_cases z:isC clos (φ' i)=true
  ·have y:=p _ z
   obtain⟨o,eo⟩:∃ o,s'[i]?=some o:=⟨s'[i],ah J⟩
   have h:=Z.obj i o eo
   cases o with
   | lst l=>obtain⟨G,e,_⟩:=h;rw[y]at e;cases e
   | ro l =>
    obtain⟨G,e,_⟩:=h
    rcases e.1 with(e|⟨_,e⟩)|⟨ob,its,n,e,_⟩
    ·rw[y]at e;cases e
    ·rw[y]at e;cases e
    ·exact hK _ _ e
   | dic l=>obtain⟨G,e,_⟩:=h;rw[y]at e;cases e
   | dit l=>obtain⟨G,e,_⟩:=h;rw[y]at e;cases e
   | ins _ _=>exact h.elim
  ·rw[af8.ne z]at hd;exact hd
 ·by_cases z:isC clos b=true
  ·rw[Put.cell z];exact e
  ·rw[Put.ne z];exact g.st b (by rw[af8.ne z];exact e)
 ·by_cases z:isC clos b=true
  ·rw[Put.cell z];exact e
  ·rw[Put.ne z];exact g.fr b o (by rw[af8.ne z];exact e) Y no
theorem bp7 {T:List (Addr×Str)}{cells:List (Str×Addr)}{P:Addr}{q:Str}{params:bA}{body:Expr}{scope:Scope}{pos:Pos}{σ:St}{H:Hp}{Q:VK}(hT:TabsH T H)(nd:(T.map (·.1)).Nodup)(hm:(P,q)∈T)
  (go:∀(f:Addr) (H':Hp),bp5 H H'->(∀ b,H b≠none->H' b≠none)->TabsH T H'->H f=none->(∃ pm Y J,H' f=some (aM0 f (bU "<lambda>" q params body scope (ai8 cells scope.names []) pm (.ref Y) J))/\H' Y=some (jq Y q))->Q (.ref f) H') :
  ci7 cells P q params body scope pos σ H Q:=by
 obtain⟨ps,Z,ht,hc⟩:=hT _ hm
 refine⟨ps,Z,ht,λ hn Y f pm J n1 n2 ne=>?_,λ cv e=>?_⟩
 ·have cP:Y≠P:=λ z=>by rw[z,Z]at n1;cases n1
  have fP:f≠P:=λ z=>by rw[z,Z]at n2;cases n2
  have G:∀ b,b≠P->H b≠none->∀ o1 o2 o3,upd (upd (upd H P o1) Y o2) f o3 b=H b:=λ b z1 z2 o1 o2 o3=>by
   rw[zd λ z=>by subst z;exact z2 n2,zd λ z=>by subst z;exact z2 n1,zd z1]
  refine go f _ (λ b o d e=>?_) (λ b hb=>?_) (λ y hy=>?_) n2 ⟨pm,Y,J,zm,by rw[zd ne,zm]⟩
  ·rw[G b (λ z=>by subst z;rw[Z]at e;cases e;exact d _ rfl) (by rw[e];simp)];exact e
  ·by_cases z:b=P
   ·subst z;rw[zd (cy fP),zd (cy cP),zm];simp
   ·rw[G b z hb];exact hb
  ·by_cases z:y.1=P
   ·have ey:y=(P,q):=by
     have:∀(l:List (Addr×Str)),(l.map (·.1)).Nodup->y∈l->(P,q)∈l->y=(P,q):=by
      intro l
      induction l with
      | nil=>intro _ h;simp at h
      | cons a l ih =>
       intro hn h1 h2
       rw[aG,dk]at hn
       rcases aE.mp h1 with e1|h1<;>rcases aE.mp h2 with e2|h2
       ·rw[e1,e2]
       ·exact absurd (by rw[<-e1,z];exact bF (f:=(·.1)) h2) hn.1
       ·exact absurd (by rw[<-e2,<-z];exact bF (f:=(·.1)) h1) hn.1
       ·exact ih hn.2 h1 h2
     exact this T nd hy hm
    subst ey
    refine⟨_,by rw[zd (cy fP),zd (cy cP),zm],?_,λ p cv e=>?_⟩
    ·rw[ir];exact TriplesOk_snoc _ _ _ _ ht
    ·rw[ir]at e
     rcases codeAmong_add _ ht e with e'|e'
     ·obtain⟨c2,e1,e2⟩:=hc p cv e'
      exact⟨c2,e1,by rw[G c2 (λ z=>by subst z;rw[Z]at e2;unfold jq at e2;cases e2) (by rw[e2];simp)];exact e2⟩
     ·exact⟨Y,e',by rw[zd ne,zm]⟩
   ·obtain⟨qs,e1,e2,e3⟩:=hT y hy
    refine⟨qs,by rw[G y.1 z (by rw[e1];simp)];exact e1,e2,λ p cv e=>?_⟩
    obtain⟨c2,e4,e5⟩:=e3 p cv e
    exact⟨c2,e4,by rw[G c2 (λ z=>by subst z;rw[Z]at e5;unfold jq at e5;cases e5) (by rw[e5];simp)];exact e5⟩
 ·obtain⟨Y,e1,e2⟩:=hc pos cv e
  refine⟨Y,e1,λ f pm J n=>go f _ (.of ((ai1.refl H).new n)) (λ b hb=>by
   by_cases z:b=f
   ·subst z;rw[zm];simp
   ·rw[zd z];exact hb) (hT.new n) n ⟨pm,Y,J,zm,?_⟩⟩
  rw[zd (zC e2 n)];exact e2
theorem by4 {P:aM}{w:World}{K:ac}{mg:Str->Option Value}{base:Heap}{k:Nat}{f:Addr}{N ps fr:List Str}{name qual:Str}{params:bA}{body:List Stmt}{scope:Scope}{h:List (Str×Addr)}{cap:List V}{sp:Sp}
  (S:LamScope N ps fr scope) (len:∀ vs H Q E,sp vs H Q E->vs.length=ps.length) (a5:cap.length=fr.length)
  (Y:∀(a1 pm:Value) (c':Addr) (a0:Value) (us:List Value),us.length=ps.length->ef (et name qual params body scope h .none .none a1 pm none (.ref c') a0) ⟨us,[]⟩=pure (ps.zip us))
  (Z:∀(A:aX) (p:List Env) (s:af) (H:Hp) (cd:Value) (vs:List V) (Q:VK),Room k (A.deeper (cS qual scope s.heap.objs.size f cd (aQ (s.heap.objs.size+1) scope.names h)))->ao8 H f name qual params body scope fr cap h->(∀ b o,K.lookup b=some o->H b=none)->sp vs H Q E0 ->
   ∃ t,PSs (aH2 P w K mg base N qual scope f cd h A p s H) body t/\t { nx:=λ _ H'=>(∀ b,isC h b=true->H' b=none)->Q .non (Put h H H'),rt:=λ v H'=>(∀ b,isC h b=true->H' b=none)->Q v (Put h H H') } (vs.map some++cap.map some) (af8 h H)) :
  ClOk P w K mg base (k+1) (λ H=>ao8 H f name qual params body scope fr cap h) f sp:=by
 refine⟨λ A p s H us vs Q hr G hR r a2=>?_⟩
 have hl:=len _ _ _ _ a2
 obtain⟨a1,pm,c',a0,h1,h2,h3,h4,h5,h6⟩:=id hR
 have a6:s.heap.NoLimit:=G.mod.nolimit.keeps λ b o e=>(G.bs b o e).1
 refine gI hr.depth (aw1 G.hok h1) rfl S.co S.gen rfl (az7 G.hok h2) ?_
 rw[Y a1 pm c' a0 us (by rw[<-r.length];exact hl)]
 refine aI (au2 S.kind (λ y hy=>?_) λ env he s1 x=>?_)
 ·rcases S.par y.1 (dm (show(y.1,y.2)∈ps.zip us from hy)).1 with q|q
  ·exact .inl q
  ·exact .inr ⟨q,ql q⟩
 ·subst he
  refine⟨a6.keeps x.toInCall.keep,codeAny_func ?_⟩
  obtain⟨t,ht,hq⟩:=Z A p s H (.ref c') vs Q (hr.deeper _) hR (λ b o e=>(G.bs b o (G.mod.kin b o e)).2) a2
  have I:=bb7 S hr.hd G hl a5 r h3 h4 h5 h6 x
  refine bz (ht [] s1 _ _ _ I hq) (λ fl s' hs=>?_) λ e s' hs=>hs.elim
  have fin:∀ {σ':St} {H':Hp} {v:V} {u:Value},Inv (aH2 P w K mg base N qual scope f (.ref c') h A p s H) [] σ' H' s'->RelV v u->((∀ b,isC h b=true->H' b=none)->Q v (Put h H H'))->CE p P w H s Q u s':=λ {σ' H' v u} J rv q=>by
   obtain⟨un,a4⟩:=aX1 G.hok h3 G.frf J.base J.hok
   have a3:∀ b,isC h b=true->H' b=none:=λ b y=>by
    obtain⟨o,v,z,_⟩:=h3.at y
    exact(show Un (frs p) [] (af8 h H) H' s.heap s'.heap from J.base).free b o (G.hok b _ z).1 (af8.cell y) (by simp)
   exact⟨v,_,J.os,J.bare,un,a4,rv,q a3⟩
  cases fl with
  | ret u =>
   obtain⟨v,σ',H',J,rv,q⟩:=hs
   exact fin J rv q
  | next =>
   obtain⟨σ',H',J,q⟩:=hs
   exact fin (v:=V.non) (u:=Value.none) J rfl q
  | brk =>
   obtain⟨_,_,_,q⟩:=hs
   exact bf q
  | cont =>
   obtain⟨_,_,_,q⟩:=hs
   exact bf q
theorem bw0 {P:aM}{w:World}{K:ac}{mg:Str->Option Value}{base:Heap}{k:Nat}{f:Addr}{N ps fr:List Str}{qual:Str}{params:bA}{body:Expr}{scope:Scope}{h:List (Str×Addr)}{cap:List V}{sp:Sp}
  (S:LamScope N ps fr scope) (len:∀ vs H Q E,sp vs H Q E->vs.length=ps.length) (a4:cap.length=fr.length)
  (Y:∀(pm:Value) (c':Addr) (a0:Value) (us:List Value),us.length=ps.length->ef (bU "<lambda>" qual params body scope h pm (.ref c') a0) ⟨us,[]⟩=pure (ps.zip us))
  (Z:∀(A:aX) (p:List Env) (s:af) (H:Hp) (cd:Value) (vs:List V) (Q:VK),Room k (A.deeper (cS qual scope s.heap.objs.size f cd (aQ (s.heap.objs.size+1) scope.names h)))->aD3 H f qual params body scope fr cap h->(∀ b o,K.lookup b=some o->H b=none)->sp vs H Q E0 ->
   ∃ t,PE (aH2 P w K mg base N qual scope f cd h A p s H) body t/\t (vs.map some++cap.map some) (af8 h H) λ v H'=>(∀ b,isC h b=true->H' b=none)->Q v (Put h H H')) :
  ClOk P w K mg base (k+1) (λ H=>aD3 H f qual params body scope fr cap h) f sp:=by
 refine⟨λ A p s H us vs Q hr G hR r a1=>?_⟩
 have hl:=len _ _ _ _ a1
 obtain⟨pm,c',a0,h1,h2,h3,h4,h5,h6⟩:=id hR
 have a5:s.heap.NoLimit:=G.mod.nolimit.keeps λ b o e=>(G.bs b o e).1
 refine PySem.W.kla_callFunE hr.depth (aw1 G.hok h1) rfl S.co S.gen rfl (az7 G.hok h2) ?_
 rw[Y pm c' a0 us (by rw[<-r.length];exact hl)]
 refine aI (au2 S.kind (λ y hy=>?_) λ env he s1 x=>?_)
 ·rcases S.par y.1 (dm (show(y.1,y.2)∈ps.zip us from hy)).1 with q|q
  ·exact .inl q
  ·exact .inr ⟨q,ql q⟩
 ·subst he
  refine⟨a5.keeps x.toInCall.keep,PySem.W.kla_codeExpr ?_⟩
  obtain⟨t,ht,hq⟩:=Z A p s H (.ref c') vs Q (hr.deeper _) hR (λ b o e=>(G.bs b o (G.mod.kin b o e)).2) a1
  have I:=bb7 S hr.hd G hl a4 r h3 h4 h5 h6 x
  refine bz (ht [] s1 _ _ _ I hq) (λ u s' hs=>?_) λ e s' hs=>hs.elim
  obtain⟨v,H',J,rv,q⟩:=hs
  obtain⟨un,a3⟩:=aX1 G.hok h3 G.frf J.base J.hok
  have a2:∀ b,isC h b=true->H' b=none:=λ b y=>by
   obtain⟨o,v,z,_⟩:=h3.at y
   exact(show Un (frs p) [] (af8 h H) H' s.heap s'.heap from J.base).free b o (G.hok b _ z).1 (af8.cell y) (by simp)
  exact⟨v,_,J.os,J.bare,un,a3,rv,q a2⟩
theorem Rp.sameT {φ:Nat->Addr}{H H':Hp}{s:lh}(r:Rp Γ φ H s)(e:bp5 H H')(st:∀ b,H b≠none->H' b≠none)(tb:TabsH Γ.T H'):Gr φ s H φ s H'/\Rp Γ φ H' s:=by
 have kp:Kp H H':=λ b o h f=>e b o (λ ps z=>by subst z;cases f) h
 have J:Gw φ s.length H φ H':=⟨λ _ _=>rfl,kp⟩
 refine⟨⟨J,am _,λ i h1 Z=>absurd Z (by omega),λ i o o' e e'=>by rw[e]at e';cases e';rfl,st,λ b o h y _=>e b o y h⟩,r.inj,λ i o G=>?_,r.wf,tb⟩
 exact(r.obj i o G).mono J (r.wf i o G) λ m u Y=>by
  obtain⟨u',p,_,y⟩:=(r.obj i o G).there m
  rw[Y]at p;cases p
  exact e _ _ y Y
theorem Cells.kp {H H':Hp}(h:Cells clos H)(k:Kp H H'):Cells clos H':=λ x c e=>by
 obtain⟨o,v,q,d⟩:=h x c e
 exact⟨o,v,k _ _ q rfl,d⟩
noncomputable def PVp (Γ : Gm) (cells : List (Str × Addr)) (N : List Str) (σ : St) (φ : Nat -> Addr) (H : Hp) (d : DV.D) (v : V) : Prop := RV Γ φ H d v \/ ∃ id cs, d = .clo id cs /\ ∃ f J, v = .ref f /\ Γ.lg id J /\ aq4 H f J (ai8 cells J.scope.names []) /\
      cs.length = J.fr.length /\ (∀ x, J.scope.names.lookup x = some .free -> ∃ c, cells.lookup x = some c) /\
      ∃ cap, RVL Γ φ H cs cap /\ ∀(i : Nat) (x : Str) (v : V), J.fr[i]? = some x -> cap[i]? = some v -> J.scope.names.lookup x = some .free /\ ∃ j : Nat, N[j]? = some x /\ σ[j]? = some (some v)
inductive PVL (Γ:Gm)(cells:List (Str×Addr))(N:List Str)(σ:St)(φ:Nat->Addr)(H:Hp):List li->List V->Prop where
 | nil:PVL Γ cells N σ φ H [] []
 | cons {d v l vs} (a:PVp Γ cells N σ φ H d v) (b:PVL Γ cells N σ φ H l vs):PVL Γ cells N σ φ H (d::l) (v::vs)
theorem PVp.mono {cells:List (Str×Addr)}{N:List Str}{σ:St}{φ φ':Nat->Addr}{s s':lh}{H H':Hp}(g:Gr φ s H φ' s' H'){d:li}{v:V}(b:d.bnd s.length=true)(h:PVp Γ cells N σ φ H d v):PVp Γ cells N σ φ' H' d v:=by
 rcases h with h|⟨id,cs,rfl,h⟩
 ·exact .inl (RV.mono g _ _ b h)
 ·obtain⟨f,J,e,Y,G,p,y,cap,Z,h7⟩:=h
  unfold lq at b
  exact .inr ⟨id,cs,rfl,f,J,e,Y,G.kp g.w.kp,p,y,cap,RVL.mono g cs cap b Z,h7⟩
theorem PVp.caught {cells:List (Str×Addr)}{N:List Str}{kd:Str->Option bQ}{σ:St}{φ:Nat->Addr}{n:Nat}{H1 Y:Hp}(Z:Caught cells N kd σ H1 Y)(a0:∀ x c,cells.lookup x=some c->kd x=some .cell\/kd x=some .free){d:li}{v:V}(b:d.bnd n=true)(h:PVp Γ cells N σ φ H1 d v):RV Γ φ Y d v:=by
 have gw:Gw φ n H1 φ Y:=⟨λ _ _=>rfl,λ b o e _=>Z.same b o e⟩
 rcases h with h|⟨id,cs,rfl,h⟩
 ·exact RV.monoW gw _ _ b h
 ·obtain⟨f,J,e,h1,G,h4,h5,cap,h6,h7⟩:=h
  unfold lq at b
  unfold RV
  have y:∀(i:Nat) (x:Str) (v:V),J.fr[i]?=some x->cap[i]?=some v->J.scope.names.lookup x=some .free/\(kd x=some .cell\/kd x=some .free)/\∃ j:Nat,N[j]?=some x/\σ[j]?=some (some v):=λ i x v e1 e2=>by
   obtain⟨q1,q2⟩:=h7 i x v e1 e2
   obtain⟨c,q3⟩:=h5 x q1
   exact⟨q1,a0 x c q3,q2⟩
  have a1:CloAt Y f J cap (ai8 cells J.scope.names []):=by
   unfold CloAt
   unfold aq4 at G
   cases q:J.nm with
   | none=>rw[q]at G;exact bm6 Z G h5 y
   | some p=>rw[q]at G;exact bj0 Z G h5 y
  exact⟨f,cap,J,_,e,h1,a1,by rw[h6.length,h4],RVL.monoW gw cs cap b h6⟩
theorem PVL.caught {cells:List (Str×Addr)}{N:List Str}{kd:Str->Option bQ}{σ:St}{φ:Nat->Addr}{n:Nat}{G y:Hp}(J:Caught cells N kd σ G y)(p:∀ x c,cells.lookup x=some c->kd x=some .cell\/kd x=some .free){l:List li}{vs:List V}(h:PVL Γ cells N σ φ G l vs)(b:lj n l=true):RVL Γ φ y l vs:=by
 induction h with
 | nil=>exact .nil
 | cons a _ ih =>
  unfold lj at b
  rw[ag]at b
  exact .cons (a.caught J p b.1) (ih b.2)
end
variable {Γ:Gm} {X:Cx}
def TEv (Γ:Gm)(m:ln->lh->lp li):TE:=λ σ H Q=>∃ φ ρ s d s',RE Γ φ H s.length ρ σ/\Rp Γ φ H s/\m ρ s=.ok d s'/\ai4 Γ φ s H d s' Q
def bU8 (Γ:Gm)(φ:Nat->Addr)(s:lh)(H:Hp)(l:List li)(s':lh)(Q:List V->Hp->Prop):Prop :=
 ∀ vs φ' H',Gr φ s H φ' s' H'->s.length<=s'.length->lj s'.length l=true->RVL Γ φ' H' l vs->Rp Γ φ' H' s'->Q vs H'
def TAv (Γ:Gm)(m:ln->lh->lp (List li)):TA:=λ σ H Q=>∃ φ ρ s l s',RE Γ φ H s.length ρ σ/\Rp Γ φ H s/\m ρ s=.ok l s'/\bU8 Γ φ s H l s' Q
def aP1 (Γ:Gm)(φ:Nat->Addr)(s:lh)(H:Hp)(b:Bool)(s':lh)(Q:Bool->Hp->Prop):Prop :=
 ∀ φ' H',Gr φ s H φ' s' H'->s.length<=s'.length->Rp Γ φ' H' s'->Q b H'
def TTv (Γ:Gm)(m:ln->lh->lp li):TT:=λ σ H Q=>∃ φ ρ s b s',RE Γ φ H s.length ρ σ/\Rp Γ φ H s/\m ρ s=.ok (.bl b) s'/\aP1 Γ φ s H b s' Q
theorem PE.imp {e:Expr}{t t':TE}(h:PE X e t)(i:∀ σ H Q,t' σ H Q->t σ H Q):PE X e t':=λ p s σ H Q I q=>h p s σ H Q I (i σ H Q q)
theorem PT.imp {e:Expr}{t t':TT}(h:PT X e t)(i:∀ σ H Q,t' σ H Q->t σ H Q):PT X e t':=λ p s σ H Q I q=>h p s σ H Q I (i σ H Q q)
theorem PA.imp {e:List Expr}{t t':TA}(h:PA X e t)(i:∀ σ H Q,t' σ H Q->t σ H Q):PA X e t':=λ pos p s σ H Q I q=>h pos p s σ H Q I (i σ H Q q)
theorem aP1.trans {φ φ1:Nat->Addr}{s s1 s':lh}{H y:Hp}{b:Bool}{Q:Bool->Hp->Prop}(h:aP1 Γ φ s H b s' Q)(g:Gr φ s H φ1 s1 y)(l:s.length<=s1.length):aP1 Γ φ1 s1 y b s' Q :=
 λ φ' H' g' G p=>h φ' H' (g.trans g' l) (ao l G) p
theorem bK0 (i:Nat){σ:St}{H:Hp}{Q:VK}(h:TEv Γ (λ ρ s=>DV.aW2 ρ i s) σ H Q):bx6 i σ H Q:=by
 obtain⟨φ,ρ,s,d,s',E,R,p,q⟩:=h
 simp only[DV.aW2]at p
 split at p
 ·rename_i d' e
  cases p
  obtain⟨b,v,e1,e2⟩:=E.val i _ e
  exact⟨v,e1,q.here R b e2⟩
 ·exact fb p
theorem aA8 {c:li}{v:V}(hb:∀ n,c.bnd n=true)(hv:∀ φ H,RV Γ φ H c v){σ:St}{H:Hp}{Q:VK}(h:TEv Γ (λ ρ s=>.ok c s) σ H Q):tC v σ H Q:=by
 obtain⟨φ,ρ,s,d,s',E,R,p,q⟩:=h
 cases p
 exact q.here R (hb _) (hv _ _)
theorem bl1 {Z Y:ln->lh->lp li}{f:li->li->lh->lp li}{σ:St}{H:Hp}{Q:VK}(h:TEv Γ (λ ρ s=>(Z ρ s).bind λ x s=>(Y ρ s).bind λ y s=>f x y s) σ H Q):tOp (rOp Γ f) (TEv Γ Z) (TEv Γ Y) σ H Q:=by
 obtain⟨φ,ρ,s,d,s',E,R,p,q⟩:=h
 obtain⟨x,s1,e1,p⟩:=aa0 p
 obtain⟨y,s2,e2,p⟩:=aa0 p
 refine⟨φ,ρ,s,x,s1,E,R,e1,λ v1 φ1 H1 g1 l1 J r1 R1=>?_⟩
 refine⟨φ1,ρ,s1,y,s2,E.mono g1 l1,R1,e2,λ v2 φ2 H2 g2 G b2 r2 R2=>?_⟩
 exact⟨φ2,s2,x,y,d,s',R2,RV.mono g2 x v1 J r1,r2,zy G x J,b2,p,q.trans (g1.trans g2 l1) (ao l1 G)⟩
theorem ch3 {m:ln->lh->lp li}{f:li->lh->lp li}{r:V->Hp->VK->Prop}{σ:St}{H:Hp}{Q:VK}(h:TEv Γ (λ ρ s=>(m ρ s).bind λ x s=>f x s) σ H Q)
  (y:∀ φ s x d s' v H',Rp Γ φ H' s->RV Γ φ H' x v->x.bnd s.length=true->f x s=.ok d s'->ai4 Γ φ s H' d s' Q->r v H' Q):tUn r (TEv Γ m) σ H Q:=by
 obtain⟨φ,ρ,s,d,s',E,R,p,q⟩:=h
 obtain⟨x,s1,e1,p⟩:=aa0 p
 exact⟨φ,ρ,s,x,s1,E,R,e1,λ J φ1 Y g1 l1 G r1 R1=>y φ1 s1 x d s' J Y R1 r1 G p (q.trans g1 l1)⟩
theorem z6 {α:Type}{r:lp li}{f:Bool->lh->lp α}{a:α}{t:lh}(h:lx r f=.ok a t):∃ b s,r=.ok (.bl b) s/\f b s=.ok a t:=by
 unfold lx at h
 obtain⟨d,s,e,h⟩:=aa0 h
 cases d with
 | bl b=>exact⟨b,s,e,h⟩
 | _=>exact fb h
theorem bq0 {m:ln->lh->lp li}{σ:St}{H:Hp}{Q:Bool->Hp->Prop}(h:TTv Γ m σ H Q):tB (TEv Γ m) σ H Q:=by
 obtain⟨φ,ρ,s,b,s',E,R,y,q⟩:=h
 refine⟨φ,ρ,s,.bl b,s',E,R,y,λ v φ' H' g l G r p=>?_⟩
 exact⟨b,r.blE,q φ' H' g l p⟩
theorem bA3 {m:ln->lh->lp li}{σ:St}{H:Hp}{Q:Bool->Hp->Prop}(h:TTv Γ m σ H Q):bV6 (TEv Γ m) σ H Q:=bq0 h
theorem bU9 {m:ln->lh->lp li}{σ:St}{H:Hp}{Q:Bool->Hp->Prop}(h:TTv Γ (λ ρ s=>lx (m ρ s) λ b s=>.ok (.bl (!b)) s) σ H Q):ck9 (TTv Γ m) σ H Q:=by
 obtain⟨φ,ρ,s,b,s',E,R,p,q⟩:=h
 obtain⟨c,s1,e1,p⟩:=z6 p
 cases p
 exact⟨φ,ρ,s,c,_,E,R,e1,q⟩
theorem bt1 {G y:ln->lh->lp li}{σ:St}{H:Hp}{Q:Bool->Hp->Prop}(h:TTv Γ (λ ρ s=>lx (G ρ s) λ c s=>if c then lx (y ρ s) λ c s=>.ok (.bl c) s else .ok (.bl false) s) σ H Q):ci3 (TTv Γ G) (TTv Γ y) σ H Q:=by
 obtain⟨φ,ρ,s,b,s',E,R,p,q⟩:=h
 obtain⟨c,s1,e1,p⟩:=z6 p
 refine⟨φ,ρ,s,c,s1,E,R,e1,λ φ1 J g1 l1 R1=>?_⟩
 cases c with
 | true =>
  rw[if_pos rfl]at p ⊢
  obtain⟨Y,s2,e2,p⟩:=z6 p
  cases p
  exact⟨φ1,ρ,s1,_,_,E.mono g1 l1,R1,e2,q.trans g1 l1⟩
 | false =>
  rw[if_neg aW]at p ⊢
  cases p
  exact q φ1 J g1 l1 R1
theorem bO1 {G y:ln->lh->lp li}{σ:St}{H:Hp}{Q:Bool->Hp->Prop}(h:TTv Γ (λ ρ s=>lx (G ρ s) λ c s=>if c then .ok (.bl true) s else lx (y ρ s) λ c s=>.ok (.bl c) s) σ H Q):tOr (TTv Γ G) (TTv Γ y) σ H Q:=by
 obtain⟨φ,ρ,s,b,s',E,R,p,q⟩:=h
 obtain⟨c,s1,e1,p⟩:=z6 p
 refine⟨φ,ρ,s,c,s1,E,R,e1,λ φ1 J g1 l1 R1=>?_⟩
 cases c with
 | true =>
  rw[if_pos rfl]at p ⊢
  cases p
  exact q φ1 J g1 l1 R1
 | false =>
  rw[if_neg aW]at p ⊢
  obtain⟨Y,s2,e2,p⟩:=z6 p
  cases p
  exact⟨φ1,ρ,s1,_,_,E.mono g1 l1,R1,e2,q.trans g1 l1⟩
theorem bP1 {m:ln->lh->lp li}{σ:St}{H:Hp}{Q:VK}(h:TEv Γ (λ ρ s=>lx (m ρ s) λ b s=>.ok (.bl (!b)) s) σ H Q):bM5 (TEv Γ m) σ H Q:=by
 obtain⟨φ,ρ,s,d,s',E,R,p,q⟩:=h
 obtain⟨c,s1,e1,p⟩:=z6 p
 cases p
 exact⟨φ,ρ,s,.bl c,_,E,R,e1,λ v φ1 y g l b r R1=>⟨c,r.blE,q _ φ1 y g l rfl RV.blI R1⟩⟩
theorem bt9 {G y:ln->lh->lp li}{σ:St}{H:Hp}{Q:VK}(h:TEv Γ (λ ρ s=>lx (G ρ s) λ c s=>if c then lx (y ρ s) λ c s=>.ok (.bl c) s else .ok (.bl false) s) σ H Q):bS0 (TEv Γ G) (TEv Γ y) σ H Q:=by
 obtain⟨φ,ρ,s,d,s',E,R,p,q⟩:=h
 obtain⟨c,s1,e1,p⟩:=z6 p
 refine⟨φ,ρ,s,.bl c,s1,E,R,e1,λ v φ1 J g1 l1 Y r1 R1=>⟨c,r1.blE,?_⟩⟩
 cases c with
 | true =>
  rw[if_pos rfl]at p ⊢
  obtain⟨c,s2,e2,p⟩:=z6 p
  cases p
  exact⟨φ1,ρ,s1,.bl c,_,E.mono g1 l1,R1,e2,q.trans g1 l1⟩
 | false =>
  rw[if_neg aW]at p ⊢
  cases p
  exact q _ φ1 J g1 l1 rfl RV.blI R1
theorem bK2 {G y:ln->lh->lp li}{σ:St}{H:Hp}{Q:VK}(h:TEv Γ (λ ρ s=>lx (G ρ s) λ c s=>if c then .ok (.bl true) s else lx (y ρ s) λ c s=>.ok (.bl c) s) σ H Q):cl4 (TEv Γ G) (TEv Γ y) σ H Q:=by
 obtain⟨φ,ρ,s,d,s',E,R,p,q⟩:=h
 obtain⟨c,s1,e1,p⟩:=z6 p
 refine⟨φ,ρ,s,.bl c,s1,E,R,e1,λ v φ1 J g1 l1 Y r1 R1=>⟨c,r1.blE,?_⟩⟩
 cases c with
 | true =>
  rw[if_pos rfl]at p ⊢
  cases p
  exact q _ φ1 J g1 l1 rfl RV.blI R1
 | false =>
  rw[if_neg aW]at p ⊢
  obtain⟨c,s2,e2,p⟩:=z6 p
  cases p
  exact⟨φ1,ρ,s1,.bl c,_,E.mono g1 l1,R1,e2,q.trans g1 l1⟩
theorem bQ7 {mc G y:ln->lh->lp li}{σ:St}{H:Hp}{Q:VK}(h:TEv Γ (λ ρ s=>lx (mc ρ s) λ k s=>if k then G ρ s else y ρ s) σ H Q):tIf (TTv Γ mc) (TEv Γ G) (TEv Γ y) σ H Q:=by
 obtain⟨φ,ρ,s,d,s',E,R,p,q⟩:=h
 obtain⟨c,s1,e1,p⟩:=z6 p
 refine⟨φ,ρ,s,c,s1,E,R,e1,λ φ1 J g1 l1 R1=>?_⟩
 cases c with
 | true =>
  rw[if_pos rfl]at p ⊢
  exact⟨φ1,ρ,s1,d,s',E.mono g1 l1,R1,p,q.trans g1 l1⟩
 | false =>
  rw[if_neg aW]at p ⊢
  exact⟨φ1,ρ,s1,d,s',E.mono g1 l1,R1,p,q.trans g1 l1⟩
theorem aN8 {σ:St}{H:Hp}{Q:List V->Hp->Prop}(h:TAv Γ (λ ρ s=>.ok [] s) σ H Q):bs3 σ H Q:=by
 obtain⟨φ,ρ,s,d,s',E,R,p,q⟩:=h
 cases p
 exact q [] φ H (Gr.refl _ _ _) (am _) rfl .nil R
theorem bA5 {m:ln->lh->lp li}{Y:ln->lh->lp (List li)}{σ:St}{H:Hp}{Q:List V->Hp->Prop}(h:TAv Γ (λ ρ s=>(m ρ s).bind λ d s=>(Y ρ s).bind λ l s=>.ok (d::l) s) σ H Q):aF9 (TEv Γ m) (TAv Γ Y) σ H Q:=by
 obtain⟨φ,ρ,s,l,s',E,R,p,q⟩:=h
 obtain⟨x,s1,e1,p⟩:=aa0 p
 obtain⟨y,s2,e2,p⟩:=aa0 p
 cases p
 refine⟨φ,ρ,s,x,s1,E,R,e1,λ Z φ1 H1 g1 l1 J r1 R1=>?_⟩
 refine⟨φ1,ρ,s1,y,_,E.mono g1 l1,R1,e2,λ v2 φ2 H2 g2 G b2 r2 R2=>?_⟩
 refine q (Z::v2) φ2 H2 (g1.trans g2 l1) (ao l1 G) ?_ (.cons (RV.mono g2 x Z J r1) r2) R2
 unfold lj
 rw[zy G x J,b2];rfl
theorem aG8 {y:ln->lh->lp (List li)}{f:List li->lh->lp li}{σ:St}{H:Hp}{Q:VK}(h:TEv Γ (λ ρ s=>(y ρ s).bind λ l s=>f l s) σ H Q):tCB (rCl Γ f) (TAv Γ y) σ H Q:=by
 obtain⟨φ,ρ,s,d,s',E,R,p,q⟩:=h
 obtain⟨l,s1,e1,p⟩:=aa0 p
 exact⟨φ,ρ,s,l,s1,E,R,e1,λ vs φ1 J g1 l1 G r1 R1=>⟨φ1,s1,l,d,s',R1,r1,G,p,q.trans g1 l1⟩⟩
theorem cb6 {m:ln->lh->lp li}{ml mh:ln->lh->lp li}{σ:St}{H:Hp}{Q:VK} :
  (TEv Γ (λ ρ s=>(m ρ s).bind λ x s=>(ml ρ s).bind λ y s=>match y with|.int i=>mF x (some i) none s|_=>.bad) σ H Q->tSl (rSl Γ) (TEv Γ m) (bf3 (TEv Γ ml)) aI1 σ H Q) /\
  (TEv Γ (λ ρ s=>(m ρ s).bind λ x s=>(mh ρ s).bind λ y s=>match y with|.int i=>mF x none (some i) s|_=>.bad) σ H Q->tSl (rSl Γ) (TEv Γ m) aI1 (bf3 (TEv Γ mh)) σ H Q) /\
  (TEv Γ (λ ρ s=>(m ρ s).bind λ x s=>(ml ρ s).bind λ y s=>match y with|.int i=>(mh ρ s).bind (λ z s=>match z with|.int j=>mF x (some i) (some j) s|_=>.bad)|_=>.bad) σ H Q->tSl (rSl Γ) (TEv Γ m) (bf3 (TEv Γ ml)) (bf3 (TEv Γ mh)) σ H Q):=by
 refine⟨λ h=>?_,λ h=>?_,λ h=>?_⟩
 ·obtain⟨φ,ρ,s,d,s',E,R,p,q⟩:=h
  obtain⟨x,s1,e1,p⟩:=aa0 p
  obtain⟨y,s2,e2,p⟩:=aa0 p
  refine⟨φ,ρ,s,x,s1,E,R,e1,λ v1 φ1 H1 g1 l1 Y r1 R1=>?_⟩
  refine⟨φ1,ρ,s1,y,s2,E.mono g1 l1,R1,e2,λ v2 φ2 H2 J G b2 Z R2=>?_⟩
  cases y with
  | int i=>exact⟨i,Z.intE,φ2,s2,x,d,s',R2,RV.mono J x v1 Y r1,zy G x Y,p,q.trans (g1.trans J l1) (ao l1 G)⟩
  | _=>exact fb p
 ·obtain⟨φ,ρ,s,d,s',E,R,p,q⟩:=h
  obtain⟨x,s1,e1,p⟩:=aa0 p
  obtain⟨y,s2,e2,p⟩:=aa0 p
  refine⟨φ,ρ,s,x,s1,E,R,e1,λ v1 φ1 H1 g1 l1 Y r1 R1=>?_⟩
  refine⟨φ1,ρ,s1,y,s2,E.mono g1 l1,R1,e2,λ v2 φ2 H2 J G b2 Z R2=>?_⟩
  cases y with
  | int i=>exact⟨i,Z.intE,φ2,s2,x,d,s',R2,RV.mono J x v1 Y r1,zy G x Y,p,q.trans (g1.trans J l1) (ao l1 G)⟩
  | _=>exact fb p
 ·obtain⟨φ,ρ,s,d,s',E,R,p,q⟩:=h
  obtain⟨x,s1,e1,p⟩:=aa0 p
  obtain⟨y,s2,e2,p⟩:=aa0 p
  refine⟨φ,ρ,s,x,s1,E,R,e1,λ v1 φ1 H1 g1 l1 Y r1 R1=>?_⟩
  refine⟨φ1,ρ,s1,y,s2,E.mono g1 l1,R1,e2,λ v2 φ2 H2 J G b2 Z R2=>?_⟩
  cases y with
  | int i =>
   obtain⟨z,s3,e3,p⟩:=aa0 p
   refine⟨i,Z.intE,φ2,ρ,s2,z,s3,E.mono (g1.trans J l1) (ao l1 G),R2,e3,λ v3 φ3 H3 g3 l3 b3 r3 R3=>?_⟩
   cases z with
   | int j=>exact⟨j,r3.intE,φ3,s3,x,d,s',R3,RV.mono (J.trans g3 G) x v1 Y r1,zy (ao G l3) x Y,p,q.trans ((g1.trans J l1).trans g3 (ao l1 G)) (ao (ao l1 G) l3)⟩
   | _=>exact fb p
  | _=>exact fb p
variable {Γ:Gm} {X:Cx}
def au7 (Γ:Gm)(J:It)(φ0:Nat->Addr)(H0:Hp)(s0:lh)(q:mr):Prop :=
 ∀ φ H s,Gr φ0 s0 H0 φ s H->s0.length<=s.length->Rp Γ φ H s->lT s0 s q.src=true->∀ i:Nat,
  (i<q.its.length->J.go i H/\∀ x H',J.yld i H x H'->ai1 H H'/\∀ d,q.its[i]?=some d->RV Γ φ H' d x)/\(q.its.length<=i->J.stop i H)
def TIv (Γ:Gm)(m:ln->lh->lp mr):TI:=λ σ H R=>∃ φ ρ s q s',RE Γ φ H s.length ρ σ/\Rp Γ φ H s/\m ρ s=.ok q s' /\
 ∀ J φ' H',Gr φ s H φ' s' H'->s.length<=s'.length->lj s'.length q.its=true->Rp Γ φ' H' s'->au7 Γ J φ' H' s' q->R J H'
theorem PI.imp {tg e:Expr}{t t':TI}(h:PI X tg e t)(i:∀ σ H R,t' σ H R->t σ H R):PI X tg e t':=λ p s σ H R I q=>h p s σ H R I (i σ H R q)
theorem PI.or {tg e:Expr}{t t':TI}(h:PI X tg e t)(h':PI X tg e t'):PI X tg e (λ σ H R=>t σ H R\/t' σ H R):=λ p s σ H R I q=>q.elim (h p s σ H R I) (h' p s σ H R I)
theorem bj5 {φ0:Nat->Addr}{H0:Hp}{s0:lh}{a:Addr}{p:List V}{l:List li}(h:SqT Γ.K H0 a p)(hl:RVL Γ φ0 H0 l p)(hb:lj s0.length l=true):au7 Γ (Itt Γ.K a) φ0 H0 s0 ⟨l,[]⟩:=by
 intro φ H s g _ R _ i
 have h':=g.w.kp.sqT h
 have G:=RVL.mono g l p hb hl
 refine⟨λ hlt=>⟨⟨p,p[i]'(by rw[G.length];exact hlt),h',ah _⟩,λ x H' y=>?_⟩,λ J=>⟨p,h',by rw[G.length];exact J⟩⟩
 obtain⟨e,y⟩:=y
 subst e
 refine⟨ai1.refl _,λ d hd=>?_⟩
 obtain⟨v,e1,e2⟩:=G.get hd
 rw[y p h']at e1;cases e1
 exact e2
theorem bH4 {φ0:Nat->Addr}{H0:Hp}{s0:lh}{a:Addr}{p:List V}{l:List li}(h:SqF Γ.K H0 a p)(hl:RVL Γ φ0 H0 l p)(hb:lj s0.length l=true):au7 Γ (Itl Γ.K a) φ0 H0 s0 ⟨l,[]⟩:=by
 intro φ H s g _ R _ i
 have h':=h.2 _ g.w.kp
 have G:=RVL.mono g l p hb hl
 refine⟨λ hlt=>⟨⟨p,p[i]'(by rw[G.length];exact hlt),h',ah _⟩,λ x H' y=>?_⟩,λ J=>⟨p,h',by rw[G.length];exact J⟩⟩
 obtain⟨e,y⟩:=y
 subst e
 refine⟨ai1.refl _,λ d hd=>?_⟩
 obtain⟨v,e1,e2⟩:=G.get hd
 rw[y p h']at e1;cases e1
 exact e2
theorem bi9 {φ0:Nat->Addr}{H0:Hp}{s0:lh}{r:Nat}{l:List li}(Z:s0[r]?=some (.lst l)):au7 Γ (Itl Γ.K (φ0 r)) φ0 H0 s0 ⟨l,[r]⟩:=by
 intro φ H s g _ R Y i
 have p:r<s0.length:=(ae.mp Z).1
 have hs:s[r]?=some (.lst l):=by
  unfold lT at Y
  simp only[cZ,kP,iD,decide_eq_true_eq]at Y
  rw[Y];exact Z
 obtain⟨G,e,h⟩:=R.addr hs
 rw[g.w.map r p]at e
 have h':SqL Γ.K H (φ0 r) G:=SqL.of e
 refine⟨λ hlt=>⟨⟨G,G[i]'(by rw[h.length];exact hlt),h',ah _⟩,λ x H' y=>?_⟩,λ J=>⟨G,h',by rw[h.length];exact J⟩⟩
 obtain⟨e,y⟩:=y
 subst e
 refine⟨ai1.refl _,λ d hd=>?_⟩
 obtain⟨v,e1,e2⟩:=h.get hd
 rw[y G h']at e1;cases e1
 exact e2
theorem bh6 {φ0:Nat->Addr}{H0:Hp}{s0:lh}{l:List Nat}:au7 Γ (Its ⟨l.toArray⟩) φ0 H0 s0 ⟨l.map λ c=>.str [c],[]⟩:=by
 intro φ H s g _ R _ i
 have hsz:(⟨l.toArray⟩:Str).cps.size=l.length:=by simp
 refine⟨λ hlt=>?_,λ h=>?_⟩
 ·simp only[aC]at hlt
  refine⟨show i<(⟨l.toArray⟩:Str).cps.size by rw[hsz];exact hlt,λ x H' y=>?_⟩
  obtain⟨e,c,hc,rfl⟩:=y
  subst e
  refine⟨ai1.refl _,λ d hd=>?_⟩
  have p:l[i]?=some c:=by simpa using hc
  rw[ax,p]at hd
  cases hd
  exact RV.strI (by simp;decide)
 ·simp only[aC]at h
  show(⟨l.toArray⟩:Str).cps.size<=i
  rw[hsz];exact h
theorem bn6 {φ0:Nat->Addr}{H0:Hp}{s0:lh}{a b:Int}:au7 Γ (Itr a (b - a).toNat) φ0 H0 s0 ⟨mn a b,[]⟩:=by
 intro φ H s g _ R _ i
 have hn:(mn a b).length=(b - a).toNat:=by simp[mn]
 refine⟨λ hlt=>⟨show i<(b - a).toNat by rw[<-hn];exact hlt,λ x H' y=>?_⟩,λ h=>show(b - a).toNat<=i by rw[<-hn];exact h⟩
 obtain⟨e,rfl⟩:=y
 subst e
 refine⟨ai1.refl _,λ d hd=>?_⟩
 simp only[mn]at hd hlt
 rw[ax,bN (by simpa using hlt)]at hd
 cases hd
 exact RV.intI
theorem bu4 {m:ln->lh->lp li}{σ:St}{H:Hp}{R:It->Hp->Prop}(h:TIv Γ (λ ρ s=>(m ρ s).bind λ x s=>match x with|.int i=>if -nk<=i/\i<nk then .ok ⟨mn 0 i,[]⟩ s else .bad|_=>.bad) σ H R) :
  bW5 (aF9 (TEv Γ m) bs3) σ H R:=by
 obtain⟨φ,ρ,s,q,s',E,P,p,k⟩:=h
 obtain⟨x,s1,e1,p⟩:=aa0 p
 refine⟨φ,ρ,s,x,s1,E,P,e1,λ v φ1 G g l b r J=>?_⟩
 cases x with
 | int i =>
  simp only at p
  split at p
  ·rename_i y
   cases p
   have hw:nk=2^62:=by decide
   rw[hw]at y
   refine⟨i,by rw[r.intE],y.1,y.2,k _ φ1 G g l ?_ J ?_⟩
   ·refine ad2.mpr λ d hd=>?_
    simp only[mn,aS]at hd
    obtain⟨_,_,rfl⟩:=hd
    rfl
   ·have:=bn6 (Γ:=Γ) (φ0:=φ1) (H0:=G) (s0:=s') (a:=0) (b:=i)
    rwa [kQ]at this
  ·exact fb p
 | _=>exact fb p
theorem bN5 {m:ln->lh->lp li}{σ:St}{H:Hp}{R:It->Hp->Prop}(h:TIv Γ (λ ρ s=>(m ρ s).bind λ d s=>DV.aF7 d s) σ H R) :
  cg8 Γ.K (TEv Γ m) σ H R\/bB2 Γ.K (TEv Γ m) σ H R\/ck4 (TEv Γ m) σ H R:=by
 obtain⟨φ,ρ,s,q,s',E,P,p,k⟩:=h
 obtain⟨x,s1,e1,p⟩:=aa0 p
 unfold DV.aF7 at p
 cases x with
 | tup l =>
  cases p
  refine .inl ⟨φ,ρ,s,_,_,E,P,e1,λ v φ1 G g l b r y=>?_⟩
  obtain⟨a,Y,rfl,h1,d1⟩:=r.tupE
  unfold lq at b
  exact⟨a,rfl,⟨Y,h1⟩,k _ φ1 G g l b y (bj5 h1 d1 b)⟩
 | str l =>
  cases p
  refine .inr (.inr ⟨φ,ρ,s,_,_,E,P,e1,λ v φ1 G g J b r y=>?_⟩)
  refine⟨_,r.strE,k _ φ1 G g J ?_ y bh6⟩
  refine ad2.mpr λ d hd=>?_
  simp only[aS]at hd
  obtain⟨_,_,rfl⟩:=hd
  rfl
 | ref r =>
  simp only at p
  cases hs:s1[r]? with
  | none=>rw[hs]at p;cases p
  | some o =>
   rw[hs]at p
   cases o with
   | lst l =>
    cases p
    refine .inr (.inl ⟨φ,ρ,s,_,_,E,P,e1,λ v φ1 G g J b Z y=>?_⟩)
    have e:=Z.refE;subst e
    obtain⟨Y,e2,d1⟩:=y.addr hs
    have wf:=y.wf _ _ hs
    unfold ls at wf
    exact⟨φ1 r,rfl,⟨Y,SqL.of e2⟩,k _ φ1 G g J wf y (bi9 hs)⟩
   | ro l =>
    cases p
    refine .inr (.inl ⟨φ,ρ,s,_,_,E,P,e1,λ v φ1 G g J b Z y=>?_⟩)
    have e:=Z.refE;subst e
    obtain⟨Y,e2,d1⟩:=y.obj _ _ hs
    have wf:=y.wf _ _ hs
    unfold ls at wf
    exact⟨φ1 r,rfl,⟨Y,e2.1⟩,k _ φ1 G g J wf y (bH4 e2 d1 wf)⟩
   | dic l=>exact fb p
   | dit l=>exact fb p
   | ins c l=>exact fb p
 | _=>exact fb p
variable {Γ:Gm} {X:Cx}
noncomputable def bZ2:List Nat->TGs
 | []=>ck6
 | i::is=>bW0 (aA2 i) (bZ2 is)
noncomputable def gOf (K:ac):lP->TG
 | .one i=>aA2 i
 | .tup is=>cf6 K is.length (bZ2 is)
theorem br8 {φ:Nat->Addr}{H:Hp}{n:Nat}{ρ ρ':ln}{σ:St}{i:Nat}{d:li}{v:V}(E:RE Γ φ H n ρ σ)(r:RV Γ φ H d v)(b:d.bnd n=true)(h:mq ρ i d=some ρ'):RE Γ φ H n ρ' (σ.set i (some v)):=by
 unfold mq at h
 split at h
 ·rename_i p
  cases h
  refine⟨by rw[bJ,bJ];exact E.len,λ j e hj=>?_⟩
  by_cases hij:j=i
  ·subst hij
   rw[aZ p]at hj
   cases hj
   exact⟨b,v,by rw[aZ (by rw[<-E.len];exact p)],r⟩
  ·rw[be (cy hij)]at hj
   obtain⟨G,w,y,h3⟩:=E.val j e hj
   exact⟨G,w,by rw[be (cy hij)];exact y,h3⟩
 ·cases h
theorem bS4 {φ:Nat->Addr}{H:Hp}{n:Nat}{Q:St->Hp->Prop}:∀(is:List Nat) (l:List li) (p:List V) (ρ ρ':ln) (σ:St),RE Γ φ H n ρ σ->RVL Γ φ H l p->lj n l=true->mG ρ is l=some ρ'->(∀ σ',RE Γ φ H n ρ' σ'->Q σ' H)->bZ2 is p σ H Q
 | [],[],p,ρ,ρ',σ,E,r,_,h,k=>by
  cases h
  exact⟨r.unnil,k σ E⟩
 | [],d::l,_,_,_,_,_,_,_,h,_=>by cases h
 | i::is,[],_,_,_,_,_,_,_,h,_=>by cases h
 | i::is,d::l,p,ρ,ρ',σ,E,r,b,h,k=>by
  have h:(mq ρ i d).bind (λ ρ=>mG ρ is l)=some ρ':=h
  obtain⟨x,y,rfl,J,G⟩:=r.uncons
  unfold lj at b
  rw[ag]at b
  cases e:mq ρ i d with
  | none=>rw[e]at h;cases h
  | some ρ1 =>
   rw[e]at h
   exact⟨x,y,rfl,bS4 is l y ρ1 ρ' _ (br8 E J b.1 e) G b.2 h k⟩
theorem bc0 {l:List li}:∀ {is:List Nat} {ρ ρ':ln},mG ρ is l=some ρ'->is.length=l.length:=by
 induction l with
 | nil=>intro is ρ ρ' h;cases is with
  | nil=>rfl
  | cons i is=>cases h
 | cons d l ih=>intro is ρ ρ' h;cases is with
  | nil=>cases h
  | cons i is =>
   have h:(mq ρ i d).bind (λ ρ=>mG ρ is l)=some ρ':=h
   cases e:mq ρ i d with
   | none=>rw[e]at h;cases h
   | some ρ1=>rw[e]at h;rw[aY,aY,ih h]
theorem bv9 {φ:Nat->Addr}{H:Hp}{n:Nat}{Q:St->Hp->Prop}{tg:lP}{d:li}{v:V}{ρ ρ':ln}{σ:St}(E:RE Γ φ H n ρ σ)(r:RV Γ φ H d v)(b:d.bnd n=true)(h:lE ρ tg d=some ρ')(k:∀ σ',RE Γ φ H n ρ' σ'->Q σ' H):gOf Γ.K tg v σ H Q:=by
 cases tg with
 | one i=>exact k _ (br8 E r b h)
 | tup is =>
  cases d with
  | tup l =>
   have h:mG ρ is l=some ρ':=h
   obtain⟨a,p,rfl,y,d1⟩:=r.tupE
   unfold lq at b
   exact⟨a,p,rfl,y,by rw[d1.length,bc0 h],bS4 is l p ρ ρ' σ E d1 b h k⟩
  | _=>cases h
def Off (φ:Nat->Addr)(s:lh)(b:Addr):Prop:=∀(i:Nat) (ob:lH),s[i]?=some ob->isMut ob=true->φ i≠b
theorem Off.mono {φ φ':Nat->Addr}{s s':lh}{H H':Hp}{b:Addr}{o:HO}(h:Off φ s b)(g:Gr φ s H φ' s' H')(hb:H b=some o):Off φ' s' b:=λ i ob e m z=>by
 by_cases G:i<s.length
 ·obtain⟨p,y⟩:∃ p,s[i]?=some p:=⟨s[i],ah G⟩
  exact h i p y (g.mu i p ob y e m) (by rw[<-g.w.map i G];exact z)
 ·have:=g.new i (by omega) (ae.mp e).1
  rw[z,hb]at this;cases this
theorem Off.new {φ:Nat->Addr}{s:lh}{H:Hp}{b:Addr}(r:Rp Γ φ H s)(h:H b=none):Off φ s b:=λ i ob e m z=>by
 obtain⟨u,p,_⟩:=(r.obj i ob e).there m
 rw[z,h]at p;cases p
theorem Rp.foreign {φ:Nat->Addr}{s:lh}{H:Hp}{b:Addr}{ys h:List V}(r:Rp Γ φ H s)(hb:H b=some (.lst ys))(ho:Off φ s b):Rp Γ φ (upd H b (.lst h)) s:=by
 have g:Gw φ s.length H φ (upd H b (.lst h)):=⟨λ _ _=>rfl,(Kp.refl H).put hb rfl⟩
 exact⟨r.inj,λ i o e=>(r.obj i o e).mono g (r.wf i o e) λ m u p=>by rw[zd (ho i o e m)];exact p,r.wf,r.tab.put hb⟩
theorem Gr.foreign {φ φ':Nat->Addr}{s s':lh}{H H':Hp}{b:Addr}{ys p:List V}(g:Gr φ s H φ' s' H')(h0:H b=none)(hb:H' b=some (.lst ys)):Gr φ s H φ' s' (upd H' b (.lst p)):=by
 have ne:∀ c o,H c=some o->c≠b:=λ c o e=>zC e h0
 refine⟨⟨g.w.map,λ c o e f=>?_⟩,g.le,g.new,g.kd,λ c hc=>?_,λ c o e y h=>?_⟩
 ·rw[zd (ne c o e)];exact g.w.kp c o e f
 ·unfold upd;split
  ·simp
  ·exact g.st c hc
 ·rw[zd (ne c o e)];exact g.fr c o e y h
def bV1 (Γ:Gm)(φ:Nat->Addr)(s:lh)(H:Hp)(l:List li)(s':lh)(Q:VK):Prop :=
 ∀ p ys φ' H',Gr φ s H φ' s' H'->s.length<=s'.length->lj s'.length l=true->H' p=some (.lst ys)->H p=none->Off φ' s' p->RVL Γ φ' H' l ys->Rp Γ φ' H' s'->Q (.ref p) H'
def TFv (Γ:Gm)(m:ln->lh->lp (List li)):TE:=λ σ H Q=>∃ φ ρ s l s',RE Γ φ H s.length ρ σ/\Rp Γ φ H s/\m ρ s=.ok l s'/\bV1 Γ φ s H l s' Q
theorem bc7 {m:ln->lh->lp (List li)}{σ:St}{H:Hp}{Q:VK}(h:TEv Γ (λ ρ s=>(m ρ s).bind λ l s=>lY (.lst l) s) σ H Q):TFv Γ m σ H Q:=by
 obtain⟨φ,ρ,s,d,s',E,R,hm,q⟩:=h
 obtain⟨l,s1,e1,hm⟩:=aa0 hm
 obtain⟨rfl,rfl⟩:=qC hm
 refine⟨φ,ρ,s,l,s1,E,R,e1,λ p ys φ' H' g hl hb hp h0 ho r Y=>?_⟩
 have gw:Gw φ' s1.length H' (λ i=>if i=s1.length then p else φ' i) H':=⟨λ i y=>if_neg (aH y),Kp.refl _⟩
 have key:∀(i:Nat) (J:lH),(s1++[DV.O.lst l])[i]?=some J->(i<s1.length/\s1[i]?=some J)\/(i=s1.length/\J=.lst l):=λ i J e=>by
  rcases fH i s1.length with h|h|h
  ·rw[aA h]at e;exact .inl ⟨h,e⟩
  ·subst h;simp at e;exact .inr ⟨rfl,e.symm⟩
  ·rw[bT (by simp;omega)]at e;cases e
 have G:Gr φ s H (λ i=>if i=s1.length then p else φ' i) (s1++[.lst l]) H':=by
  refine⟨⟨λ i y=>by show(if i=s1.length then p else φ' i)=_;rw[if_neg (by omega)];exact g.w.map i y,g.w.kp⟩,by simp;omega,λ i h1 h2=>?_,λ i o J e e'=>?_,g.st,g.fr⟩
  ·by_cases y:i=s1.length
   ·show H (if i=s1.length then p else φ' i)=none
    rw[if_pos y];exact h0
   ·show H (if i=s1.length then p else φ' i)=none
    rw[if_neg y];exact g.new i h1 (by simp at h2;omega)
  ·rcases key i J e' with⟨_,e2⟩|⟨y,_⟩
   ·exact g.kd i o J e e2
   ·have:=(ae.mp e).1;omega
 have P:Rp Γ (λ i=>if i=s1.length then p else φ' i) H' (s1++[.lst l]):=by
  refine⟨λ i j oi oj Z ej mi mj e=>?_,λ i o e=>?_,λ i o e=>?_,Y.tab⟩
  ·rcases key i oi Z with⟨y,Z⟩|⟨y,_⟩<;>rcases key j oj ej with⟨hj,ej⟩|⟨hj,_⟩
   ·rw[if_neg (aH y),if_neg (aH hj)]at e
    exact Y.inj i j oi oj Z ej mi mj e
   ·rw[if_neg (aH y),if_pos hj]at e
    exact absurd e (ho i oi Z mi)
   ·rw[if_neg (aH hj),if_pos y]at e
    exact absurd e.symm (ho j oj ej mj)
   ·rw[y,hj]
  ·rcases key i o e with⟨y,e⟩|⟨y,rfl⟩
   ·show RO Γ _ _ (if i=s1.length then p else φ' i) o
    rw[if_neg (aH y)]
    exact(Y.obj i o e).mono gw (Y.wf i o e) λ _ u hu=>hu
   ·show RO Γ _ _ (if i=s1.length then p else φ' i) _
    rw[if_pos y]
    exact⟨ys,hp,RVL.monoW gw l ys hb r⟩
  ·rw[aL,cb]
   rcases key i o e with⟨_,e⟩|⟨_,rfl⟩
   ·exact qA (eD _) _ (Y.wf i o e)
   ·exact qA (eD _) _ (by unfold ls;exact hb)
 exact q (.ref p) _ H' G (by simp;omega) (by unfold lq;simp) (by unfold RV;simp) P
theorem bR9 {φ:Nat->Addr}{H:Hp}{n:Nat}{ρ:ln}{σ:St}(E:RE Γ φ H n ρ σ)(h:List (Option Nat)):RE Γ φ H n (mw ρ h) (az9 h σ):=by
 refine⟨by unfold mw az9;simp,λ i d e=>?_⟩
 unfold mw at e
 rw[ax]at e
 cases q:h[i]? with
 | none=>rw[q]at e;cases e
 | some o =>
  rw[q]at e
  cases o with
  | none=>cases e
  | some j =>
   have e':(ρ[j]?).join=some d:=aF e
   have ej:ρ[j]?=some (some d):=by
    cases q2:ρ[j]? with
    | none=>rw[q2]at e';cases e'
    | some o2=>rw[q2]at e';exact congrArg some e'
   obtain⟨b,v,y,p⟩:=E.val j d ej
   refine⟨b,v,?_,p⟩
   unfold az9
   rw[ax,q]
   show some ((σ[j]?).join)=_
   rw[y];rfl
theorem be2 {mI:ln->lh->lp mr}{mc me:ln->lh->lp li}{tg:lP}{Y:List (Option Nat)}{σ:St}{H:Hp}{Q:VK}
  (h:TFv Γ (λ ρ s=>(mI ρ s).bind λ q s0=>if q.its.length<=lv then mK (λ s=>lT s0 s q.src) (λ d ρ s=>match lE ρ tg d with
   | some ρ=>lx (mc ρ s) λ k s=>if k then(me ρ s).bind λ v s=>.ok (some v,ρ) s else .ok (none,ρ) s
   | none=>.bad) q.its (mw ρ Y) s0 else .bad) σ H Q):tComp Y (TIv Γ mI) (gOf Γ.K tg) (TTv Γ mc) (TEv Γ me) σ H Q:=by
 obtain⟨φ,ρ,s,l,s',E,R,hm,k⟩:=h
 obtain⟨q,s0,e1,hm⟩:=aa0 hm
 split at hm
 case isFalse=>exact fb hm
 rename_i hlim
 refine⟨φ,ρ,s,q,s0,E,R,e1,λ J φ1 H1 g1 l1 b1 R1 wk D hD=>?_⟩
 have h0:H D=none:=by
  cases e:H D with
  | none=>rfl
  | some o=>exact absurd hD (g1.st D (by rw[e];simp))
 refine⟨λ i m σ' H'=>∃ φ' ρ' t y ys rest,Gr φ1 s0 H1 φ' t H'/\Rp Γ φ' H' t/\RE Γ φ' H' t.length ρ' σ'/\H' D=some (.lst ys)/\Off φ' t D/\RVL Γ φ' H' y ys/\lj t.length y=true/\y.length<=i/\i<=q.its.length/\m=q.its.length - i /\
  mK (λ s=>lT s0 s q.src) (λ d ρ s=>match lE ρ tg d with
   | some ρ=>lx (mc ρ s) λ k s=>if k then(me ρ s).bind λ v s=>.ok (some v,ρ) s else .ok (none,ρ) s
   | none=>.bad) (q.its.drop i) ρ' t=.ok rest s'/\l=y++rest,⟨q.its.length,?_⟩,?_⟩
 ·obtain⟨g2,R2⟩:=R1.same (H':=upd H1 D (.lst [])) ((ai1.refl H1).new hD)
  exact⟨φ1,mw ρ Y,s0,[],[],l,g2,R2,bR9 ((E.mono g1 l1).mono g2 (am _)) Y,zm,Off.new R1 hD,.nil,rfl,am _,c9 _,by simp,by rw[fu];exact hm,rfl⟩
 ·rintro i m σ' H' ⟨φ',ρ',t,y,ys,rest,g,R',E',hy,a2,ra,ba,c0,b6,rfl,hc,hl⟩
  have G:=g.le
  rcases kR i q.its.length with hlt|hge
  ·have hd:q.its[i]?=some q.its[i]:=ah hlt
   rw[fx hlt]at hc
   unfold mK at hc
   split at hc
   case isFalse=>exact fb hc
   rename_i a4
   obtain⟨b0,b2⟩:=(wk φ' H' t g G R' a4 i).1 hlt
   refine .inr ⟨b0,_,λ σ2 H2 n=>⟨q.its.length - (i+1),by omega,n⟩,λ x H2 b4=>?_⟩
   obtain⟨sm,rv⟩:=b2 x H2 b4
   obtain⟨g2,R2⟩:=R'.same sm
   have rd:=rv _ hd
   have bd:(q.its[i]).bnd t.length=true:=zy G _ (ak9 b1 hd)
   obtain⟨p,t3,hs,hc⟩:=aa0 hc
   obtain⟨r2,t4,a6,hc⟩:=aa0 hc
   cases hb:lE ρ' tg q.its[i]with
   | none=>rw[hb]at hs;cases hs
   | some ρ3 =>
    rw[hb]at hs
    refine bv9 (E'.mono g2 (am _)) rd bd hb λ σ3 E3=>?_
    obtain⟨c,t1,ec,hs⟩:=z6 hs
    refine⟨φ',ρ3,t,c,t1,E3,R2,ec,λ φ2 H4 g4 l4 R4=>?_⟩
    have a5:H2 D=some (.lst ys):=sm _ _ hy
    have a3:H4 D=some (.lst ys):=g4.fr D _ a5 (by nofun) a2
    have Z:Off φ2 t1 D:=a2.mono g4 a5
    have G4:=(g.trans g2 G).trans g4 G
    cases c with
    | true =>
     rw[if_pos rfl]at hs
     refine iteT ?_
     obtain⟨v,t2,ev,hs⟩:=aa0 hs
     cases hs
     refine⟨φ2,ρ3,t1,v,t3,E3.mono g4 l4,R4,ev,λ w φ3 H5 g5 l5 b5 r5 R5=>?_⟩
     have a0:H5 D=some (.lst ys):=g5.fr D _ a3 (by nofun) Z
     have a1:Off φ3 t3 D:=Z.mono g5 a3
     refine⟨ys,a0,?_,?_⟩
     ·rw[ra.length]
      have:=qw
      omega
     ·have gw:Gw φ3 t3.length H5 φ3 (upd H5 D (.lst (ys++[w]))):=⟨λ _ _=>rfl,(Kp.refl H5).put a0 rfl⟩
      have G5:=G4.trans g5 (ao G l4)
      have GG:=g2.trans (g4.trans g5 l4) (am _)
      have b3:RVL Γ φ3 H5 y ys:=RVL.mono GG _ _ ba ra
      have bb:lj t3.length (y++[v])=true:=qi (ac5 GG.le _ ba) (by unfold lj;rw[b5];rfl)
      refine⟨φ3,ρ3,t3,y++[v],ys++[w],r2,G5.foreign hD a0,R5.foreign a0 a1,?_,zm,a1,RVL.monoW gw _ _ bb (b3.append (.cons r5 .nil)),bb,by simp;omega,hlt,rfl,?_,?_⟩
      ·have E5:=(E3.mono g4 l4).mono g5 l5
       exact⟨E5.len,λ j e hj=>by
        obtain⟨h1,z,h2,h3⟩:=E5.val j e hj
        exact⟨h1,z,h2,RV.monoW gw _ _ h1 h3⟩⟩
      ·cases hc;exact a6
      ·cases hc;rw[hl];simp
    | false =>
     rw[if_neg aW]at hs
     refine cl9 ?_
     cases hs
     have GG:=g2.trans g4 (am _)
     exact⟨φ2,ρ3,t3,y,ys,r2,G4,R4,E3.mono g4 l4,a3,Z,RVL.mono GG _ _ ba ra,ac5 l4 _ ba,by omega,hlt,rfl,by cases hc;exact a6,by cases hc;exact hl⟩
  ·have hi:i=q.its.length:=by omega
   rw[gA hge]at hc
   unfold mK at hc
   split at hc
   case isFalse=>exact fb hc
   rename_i a4
   cases hc
   refine .inl ⟨(wk φ' H' s' g G R' a4 i).2 hge,?_⟩
   rw[bo]at hl
   subst hl
   exact k D ys φ' H' (g1.trans g l1) (ao l1 G) ba hy h0 a2 ra R'
variable {Γ:Gm} {X:Cx}
noncomputable def ci5 (Γ:Gm)(φ:Nat->Addr)(H:Hp)(n:Nat)(D:Ends):lQ->Prop
 | .next ρ=>∀ σ,RE Γ φ H n ρ σ->D.nx σ H
 | .ret d=>∀ v,d.bnd n=true->RV Γ φ H d v->D.rt v H
 | .cont ρ=>∀ σ,RE Γ φ H n ρ σ->D.ct σ H
 | .brk ρ=>∀ σ,RE Γ φ H n ρ σ->D.bk σ H
def ao2 (Γ:Gm)(φ:Nat->Addr)(s:lh)(H:Hp)(c:lQ)(s':lh)(D:Ends):Prop :=
 ∀ φ' H',Gr φ s H φ' s' H'->s.length<=s'.length->Rp Γ φ' H' s'->ci5 Γ φ' H' s'.length D c
def TSv (Γ:Gm)(m:ln->lh->lp lQ):TS:=λ D σ H=>∃ φ ρ s c s',RE Γ φ H s.length ρ σ/\Rp Γ φ H s/\m ρ s=.ok c s'/\ao2 Γ φ s H c s' D
theorem PS.imp {e:Stmt}{t t':TS}(h:PS X e t)(i:∀ D σ H,t' D σ H->t D σ H):PS X e t':=λ p s σ H Q I q=>h p s σ H Q I (i Q σ H q)
theorem PSs.imp {e:List Stmt}{t t':TS}(h:PSs X e t)(i:∀ D σ H,t' D σ H->t D σ H):PSs X e t':=λ p s σ H Q I q=>h p s σ H Q I (i Q σ H q)
theorem ao2.trans {φ φ1:Nat->Addr}{s s1 s':lh}{H y:Hp}{c:lQ}{D:Ends}(h:ao2 Γ φ s H c s' D)(g:Gr φ s H φ1 s1 y)(l:s.length<=s1.length):ao2 Γ φ1 s1 y c s' D :=
 λ φ' H' g' G p=>h φ' H' (g.trans g' l) (ao l G) p
theorem ao2.here {φ:Nat->Addr}{s:lh}{H:Hp}{c:lQ}{D:Ends}(h:ao2 Γ φ s H c s D)(p:Rp Γ φ H s):ci5 Γ φ H s.length D c:=h φ H (Gr.refl φ s H) (am _) p
variable {D:Ends} {σ:St} {H:Hp}
theorem bE0 {m:ln->lh->lp lQ}(p:∀ ρ s,m ρ s=.ok (.next ρ) s)(h:TSv Γ m D σ H):bR7 D σ H:=by
 obtain⟨φ,ρ,s,c,s',E,R,e,q⟩:=h
 rw[p]at e;cases e
 exact q.here R σ E
theorem bQ1 {m:ln->lh->lp li}(h:TSv Γ (λ ρ s=>(m ρ s).bind λ d s=>.ok (.ret d) s) D σ H):ci6 (TEv Γ m) D σ H:=by
 obtain⟨φ,ρ,s,c,s',E,R,e,q⟩:=h
 obtain⟨x,s1,e1,e⟩:=aa0 e
 cases e
 exact⟨φ,ρ,s,x,_,E,R,e1,λ v φ1 y g1 l1 p r1 R1=>q φ1 y g1 l1 R1 v p r1⟩
theorem bz2 {m:ln->lh->lp li}(h:TSv Γ (λ ρ s=>(m ρ s).bind λ _ s=>.ok (.next ρ) s) D σ H):bU4 (TEv Γ m) D σ H:=by
 obtain⟨φ,ρ,s,c,s',E,R,e,q⟩:=h
 obtain⟨x,s1,e1,e⟩:=aa0 e
 cases e
 exact⟨φ,ρ,s,x,_,E,R,e1,λ v φ1 p g1 l1 y r1 R1=>q φ1 p g1 l1 R1 σ (E.mono g1 l1)⟩
theorem bb9 {m:ln->lh->lp li}{tg:lP}(h:TSv Γ (λ ρ s=>(m ρ s).bind λ d s=>match lE ρ tg d with|some ρ=>.ok (.next ρ) s|none=>.bad) D σ H):bk5 (TEv Γ m) (gOf Γ.K tg) D σ H:=by
 obtain⟨φ,ρ,s,c,s',E,R,e,q⟩:=h
 obtain⟨x,s1,e1,e⟩:=aa0 e
 refine⟨φ,ρ,s,x,s1,E,R,e1,λ v φ1 G g1 l1 p r1 R1=>?_⟩
 cases hb:lE ρ tg x with
 | none=>rw[hb]at e;cases e
 | some ρ1 =>
  rw[hb]at e
  cases e
  exact bv9 (E.mono g1 l1) r1 p hb λ σ' y=>q φ1 G g1 l1 R1 σ' y
theorem bh7 {m:ln->lh->lp (List li)}(h:TSv Γ (λ ρ s=>((m ρ s).bind λ l s=>lY (.lst l) s).bind λ d s=>match lE ρ tg d with|some ρ=>.ok (.next ρ) s|none=>.bad) D σ H):bk5 (TFv Γ m) (gOf Γ.K tg) D σ H :=
 bc7 (bb9 h)
def bV7 (Γ:Gm):bZ1:=λ o i v H Q=>∃ φ s x y d s',Rp Γ φ H s/\RV Γ φ H x o/\RV Γ φ H y i/\RV Γ φ H d v/\x.bnd s.length=true/\y.bnd s.length=true/\d.bnd s.length=true/\DV.setIx x y d s=.ok () s' /\
 ∀ φ' H',Gr φ s H φ' s' H'->s.length<=s'.length->Rp Γ φ' H' s'->Q H'
theorem bj8 {me mo Y:ln->lh->lp li}(h:TSv Γ (λ ρ s=>(me ρ s).bind λ d s=>(mo ρ s).bind λ x s=>(Y ρ s).bind λ y s=>(DV.setIx x y d s).bind λ _ s=>.ok (.next ρ) s) D σ H) :
  bk5 (TEv Γ me) (cj2 (TEv Γ mo) (TEv Γ Y) (bV7 Γ)) D σ H:=by
 obtain⟨φ,ρ,s,c,s',E,R,e,q⟩:=h
 obtain⟨d,s1,e1,e⟩:=aa0 e
 obtain⟨x,s2,e2,e⟩:=aa0 e
 obtain⟨y,s3,e3,e⟩:=aa0 e
 obtain⟨u,s4,e4,e⟩:=aa0 e
 cases e
 refine⟨φ,ρ,s,d,s1,E,R,e1,λ v1 φ1 H1 g1 l1 b1 r1 R1=>?_⟩
 refine⟨φ1,ρ,s1,x,s2,E.mono g1 l1,R1,e2,λ v2 φ2 H2 g2 p Z r2 R2=>?_⟩
 have G2:=g1.trans g2 l1
 have L2:=ao l1 p
 refine⟨φ2,ρ,s2,y,s3,E.mono G2 L2,R2,e3,λ v3 φ3 H3 J G b3 r3 R3=>?_⟩
 refine⟨φ3,s3,x,y,d,_,R3,RV.mono J x v2 Z r2,r3,RV.mono (g2.trans J p) d v1 b1 r1,zy G x Z,b3,zy (ao p G) d b1,e4,λ φ4 H4 g4 l4 R4=>?_⟩
 have G3:=G2.trans J L2
 have L3:=ao L2 G
 exact q φ4 H4 (G3.trans g4 L3) (ao L3 l4) R4 σ (E.mono (G3.trans g4 L3) (ao L3 l4))
theorem bS2 (hu:X.A.units+1<cLine):cc0 X (bV7 Γ):=by
 intro Z sh σ H o i v ov iv u Q I ro ri rv h
 obtain⟨φ,s,x,y,d,s',R,rx,ry,rd,bx,a0,bd,p,q⟩:=h
 cases x with
 | ref r =>
  have p:(match s[r]? with
   | some (.lst l)=>(match y with
    | .int i=>(match lZ l.length i with|some j=>DV.R.ok () (s.set r (.lst (l.set j d)))|none=>.bad)
    | _=>.bad)
   | some (.dic l)=>if y.key&&decide (l.length<lv)then .ok () (s.set r (.dic (lz y d l)))else .bad
   | some (.dit l)=>if y.keyT&&decide (l.length<lv)then .ok () (s.set r (.dit (lz y d l)))else .bad
   | _=>.bad)=.ok () s':=p
  cases e:s[r]? with
  | none=>rw[e]at p;cases p
  | some ob =>
   rw[e]at p
   cases ob with
   | lst l =>
    cases y with
    | int k =>
     have p:(match lZ l.length k with|some j=>DV.R.ok () (s.set r (.lst (l.set j d)))|none=>.bad)=.ok () s':=p
     cases ej:lZ l.length k with
     | none=>rw[ej]at p;cases p
     | some j =>
      rw[ej]at p
      cases p
      obtain⟨xs,h1,G⟩:=R.addr e
      have hb:lj s.length (l.set j d)=true:=ad2.mpr λ z hz=>by
       rcases fy hz with h|h
       ·exact ad2.mp (by have:=R.wf r _ e;unfold ls at this;exact this) z h
       ·subst h;exact bd
      refine bo9 Z sh σ H o i v ov iv u Q I ro ri rv ⟨φ r,xs,k,j,rx.refE,ry.intE,h1,?_,?_⟩
      ·rw[G.length];exact ej
      ·obtain⟨g,R'⟩:=R.set (o:=.lst (l.set j d)) (u:=.lst (xs.set j v)) e rfl hb λ H' g e=>⟨_,e,RVL.monoW g _ _ hb (G.set j rd)⟩
       exact q _ _ g (by simp) R'
    | _=>exact fb p
   | dic l =>
    have p:(if y.key&&decide (l.length<lv)then DV.R.ok () (s.set r (.dic (lz y d l)))else .bad)=.ok () s':=p
    split at p
    case isFalse=>exact fb p
    rename_i hc
    cases p
    rw[ag]at hc
    obtain⟨k,hk⟩:=aw2 hc.1
    have hlt:=of_decide_eq_true hc.2
    obtain⟨J,h1,G⟩:=R.obj r _ e
    have ex:=rx.refE;subst ex
    cases ro
    have ey:=aM9 hk ry;subst ey
    have hb:(DV.O.dic (lz y d l)).bnd s.length=true:=aP3 (R.wf r _ e) a0 bd
    have Y:lj s.length ((lz y d l).map (·.2))=true:=by
     unfold ls at hb
     rw[ag]at hb
     exact hb.2
    obtain⟨g,R'⟩:=R.set (o:=.dic (lz y d l)) (u:=.dK (at6 J k v)) e rfl hb λ H' g e=>⟨_,e,RVD.monoW g _ _ Y (G.put keyOf_inj hk rd)⟩
    exact az6 hu I (bG0.k h1 (by rw[G.length];exact az hlt qw)) ri rv λ s4 I4=>⟨_,I4,q _ _ g (by simp) R'⟩
   | dit l =>
    have p:(if y.keyT&&decide (l.length<lv)then DV.R.ok () (s.set r (.dit (lz y d l)))else .bad)=.ok () s':=p
    split at p
    case isFalse=>exact fb p
    rename_i hc
    cases p
    rw[ag]at hc
    obtain⟨k,hk⟩:=aD5 hc.1
    have hlt:=of_decide_eq_true hc.2
    obtain⟨J,h1,G⟩:=R.obj r _ e
    have ex:=rx.refE;subst ex
    cases ro
    obtain⟨kb,ey,a1⟩:=ba7 hk ry;subst ey
    have hb:(DV.O.dit (lz y d l)).bnd s.length=true:=bj2 (R.wf r _ e) a0 bd
    have Y:lj s.length ((lz y d l).map (·.2))=true:=by
     unfold ls at hb
     rw[ag]at hb
     exact hb.2
    obtain⟨g,R'⟩:=R.set (o:=.dit (lz y d l)) (u:=.dT (at6 J k v)) e rfl hb λ H' g e=>⟨_,e,RVD.monoW g _ _ Y (G.put keyT_inj hk rd)⟩
    exact az6 hu I (bG0.t h1 a1 (by rw[G.length];exact az hlt qw)) ri rv λ s4 I4=>⟨_,I4,q _ _ g (by simp) R'⟩
   | _=>exact fb p
 | _=>exact fb p
theorem cf2 {mc:ln->lh->lp li}{G y:ln->lh->lp lQ}(h:TSv Γ (λ ρ s=>lx (mc ρ s) λ k s=>if k then G ρ s else y ρ s) D σ H):cj4 (TTv Γ mc) (TSv Γ G) (TSv Γ y) D σ H:=by
 obtain⟨φ,ρ,s,d,s',E,R,p,q⟩:=h
 obtain⟨c,s1,e1,p⟩:=z6 p
 refine⟨φ,ρ,s,c,s1,E,R,e1,λ φ1 J g1 l1 R1=>?_⟩
 cases c with
 | true =>
  rw[if_pos rfl]at p ⊢
  exact⟨φ1,ρ,s1,d,s',E.mono g1 l1,R1,p,q.trans g1 l1⟩
 | false =>
  rw[if_neg aW]at p ⊢
  exact⟨φ1,ρ,s1,d,s',E.mono g1 l1,R1,p,q.trans g1 l1⟩
theorem bW7 {Y G:ln->lh->lp lQ}(h:TSv Γ (λ ρ s=>(Y ρ s).bind λ c s=>match c with|.next ρ=>G ρ s|c=>.ok c s) D σ H):ci4 (TSv Γ Y) (TSv Γ G) D σ H:=by
 obtain⟨φ,ρ,s,c,s',E,R,p,q⟩:=h
 obtain⟨J,s1,e1,p⟩:=aa0 p
 refine⟨φ,ρ,s,J,s1,E,R,e1,λ φ1 y g1 l1 R1=>?_⟩
 cases J with
 | next ρ1=>exact λ σ1 Z=>⟨φ1,ρ1,s1,c,s',Z,R1,p,q.trans g1 l1⟩
 | ret d=>cases p;exact q φ1 y g1 l1 R1
 | cont ρ=>cases p;exact q φ1 y g1 l1 R1
 | brk ρ=>cases p;exact q φ1 y g1 l1 R1
theorem bk1 {mc:ln->lh->lp li}{y:ln->lh->lp lQ}(h:TSv Γ (DV.whl mc y) D σ H):bt3 (TTv Γ mc) (TSv Γ y) D σ H:=by
 obtain⟨φ,ρ,s,c,s',E,R,p,q⟩:=h
 unfold DV.whl at p
 split at p
 case isFalse=>exact fb p
 rename_i hn
 generalize hn.choose=n at p
 refine⟨λ n σ H=>∃ φ ρ s,RE Γ φ H s.length ρ σ/\Rp Γ φ H s/\DV.al7 mc y n ρ s=.ok c s'/\ao2 Γ φ s H c s' D,⟨n,φ,ρ,s,E,R,p,q⟩,?_⟩
 clear E R p q hn
 rintro n σ H ⟨φ,ρ,s,E,R,p,q⟩
 cases n with
 | zero=>exact fb p
 | succ n =>
  unfold DV.al7 at p
  obtain⟨b,s1,e1,p⟩:=z6 p
  refine⟨φ,ρ,s,b,s1,E,R,e1,λ φ1 H1 g1 l1 R1=>?_⟩
  cases b with
  | false =>
   rw[if_neg aW]at p ⊢
   cases p
   exact q φ1 H1 g1 l1 R1 σ (E.mono g1 l1)
  | true =>
   rw[if_pos rfl]at p ⊢
   obtain⟨Y,s2,e2,p⟩:=aa0 p
   refine⟨_,λ σ' H' w=>⟨n,db n,w⟩,φ1,ρ,s1,Y,s2,E.mono g1 l1,R1,e2,λ φ2 Z g2 l2 R2=>?_⟩
   have G:=g1.trans g2 l1
   have L:=ao l1 l2
   cases Y with
   | next ρ1=>exact λ σ1 J=>⟨φ2,ρ1,s2,J,R2,p,q.trans G L⟩
   | cont ρ1=>exact λ σ1 J=>⟨φ2,ρ1,s2,J,R2,p,q.trans G L⟩
   | ret d=>cases p;exact q φ2 Z G L R2
   | brk ρ=>cases p;exact q φ2 Z G L R2
theorem bR2 {mI : DV.Env -> DV.Sto -> DV.R DV.Sq} {mb : DV.Env -> DV.Sto -> DV.R DV.Ct} {tg : DV.Tg} (h : TSv Γ (λ ρ s => (mI ρ s).bind λ q s0 => DV.aU0 (λ s => DV.chk s0 s q.src) (λ d ρ s => match DV.ah7 ρ tg d with
      | some ρ => mb ρ s
      | none => .bad) q.its ρ s0) D σ H) : ci0 (TIv Γ mI) (gOf Γ.K tg) (TSv Γ mb) D σ H := by
  obtain⟨φ, ρ, s, c, s', E, R, hm, k⟩ := h
  obtain⟨q, s0, e1, hm⟩ := aa0 hm
  refine⟨φ, ρ, s, q, s0, E, R, e1, λ J φ1 H1 g1 l1 b1 R1 wk => ?_⟩
  refine⟨λ i m σ' H' => ∃ φ' ρ' t, Gr φ1 s0 H1 φ' t H' /\ Rp Γ φ' H' t /\ RE Γ φ' H' t.length ρ' σ' /\ i <= q.its.length /\ m = q.its.length - i /\
    mW (λ s => lT s0 s q.src) (λ d ρ s => match lE ρ tg d with
      | some ρ => mb ρ s
      | none => .bad) (q.its.drop i) ρ' t = .ok c s', ⟨q.its.length, ?_⟩, ?_⟩
  · exact⟨φ1, ρ, s0, Gr.refl _ _ _, R1, E.mono g1 l1, c9 _, by simp, by rw[fu]; exact hm⟩
  · rintro i m σ' H' ⟨φ', ρ', t, g, R', E', hil, rfl, hc⟩
    have hle := g.le
    rcases kR i q.its.length with hlt|hge
    · have hd : q.its[i]? = some q.its[i] := ah hlt
      rw[fx hlt]at hc
      unfold mW at hc
      split at hc
      case isFalse => exact fb hc
      rename_i hck
      obtain⟨hgo, hy2⟩ := (wk φ' H' t g hle R' hck i).1 hlt
      refine .inr ⟨hgo, _, λ σ2 H2 n => ⟨q.its.length - (i + 1), by omega, n⟩, λ x H2 hyl => ?_⟩
      obtain⟨sm, rv⟩ := hy2 x H2 hyl
      obtain⟨g2, R2⟩ := R'.same sm
      have rd := rv _ hd
      have bd : (q.its[i]).bnd t.length = true := zy hle _ (ak9 b1 hd)
      obtain⟨c1, t3, hs, hc⟩ := aa0 hc
      cases hb : lE ρ' tg q.its[i]with
      | none => rw[hb]at hs; cases hs
      | some ρ3 =>
        rw[hb]at hs
        refine bv9 (E'.mono g2 (am _)) rd bd hb λ σ3 E3 => ?_
        refine⟨φ', ρ3, t, c1, t3, E3, R2, hs, λ φ2 H4 g4 l4 R4 => ?_⟩
        have G4 := (g.trans g2 hle).trans g4 hle
        have L4 := ao hle l4
        have GG := g1.trans G4 l1
        cases c1 with
        | next ρ1 => exact λ σ1 E1 => ⟨φ2, ρ1, t3, G4, R4, E1, hlt, rfl, hc⟩
        | cont ρ1 => exact λ σ1 E1 => ⟨φ2, ρ1, t3, G4, R4, E1, hlt, rfl, hc⟩
        | ret d => cases hc; exact k φ2 H4 GG (ao l1 L4) R4
        | brk ρ => cases hc; exact k φ2 H4 GG (ao l1 L4) R4
    · rw[gA hge]at hc
      unfold mW at hc
      split at hc
      case isFalse => exact fb hc
      rename_i hck
      cases hc
      exact .inl ⟨(wk φ' H' s' g hle R' hck i).2 hge, k φ' H' (g1.trans g l1) (ao l1 hle) R' σ' E'⟩
structure Ck where
 N:List Str
 sc:Scope
 lk:String->List Nat->Expr->Bool
noncomputable abbrev ck0 (N:List Str)(sc:Scope):Ck:=⟨N,sc,λ _ _ _=>false⟩
noncomputable def Ck.vis (c:Ck)(x:Str):Bool:=match c.sc.names.lookup x with|some .local=>true|some .cell=>true|some .free=>true|_=>false
noncomputable def Ck.loc (c:Ck)(x:Str):Bool:=match c.sc.names.lookup x with|some .local=>true|some .cell=>true|_=>false
noncomputable def Ck.gl (c:Ck)(x:Str):Bool:=(match c.sc.names.lookup x with|some .globalImplicit=>true|_=>false)&&!(x==("__debug__":Str))&&!decide (x=("__name__":Str))
noncomputable def Ck.var (c:Ck)(i:Nat)(x:Str):Bool:=decide (c.N[i]?=some x)&&c.vis x&&!(x==("__debug__":Str))&&!(x==("__classdict__":Str))
noncomputable def shp:Expr->Bool
 | .Starred ..=>false
 | .Set ..=>false
 | .SetComp ..=>false
 | .DictComp ..=>false
 | .GeneratorExp ..=>false
 | .Slice ..=>false
 | .NamedExpr ..=>false
 | _=>true
noncomputable def aD8:Expr->Bool
 | .ListComp ..=>false
 | .SetComp ..=>false
 | .DictComp ..=>false
 | _=>true
noncomputable def bl0:Expr->Bool
 | .Tuple ..=>false
 | _=>true
noncomputable def bX6:Expr->Bool
 | .Call _ [] [] _=>false
 | _=>true
noncomputable def mC:DV.Cn->Const->Bool
 | .non,.none=>true
 | .bl b,.bool c=>b==c
 | .int i,.int j=>decide (i=j)
 | .str x,.str y=>decide (y=⟨x.toArray⟩)&&decide (x.length<=1000)
 | _,_=>false
noncomputable def bZ4 (ck:Ck):List Nat->List Expr->Bool
 | [],[]=>true
 | i::is,.Name x _::es=>decide (ck.N[i]?=some x)&&ck.loc x&&bZ4 ck is es
 | _,_=>false
noncomputable def mTg (ck:Ck):lP->Expr->Bool
 | .one i,.Name x _=>decide (ck.N[i]?=some x)&&ck.loc x
 | .tup is,.Tuple es _ _=>bZ4 ck is es
 | _,_=>false
noncomputable def tgN:Expr->List Str
 | .Name x _=>[x]
 | .Tuple es _ _=>es.filterMap λ e=>match e with|.Name x _=>some x|_=>none
 | _=>[]
structure ItT where
 x:Str
 y:Str
 ob:Expr
 sc:Scope
 p1:Pos
 p2:Pos
 p3:Pos
 p4:Pos
 p5:Pos
 p6:Pos
 p7:Pos
 k1:Nat
 k2:Nat
 ap:Pos
 cp:Pos
 pos:Pos
noncomputable def ItT.tg (q:ItT):Expr:=.Tuple [.Name q.x q.p5,.Name q.y q.p6] q.k2 q.p7
noncomputable def ItT.it (q:ItT):Expr:=.Call (.Attribute q.ob "items" q.ap) [] [] q.cp
noncomputable def ItT.text (q:ItT):Expr:=.ListComp (.BinOp (.Name q.x q.p1) .Add (.Tuple [.Name q.y q.p2] q.k1 q.p3) q.p4) [⟨q.tg,q.it,[],0⟩] q.sc q.pos
noncomputable def ckC (ck:Ck)(tgt:Expr)(caps:List (Option Nat))(scope:Scope):Ck:=⟨tgN tgt++(caps.filterMap id).map λ j=>ck.N.getD j "",scope,λ _ _ _=>false⟩
noncomputable def aQ5 (ck:Ck)(tg:lP)(tgt iter:Expr)(caps:List (Option Nat))(scope:Scope):Bool :=
 qp (ckC ck tgt caps scope).N caps scope ck.N ck.sc&&decide ((ckC ck tgt caps scope).N.Nodup)&&mTg (ckC ck tgt caps scope) tg tgt&&shp iter
noncomputable def biT:lO->Option Str
 | .len=>some "len" | .abs=>some "abs" | .min2=>some "min" | .max2=>some "max" | .max3=>some "max" | .int=>some "int" | _=>none
noncomputable def biK:lO->Option (Nat×Str)
 | .isInt=>some (1, "int")|.isBool=>some (2, "bool")|.isStr=>some (3, "str")|.isTup=>some (4, "tuple")|.isList=>some (5, "list")|_=>none
noncomputable def mkT:mM->Option Str
 | .tuple=>some "tuple" | .list=>some "list" | _=>none
noncomputable def mkF:mM->Option Str
 | .all=>some "all" | .min=>some "min" | _=>none
noncomputable def mtT:mO->Option (Str×Nat)
 | .append=>some ("append",1)|.pop=>some ("pop",0)|_=>none
noncomputable def bm2:lW->Bool
 | .nil=>false
 | .ex _ as=>bm2 as
 | .lam _ _ _=>true
 | .fn _ as=>bm2 as
noncomputable def bZ6 (ck:Ck)(b:lO)(x:Str)(xs:List Expr)(m1 m2:Bool):Bool:=match biK b with
 | some p=>(match xs with|[_,.Name y _]=>decide (x=("isinstance":Str))&&ck.gl x&&decide (y=p.2)&&ck.gl y&&m2|_=>false)
 | none=>(match xs with|_::_=>decide (biT b=some x)&&ck.gl x&&m1|[]=>false)
mutual
noncomputable def mE (ck:Ck):mH->Expr->Bool
 | .var i,E=>match E with|.Name x _=>ck.var i x|_=>false
 | .cst c,E=>match E with|.Constant v _ _=>mC c v|_=>false
 | .glob g,E=>match E with|.Name x _=>decide (x=(g:Str))&&ck.gl x|_=>false
 | .bin op a b,E=>match E with|.BinOp l o r _=>decide (o=cc4 op)&&mE ck a l&&mE ck b r|_=>false
 | .neg a,E=>match E with|.UnaryOp .USub l _=>mE ck a l|_=>false
 | .not a,E=>match E with|.UnaryOp .Not l _=>mE ck a l|_=>false
 | .cmp op a b,E=>match E with|.Compare l [o] [r] _=>decide (o=bH5 op)&&mE ck a l&&mE ck b r|_=>false
 | .chain _ _ _ _ _,_=>false
 | .isN _,_=>false
 | .notN _,_=>false
 | .isB _ _,_=>false
 | .notB _ _,_=>false
 | .and a b,E=>match E with
  | .BoolOp .And [l,r] _=>mE ck a l&&mE ck b r
  | .BoolOp .And (l::m::r::es) p=>mE ck a l&&mE ck b (.BoolOp .And (m::r::es) p)
  | _=>false
 | .or a b,E=>match E with
  | .BoolOp .Or [l,r] _=>mE ck a l&&mE ck b r
  | .BoolOp .Or (l::m::r::es) p=>mE ck a l&&mE ck b (.BoolOp .Or (m::r::es) p)
  | _=>false
 | .ite c a b,E=>match E with|.IfExp t l r _=>mE ck c t&&mE ck a l&&mE ck b r|_=>false
 | .tup es,E=>match E with|.Tuple xs _ _=>mEs ck es xs&&decide (xs.length<=1000)|_=>false
 | .lst es,E=>match E with|.List xs _=>mEs ck es xs&&decide (xs.length<=1000)|_=>false
 | .dic ks vs,E=>match E with|.Dict a b _=>(match a,b with|[],[]=>mEs ck ks []&&mEs ck vs []|[some x],[y]=>mEs ck ks [x]&&mEs ck vs [y]|_,_=>false)|_=>false
 | .slL _ _,_=>false
 | .slU a hi,E=>match E with|.Subscript o (.Slice none (some h) none _) _=>mE ck a o&&mE ck hi h|_=>false
 | .slLU _ _ _,_=>false
 | .rev _,_=>false
 | .bitl _,_=>false
 | .lrng _,_=>false
 | .dicT,_=>false
 | .get2 _ _ _,_=>false
 | .ix a b,E=>match E with|.Subscript o i _=>mE ck a o&&mE ck b i|_=>false
 | .call f as,E=>match E with|.Call (.Name x _) xs [] _=>decide (x=(f:Str))&&ck.gl x&&mAs ck as xs|_=>false
 | .callC f as,E=>match E with|.Call (.Name x _) (y::ys) [] _=>decide (x=(f:Str))&&ck.gl x&&bm2 as&&bJ3 ck as (y::ys)|_=>false
 | .callV i es,E=>match E with|.Call (.Name x _) (y::ys) [] _=>ck.var i x&&mEs ck es (y::ys)|_=>false
 | .bi b es,E=>match E with|.Call (.Name x _) xs [] _=>bZ6 ck b x xs (mEs ck es xs) (mEs ck es (xs.take 1))|_=>false
 | .mk k l,E=>match E with
  | .Call (.Name x _) [a] [] _=>ck.gl x&&shp a&&((decide (mkT k=some x)&&mL ck 2 l a)||(decide (mkF k=some x)&&mL ck 1 l a))
  | .ListComp e gs sc p=>decide (k=.list)&&mL ck 0 l (.ListComp e gs sc p)
  | _=>false
 | .mkD _ _ _,_=>false
 | .meth m o es,E=>match E with
  | .Call (.Attribute ob x ap) xs [] cp=>decide (mtT m=some (x,xs.length))&&bX6 ob&&(ap.endLine==cp.line)&&mE ck o ob&&mEs ck es xs
  | _=>false
 | .ext _ _,_=>false
 | .extS _ _,_=>false
 | .mks _ _,_=>false
 | .mkDs _ _ _,_=>false
 | .join o e,E=>match E with
  | .Call (.Attribute ob x ap) [a] [] cp=>decide (x=("join":Str))&&bX6 ob&&(ap.endLine==cp.line)&&mE ck o ob&&mE ck e a&&shp a
  | _=>false
noncomputable def mEs (ck:Ck):lF->List Expr->Bool
 | .nil,xs=>match xs with|[]=>true|_=>false
 | .cons e es,xs=>match xs with|x::xs=>mE ck e x&&shp x&&mEs ck es xs|_=>false
noncomputable def mAs (ck:Ck):lW->List Expr->Bool
 | .nil,xs=>match xs with|[]=>true|_=>false
 | .ex e es,xs=>match xs with|x::xs=>mE ck e x&&shp x&&mAs ck es xs|_=>false
 | .lam _ _ _,_=>false
 | .fn _ _,_=>false
noncomputable def bJ3 (ck:Ck):lW->List Expr->Bool
 | .nil,xs=>match xs with|[]=>true|_=>false
 | .ex e es,xs=>match xs with|x::xs=>mE ck e x&&shp x&&bJ3 ck es xs|_=>false
 | .lam id caps es,xs=>match xs with|x::xs=>ck.lk id caps x&&shp x&&bJ3 ck es xs|_=>false
 | .fn _ _,_=>false
noncomputable def mI (ck:Ck)(tgt:Expr):DV.I->Expr->Bool
 | .rng1 a,E=>match E with|.Call (.Name x _) [l] [] _=>decide (x=("range":Str))&&ck.gl x&&mE ck a l&&shp l|_=>false
 | .rng2 _ _,_=>false
 | .seq e,x=>mE ck e x&&shp x
 | .rng3 _ _ _,_=>false
 | .enum (.seq _),_=>false
 | .zip (.seq _) (.seq _),_=>false
 | .enum _,_=>false
 | .zip _ _,_=>false
 | .items _,_=>false
noncomputable def mL (ck:Ck)(k:Nat):DV.L->Expr->Bool
 | .comp tg it e caps,E=>match E with|.ListComp elt [⟨tgt,iter,[],z⟩] scope _=>decide (z=0)&&aQ5 ck tg tgt iter caps scope&&mI ck tgt it iter&&mE (ckC ck tgt caps scope) e elt|_=>false
 | .compIf tg it c e caps,E=>match E with|.ListComp elt [⟨tgt,iter,[i],z⟩] scope _=>decide (z=0)&&aQ5 ck tg tgt iter caps scope&&mI ck tgt it iter&&mE (ckC ck tgt caps scope) c i&&mE (ckC ck tgt caps scope) e elt|_=>false
 | .disp es,E=>match E with|.List xs _=>decide (1<=k)&&mEs ck es xs&&decide (xs.length<=1000)|_=>false
 | .seq e,x=>decide (k=2)&&mE ck e x
 | .itm _,_=>false
end
theorem ff {p:Prop}(h:false=true):p:=Bool.noConfusion h
noncomputable def cm2:bA->Bool
 | ⟨[], args, none, [], [], none, []⟩ => args.all λ y => y.annotation.isNone
 | _=>false
noncomputable def co3:List Stmt->Option (Str×bA×Expr×Pos×Scope×Pos×List Stmt)
 | .FunctionDef nm params [.Return (some b) rp] [] none [] scope none nm' pos::xs=>if nm'=nm then some (nm,params,b,rp,scope,pos,xs)else none
 | _=>none
mutual
noncomputable def mS (ck:Ck):DV.S->Stmt->Bool
 | .asg tg e,S=>match S with
  | .Assign [t] v _=>mTg ck tg t&&mE ck e v&&(match tg with|.one _=>true|.tup _=>bl0 v&&aD8 v)
  | _=>false
 | .setIx o i e,S=>match S with|.Assign [.Subscript ob ix _] v _=>mE ck o ob&&mE ck i ix&&mE ck e v&&aD8 v&&bl0 v|_=>false
 | .aug _ _,_=>false
 | .ex e,S=>match S with|.Expr v _=>mE ck e v&&aD8 v|_=>false
 | .ret e,S=>match S with|.Return (some v) _=>mE ck e v|_=>false
 | .retN,_=>false
 | .ite c a b,S=>match S with|.If t l r _=>mE ck c t&&mSs ck a l&&mSs ck b r|_=>false
 | .whl c b,S=>match S with|.While t l [] _=>mE ck c t&&mSs ck b l|_=>false
 | .for_ tg it b,S=>match S with|.For tgt iter l [] _=>mTg ck tg tgt&&mI ck tgt it iter&&mSs ck b l|_=>false
 | .pass,_=>false
 | .cont,_=>false
 | .brk,_=>false
 | .raise,_=>true
 | .und _,_=>false
noncomputable def mSs (ck:Ck):DV.Ss->List Stmt->Bool
 | .nil,xs=>match xs with|[]=>true|_=>false
 | .cons s ss,xs=>match xs with|x::xs=>(mS ck s x&&mSs ck ss xs)|_=>false
end
theorem aK4 {p:Ck}{e:mH}{E:Expr}(h:mE p e E=true):shp E=true:=by
 cases E<;>first|rfl|(exfalso;cases e<;>exact ff h)
theorem bY5 {y:Ck}{p:Expr}{e:DV.I}{E:Expr}(h:mI y p e E=true):shp E=true:=by
 cases e with
 | seq e=>have h:(mE y e E&&shp E)=true:=h;rw[ag]at h;exact h.2
 | enum a=>cases E<;>first|rfl|(exfalso;cases a<;>exact ff h)
 | zip a b=>cases E<;>first|rfl|(exfalso;cases a<;>first|exact ff h|(cases b<;>exact ff h))
 | _=>cases E<;>first|rfl|exact ff h
theorem zl {e:Expr}{es:List Expr}{env:Env}(h:shp e=true):bp (e::es) env=(false,eval e env)::bp es env:=by
 cases e<;>first|rfl|cases h
theorem zN {env:Env}{pos:Pos}:∀ {es:List Expr},(∀ e∈es,shp e=true)->(dI pos (bp es env)).any (·.1)=false/\(dI pos (bp es env)).all (λ x=>!x.1)=true
 | [],_=>⟨rfl,rfl⟩
 | e::es,h=>by
  have y:=zl (es:=es) (env:=env) (h e (aB ..))
  obtain⟨p,h3⟩:=zN (env:=env) (pos:=pos) (es:=es) λ x hx=>h x (aj _ hx)
  rw[y]
  unfold dI at p h3 ⊢
  simp only[aG,d9,cZ,p,h3]
  exact⟨rfl,rfl⟩
theorem aJ4 {e:Expr}{env:Env}(h:shp e=true)(x:Value):c6 e env x=pure x:=by
 cases e<;>first|rfl|cases h
theorem aB7 {e:Expr}{op:CmpOp}(h:shp e=true):iz op e=false:=by
 cases e<;>first|rfl|cases h
theorem ar9 {e:Expr}{t:Option Expr}{l:Nat}{env:Env}(h:aD8 e=true):e8 e t l env=pure false:=by
 cases e<;>first|rfl|cases h
theorem aG1 {e:Expr}{f:Str}{env:Env}(h:bX6 e=true):fO e f env (eval e env)=eval e env:=by
 cases e with
 | Call g a k p =>
  cases g with
  | Name x p' =>
   cases a with
   | nil=>cases k with
    | nil=>cases h
    | cons _ _=>rfl
   | cons _ _=>rfl
  | _=>rfl
 | _=>rfl
theorem aR0 {es:List Expr}{k:Nat}{p:Pos}{e:Expr}{env:Env}(h:bl0 e=true):iy [.Tuple es k p] e env=pure none:=by
 cases e<;>first|rfl|cases h
theorem aS5 {o i:Expr}{p:Pos}{e:Expr}{env:Env}(h:bl0 e=true):iy [.Subscript o i p] e env=pure none:=by
 cases e<;>first|rfl|cases h
theorem aQ7 {e:Expr}(h:shp e=true):bg9 e:=by
 intro o i
 cases e<;>first|rfl|cases h
def spV (Γ:Gm)(c:List li->lh->lp li):Sp:=λ vs H Q _=>rCl Γ c vs H Q
noncomputable def bNames:List Str:=["len", "abs", "min", "max", "int", "isinstance", "bool", "str", "tuple", "list", "range", "sum", "all", "any", "sorted", "zip", "enumerate", "ord"]
def spL (Γ:Gm)(c:List li->List li->lh->lp li)(cap:List V):Sp:=λ vs H Q _=>∃ φ s cs l d s',Rp Γ φ H s/\RVL Γ φ H l vs/\RVL Γ φ H cs cap/\lj s.length l=true/\lj s.length cs=true/\c cs l s=.ok d s'/\ai4 Γ φ s H d s' Q
noncomputable def LamI.own (J:LamI):Str:=match J.nm with|none => "<lambda>" | some p=>p.1
noncomputable def lamText (J:LamI)(params:bA)(body:Expr)(scope:Scope)(pos:Pos):Expr:=match J.nm with
 | none=>.Lambda params body scope pos
 | some p=>.NamedExpr (.Name p.1 p.2) (.Lambda params body scope pos) pos
structure LamHere (Γ:Gm)(X:Cx)(N:List Str)(id:String)(caps:List Nat)(params:bA)(body:Expr)(scope:Scope)(c P:Addr)(J:LamI):Prop where
 code:X.env.code=.ref c
 hd:bK X.base c P
 bm:BM X.mg X.base
 ck:lamCheck scope X.env.scope=true
 df:ku params X.env=([],[])
 lg:Γ.lg id J
 q:J.qual=X.env.qual++J.own
 p:J.params=params
 b:J.body=body
 s:J.scope=scope
 len:J.fr.length=caps.length
 at_:∀(i j:Nat) (x:Str),caps[i]?=some j->J.fr[i]?=some x->N[j]?=some x
 fr:∀ x∈J.fr,scope.names.lookup x=some .free
 cl:∀ x,scope.names.lookup x=some .free->∃ c,X.env.cells.lookup x=some c
 tab:(P,J.qual)∈Γ.T
 nd:(Γ.T.map (·.1)).Nodup
 fn:∀ x,X.fn x=true
 kd:∀ x c,X.env.cells.lookup x=some c->X.env.kindOf x=some .cell\/X.env.kindOf x=some .free
structure CG (Γ:Gm)(F:lA)(n:Nat)(X:Cx)(ck:Ck):Prop where
 K:X.K=Γ.K
 N:X.N=ck.N
 nd:ck.N.Nodup
 xe:X.xe=λ _ _=>False
 calm:X.calm=true
 deep:lC+1<=n
 room:Room n X.A
 sc:∀ x k,ck.sc.names.lookup x=some k->X.env.scope.names.lookup x=some k\/(k=.free/\X.env.scope.names.lookup x=some .cell)
 fn:∀ x,ck.sc.names.lookup x=some .cell->X.fn x=true
 bi:∀ x∈bNames,X.mg x=none
 call:∀ f:String,(∀ l s,F.call f l s=.bad)\/∃ a fd ps,FnOk X.prog X.w X.K X.mg X.base CX0 n a fd ps (spV Γ (F.call f))/\X.mg (f:Str)=some (.ref a)/\bZ X.K (.ref a)=true/\Binds X.K fd ps []
 con:∀ x d,F.con x=some d->∃ v u,X.mg (x:Str)=some u/\RelV v u/\(∀ m,d.bnd m=true)/\∀ φ H,RV Γ φ H d v
 lam:∀ id caps E,ck.lk id caps E=true->∃ c P params body scope pos J,E=lamText J params body scope pos/\LamHere Γ X ck.N id caps params body scope c P J
 cl:∀(id:String) (J:LamI) (f:Addr) (cap:List V) (clos:List (Str×Addr)),Γ.lg id J->cap.length=J.fr.length->ClOk X.prog X.w X.K X.mg X.base n (λ H=>CloAt H f J cap clos) f (spL Γ (F.lam id) cap)
 fa:∀(f:String) (a:Addr),Γ.fa f=some a->X.mg (f:Str)=some (.ref a)/\∃ oc od fd sl,X.K.lookup a=some ⟨oc,od,.func fd,sl⟩
 fk:DV.FK F
section
variable {Γ:Gm} {F:lA} {n:Nat} {X:Cx} {ck:Ck}
theorem CG.vis (G:CG Γ F n X ck){x:Str}(h:ck.vis x=true):Vis X.env.scope x:=by
 unfold Ck.vis at h
 split at h
 ·rename_i e;rcases G.sc _ _ e with z|⟨z,_⟩
  ·exact .inl z
  ·cases z
 ·rename_i e;rcases G.sc _ _ e with z|⟨z,_⟩
  ·exact .inr (.inl z)
  ·cases z
 ·rename_i e;rcases G.sc _ _ e with z|⟨_,z⟩
  ·exact .inr (.inr z)
  ·exact .inr (.inl z)
 ·cases h
theorem CG.loc (G:CG Γ F n X ck){x:Str}(h:ck.loc x=true):Loc X.env.scope x/\(X.fn x=true\/X.env.scope.names.lookup x=some .local):=by
 unfold Ck.loc at h
 split at h
 ·rename_i e;rcases G.sc _ _ e with z|⟨z,_⟩
  ·exact⟨.inl z,.inr z⟩
  ·cases z
 ·rename_i e;rcases G.sc _ _ e with z|⟨z,_⟩
  ·exact⟨.inr z,.inl (G.fn _ e)⟩
  ·cases z
 ·cases h
theorem CG.gl (G:CG Γ F n X ck){x:Str}(h:ck.gl x=true):Gl X x/\(x==("__debug__":Str))=false/\x ≠ "__name__":=by
 unfold Ck.gl at h
 simp only[ag,dQ]at h
 obtain⟨⟨p,y⟩,h3⟩:=h
 refine⟨?_,y,of_decide_eq_false h3⟩
 split at p
 ·rename_i e;rcases G.sc _ _ e with z|⟨z,_⟩
  ·exact z
  ·cases z
 ·cases p
theorem bu1 (G:CG Γ F n X ck):∀ {is:List Nat} {es:List Expr},bZ4 ck is es=true->PGs X es (bZ2 is)/\(cr es X.env).length=is.length/\(cr es X.env).findIdx? (·.1)=none
 | [],[],_=>⟨bB1,rfl,rfl⟩
 | [],_::_,h=>by cases h
 | i::is,[],h=>by cases h
 | i::is,e::es,h=>by
  cases e with
  | Name x p =>
   unfold bZ4 at h
   simp only[ag,decide_eq_true_eq]at h
   obtain⟨⟨Y,J⟩,h3⟩:=h
   obtain⟨l1,y⟩:=G.loc J
   obtain⟨a,b,c⟩:=bu1 G h3
   have hs:cr (.Name x p::es) X.env=(false,f8 (.Name x p) X.env)::cr es X.env:=rfl
   refine⟨bm7 (aX7 (by rw[G.N];exact G.nd) (by rw[G.N];exact Y) l1 y) a (by rw[hs];rfl),by rw[hs,aY,aY,b],?_⟩
   rw[hs,List.findIdx?_cons]
   simp[c]
  | _=>cases h
theorem bv3 (G:CG Γ F n X ck){tg:lP}{e:Expr}(h:mTg ck tg e=true):PG X e (gOf Γ.K tg):=by
 unfold mTg at h
 split at h
 ·simp only[ag,decide_eq_true_eq]at h
  obtain⟨l1,p⟩:=G.loc h.2
  exact aX7 (by rw[G.N];exact G.nd) (by rw[G.N];exact h.1) l1 p
 ·obtain⟨a,b,c⟩:=bu1 G h
  exact bI6 G.K G.calm a b c
 ·cases h
theorem CG.comp (G:CG Γ F n X ck){tg:lP}{J iter:Expr}{p:List (Option Nat)}{scope:Scope}(h:aQ5 ck tg J iter p scope=true) :
  qp (ckC ck J p scope).N p scope X.N X.env.scope=true/\shp iter=true /\
  ∀(C:Addr) (cells:List (Str×Addr)) (s:af) (H:Hp) (ex:List Addr),CG Γ F n (zX X (ckC ck J p scope).N scope C cells s H ex) (ckC ck J p scope)/\PG (zX X (ckC ck J p scope).N scope C cells s H ex) J (gOf Γ.K tg):=by
 unfold aQ5 at h
 simp only[ag,decide_eq_true_eq]at h
 obtain⟨⟨⟨Y,h2⟩,h3⟩,h4⟩:=h
 refine⟨?_,h4,λ C cells s H ex=>?_⟩
 ·rw[G.N]
  unfold qp at Y ⊢
  simp only[ag]at Y ⊢
  obtain⟨⟨⟨⟨⟨a1,Z⟩,a3⟩,a4⟩,a5⟩,a6⟩:=Y
  refine⟨⟨⟨⟨⟨a1,?_⟩,a3⟩,a4⟩,a5⟩,a6⟩
  rw[aO]at Z ⊢
  intro y hy
  have:=Z y hy
  rw[b9]at this ⊢
  rcases this with q|q
  ·exact .inl q
  ·right
   rw[b9]at q ⊢
   rcases q with q|q
   ·rcases G.sc _ _ (eq_of_beq q)with z|⟨z,_⟩
    ·left;rw[z];exact beq_self_eq_true _
    ·cases z
   ·rcases G.sc _ _ (eq_of_beq q)with z|⟨_,z⟩
    ·right;rw[z];exact beq_self_eq_true _
    ·left;rw[z];exact beq_self_eq_true _
 ·have G':CG Γ F n (zX X (ckC ck J p scope).N scope C cells s H ex) (ckC ck J p scope):=by
   refine⟨G.K,rfl,h2,rfl,G.calm,G.deep,G.room,λ x k e=>?_,λ x e=>?_,G.bi,G.call,G.con,λ _ _ _ h=>(by cases h),G.cl,G.fa,G.fk⟩
   ·have q:=qQ (env:=X.env) e
    have q':(d8 scope X.env).names.lookup x=some (if(k==NameKind.free&&X.env.scope.kind==.function&&X.env.kindOf x==some .cell)then NameKind.cell else k):=q
    show(d8 scope X.env).names.lookup x=some k\/_
    rw[q']
    split
    ·rename_i hc
     simp only[ag]at hc
     exact .inr ⟨eq_of_beq hc.1.1,rfl⟩
    ·exact .inl rfl
   ·show(scope.names.lookup x==some .cell)=true
    rw[show scope.names.lookup x=some .cell from e];rfl
  exact⟨G',bv3 G' h3⟩
end
section
variable {Γ:Gm} {F:lA} {n:Nat} {X:Cx} {ck:Ck} {σ:St} {H:Hp} {Q:VK}
theorem TEv.eq {m m':ln->lh->lp li}(e:∀ ρ s,m ρ s=m' ρ s)(q:TEv Γ m σ H Q):TEv Γ m' σ H Q:=by
 have:m=m':=funext λ ρ=>funext λ s=>e ρ s
 subst this;exact q
theorem TTv.eq {m m':ln->lh->lp li}{Q:Bool->Hp->Prop}(e:∀ ρ s,m ρ s=m' ρ s)(q:TTv Γ m σ H Q):TTv Γ m' σ H Q:=by
 have:m=m':=funext λ ρ=>funext λ s=>e ρ s
 subst this;exact q
theorem TAv.eq {m m':ln->lh->lp (List li)}{Q:List V->Hp->Prop}(e:∀ ρ s,m ρ s=m' ρ s)(q:TAv Γ m σ H Q):TAv Γ m' σ H Q:=by
 have:m=m':=funext λ ρ=>funext λ s=>e ρ s
 subst this;exact q
theorem TFv.eq {m m':ln->lh->lp (List li)}(e:∀ ρ s,m ρ s=m' ρ s)(q:TFv Γ m σ H Q):TFv Γ m' σ H Q:=by
 have:m=m':=funext λ ρ=>funext λ s=>e ρ s
 subst this;exact q
theorem TIv.eq {m m':ln->lh->lp mr}{R:It->Hp->Prop}(e:∀ ρ s,m ρ s=m' ρ s)(q:TIv Γ m σ H R):TIv Γ m' σ H R:=by
 have:m=m':=funext λ ρ=>funext λ s=>e ρ s
 subst this;exact q
theorem TSv.eq {m m':ln->lh->lp lQ}{D:Ends}(e:∀ ρ s,m ρ s=m' ρ s)(q:TSv Γ m D σ H):TSv Γ m' D σ H:=by
 have:m=m':=funext λ ρ=>funext λ s=>e ρ s
 subst this;exact q
def EvT (Γ:Gm)(X:Cx)(E:Expr)(m:ln->lh->lp li):Prop:=PE X E (TEv Γ m)/\PT X E (TTv Γ m)
theorem EvT.val {E:Expr}{m:ln->lh->lp li}(h:PE X E (TEv Γ m))(y:∀ p,dv E X.env p=(do let v <- p;standAt E.pos;ka [v] (truthy v)):=by intro _;rfl):EvT Γ X E m :=
 ⟨h,(bb2 h y).imp λ σ H Q q=>bq0 q⟩
theorem bj7 {c a b:Expr}{pos:Pos}{G tb Y:TT}(hc:PT X c G)(ha:PT X a tb)(hb:PT X b Y):PT X (.IfExp c a b pos) (λ σ H Q=>G σ H λ k y=>if k=true then tb σ y Q else Y σ y Q):=by
 intro p s σ H Q I h
 have e:dv (.IfExp c a b pos) X.env (eval (.IfExp c a b pos) X.env)=(do if <- dv c X.env (eval c X.env)then dv a X.env (eval a X.env)else dv b X.env (eval b X.env)):=by rw[dv]
 rw[e]
 refine ai (thn (hc p s σ H _ I h) λ k s1 ⟨y,J,Z⟩=>?_)
 cases k with
 | true=>exact ha p s1 σ y Q J Z
 | false=>exact hb p s1 σ y Q J Z
theorem bM8 {mc J G:ln->lh->lp li}{Q:Bool->Hp->Prop}(h:TTv Γ (λ ρ s=>lx (mc ρ s) λ k s=>if k then J ρ s else G ρ s) σ H Q):TTv Γ mc σ H λ k y=>if k=true then TTv Γ J σ y Q else TTv Γ G σ y Q:=by
 obtain⟨φ,ρ,s,d,s',E,R,p,q⟩:=h
 obtain⟨c,s1,e1,p⟩:=z6 p
 refine⟨φ,ρ,s,c,s1,E,R,e1,λ φ1 y g1 l1 R1=>?_⟩
 cases c with
 | true =>
  rw[if_pos rfl]at p ⊢
  exact⟨φ1,ρ,s1,d,s',E.mono g1 l1,R1,p,q.trans g1 l1⟩
 | false =>
  rw[if_neg aW]at p ⊢
  exact⟨φ1,ρ,s1,d,s',E.mono g1 l1,R1,p,q.trans g1 l1⟩
section
variable {a b c:mH} {l r t:Expr} {pos:Pos}
theorem bC5 (G:CG Γ F n X ck)(op:ng)(ha:EvT Γ X l (lr F a))(hb:EvT Γ X r (lr F b)):EvT Γ X (.BinOp l (cc4 op) r pos) (lr F (.bin op a b)) :=
 .val ((cb2 (bV9 G.K op) ha.1 hb.1).imp λ σ H Q q=>bl1 (TEv.eq (λ ρ s=>rfl) q))
theorem bB6 (ha:EvT Γ X l (lr F a)):EvT Γ X (.UnaryOp .USub l pos) (lr F (.neg a)) :=
 .val ((cd3 bL6 ha.1).imp λ σ H Q q=>ch3 (f:=λ x s=>match x with|.int i=>.ok (.int (-i)) s|_=>.bad) (TEv.eq (λ ρ s=>rfl) q) λ φ s x d s' v H' R r p h k=>by
  cases x with
  | int i =>
   cases h
   exact⟨i,r.intE,k.here R rfl RV.intI⟩
  | _=>cases h)
theorem bF4 (ha:EvT Γ X l (lr F a)):EvT Γ X (.UnaryOp .Not l pos) (lr F (.not a)) :=
 ⟨(br3 ha.1).imp λ σ H Q q=>bP1 (TEv.eq (λ ρ s=>rfl) q),(bs0 ha.2).imp λ σ H Q q=>bU9 (TTv.eq (λ ρ s=>rfl) q)⟩
theorem bv1 (G:CG Γ F n X ck)(op:mR)(hs:shp r=true)(ha:EvT Γ X l (lr F a))(hb:EvT Γ X r (lr F b)):EvT Γ X (.Compare l [bH5 op] [r] pos) (lr F (.cmp op a b)):=by
 have ho:=bP2 (Γ:=Γ) G.K (G.room.mono G.deep) op
 refine⟨(bC4 ho ha.1 hb.1 (aB7 hs)).imp λ σ H Q q=>bl1 (TEv.eq (λ ρ s=>rfl) q),(bF7 ho ha.1 hb.1 (aB7 hs)).imp λ σ H Q q=>?_⟩
 have q:=bA3 q
 exact bl1 (TEv.eq (λ ρ s=>rfl) q)
theorem ba8 {op:BoolOp}{es:List Expr}{t:TT}(h:PT X (.BoolOp op es pos) t):PW X (.BoolOp op es pos) t:=by
 intro y p s σ H Q I q
 have:=h p s σ H Q I q
 have e:∀ w,dv (.BoolOp op es pos) X.env w=allTrue op es X.env:=λ w=>by rw[dv]
 rw[e]at this ⊢
 exact this
theorem bG5 (ha:EvT Γ X l (lr F a))(hb:EvT Γ X r (lr F b)):EvT Γ X (.BoolOp .And [l,r] pos) (lr F (.and a b)) :=
 ⟨(bq4 ha.1 (be6 hb.1)).imp λ σ H Q q=>bt9 (TEv.eq (λ ρ s=>rfl) q),(bs9 ha.2 (bF3 hb.2)).pt.imp λ σ H Q q=>bt1 (TTv.eq (λ ρ s=>rfl) q)⟩
theorem bz1 {es:List Expr}(ha:EvT Γ X l (lr F a))(hb:EvT Γ X (.BoolOp .And (r::es) pos) (lr F b)):EvT Γ X (.BoolOp .And (l::r::es) pos) (lr F (.and a b)) :=
 ⟨(bq4 ha.1 hb.1).imp λ σ H Q q=>bt9 (TEv.eq (λ ρ s=>rfl) q),(bs9 ha.2 (ba8 hb.2)).pt.imp λ σ H Q q=>bt1 (TTv.eq (λ ρ s=>rfl) q)⟩
theorem bU0 (ha:EvT Γ X l (lr F a))(hb:EvT Γ X r (lr F b)):EvT Γ X (.BoolOp .Or [l,r] pos) (lr F (.or a b)) :=
 ⟨(bu7 ha.1 (be6 hb.1)).imp λ σ H Q q=>bK2 (TEv.eq (λ ρ s=>rfl) q),(bE7 ha.2 (br6 hb.2)).pt.imp λ σ H Q q=>bO1 (TTv.eq (λ ρ s=>rfl) q)⟩
theorem bU7 {es:List Expr}(ha:EvT Γ X l (lr F a))(hb:EvT Γ X (.BoolOp .Or (r::es) pos) (lr F b)):EvT Γ X (.BoolOp .Or (l::r::es) pos) (lr F (.or a b)) :=
 ⟨(bu7 ha.1 hb.1).imp λ σ H Q q=>bK2 (TEv.eq (λ ρ s=>rfl) q),(bE7 ha.2 (ba8 hb.2)).pt.imp λ σ H Q q=>bO1 (TTv.eq (λ ρ s=>rfl) q)⟩
theorem bD1 (hc:EvT Γ X t (lr F c))(ha:EvT Γ X l (lr F a))(hb:EvT Γ X r (lr F b)):EvT Γ X (.IfExp t l r pos) (lr F (.ite c a b)) :=
 ⟨(bl7 hc.2 ha.1 hb.1).imp λ σ H Q q=>bQ7 (TEv.eq (λ ρ s=>rfl) q),(bj7 hc.2 ha.2 hb.2).imp λ σ H Q q=>bM8 (TTv.eq (λ ρ s=>rfl) q)⟩
theorem bV5 (G:CG Γ F n X ck)(hs:shp r=true)(ha:EvT Γ X l (lr F a))(hb:EvT Γ X r (lr F b)):EvT Γ X (.Subscript l r pos) (lr F (.ix a b)) :=
 .val ((cf7 (ch0 G.K (bV3 G.room)) ha.1 hb.1 (aQ7 hs)).imp λ σ H Q q=>bl1 (TEv.eq (λ ρ s=>rfl) q))
theorem bI5 {h:Pos}(G:CG Γ F n X ck)(ha:EvT Γ X l (lr F a))(hb:EvT Γ X r (lr F b)):EvT Γ X (.Subscript l (.Slice none (some r) none h) pos) (lr F (.slU a b)) :=
 .val ((bo1 (ca6 G.K) ha.1 bE5 (bA4 hb.1)).imp λ σ H Q q=>(cb6 (ml:=lr F b)).2.1 (TEv.eq (λ ρ s=>rfl) q))
end
end
section
variable {Γ:Gm} {F:lA} {n:Nat} {X:Cx} {ck:Ck} {σ:St} {H:Hp} {Q:VK}
theorem av9:∀ {es:lF} {ρ:ln} {s s':lh} {l:List li} {p:List Expr} {y:Ck},lJ F es ρ s=.ok l s'->mEs y es p=true->l.length=p.length
 | .nil,ρ,s,s',l,p,y,h,m=>by
  cases h
  cases p with
  | nil=>rfl
  | cons _ _=>rw[mEs]at m<;>first|cases m|(intros;simp_all)
 | .cons e es,ρ,s,s',l,p,y,h,m=>by
  obtain⟨d,s1,e1,h⟩:=aa0 h
  obtain⟨r,s2,e2,h⟩:=aa0 h
  cases h
  cases p with
  | nil=>rw[mEs]at m<;>first|cases m|(intros;simp_all)
  | cons x p =>
   rw[mEs,ag]at m
   rw[aY,aY,av9 e2 m.2]
theorem ax7:∀ {es:lF} {p:List Expr},mEs ck es p=true->∀ x∈p,shp x=true
 | .nil,[],_,x,hx=>by cases hx
 | .nil,_::_,m,_,_=>by rw[mEs]at m<;>first|cases m|(intros;simp_all)
 | .cons e es,[],m,x,hx=>by cases hx
 | .cons e es,y::p,m,x,hx=>by
  rw[mEs,ag,ag]at m
  rcases aE.mp hx with h|h
  ·rw[h];exact m.1.2
  ·exact ax7 m.2 x h
theorem aG0:∀ {es:lW} {p:List Expr},mAs ck es p=true->∀ x∈p,shp x=true
 | .nil,[],_,x,hx=>by cases hx
 | .nil,_::_,m,_,_=>by rw[mAs]at m<;>first|cases m|(intros;simp_all)
 | .ex e es,[],m,x,hx=>by cases hx
 | .lam _ _ _,_,m,_,_=>by rw[mAs]at m<;>first|cases m|(intros;simp_all)
 | .fn _ _,_,m,_,_=>by rw[mAs]at m<;>first|cases m|(intros;simp_all)
 | .ex e es,y::p,m,x,hx=>by
  rw[mAs,ag,ag]at m
  rcases aE.mp hx with h|h
  ·rw[h];exact m.1.2
  ·exact aG0 m.2 x h
theorem aN9 {e:mH}{x:Expr}{p:List Expr}{h:ln->lh->lp (List li)}(hs:shp x=true)(G:PE X x (TEv Γ (lr F e)))(y:PA X p (TAv Γ h)) :
  PA X (x::p) (TAv Γ (λ ρ s=>(lr F e ρ s).bind λ d s=>(h ρ s).bind λ l s=>.ok (d::l) s)) :=
 (zW G y (zl hs)).imp λ σ H Q q=>bA5 q
theorem aX2 {k:Nat}(h:k<=1000):k<=aP:=by rw[fB];omega
theorem bE1 {es:lF}{y:List Expr}{k:Nat}{pos:Pos}(m:mEs ck es y=true)(hz:y.length<=1000)(h:PA X y (TAv Γ (lJ F es))):EvT Γ X (.Tuple y k pos) (lr F (.tup es)) :=
 .val ((bp9 h).imp λ σ H Q q=>tv_tup' hz m q)
where
 tv_tup' {es:lF} {y:List Expr} {σ:St} {H:Hp} {Q:VK} (hz:y.length<=1000) (m:mEs ck es y=true) (q:TEv Γ (lr F (.tup es)) σ H Q):cj9 (TAv Γ (lJ F es)) σ H Q:=by
  obtain⟨φ,ρ,s,d,s',E,R,G,q⟩:=q
  obtain⟨l,s1,e1,G⟩:=aa0 G
  cases G
  refine⟨φ,ρ,s,l,_,E,R,e1,λ vs φ1 Y g1 l1 J r1 R1=>⟨by rw[r1.length,av9 e1 m];exact aX2 hz,λ p hp=>?_⟩⟩
  exact(q.trans g1 l1).tup R1 r1 J hp
theorem bB0 {es:lF}{y:List Expr}{pos:Pos}(m:mEs ck es y=true)(hz:y.length<=1000)(h:PA X y (TAv Γ (lJ F es))):EvT Γ X (.List y pos) (lr F (.lst es)):=by
 refine .val ((br4 h).imp λ σ H Q q=>?_)
 obtain⟨φ,ρ,s,d,s',E,R,G,q⟩:=q
 obtain⟨l,s1,e1,G⟩:=aa0 G
 obtain⟨rfl,rfl⟩:=qC G
 refine⟨φ,ρ,s,l,_,E,R,e1,λ vs φ1 Y g1 l1 J r1 R1=>⟨by rw[r1.length,av9 e1 m];exact aX2 hz,λ p hp=>?_⟩⟩
 exact(q.trans g1 l1).alloc R1 r1 J hp
theorem bk6 {f:String}{y:lW}{Y:List Expr}{p pos:Pos}(G:CG Γ F n X ck)(hg:ck.gl (f:Str)=true)(m:mAs ck y Y=true)(h:PA X Y (TAv Γ (lU F y))):EvT Γ X (.Call (.Name (f:Str) p) Y [] pos) (lr F (.call f y)):=by
 refine .val ?_
 obtain⟨g1,g2,g3⟩:=G.gl hg
 rcases G.call f with hbad|⟨a,fd,ps,hF,J,hk,hb⟩
 ·intro a0 s σ H Q I q
  obtain⟨φ,ρ,s,d,s',E,R,Z,q⟩:=q
  obtain⟨l,s1,e1,Z⟩:=aa0 Z
  rw[hbad]at Z
  cases Z
 have key:∀ σ H Q,TEv Γ (lr F (.call f y)) σ H Q->aS7 (spV Γ (F.call f)) [] E0 (TAv Γ (lU F y)) σ H Q:=λ σ H Q q=>by
  have:=aG8 (TEv.eq (m':=λ ρ s=>(lU F y ρ s).bind λ l s=>F.call f l s) (λ ρ s=>rfl) q)
  unfold tCB at this
  unfold aS7 spV
  simpa only[bo]using this
 cases Y with
 | nil =>
  have h0:PE X (.Call (.Name (f:Str) p) [] [] pos) (aS7 (spV Γ (F.call f)) [] E0 bs3):=bo7 hF G.room g1 J hk hb .nil bS1 g2
  cases y with
  | nil =>
   refine h0.imp λ σ H Q q=>?_
   have q1:=key σ H Q q
   unfold aS7 at q1 ⊢
   exact aN8 (TAv.eq (λ ρ s=>rfl) q1)
  | _=>rw[mAs]at m<;>first|cases m|(intros;simp_all)
 | cons x Y =>
  have hs:=aG0 m
  exact(be3 hF G.room g1 J hk hb .nil bS1 h g2 (zl (hs x (aB ..))) (zN λ e he=>hs e (aj _ he)).1).imp key
def BiC (Γ:Gm)(X:Cx)(b:lO)(x:Str):Prop:=(∃ id,bj x=some (.builtin id)/\ag6 X (.builtin id) (rCl Γ (mZ b)))\/∃ T,bj x=some (.type T)/\ag6 X (.type T) (rCl Γ (mZ b))
theorem bW4 (G:CG Γ F n X ck){b:lO}{x:Str}(h:biT b=some x):x∈bNames/\BiC Γ X b x:=by
 cases b<;>first|cases h|skip
 ·exact⟨by decide,.inl ⟨_,ce5,aX0 G.K G.calm (k:=1) rfl⟩⟩
 ·exact⟨by decide,.inl ⟨_,ch4,aX0 G.K G.calm (k:=1) rfl⟩⟩
 ·exact⟨by decide,.inr ⟨_,bS5,bN2⟩⟩
 ·exact⟨by decide,.inl ⟨_,bO6,aX0 G.K G.calm (k:=2) rfl⟩⟩
 ·exact⟨by decide,.inl ⟨_,bM3,aX0 G.K G.calm (k:=2) rfl⟩⟩
 ·exact⟨by decide,.inl ⟨_,bM3,aX0 G.K G.calm (k:=3) rfl⟩⟩
theorem bP3 {b:lO}{es:lF}{x:Str}{y:Expr}{J:List Expr}{p pos:Pos}(G:CG Γ F n X ck)(hb:biT b=some x)(hg:ck.gl x=true)(m:mEs ck es (y::J)=true)(h:PA X (y::J) (TAv Γ (lJ F es))) :
  EvT Γ X (.Call (.Name x p) (y::J) [] pos) (lr F (.bi b es)):=by
 refine .val ?_
 obtain⟨g1,g2,g3⟩:=G.gl hg
 obtain⟨hm,hc⟩:=bW4 G hb
 have hs:=ax7 m
 have s1:=zl (es:=J) (env:=X.env) (hs y (aB ..))
 have s2:=(zN (env:=X.env) (pos:=pos) λ e he=>hs e (aj _ he)).1
 rcases hc with⟨id,Z,Y⟩|⟨T,Z,Y⟩
 ·exact(al3 Y g1 (G.bi _ hm) Z h g3 g2 s1 s2).imp λ σ H Q q=>aG8 (TEv.eq (λ ρ s=>rfl) q)
 ·exact(aq3 Y g1 (G.bi _ hm) Z h g3 g2 s1 s2).imp λ σ H Q q=>aG8 (TEv.eq (λ ρ s=>rfl) q)
theorem bY2 {b:lO}{k:Nat}{t:Str}(h:biK b=some (k,t)):(1<=k/\k<=5)/\t∈bNames/\bj t=some (.type (at0 k))/\mZ b=mV (nh k):=by
 cases b<;>cases h
 ·exact⟨by omega,by decide,bS5,rfl⟩
 ·exact⟨by omega,by decide,bJ7,rfl⟩
 ·exact⟨by omega,by decide,cf4,rfl⟩
 ·exact⟨by omega,by decide,aY3,rfl⟩
 ·exact⟨by omega,by decide,bs5,rfl⟩
noncomputable def PEs (Γ:Gm)(F:lA)(X:Cx):lF->List Expr->Prop
 | .nil,[]=>True
 | .cons e es,x::xs=>(shp x=true/\EvT Γ X x (lr F e))/\PEs Γ F X es xs
 | _,_=>False
theorem an7:∀ {es:lF} {p:List Expr},PEs Γ F X es p->PA X p (TAv Γ (lJ F es))
 | .nil,[],_=>ai2.imp λ σ H Q q=>aN8 (TAv.eq (λ ρ s=>rfl) q)
 | .nil,_::_,h=>h.elim
 | .cons _ _,[],h=>h.elim
 | .cons e es,x::p,h=>(aN9 h.1.1 h.1.2.1 (an7 h.2)).imp λ σ H Q q=>TAv.eq (λ ρ s=>rfl) q
theorem by7 {b:lO}{es:lF}{k:Nat}{t:Str}{a:Expr}{p J pos:Pos}(G:CG Γ F n X ck)(hb:biK b=some (k,t))(hg:ck.gl "isinstance"=true)(Z:ck.gl t=true)(h:PEs Γ F X es [a]) :
  EvT Γ X (.Call (.Name "isinstance" p) [a,.Name t J] [] pos) (lr F (.bi b es)):=by
 refine .val ?_
 obtain⟨g1,g2,g3⟩:=G.gl hg
 obtain⟨t1,t2,t3⟩:=G.gl Z
 obtain⟨hk,y,hv,a0⟩:=bY2 hb
 have Y:PE X (.Name t J) (tC (.ty (at0 k))):=bu6 t1 (G.bi _ y) hv rfl t3 t2
 cases es with
 | nil=>exact h.elim
 | cons e es =>
  cases es with
  | cons _ _=>exact h.2.elim
  | nil =>
   obtain⟨⟨hs,ha,_⟩,_⟩:=h
   have hA:PA X [a,.Name t J] (aF9 (TEv Γ (lr F e)) (aF9 (tC (.ty (at0 k))) bs3)):=zW ha (zW Y ai2 (zl rfl)) (zl hs)
   refine(al3 (bT0 G.K hk) g1 (G.bi _ (by decide)) jl hA g3 g2 (zl hs) (zN λ e he=>by rw[cx.mp he];rfl).1).imp λ σ H Q q=>?_
   obtain⟨φ,ρ,s,d,s',E,R,y,q⟩:=q
   obtain⟨l,s1,e1,y⟩:=aa0 y
   obtain⟨x,s2,e2,e1⟩:=aa0 e1
   obtain⟨l2,s3,e3,e1⟩:=aa0 e1
   cases e3
   cases e1
   rw[a0]at y
   refine⟨φ,ρ,s,x,_,E,R,e2,λ v φ1 H1 g1 l1 b1 r1 R1=>?_⟩
   exact⟨v,rfl,φ1,_,[x],d,s',R1,.cons r1 .nil,by unfold lj;rw[b1];rfl,y,q.trans g1 l1⟩
end
section
variable {Γ:Gm} {F:lA} {n:Nat} {X:Cx} {ck:Ck} {σ:St} {H:Hp}
def TAp (Γ:Gm)(cells:List (Str×Addr))(N:List Str)(m:ln->lh->lp (List li)):TA:=λ σ H Q=>∃ φ ρ s l s',RE Γ φ H s.length ρ σ/\Rp Γ φ H s/\m ρ s=.ok l s' /\
 ∀ vs φ' H',Gr φ s H φ' s' H'->s.length<=s'.length->lj s'.length l=true->PVL Γ cells N σ φ' H' l vs->Rp Γ φ' H' s'->Q vs H'
theorem TAp.eq {cells:List (Str×Addr)}{N:List Str}{m m':ln->lh->lp (List li)}{Q:List V->Hp->Prop}(e:∀ ρ s,m ρ s=m' ρ s)(q:TAp Γ cells N m σ H Q):TAp Γ cells N m' σ H Q:=by
 obtain⟨φ,ρ,s,l,s',E,R,h,q⟩:=q
 exact⟨φ,ρ,s,l,s',E,R,by rw[<-e];exact h,q⟩
theorem bu9 {cells:List (Str×Addr)}{N:List Str}{Q:List V->Hp->Prop}(h:TAp Γ cells N (λ ρ s=>.ok [] s) σ H Q):bs3 σ H Q:=by
 obtain⟨φ,ρ,s,l,s',E,R,p,q⟩:=h
 cases p
 exact q [] φ H (Gr.refl _ _ _) (am _) rfl .nil R
theorem bW3 {cells:List (Str×Addr)}{N:List Str}{m:ln->lh->lp li}{Y:ln->lh->lp (List li)}{Q:List V->Hp->Prop}(h:TAp Γ cells N (λ ρ s=>(m ρ s).bind λ d s=>(Y ρ s).bind λ l s=>.ok (d::l) s) σ H Q):aF9 (TEv Γ m) (TAp Γ cells N Y) σ H Q:=by
 obtain⟨φ,ρ,s,l,s',E,R,p,q⟩:=h
 obtain⟨x,s1,e1,p⟩:=aa0 p
 obtain⟨y,s2,e2,p⟩:=aa0 p
 cases p
 refine⟨φ,ρ,s,x,s1,E,R,e1,λ v φ1 H1 g1 l1 J r1 R1=>?_⟩
 refine⟨φ1,ρ,s1,y,s',E.mono g1 l1,R1,e2,λ vs φ2 H2 Z G b2 r2 R2=>?_⟩
 exact q (v::vs) φ2 H2 (g1.trans Z l1) (ao l1 G) (by unfold lj;rw[zy G x J,b2];rfl) (.cons (PVp.mono Z J (.inl r1)) r2) R2
theorem aA4 {ρ:ln}:∀ {is:List Nat} {cs:List li},lN ρ is=some cs->cs.length=is.length/\∀(i j:Nat),is[i]?=some j->∃ d,cs[i]?=some d/\ρ[j]?=some (some d)
 | [],cs,h=>by cases h;exact⟨rfl,λ i j e=>by cases e⟩
 | k::is,cs,h=>by
  unfold lN at h
  cases e:ρ[k]? with
  | none=>rw[e]at h;cases h
  | some o =>
   cases o with
   | none=>rw[e]at h;cases h
   | some d =>
    cases e2:lN ρ is with
    | none=>rw[e,e2]at h;cases h
    | some l =>
     rw[e,e2]at h
     cases h
     obtain⟨G,y⟩:=aA4 e2
     refine⟨by rw[aY,aY,G],λ i j p=>?_⟩
     cases i with
     | zero=>cases p;exact⟨d,rfl,e⟩
     | succ i=>exact y i j p
theorem bt2 {φ:Nat->Addr}{s:lh}{ρ:ln}(E:RE Γ φ H s.length ρ σ):∀ {is:List Nat} {cs:List li},lN ρ is=some cs->∃ cap,RVL Γ φ H cs cap/\lj s.length cs=true/\∀(i j:Nat) (v:V),is[i]?=some j->cap[i]?=some v->σ[j]?=some (some v)
 | [],cs,h=>by cases h;exact⟨[],.nil,rfl,λ i j v e=>by cases e⟩
 | k::is,cs,h=>by
  unfold lN at h
  cases e:ρ[k]? with
  | none=>rw[e]at h;cases h
  | some o =>
   cases o with
   | none=>rw[e]at h;cases h
   | some d =>
    cases e2:lN ρ is with
    | none=>rw[e,e2]at h;cases h
    | some l =>
     rw[e,e2]at h
     cases h
     obtain⟨cap,Y,J,h3⟩:=bt2 E e2
     obtain⟨hb,v,G,hv⟩:=E.val k d e
     refine⟨v::cap,.cons hv Y,by unfold lj;rw[hb,J];rfl,λ i j w y p=>?_⟩
     cases i with
     | zero=>cases y;cases p;exact G
     | succ i=>exact h3 i j w y p
theorem bX2 {id:String}{h:List Nat}{params:bA}{body:Expr}{scope:Scope}{pos:Pos}{c P:Addr}{J:LamI}{xs:List Expr}{ms:ln->lh->lp (List li)}(L:LamHere Γ X X.N id h params body scope c P J)(a0:J.nm=none)(h2:PA X xs (TAp Γ X.env.cells X.N ms)) :
  PA X (.Lambda params body scope pos::xs) (TAp Γ X.env.cells X.N (λ ρ s=>match lN ρ h with|some cs=>(ms ρ s).bind λ l s=>.ok (.clo id cs::l) s|none=>.bad)):=by
 refine(zW (aX8 L.code L.hd L.bm L.ck L.df) h2).imp λ σ H Q q=>?_
 obtain⟨φ,ρ,s,l,s',E,R,G,q⟩:=q
 have G:(match lN ρ h with|some cs=>(ms ρ s).bind λ l s=>DV.R.ok (DV.D.clo id cs::l) s|none=>DV.R.bad)=.ok l s':=G
 cases eg:lN ρ h with
 | none=>rw[eg]at G;exact fb G
 | some cs =>
  rw[eg]at G
  obtain⟨y,s2,e2,G⟩:=aa0 G
  cases G
  obtain⟨cap,Z,Y,hσ⟩:=bt2 E eg
  have a1:=(aA4 eg).1
  have hq:J.qual=X.env.qual ++ "<lambda>":=by rw[L.q];unfold LamI.own;rw[a0]
  rw[<-hq]
  refine bp7 R.tab L.nd L.tab λ f H' e st tb hf ho=>?_
  obtain⟨g1,R1⟩:=R.sameT e st tb
  refine⟨φ,ρ,s,y,s',E.mono g1 (am _),R1,e2,λ vs φ2 H2 g2 l2 b2 r2 R2=>?_⟩
  refine q (.ref f::vs) φ2 H2 (g1.trans g2 (am _)) l2 (by unfold lj lq;rw[ac5 l2 cs Y,b2];rfl) (.cons ?_ r2) R2
  have p1:PVp Γ X.env.cells X.N σ φ H' (.clo id cs) (.ref f):=by
   refine .inr ⟨id,cs,rfl,f,J,rfl,L.lg,by unfold aq4;rw[a0];dsimp only;rw[L.p,L.b,L.s];exact ho,by rw[a1,L.len],by rw[L.s];exact L.cl,cap,RVL.mono g1 cs cap Y Z,λ i x v e1 e3=>?_⟩
   have hi:i<h.length:=by rw[<-L.len];exact(ae.mp e1).1
   have hj:h[i]?=some h[i]:=ah hi
   exact⟨by rw[L.s];exact L.fr x (bq e1),h[i],L.at_ i _ x hj e1,hσ i _ v hj e3⟩
  exact p1.mono g2 (by unfold lq;exact Y)
theorem bc6 {f:String}{ms:ln->lh->lp (List li)}{e:Expr}{es:List Expr}{p pos:Pos}(G:CG Γ F n X ck)(hg:ck.gl (f:Str)=true)(a1:∀ x,X.fn x=true)(Z:∀ x c,X.env.cells.lookup x=some c->X.env.kindOf x=some .cell\/X.env.kindOf x=some .free)
  (hs:∀ y∈e::es,shp y=true) (h:PA X (e::es) (TAp Γ X.env.cells X.N ms)) :
  PE X (.Call (.Name (f:Str) p) (e::es) [] pos) (TEv Γ (λ ρ s=>(ms ρ s).bind λ l s=>(F.call f l s).bind λ d s'=>if(d.ncl&&s'.all nj)=true then .ok d s' else .bad)):=by
 obtain⟨g1,g2,g3⟩:=G.gl hg
 rcases G.call f with hb|⟨a,fd,ps,hF,a0,hk,hB⟩
 ·intro a2 s σ H Q I q
  obtain⟨φ,ρ,s,d,s',E,R,J,q⟩:=q
  obtain⟨l,s1,e1,J⟩:=aa0 J
  rw[hb]at J;exact fb J
 ·refine(bo0 hF G.room g1 a0 hk hB a1 h g2 (zl (hs e (aB ..))) (zN λ y hy=>hs y (aj _ hy)).1).imp λ σ H Q q=>?_
  obtain⟨φ,ρ,s,d,s',E,R,J,q⟩:=q
  obtain⟨l,s1,e1,J⟩:=aa0 J
  obtain⟨d2,s2,e2,J⟩:=aa0 J
  split at J
  case isFalse=>exact fb J
  rename_i hn
  cases J
  rw[ag]at hn
  refine⟨φ,ρ,s,l,s1,E,R,e1,λ vs φ1 H1 gg l1 b1 r1 R1=>λ H2 Y=>?_⟩
  obtain⟨gs,R2⟩:=R1.same Y.same
  refine⟨φ1,s1,l,d,s',R2,r1.caught Y Z b1,b1,e2,λ v φ' H3 g' l' b' r' R'=>?_⟩
  have hc:Cells X.env.cells H3:=Y.cells.kp g'.w.kp
  exact q v φ' (af8 X.env.cells H3) (gg.trans (Gr.caught Y g') l1) (ao l1 l') b' (RV.dropC hc d v hn.1 r') (R'.dropC hc hn.2)
theorem bg1 {i:Nat}{x:Str}{es:lF}{e:Expr}{xs:List Expr}{p pos:Pos}(G:CG Γ F n X ck)(hv:ck.var i x=true)(hs:∀ y∈e::xs,shp y=true)(h:PA X (e::xs) (TAv Γ (lJ F es)))(a3:PE X (.Name x p) (bx6 i)) :
  PE X (.Call (.Name x p) (e::xs) [] pos) (TEv Γ (lr F (.callV i es))):=by
 refine(bn5 rfl rfl rfl rfl rfl G.room a3 h (zl (hs e (aB ..))) (zN λ y hy=>hs y (aj _ hy)).1).imp λ σ H Q q=>?_
 obtain⟨φ,ρ,s,d,s',E,R,Y,q⟩:=q
 have Y:((lJ F es ρ s).bind λ l s=>match ρ[i]? with
  | some (some (.fn f))=>F.call f l s
  | some (some (.clo id cs))=>F.lam id cs l s
  | _=>.bad)=.ok d s':=Y
 obtain⟨l,s1,e1,Y⟩:=aa0 Y
 cases eρ:ρ[i]? with
 | none=>rw[eρ]at Y;exact fb Y
 | some o =>
  cases o with
  | none=>rw[eρ]at Y;exact fb Y
  | some v0 =>
   obtain⟨hb,v,hσ,rv⟩:=E.val i v0 eρ
   cases v0 with
   | fn f =>
    rw[eρ]at Y
    have Y:F.call f l s1=.ok d s':=Y
    unfold RV at rv
    obtain⟨a,ha,e2⟩:=rv
    subst e2
    obtain⟨h1,h2⟩:=G.fa f a ha
    rcases G.call f with hb|⟨a',fd,ps,hF,a1,hk,hB⟩
    ·rw[hb]at Y;exact fb Y
    ·rw[h1]at a1
     cases a1
     refine⟨a,hσ,.inr h2,φ,ρ,s,l,s1,E,R,e1,λ vs φ1 H1 g1 l1 b1 r1 R1=>?_⟩
     exact⟨.inr h2,_,_,ClOk.ofFn hF hB,trivial,φ1,s1,l,d,s',R1,r1,b1,Y,q.trans g1 l1⟩
   | clo id cs =>
    rw[eρ]at Y
    have Y:F.lam id cs l s1=.ok d s':=Y
    unfold RV at rv
    unfold lq at hb
    obtain⟨f,cap,J,a0,e2,a5,a2,hcl,a4⟩:=rv
    subst e2
    have fin:∀ H',CloAt H' f J cap a0->bB4 X.K H' f:=λ H' h'=>h'.fn
    refine⟨f,hσ,fin H a2,φ,ρ,s,l,s1,E,R,e1,λ vs φ1 H1 g1 l1 b1 r1 R1=>?_⟩
    have Z:=a2.kp g1.w.kp
    exact⟨fin H1 Z,_,_,G.cl id J f cap a0 a5 hcl,Z,φ1,s1,cs,l,d,s',R1,r1,RVL.mono g1 cs cap hb a4,b1,ac5 l1 cs hb,Y,q.trans g1 l1⟩
   | _=>rw[eρ]at Y;exact fb Y
end
section
variable {Γ:Gm} {F:lA} {n:Nat} {X:Cx} {ck:Ck} {σ:St} {H:Hp} {Q:VK}
def cn0 (K:ac)(H:Hp)(v:V)(ys:List V)(z:Bool):Prop:=(∃ a,v=.ref a/\(SqL K H a ys\/(SqT K H a ys/\(z=true->H a=some (.tup ys)))))\/∃ x:List Nat,v=.str ⟨x.toArray⟩/\x.length<=lv/\ys=sgV x
def TLv (Γ:Gm)(m:ln->lh->lp (List li)):TE:=λ σ H Q=>∃ φ ρ s l s',RE Γ φ H s.length ρ σ/\Rp Γ φ H s/\m ρ s=.ok l s' /\
 ∀ v ys φ' H',Gr φ s H φ' s' H'->s.length<=s'.length->lj s'.length l=true->cn0 Γ.K H' v ys (lw l)->RVL Γ φ' H' l ys->Rp Γ φ' H' s'->Q v H'
theorem aO6 {m:ln->lh->lp (List li)}(h:TLv Γ m σ H Q):TFv Γ m σ H Q:=by
 obtain⟨φ,ρ,s,l,s',E,R,G,q⟩:=h
 exact⟨φ,ρ,s,l,s',E,R,G,λ p ys φ' H' g hl hb hp h0 ho r y=>q (.ref p) ys φ' H' g hl hb (.inl ⟨p,rfl,.inl (SqL.of hp)⟩) r y⟩
theorem aC7 {φ:Nat->Addr}:∀ x:List Nat,RVL Γ φ H (x.map λ c=>.str [c]) (sgV x)
 | []=>.nil
 | c::x=>.cons (RV.strI (by unfold lv;simp)) (aC7 x)
theorem av1 {k:Nat}:∀ x:List Nat,lj k (x.map λ c=>.str [c])=true
 | []=>rfl
 | c::x=>by rw[aG];unfold lj;rw[av1 x];rfl
theorem bY8 {m:ln->lh->lp li}(h:TLv Γ (λ ρ s=>(m ρ s).bind λ d s=>DV.aT5 d s) σ H Q):TEv Γ m σ H Q:=by
 obtain⟨φ,ρ,s,l,s',E,R,p,q⟩:=h
 obtain⟨d,s1,e1,p⟩:=aa0 p
 refine⟨φ,ρ,s,d,s1,E,R,e1,λ v φ1 Y g1 l1 Z r1 R1=>?_⟩
 cases d with
 | tup l' =>
  cases p
  obtain⟨a,J,⟨rfl,z1⟩,G,y⟩:=r1.tupZ
  unfold lq at Z
  exact q _ J φ1 Y g1 l1 Z (.inl ⟨a,rfl,.inr ⟨G,z1⟩⟩) y R1
 | str x =>
  cases p
  exact q v (sgV x) φ1 Y g1 l1 (av1 x) (.inr ⟨x,r1.strE,r1.strL,rfl⟩) (aC7 x) R1
 | ref k =>
  have p:(match s1[k]? with
   | some (.lst l)=>DV.R.ok l s1
   | some (.ro l)=>.ok l s1
   | _=>.bad)=.ok l s':=p
  rw[r1.refE]
  cases e:s1[k]? with
  | none=>rw[e]at p;exact fb p
  | some ob =>
   rw[e]at p
   cases ob with
   | lst l' =>
    cases p
    obtain⟨J,G,y⟩:=R1.addr e
    have:=R1.wf k _ e
    unfold ls at this
    exact q _ J φ1 Y g1 l1 this (.inl ⟨_,rfl,.inl (SqL.of G)⟩) y R1
   | ro l' =>
    cases p
    obtain⟨J,G,y⟩:=R1.obj k _ e
    have:=R1.wf k _ e
    unfold ls at this
    exact q _ J φ1 Y g1 l1 this (.inl ⟨_,rfl,.inl G.1⟩) y R1
   | _=>exact fb p
 | _=>exact fb p
theorem TLv.eq {m m':ln->lh->lp (List li)}(e:∀ ρ s,m ρ s=m' ρ s)(q:TLv Γ m σ H Q):TLv Γ m' σ H Q:=by
 have:m=m':=funext λ ρ=>funext λ s=>e ρ s
 subst this;exact q
theorem aT6 {m:ln->lh->lp (List li)}{a:Expr}{p pos:Pos}(G:CG Γ F n X ck)(hg:ck.gl "tuple"=true)(hs:shp a=true)(h:PE X a (TLv Γ m)) :
  PE X (.Call (.Name "tuple" p) [a] [] pos) (TEv Γ (λ ρ s=>(m ρ s).bind λ l s=>my .tuple l s)):=by
 obtain⟨g1,g2,Y⟩:=G.gl hg
 refine(aq3 ((aH4 G.K).or (aG2 G.calm)) g1 (G.bi _ (by decide)) aY3 (zW h ai2 (zl hs)) Y g2 (zl hs) rfl).imp λ σ H Q q=>?_
 obtain⟨φ,ρ,s,d,s',E,R,J,q⟩:=q
 obtain⟨l,s1,e1,J⟩:=aa0 J
 cases J
 refine⟨φ,ρ,s,l,_,E,R,e1,λ v ys φ1 Z g1 l1 y hq r1 R1=>?_⟩
 rcases hq with⟨a,rfl,hq|hq⟩|⟨x,rfl,hx,rfl⟩
 ·exact .inl ⟨a,ys,rfl,.inl ⟨hq,λ p hp=>(q.trans g1 l1).tup R1 r1 y hp⟩⟩
 ·exact .inl ⟨a,ys,rfl,.inr ⟨hq.1,q _ φ1 Z g1 l1 (by unfold lq;exact y) (RV.tupC hq.1 hq.2 r1) R1⟩⟩
 ·exact .inr ⟨x,rfl,hx,λ p hp=>(q.trans g1 l1).tup R1 r1 y hp⟩
theorem aY5 {m:ln->lh->lp (List li)}{a:Expr}{p pos:Pos}(G:CG Γ F n X ck)(hg:ck.gl "list"=true)(hs:shp a=true)(h:PE X a (TLv Γ m)) :
  PE X (.Call (.Name "list" p) [a] [] pos) (TEv Γ (λ ρ s=>(m ρ s).bind λ l s=>my .list l s)):=by
 obtain⟨g1,Z,Y⟩:=G.gl hg
 refine(aq3 ((aR8 G.K).or (aS9 G.calm)) g1 (G.bi _ (by decide)) bs5 (zW h ai2 (zl hs)) Y Z (zl hs) rfl).imp λ σ H Q q=>?_
 obtain⟨φ,ρ,s,d,s',E,R,y,q⟩:=q
 obtain⟨l,s1,e1,y⟩:=aa0 y
 obtain⟨rfl,rfl⟩:=qC y
 refine⟨φ,ρ,s,l,_,E,R,e1,λ v ys φ1 H1 g1 l1 J hq r1 R1=>?_⟩
 rcases hq with⟨a,rfl,hq⟩|⟨x,rfl,hx,rfl⟩
 ·exact .inl ⟨a,ys,rfl,hq.imp id (·.1),λ p hp=>(q.trans g1 l1).alloc R1 r1 J hp⟩
 ·exact .inr ⟨x,rfl,hx,λ p hp=>(q.trans g1 l1).alloc R1 r1 J hp⟩
theorem bS8 {m:ln->lh->lp (List li)}{k:mM}{x:Str}{a:Expr}{p pos:Pos}(G:CG Γ F n X ck)(hk:mkT k=some x)(y:ck.gl x=true)(hs:shp a=true)(h:PE X a (TLv Γ m)) :
  PE X (.Call (.Name x p) [a] [] pos) (TEv Γ (λ ρ s=>(m ρ s).bind λ l s=>my k l s)):=by
 cases k<;>cases hk
 ·exact aT6 G y hs h
 ·exact aY5 G y hs h
def FrC (Γ:Gm)(X:Cx)(x:Str)(k:mM):Prop:=∃ id r,bj x=some (.builtin id)/\x∈bNames/\ag6 X (.builtin id) r/\∀ φ H s l ys p d s' Q,Rp Γ φ H s->RVL Γ φ H l ys->H p=some (.lst ys)->my k l s=.ok d s'->ai4 Γ φ s H d s' Q->r [.ref p] H Q
theorem aN5:∀(l:List Int) (a:Int),(l.foldl min a=a\/l.foldl min a∈l)/\l.foldl min a<=a/\∀ y∈l,l.foldl min a<=y
 | [],a=>⟨.inl rfl,j0 _,λ y hy=>by cases hy⟩
 | b::l,a=>by
  obtain⟨p,G,h3⟩:=aN5 l (min a b)
  rw[b8]
  refine⟨?_,by omega,λ y hy=>?_⟩
  ·rcases p with h|h
   ·rw[h]
    rcases Int.le_total a b with z|z
    ·left;omega
    ·right;rw[show min a b=b by omega];exact aB ..
   ·exact .inr (aj _ h)
  ·rcases aE.mp hy with z|z
   ·rw[z];omega
   ·exact h3 y z
theorem bi6 {l:List Int}{m:Int}(h:nq l=some m):m∈l/\∀ y∈l,m<=y:=by
 cases l with
 | nil=>cases h
 | cons a l =>
  cases h
  obtain⟨G,p,h3⟩:=aN5 l a
  refine⟨?_,λ y hy=>?_⟩
  ·rcases G with h|h
   ·rw[h];exact aB ..
   ·exact aj _ h
  ·rcases aE.mp hy with z|z
   ·rw[z];exact p
   ·exact h3 y z
theorem bD4 (G:CG Γ F n X ck){k:mM}{x:Str}(hk:mkF k=some x):FrC Γ X x k:=by
 cases k<;>cases hk
 ·refine⟨_,_,ch6,by decide,aV6 G.calm G.K,λ φ H s l ys p d s' Q R r hp h q=>?_⟩
  unfold my at h
  dsimp only at h
  cases e:mf l with
  | none=>rw[e]at h;exact fb h
  | some bs =>
   rw[e]at h
   cases h
   have:=ap3 e
   subst this
   exact⟨p,bs,rfl,SqL.of (by rw[<-r.bls];exact hp),q.here R rfl RV.blI⟩
 ·refine⟨_,_,bO6,by decide,aW7 G.calm G.K,λ φ H s l ys p d s' Q R r hp h q=>?_⟩
  unfold my at h
  dsimp only at h
  cases e:l7 l with
  | none=>rw[e]at h;exact fb h
  | some is =>
   rw[e]at h
   have h:(match nq is with|some m=>DV.R.ok (DV.D.int m) s|none=>.bad)=.ok d s':=h
   cases e2:nq is with
   | none=>rw[e2]at h;exact fb h
   | some mm =>
    rw[e2]at h
    cases h
    have:=qz e
    subst this
    refine⟨p,is,rfl,SqL.of (by rw[<-r.ints];exact hp),(λ(z:is=[])=>by rw[z]at e2;cases e2),λ m h y=>?_⟩
    obtain⟨a,b⟩:=bi6 e2
    have:m=mm:=Int.le_antisymm (y mm a) (b m h)
    rw[this]
    exact q.here R rfl RV.intI
theorem bV0 {m:ln->lh->lp (List li)}{k:mM}{x:Str}{a:Expr}{p pos:Pos}(G:CG Γ F n X ck)(hk:mkF k=some x)(hg:ck.gl x=true)(hs:shp a=true)(h:PE X a (TFv Γ m)) :
  PE X (.Call (.Name x p) [a] [] pos) (TEv Γ (λ ρ s=>(m ρ s).bind λ l s=>my k l s)):=by
 obtain⟨g1,g2,Y⟩:=G.gl hg
 obtain⟨id,r,hb,hx,hc,J⟩:=bD4 (Γ:=Γ) G hk
 refine(al3 hc g1 (G.bi _ hx) hb (zW h ai2 (zl hs)) Y g2 (zl hs) rfl).imp λ σ H Q q=>?_
 obtain⟨φ,ρ,s,d,s',E,R,y,q⟩:=q
 obtain⟨l,s1,e1,y⟩:=aa0 y
 exact⟨φ,ρ,s,l,_,E,R,e1,λ p ys φ1 Z g1 l1 b1 hp h0 ho r1 R1=>J φ1 Z s1 l ys p d s' Q R1 r1 hp y (q.trans g1 l1)⟩
theorem bk7 {φ φ':Nat->Addr}{s s':lh}{H':Hp}{r:Nat}{l:List li}(R:Rp Γ φ H s)(g:Gr φ s H φ' s' H')(hb:r<s.length)(e:s'[r]?=some (.lst l)):tyV Γ.K "list" (.ref (φ r)) H:=by
 obtain⟨h,p⟩:∃ h,s[r]?=some h:=⟨s[r],ah hb⟩
 have J:=g.mu r h _ p e rfl
 have ho:=R.obj r h p
 cases h with
 | lst l0 =>
  obtain⟨G,y,_⟩:=ho
  exact .inl ⟨rfl,G,SqL.of y⟩
 | ro _=>cases J
 | dic _=>have:=g.kd r _ _ p e;cases this
 | dit _=>have:=g.kd r _ _ p e;cases this
 | ins _ _=>exact ho.elim
def mtR (Γ:Gm)(m:mO):V->List V->Hp->VK->Prop:=λ x vs H Q=>∃ φ s a l d s',Rp Γ φ H s/\RV Γ φ H a x/\RVL Γ φ H l vs/\a.bnd s.length=true/\lj s.length l=true/\mJ m a l s=.ok d s'/\ai4 Γ φ s H d s' Q
theorem bS6:lv<aP:=by rw[fB];decide
theorem ay0 {m:mO}{x:Str}{k:Nat}(G:mtT m=some (x,k)){a:li}{l:List li}{s s':lh}{d:li}(h:mJ m a l s=.ok d s'):∃ r l0,a=.ref r/\s[r]?=some (.lst l0):=by
 have go:∀ {r:Nat} {f:List li->lp li},(match s[r]? with|some (.lst l)=>f l|_=>.bad)=.ok d s'->∃ l0,s[r]?=some (.lst l0):=λ {r f} h=>by
  cases e:s[r]? with
  | none=>rw[e]at h;exact fb h
  | some ob =>
   cases ob with
   | lst l0=>exact⟨l0,rfl⟩
   | _=>rw[e]at h;exact fb h
 cases a with
 | ref r =>
  have p:∀ {f:List li->lp li},(match s[r]? with|some (.lst l)=>f l|_=>.bad)=.ok d s'->∃ y l0,DV.D.ref r=.ref y/\s[y]?=some (.lst l0):=λ h=>by obtain⟨l0,e⟩:=go h;exact⟨_,l0,rfl,e⟩
  cases m with
  | append=>match l with
   | [d]=>exact p h
   | []=>exact fb h
   | _::_::_=>exact fb h
  | pop=>match l with
   | []=>exact p h
   | _::_=>exact fb h
  | reverse=>match l with
   | []=>exact p h
   | _::_=>exact fb h
  | clear=>match l with
   | []=>exact p h
   | _::_=>exact fb h
  | index=>match l with
   | [d]=>exact p h
   | []=>exact fb h
   | _::_::_=>exact fb h
  | _=>exact fb h
 | _=>cases m<;>exact fb h
theorem bk9:MtR X "list.append" (mtR Γ .append):=by
 intro G sh σ H x vs v us Q I Z rv h
 obtain⟨φ,s,a,l,d,s',R,ra,rl,ba,bl,p,q⟩:=h
 obtain⟨r,l0,rfl,e⟩:=ay0 (m:=.append) rfl p
 cases l with
 | nil=>exact fb p
 | cons y t =>
  cases t with
  | cons _ _=>exact fb p
  | nil =>
   simp only[mJ,e]at p
   split at p
   case isFalse=>exact fb p
   rename_i hlt
   cases p
   obtain⟨z,rfl,rz⟩:=rl.one
   obtain⟨xs,h1,Y⟩:=R.addr e
   have J:lj s.length l0=true:=by have:=R.wf r _ e;unfold ls at this;exact this
   refine aA1 G sh σ H x [z] v us Q I Z rv ⟨φ r,xs,z,ra.refE,rfl,h1,by rw[Y.length];have:=bS6;omega,?_⟩
   exact q.put R e (Y.append (.cons rz .nil)) (qi J bl) rfl RV.nonI
theorem ce8:MtR X "list.pop" (mtR Γ .pop):=by
 intro G sh σ H x vs v us Q I rx rv h
 obtain⟨φ,s,a,l,d,s',R,ra,rl,ba,bl,p,q⟩:=h
 obtain⟨r,l0,rfl,e⟩:=ay0 (m:=.pop) rfl p
 cases l with
 | cons _ _=>exact fb p
 | nil =>
  simp only[mJ,e]at p
  cases eg:l0.getLast? with
  | none=>rw[eg]at p;exact fb p
  | some y =>
   rw[eg]at p
   cases p
   have hv:=rl.unnil
   subst hv
   obtain⟨xs,h1,Y⟩:=R.addr e
   have J:lj s.length l0=true:=by have:=R.wf r _ e;unfold ls at this;exact this
   rw[List.getLast?_eq_getElem?]at eg
   obtain⟨w,hw,Z⟩:=Y.get eg
   rw[<-Y.length]at hw
   refine bL4 G sh σ H x [] v us Q I rx rv ⟨φ r,xs,w,ra.refE,rfl,h1,hw,?_⟩
   have h3:RVL Γ φ H l0.dropLast xs.dropLast:=by
    rw[gO,gO,Y.length]
    exact Y.take _
   exact q.put R e h3 (ax0 J λ d hd=>List.dropLast_subset _ hd) (ak9 J eg) Z
structure MtOk (Γ:Gm)(X:Cx)(m:mO)(x:Str):Prop where
 ex:∃ id,PySem.Slot "list" x id/\jQ (.builtin id)=pure (.type "method_descriptor")/\MtR X id (mtR Γ m)
theorem bL9 (y:X.K=Γ.K)(p:Room (lC+1) X.A){m:mO}{x:Str}{k:Nat}(h:mtT m=some (x,k)):MtOk Γ X m x:=by
 cases m<;>cases h
 ·exact⟨_,gK,PySem.F.type_list_append,bk9⟩
 ·exact⟨_,iQ,PySem.F.type_list_pop,ce8⟩
theorem bk0 {m:mO}{o:mH}{es:lF}{ob:Expr}{J:List Expr}{x:Str}{ap cp:Pos}(G:CG Γ F n X ck)(hm:mtT m=some (x,J.length))(hab:bX6 ob=true)(hl:(ap.endLine==cp.line)=true)(ho:PE X ob (TEv Γ (lr F o)))
  (a2:mEs ck es J=true) (h:PEs Γ F X es J):EvT Γ X (.Call (.Attribute ob x ap) J [] cp) (lr F (.meth m o es)):=by
 refine .val ?_
 obtain⟨id,slot,a1,hr⟩:=(bL9 (Γ:=Γ) (X:=X) G.K (G.room.mono G.deep) hm).ex
 have hs:=ax7 a2
 have key:∀ σ H Q,TEv Γ (lr F (.meth m o es)) σ H Q->tBM Γ.K "list" (mtR Γ m) (TEv Γ (lr F o)) (TAv Γ (lJ F es)) σ H Q:=λ σ H Q q=>by
  obtain⟨φ,ρ,s,d,s',E,R,p,q⟩:=q
  obtain⟨a,s1,e1,p⟩:=aa0 p
  obtain⟨l,s2,e2,p⟩:=aa0 p
  refine⟨φ,ρ,s,a,s1,E,R,e1,λ v φ1 H1 g1 l1 Y r1 R1=>?_⟩
  obtain⟨r,l0,rfl,er⟩:=ay0 hm p
  rw[r1.refE]
  have hk:∀ φ2 H2,Gr φ1 s1 H1 φ2 s2 H2->tyV Γ.K "list" (.ref (φ1 r)) H1:=λ φ2 H2 g2=>bk7 R1 g2 (by unfold lq at Y;exact of_decide_eq_true Y) er
  have a0:TAv Γ (lJ F es) σ H1 λ J H2=>mtR Γ m (.ref (φ1 r)) J H2 Q:=by
   refine⟨φ1,ρ,s1,l,s2,E.mono g1 l1,R1,e2,λ vs φ2 H2 g2 l2 b2 r2 R2=>?_⟩
   refine⟨φ2,s2,.ref r,l,d,s',R2,?_,r2,zy l2 _ Y,b2,p,q.trans (g1.trans g2 l1) (ao l1 l2)⟩
   have:=RV.mono g2 _ _ Y r1
   rw[r1.refE]at this
   exact this
  refine⟨?_,a0⟩
  have hlt:r<s1.length:=by unfold lq at Y;exact of_decide_eq_true Y
  obtain⟨o0,e0⟩:∃ o0,s1[r]?=some o0:=⟨s1[r],ah hlt⟩
  have Z:=R1.obj r o0 e0
  cases o0 with
  | lst l0 =>
   obtain⟨J,h1,_⟩:=Z
   exact .inl ⟨rfl,J,SqL.of h1⟩
  | ro l0 =>
   obtain⟨J,h1,_⟩:=Z
   exact .inl ⟨rfl,J,h1.1⟩
  | dic _ =>
   obtain⟨o',eo,ek⟩:=DV.ak2 G.fk es ρ s1 _ _ e2 r _ e0
   rw[er]at eo;cases eo;cases ek
  | dit _ =>
   obtain⟨o',eo,ek⟩:=DV.ak2 G.fk es ρ s1 _ _ e2 r _ e0
   rw[er]at eo;cases eo;cases ek
  | ins _ _=>exact Z.elim
 cases J with
 | nil =>
  have p0:PE X (.Call (.Attribute ob x ap) [] [] cp) (ck2 X.K "list" (mtR Γ m) (TEv Γ (lr F o))):=bQ0 fX slot a1 hr ho (aG1 hab) hl
  rw[G.K]at p0
  refine p0.imp λ σ H Q q=>?_
  cases es with
  | cons _ _=>exact h.elim
  | nil =>
   obtain⟨φ,ρ,s,d,s',E,R,p,k⟩:=key σ H Q q
   refine⟨φ,ρ,s,d,s',E,R,p,λ v φ1 H1 g1 l1 Y r1 R1=>?_⟩
   obtain⟨h1,h2⟩:=k v φ1 H1 g1 l1 Y r1 R1
   exact⟨h1,aN8 (TAv.eq (λ ρ s=>rfl) h2)⟩
 | cons y ys =>
  refine(bq9 G.K fX slot a1 hr ho (an7 h) (aG1 hab) ?_ hl (zl (hs y (aB ..))) (zN λ e he=>hs e (aj _ he)).1).imp key
  rw[(zN hs).2]
  have:(y::ys).length<=1:=by
   unfold mtT at hm
   split at hm<;>first|(have:=aF hm;have:=congrArg Prod.snd this;simp at this;simp;omega)|cases hm
  simp only[iE,cj,kS]
  show(true&&decide ((y::ys).length+0+0<30))=true
  rw[iE]
  exact decide_eq_true (by omega)
end
section
variable {Γ:Gm} {F:lA} {n:Nat} {X:Cx} {ck:Ck} {σ:St} {H:Hp} {Q:VK}
theorem aU6 {φ:Nat->Addr}{H:Hp}:∀ {l:List li} {p:List (List Nat)} {y:List V},mY l=some p->RVL Γ φ H l y->y=p.map bJ2
 | [],p,y,h,r=>by cases h;exact r.unnil
 | d::l,p,y,h,r=>by
  obtain⟨w,ws,rfl,r1,G⟩:=r.uncons
  cases d with
  | str z =>
   unfold mY at h
   cases e:mY l with
   | none=>rw[e]at h;cases h
   | some ss' =>
    rw[e]at h
    cases h
    rw[aG,<-aU6 e G,r1.strE];rfl
  | _=>cases h
theorem bH1 {o:mH}{m:ln->lh->lp li}{ob a:Expr}{ap cp:Pos}(G:CG Γ F n X ck)(hab:bX6 ob=true)(hl:(ap.endLine==cp.line)=true)(ho:PE X ob (TEv Γ (lr F o)))(hs:shp a=true)(h:PE X a (TEv Γ m)) :
  PE X (.Call (.Attribute ob "join" ap) [a] [] cp) (TEv Γ (λ ρ s=>(lr F o ρ s).bind λ x s=>(m ρ s).bind λ q s=>DV.aA6 x q s)):=by
 refine(bq9 G.K PySem.F.plainAttrs_str gM PySem.F.type_str_join bH7 ho (zW h ai2 (zl hs)) (aG1 hab) ?_ hl (zl hs) rfl).imp λ σ H Q q=>?_
 ·rw[(zN (es:=[a]) λ e he=>by rw[cx.mp he];exact hs).2];rfl
 ·obtain⟨φ,ρ,s,d,s',E,R,p,q⟩:=q
  obtain⟨x,s1,e1,p⟩:=aa0 p
  obtain⟨y,s2,e2,p⟩:=aa0 p
  obtain⟨r,l,J,rfl,rfl,er,es,hlim,rfl,rfl⟩:∃ r l J,x=.str []/\y=.ref r/\s2[r]?=some (.lst l)/\mY l=some J/\J.flatten.length<=lv/\d=.str J.flatten/\s'=s2:=by
   unfold DV.aA6 at p
   split at p
   ·split at p
    ·split at p
     ·split at p
      ·split at p
       ·cases p;exact⟨_,_,_,rfl,rfl,by assumption,by assumption,by assumption,rfl,rfl⟩
       ·exact fb p
      ·exact fb p
     ·exact fb p
    ·exact fb p
   ·exact fb p
  refine⟨φ,ρ,s,_,s1,E,R,e1,λ v φ1 H1 g1 l1 b1 r1 R1=>?_⟩
  have ev:=r1.strE
  subst ev
  refine⟨rfl,φ1,ρ,s1,_,s',E.mono g1 l1,R1,e2,λ v φ2 H2 g2 Z b2 r2 R2=>?_⟩
  have ew:=r2.refE
  subst ew
  obtain⟨xs,Y,h2⟩:=R2.addr er
  rw[aU6 es h2]at Y
  exact⟨φ2 r,J,rfl,rfl,Y,ao hlim qw,(q.trans (g1.trans g2 l1) (ao l1 Z)).here R2 rfl (RV.strI hlim)⟩
theorem PIf.imp {e:List Expr}{t t':TT}(h:PIf X e t)(i:∀ σ H Q,t' σ H Q->t σ H Q):PIf X e t':=λ p s σ H Q I q=>h p s σ H Q I (i σ H Q q)
structure CompF (Γ:Gm)(X:Cx)(m:ln->lh->lp (List li))(E:Expr):Prop where
 ex:∃ elt tgt iter ifs scope pos N' caps wi g tc te,E=.ListComp elt [⟨tgt,iter,ifs,0⟩] scope pos/\qp N' caps scope X.N X.env.scope=true/\PI X tgt iter wi /\
  (∀(C:Addr) (cells:List (Str×Addr)) (s:af) (H:Hp) (ex:List Addr),PG (zX X N' scope C cells s H ex) tgt g/\PIf (zX X N' scope C cells s H ex) ifs tc/\PE (zX X N' scope C cells s H ex) elt te) /\
  (∀ x,c6 iter X.env x=pure x)/\∀ σ H Q,TFv Γ m σ H Q->tComp caps wi g tc te σ H Q
theorem CompF.pe {m:ln->lh->lp (List li)}{E:Expr}(h:CompF Γ X m E)(hc:X.calm=true):PE X E (TFv Γ m):=by
 obtain⟨y,a0,iter,G,scope,pos,Y,p,wi,g,tc,te,rfl,h1,h2,h3,J,Z⟩:=h.ex
 exact(aZ4 Y p h1 h2 hc h3 J).imp Z
theorem bA0 {tg:lP}{mI:ln->lh->lp mr}{mc J:ln->lh->lp li}{h:List (Option Nat)}{y p iter i:Expr}{scope:Scope}{pos:Pos}(G:CG Γ F n X ck)(hm:aQ5 ck tg p iter h scope=true)
  (hi:PI X p iter (TIv Γ mI)) (hc:∀ C cells s H ex,PT (zX X (ckC ck p h scope).N scope C cells s H ex) i (TTv Γ mc)) (Y:∀ C cells s H ex,PE (zX X (ckC ck p h scope).N scope C cells s H ex) y (TEv Γ J)) :
  CompF Γ X (λ ρ s=>(mI ρ s).bind λ q s0=>if q.its.length<=lv then mK (λ s=>lT s0 s q.src) (λ d ρ s=>match lE ρ tg d with
   | some ρ=>lx (mc ρ s) λ k s=>if k then(J ρ s).bind λ v s=>.ok (some v,ρ) s else .ok (none,ρ) s
   | none=>.bad) q.its (mw ρ h) s0 else .bad) (.ListComp y [⟨p,iter,[i],0⟩] scope pos):=by
 obtain⟨Z,c2,c3⟩:=G.comp hm
 exact⟨y,p,iter,[i],scope,pos,_,h,_,_,_,_,rfl,Z,hi,λ C cells s H ex=>⟨(c3 C cells s H ex).2,bz7 (hc C cells s H ex),Y C cells s H ex⟩,aJ4 c2,λ σ H Q q=>be2 q⟩
theorem bo8 {tg:lP}{mI:ln->lh->lp mr}{Y:ln->lh->lp li}{h:List (Option Nat)}{y p iter:Expr}{scope:Scope}{pos:Pos}(G:CG Γ F n X ck)(J:aQ5 ck tg p iter h scope=true)
  (hi:PI X p iter (TIv Γ mI)) (Z:∀ C cells s H ex,PE (zX X (ckC ck p h scope).N scope C cells s H ex) y (TEv Γ Y)) :
  CompF Γ X (λ ρ s=>(mI ρ s).bind λ q s0=>if q.its.length<=lv then mK (λ s=>lT s0 s q.src) (λ d ρ s=>match lE ρ tg d with
   | some ρ=>(Y ρ s).bind λ v s=>.ok (some v,ρ) s
   | none=>.bad) q.its (mw ρ h) s0 else .bad) (.ListComp y [⟨p,iter,[],0⟩] scope pos):=by
 obtain⟨c1,c2,c3⟩:=G.comp J
 refine⟨y,p,iter,[],scope,pos,_,h,_,_,TTv Γ (λ ρ s=>.ok (.bl true) s),_,rfl,c1,hi,λ C cells s H ex=>⟨(c3 C cells s H ex).2,bD7.imp λ σ H Q q=>?_,Z C cells s H ex⟩,aJ4 c2,λ σ H Q q=>be2 (TFv.eq (λ ρ s=>?_) q)⟩
 ·obtain⟨φ,ρ,s,b,s',E,R,J,q⟩:=q
  cases J
  exact q φ H (Gr.refl _ _ _) (am _) R
 ·congr 1
theorem bz0 {tg:Expr}{e:mH}{E:Expr}(G:CG Γ F n X ck)(h:PE X E (TEv Γ (lr F e))):PI X tg E (TIv Γ (nr F (.seq e))):=by
 refine(PI.or (bD0 G.K h) (PI.or (bo4 G.K h) (bX7 h))).imp λ σ H R q=>bN5 (TIv.eq (λ ρ s=>rfl) q)
theorem bp2 {tg:Expr}{a:mH}{l:Expr}{p pos:Pos}(G:CG Γ F n X ck)(y:ck.gl "range"=true)(hs:shp l=true)(h:PE X l (TEv Γ (lr F a))):PI X tg (.Call (.Name "range" p) [l] [] pos) (TIv Γ (nr F (.rng1 a))) :=
 (aY9 (G.gl y).1 (G.bi _ (by decide)) (zW h ai2 (zl hs)) (zl hs)).imp λ σ H R q=>bu4 (TIv.eq (λ ρ s=>rfl) q)
theorem bQ3 (h:TEv Γ (λ ρ s=>lY (.dic []) s) σ H Q):bt7 σ H Q:=by
 obtain⟨φ,ρ,s,d,s',E,R,G,q⟩:=h
 obtain⟨rfl,rfl⟩:=qC G
 intro p hp
 obtain⟨g,y⟩:=R.new (o:=.dic []) (u:=.dK []) hp rfl λ φ' H' g e=>⟨[],e,rfl⟩
 exact q (.ref p) _ _ g (by simp) (by unfold lq;simp) (by unfold RV;simp) y
theorem bY3 {mk mv:ln->lh->lp li}(h:TEv Γ (λ ρ s=>(mk ρ (s++[.dic []])).bind λ kd s1=>(mv ρ s1).bind λ J s2=>if kd.key=true/\s2[s.length]?=some (.dic [])then .ok (.ref s.length) (s2.set s.length (.dic [(kd,J)]))else .bad) σ H Q):bO5 [(TEv Γ mk,TEv Γ mv)] σ H Q:=by
 obtain⟨φ,ρ,s,d,s',E,R,y,q⟩:=h
 obtain⟨kd,s1,e1,y⟩:=aa0 y
 obtain⟨J,s2,e2,y⟩:=aa0 y
 split at y
 case isFalse=>exact fb y
 rename_i hc
 cases y
 intro p hp
 obtain⟨g0,R0⟩:=R.new (o:=.dic []) (u:=.dK []) hp rfl λ φ' H' g e=>⟨[],e,rfl⟩
 have l0:s.length<=(s++[DV.O.dic []]).length:=by simp
 refine⟨_,ρ,s++[DV.O.dic []],kd,s1,E.mono g0 l0,R0,e1,λ v1 φ1 H1 g1 l1 b1 r1 R1=>?_⟩
 refine⟨φ1,ρ,s1,J,s2,(E.mono g0 l0).mono g1 l1,R1,e2,λ v2 φ2 H2 g2 Y b2 r2 R2=>?_⟩
 have G:φ2 s.length=p:=by
  rw[g2.w.map s.length (az (by simp) l1),g1.w.map s.length (by simp)];simp
 obtain⟨k,hk⟩:=aw2 hc.1
 have ek:=aM9 hk (RV.mono g2 kd v1 b1 r1)
 obtain⟨Z,z1,z2⟩:=R2.obj s.length _ hc.2
 have z2:Z=[]:=z2
 subst z2
 rw[G]at z1
 refine⟨z1,[(k,v2)],by rw[ek];rfl,by simp,?_⟩
 have hb:(DV.O.dic [(kd,J)]).bnd s2.length=true:=by
  unfold ls
  simp only[aG,cF,lj,iD,ag]
  exact⟨zy Y _ b1,b2⟩
 obtain⟨g3,R3⟩:=R2.set (o:=.dic [(kd,J)]) (u:=.dK [(k,v2)]) hc.2 rfl hb λ H' g e=>⟨_,e,k,v2,[],rfl,hk,RV.monoW g _ _ b2 r2,rfl⟩
 rw[G]at g3 R3
 have L:s.length<=s2.length:=ao l0 (ao l1 Y)
 have lt:s.length<s2.length:=az (by simp) (ao l1 Y)
 exact q (.ref p) _ _ (((g0.trans g1 l0).trans g2 (ao l0 l1)).trans g3 L) (by rw[bJ];exact L) (by unfold lq;rw[bJ];exact decide_eq_true lt) (by unfold RV;rw[G]) R3
end
section
variable {Γ:Gm} {F:lA} {n:Nat}
theorem bN9 {X:Cx}{c:DV.Cn}{v:Const}{k:Nat}{pos:Pos}(h:mC c v=true):EvT Γ X (.Constant v k pos) (lr F (.cst c)):=by
 refine .val ?_
 unfold mC at h
 split at h
 ·exact bT2.imp λ σ H Q q=>aA8 (c:=.non) (λ _=>rfl) (λ _ _=>RV.nonI) (TEv.eq (λ ρ s=>rfl) q)
 ·rename_i b c
  have e:=eq_of_beq h
  subst e
  exact bP8.imp λ σ H Q q=>aA8 (c:=.bl b) (λ _=>rfl) (λ _ _=>RV.blI) (TEv.eq (λ ρ s=>rfl) q)
 ·rename_i i j
  have e:=of_decide_eq_true h
  subst e
  exact bT5.imp λ σ H Q q=>aA8 (c:=.int i) (λ _=>rfl) (λ _ _=>RV.intI) (TEv.eq (λ ρ s=>rfl) q)
 ·rename_i x y
  rw[ag]at h
  have e:=of_decide_eq_true h.1
  have e2:=of_decide_eq_true h.2
  subst e
  exact br1.imp λ σ H Q q=>aA8 (c:=.str x) (λ _=>rfl) (λ _ _=>RV.strI (by unfold lv;omega)) (TEv.eq (λ ρ s=>rfl) q)
 ·cases h
theorem bz9 {X:Cx}{ck:Ck}{es:lF}{y:List Expr}{pos:Pos}(m:mEs ck es y=true)(hz:y.length<=1000)(h:PA X y (TAv Γ (lJ F es))):PE X (.List y pos) (TFv Γ (DV.evL F (.disp es))):=by
 refine(br4 h).imp λ σ H Q q=>?_
 obtain⟨φ,ρ,s,l,s',E,R,J,q⟩:=q
 refine⟨φ,ρ,s,l,s',E,R,J,λ vs φ1 Y g1 l1 G r1 R1=>⟨by rw[r1.length,av9 J m];exact aX2 hz,λ p hp=>?_⟩⟩
 obtain⟨Z,R2⟩:=R1.same (H':=upd Y p (.lst vs)) ((ai1.refl Y).new hp)
 refine q p vs φ1 _ (g1.trans Z l1) l1 G zm ?_ (Off.new R1 hp) (RVL.mono Z _ _ G r1) R2
 cases e:H p with
 | none=>rfl
 | some o=>exact absurd hp (g1.st p (by rw[e];simp))
theorem CompF.eq {X:Cx}{m m':ln->lh->lp (List li)}{E:Expr}(c:CompF Γ X m E)(e:∀ ρ s,m' ρ s=m ρ s):CompF Γ X m' E:=by
 have:m'=m:=funext λ ρ=>funext λ s=>e ρ s
 subst this;exact c
theorem zn {a b:Bool}(h:(a&&b)=true):a=true/\b=true:=by rw[ag]at h;exact h
theorem bB8 {X:Cx}{Y:Ck}{g:String}{p:Pos}(G:CG Γ F n X Y)(h:Y.gl (g:Str)=true):EvT Γ X (.Name (g:Str) p) (lr F (.glob g)):=by
 refine .val ?_
 obtain⟨g1,g2,g3⟩:=G.gl h
 cases e:F.con g with
 | none =>
  intro J s σ H Q I q
  obtain⟨φ,ρ,s,d,s',E,R,y,q⟩:=q
  have y:(match F.con g with|some d=>DV.R.ok d s|none=>.bad)=.ok d s':=y
  rw[e]at y
  cases y
 | some d =>
  obtain⟨v,u,h1,h2,h3,Z⟩:=G.con g d e
  exact(ao9 g1 h1 h2 g2).imp λ σ H Q q=>aA8 (c:=d) h3 Z (TEv.eq (λ ρ s=>by show(match F.con g with|some d=>DV.R.ok d s|none=>.bad)=DV.R.ok d s;rw[e]) q)
theorem bQ2 {X:Cx}{y:Ck}{i:Nat}{x:Str}{p:Pos}(G:CG Γ F n X y)(h:y.var i x=true):EvT Γ X (.Name x p) (lr F (.var i)):=by
 refine .val ?_
 unfold Ck.var at h
 obtain⟨h,Z⟩:=zn h
 obtain⟨h,h3⟩:=zn h
 obtain⟨Y,J⟩:=zn h
 have e1:(x==("__debug__":Str))=false:=by simpa using h3
 have e2:(x==("__classdict__":Str))=false:=by simpa using Z
 exact(aM4 (by rw[G.N];exact of_decide_eq_true Y) (G.vis J) e1 e2).imp λ σ H Q q=>bK0 i (TEv.eq (λ ρ s=>rfl) q)
theorem bS9 {X:Cx}{y:Ck}{i:Nat}{x:Str}{p:Pos}(G:CG Γ F n X y)(h:y.var i x=true):PE X (.Name x p) (bx6 i):=by
 unfold Ck.var at h
 obtain⟨h,Z⟩:=zn h
 obtain⟨h,h3⟩:=zn h
 obtain⟨Y,J⟩:=zn h
 exact aM4 (by rw[G.N];exact of_decide_eq_true Y) (G.vis J) (by simpa using h3) (by simpa using Z)
theorem ay6 {Y:Ck}:∀ {es:lW} {G:List Expr},bJ3 Y es G=true->∀ x∈G,shp x=true
 | .nil,[],_,x,hx=>by cases hx
 | .nil,_::_,h,_,_=>ff h
 | .ex e es,[],h,_,_=>ff h
 | .ex e es,y::ys,h,x,hx=>by
  obtain⟨h,h3⟩:=zn h
  obtain⟨J,p⟩:=zn h
  rcases aE.mp hx with rfl|hx
  ·exact p
  ·exact ay6 h3 x hx
 | .lam _ _ es,[],h,_,_=>ff h
 | .lam _ _ es,y::ys,h,x,hx=>by
  obtain⟨h,h3⟩:=zn h
  obtain⟨J,p⟩:=zn h
  rcases aE.mp hx with rfl|hx
  ·exact p
  ·exact ay6 h3 x hx
 | .fn _ _,_,h,_,_=>ff h
theorem aK5 {G:Ck}:∀ {es:lW} {Y:List Expr},bJ3 G es Y=true->bm2 es=true->∃ id p E,G.lk id p E=true
 | .nil,_,_,h=>by cases h
 | .ex e es,[],h,_=>ff h
 | .ex e es,y::ys,h,hl=>by
  obtain⟨h,h3⟩:=zn h
  exact aK5 h3 hl
 | .lam id p es,[],h,_=>ff h
 | .lam id p es,y::ys,h,_=>by
  obtain⟨h,h3⟩:=zn h
  obtain⟨J,Z⟩:=zn h
  exact⟨id,p,y,J⟩
 | .fn _ _,_,h,_=>ff h
theorem aO4 {X:Cx}{E:Expr}{m:ln->lh->lp li}(h:∀ ρ s,m ρ s=.bad):EvT Γ X E m:=by
 refine⟨λ p s σ H Q I q=>?_,λ p s σ H Q I q=>?_⟩
 ·obtain⟨φ,ρ,s,d,s',E,R,y,q⟩:=q
  rw[h]at y;exact fb y
 ·obtain⟨φ,ρ,s,d,s',E,R,y,q⟩:=q
  rw[h]at y;exact fb y
inductive LK (Γ:Gm)(X:Cx)(m:ln->lh->lp (List li))(E:Expr)(k:Nat):Prop where
 | c (h:CompF Γ X m E):LK Γ X m E k
 | f (hk:1<=k) (h:PE X E (TFv Γ m)):LK Γ X m E k
 | s (hk:k=2) (h:PE X E (TLv Γ m)):LK Γ X m E k
theorem bU5 {X:Cx}{m:ln->lh->lp (List li)}{E:Expr}(h:LK Γ X m E 0):CompF Γ X m E:=by
 cases h with
 | c h=>exact h
 | f hk h=>omega
 | s hk h=>omega
theorem ca5 {X:Cx}{p:Ck}{m:ln->lh->lp (List li)}{E:Expr}(G:CG Γ F n X p)(h:LK Γ X m E 1):PE X E (TFv Γ m):=by
 cases h with
 | c h=>exact h.pe G.calm
 | f hk h=>exact h
 | s hk h=>omega
theorem cg0 {X:Cx}{p:Ck}{m:ln->lh->lp (List li)}{E:Expr}(G:CG Γ F n X p)(h:LK Γ X m E 2):PE X E (TLv Γ m):=by
 cases h with
 | c h=>exact(h.pe G.calm).imp λ σ H Q q=>aO6 q
 | f hk h=>exact h.imp λ σ H Q q=>aO6 q
 | s hk h=>exact h
theorem biOk_inv {G:Ck}{b:lO}{x:Str}{J:List Expr}{es:lF}(h:bZ6 G b x J (mEs G es J) (mEs G es (J.take 1))=true) :
  (∃ k t a y Z,biK b=some (k,t)/\J=[a,.Name y Z]/\x=("isinstance":Str)/\y=t/\G.gl x=true/\G.gl y=true/\mEs G es [a]=true)\/∃ a ys,J=a::ys/\biT b=some x/\G.gl x=true/\mEs G es (a::ys)=true:=by
 unfold bZ6 at h
 cases hk:biK b with
 | none =>
  rw[hk]at h
  cases J with
  | nil=>exact ff h
  | cons a ys =>
   obtain⟨h,h3⟩:=zn h
   obtain⟨h1,Y⟩:=zn h
   exact .inr ⟨a,ys,rfl,of_decide_eq_true h1,Y,h3⟩
 | some p =>
  rw[hk]at h
  cases J with
  | nil=>exact ff h
  | cons a ys=>cases ys with
   | nil=>exact ff h
   | cons b ys=>cases b with
    | Name y Z=>cases ys with
     | nil =>
      obtain⟨h,h5⟩:=zn h
      obtain⟨h,h4⟩:=zn h
      obtain⟨h,h3⟩:=zn h
      obtain⟨h1,Y⟩:=zn h
      exact .inl ⟨p.1,p.2,a,y,Z,rfl,rfl,of_decide_eq_true h1,of_decide_eq_true h3,Y,h4,h5⟩
     | cons _ _=>exact ff h
    | _=>exact ff h
mutual
theorem sE:∀(e:mH) (E:Expr) (X:Cx) (J:Ck),CG Γ F n X J->mE J e E=true->EvT Γ X E (lr F e)
 | .var i,E,X,J,G,h=>by
  cases E with
  | Name x p =>
   exact bQ2 G h
  | _=>exact ff h
 | .cst c,E,X,J,G,h=>by
  cases E with
  | Constant v k p =>
   exact bN9 h
  | _=>exact ff h
 | .glob g,E,X,J,G,h=>by
  cases E with
  | Name x p =>
   obtain⟨Z,Y⟩:=zn h
   have e:=of_decide_eq_true Z
   subst e
   exact bB8 G Y
  | _=>exact ff h
 | .bin op a b,E,X,J,G,h=>by
  cases E with
  | BinOp l o r pE =>
   obtain⟨h,h3⟩:=zn h
   obtain⟨Z,Y⟩:=zn h
   have e:=of_decide_eq_true Z
   subst e
   exact bC5 G op (sE a _ X J G Y) (sE b _ X J G h3)
  | _=>exact ff h
 | .neg a,E,X,J,G,h=>by
  cases E with
  | UnaryOp o l p =>
   cases o with
   | USub =>
    exact bB6 (sE a _ X J G h)
   | _=>exact ff h
  | _=>exact ff h
 | .not a,E,X,J,G,h=>by
  cases E with
  | UnaryOp o l p =>
   cases o with
   | Not =>
    exact bF4 (sE a _ X J G h)
   | _=>exact ff h
  | _=>exact ff h
 | .cmp op a b,E,X,J,G,h=>by
  cases E with
  | Compare l os rs pE =>
   cases os with
   | cons o os_0 =>
    cases os_0 with
    | nil =>
     cases rs with
     | cons r rs_0 =>
      cases rs_0 with
      | nil =>
       obtain⟨h,h3⟩:=zn h
       obtain⟨Z,Y⟩:=zn h
       have e:=of_decide_eq_true Z
       subst e
       exact bv1 G op (aK4 h3) (sE a _ X J G Y) (sE b _ X J G h3)
      | _=>exact ff h
     | _=>exact ff h
    | _=>exact ff h
   | _=>exact ff h
  | _=>exact ff h
 | .chain _ _ _ _ _,E,X,J,G,h=>ff h
 | .isN _,E,X,J,G,h=>ff h
 | .notN _,E,X,J,G,h=>ff h
 | .isB _ _,E,X,J,G,h=>ff h
 | .notB _ _,E,X,J,G,h=>ff h
 | .and a b,E,X,J,G,h=>by
  cases E with
  | BoolOp op vs p=>cases op with
   | And =>
    cases vs with
    | nil=>exact ff h
    | cons l vs=>cases vs with
     | nil=>exact ff h
     | cons r vs=>cases vs with
      | nil =>
       obtain⟨Z,Y⟩:=zn h
       exact bG5 (sE a _ X J G Z) (sE b _ X J G Y)
      | cons r2 vs =>
       obtain⟨Z,Y⟩:=zn h
       exact bz1 (sE a _ X J G Z) (sE b _ X J G Y)
   | _=>exact ff h
  | _=>exact ff h
 | .or a b,E,X,J,G,h=>by
  cases E with
  | BoolOp op vs p=>cases op with
   | Or =>
    cases vs with
    | nil=>exact ff h
    | cons l vs=>cases vs with
     | nil=>exact ff h
     | cons r vs=>cases vs with
      | nil =>
       obtain⟨Z,Y⟩:=zn h
       exact bU0 (sE a _ X J G Z) (sE b _ X J G Y)
      | cons r2 vs =>
       obtain⟨Z,Y⟩:=zn h
       exact bU7 (sE a _ X J G Z) (sE b _ X J G Y)
   | _=>exact ff h
  | _=>exact ff h
 | .ite c a b,E,X,J,G,h=>by
  cases E with
  | IfExp tE l r pE =>
   obtain⟨h,h3⟩:=zn h
   obtain⟨Z,Y⟩:=zn h
   exact bD1 (sE c _ X J G Z) (sE a _ X J G Y) (sE b _ X J G h3)
  | _=>exact ff h
 | .tup es,E,X,J,G,h=>by
  cases E with
  | Tuple xs k p =>
   obtain⟨Z,Y⟩:=zn h
   exact bE1 Z (of_decide_eq_true Y) (an7 (sEs es _ X J G Z))
  | _=>exact ff h
 | .lst es,E,X,J,G,h=>by
  cases E with
  | List xs p =>
   obtain⟨Z,Y⟩:=zn h
   exact bB0 Z (of_decide_eq_true Y) (an7 (sEs es _ X J G Z))
  | _=>exact ff h
 | .dic .nil .nil,E,X,J,G,h=>by
  cases E with
  | Dict a b p=>cases a with
   | nil=>cases b with
    | nil=>exact .val (bn2.imp λ σ H Q q=>bQ3 (TEv.eq (λ ρ s=>rfl) q))
    | _=>exact ff h
   | cons x a=>cases x with
    | none=>exact ff h
    | some x=>cases a with
     | nil=>cases b with
      | nil=>exact ff h
      | cons y b=>cases b with
       | nil=>exact ff h
       | _=>exact ff h
     | _=>exact ff h
  | _=>exact ff h
 | .dic (.cons k .nil) (.cons v .nil),E,X,J,G,h=>by
  cases E with
  | Dict a b p=>cases a with
   | nil=>cases b with
    | nil=>exact ff h
    | _=>exact ff h
   | cons x a=>cases x with
    | none=>exact ff h
    | some x=>cases a with
     | nil=>cases b with
      | nil=>exact ff h
      | cons y b=>cases b with
       | nil =>
        obtain⟨Z,Y⟩:=zn h
        obtain⟨Z,_⟩:=zn Z
        obtain⟨Z,_⟩:=zn Z
        obtain⟨Y,_⟩:=zn Y
        obtain⟨Y,_⟩:=zn Y
        exact .val ((bD6 (bh9 (sE k _ X J G Z).1 (sE v _ X J G Y).1 bI1) rfl rfl (by nofun) (by show 1<=15;decide)).imp λ σ H Q q=>bY3 (TEv.eq (λ ρ s=>rfl) q))
       | _=>exact ff h
     | _=>exact ff h
  | _=>exact ff h
 | .dic .nil (.cons _ _),E,X,J,G,h=>aO4 λ _ _=>rfl
 | .dic (.cons _ .nil) .nil,E,X,J,G,h=>aO4 λ _ _=>rfl
 | .dic (.cons _ .nil) (.cons _ (.cons _ _)),E,X,J,G,h=>aO4 λ _ _=>rfl
 | .dic (.cons _ (.cons _ _)) _,E,X,J,G,h=>aO4 λ _ _=>rfl
 | .bitl _,E,X,J,G,h=>ff h
 | .lrng _,E,X,J,G,h=>ff h
 | .dicT,E,X,J,G,h=>ff h
 | .get2 _ _ _,E,X,J,G,h=>ff h
 | .ix a b,E,X,J,G,h=>by
  cases E with
  | Subscript o i p =>
   obtain⟨Z,Y⟩:=zn h
   exact bV5 G (aK4 Y) (sE a _ X J G Z) (sE b _ X J G Y)
  | _=>exact ff h
 | .slL _ _,E,X,J,G,h=>ff h
 | .slU a hi,E,X,J,G,h=>by
  cases E with
  | Subscript o i p =>
   cases i with
   | Slice lo hi st p2 =>
    cases lo with
    | none =>
     cases hi with
     | some l =>
      cases st with
      | none =>
       obtain⟨Z,Y⟩:=zn h
       exact bI5 G (sE a _ X J G Z) (sE hi _ X J G Y)
      | _=>exact ff h
     | _=>exact ff h
    | _=>exact ff h
   | _=>exact ff h
  | _=>exact ff h
 | .slLU _ _ _,E,X,J,G,h=>ff h
 | .rev _,E,X,J,G,h=>ff h
 | .call f as,E,X,J,G,h=>by
  cases E with
  | Call fE xs kw p =>
   cases fE with
   | Name x pN =>
    cases kw with
    | nil =>
     obtain⟨h,h3⟩:=zn h
     obtain⟨Z,Y⟩:=zn h
     have e:=of_decide_eq_true Z
     subst e
     exact bk6 G Y h3 (sAs as _ X J G h3)
    | _=>exact ff h
   | _=>exact ff h
  | _=>exact ff h
 | .callC f as,E,X,J,G,h=>by
  cases E with
  | Call fE xs kw p =>
   cases fE with
   | Name x pN =>
    cases xs with
    | cons y ys =>
     cases kw with
     | nil =>
      obtain⟨h,h3⟩:=zn h
      obtain⟨h,h4⟩:=zn h
      obtain⟨Z,Y⟩:=zn h
      have e:=of_decide_eq_true Z
      subst e
      obtain⟨id,a0,E',a1⟩:=aK5 h3 h4
      obtain⟨_,_,_,_,_,_,_,_,L⟩:=G.lam id a0 E' a1
      exact .val ((bc6 G Y L.fn L.kd (ay6 h3) (cc7 as _ X J G h3)).imp λ σ H Q q=>TEv.eq (λ ρ s=>rfl) q)
     | _=>exact ff h
    | _=>exact ff h
   | _=>exact ff h
  | _=>exact ff h
 | .callV i es,E,X,J,G,h=>by
  cases E with
  | Call fE xs kw p =>
   cases fE with
   | Name x pN =>
    cases xs with
    | cons y ys =>
     cases kw with
     | nil =>
      obtain⟨Z,Y⟩:=zn h
      exact .val (bg1 G Z (ax7 Y) (an7 (sEs es _ X J G Y)) (bS9 G Z))
     | _=>exact ff h
    | _=>exact ff h
   | _=>exact ff h
  | _=>exact ff h
 | .bi b es,E,X,J,G,h=>by
  cases E with
  | Call fE xs kw p =>
   cases fE with
   | Name x pN =>
    cases kw with
    | nil =>
     have h:bZ6 J b x xs (mEs J es xs) (mEs J es (xs.take 1))=true:=h
     rcases biOk_inv h with⟨k,t,a,y,py,hk,rfl,rfl,rfl,Y,h4,h5⟩|⟨a,ys,rfl,Z,Y,h3⟩
     ·exact by7 G hk Y h4 (sEs es _ X J G h5)
     ·exact bP3 G Z Y h3 (an7 (sEs es _ X J G h3))
    | _=>exact ff h
   | _=>exact ff h
  | _=>exact ff h
 | .mk k l,E,X,J,G,h=>by
  cases E with
  | ListComp e gs sc p =>
   obtain⟨Z,Y⟩:=zn h
   have e:=of_decide_eq_true Z
   subst e
   exact .val (((bU5 (sL l _ X J G 0 Y)).pe G.calm).imp λ σ H Q q=>bc7 (TEv.eq (λ ρ s=>rfl) q))
  | Call fE xs kw p =>
   cases fE with
   | Name x pN =>
    cases xs with
    | cons a xs_0 =>
     cases xs_0 with
     | nil =>
      cases kw with
      | nil =>
       obtain⟨h,h4⟩:=zn h
       obtain⟨Y,h3⟩:=zn h
       rw[b9]at h4
       rcases h4 with h4|h4
       ·obtain⟨h5,h6⟩:=zn h4
        exact .val ((bS8 G (of_decide_eq_true h5) Y h3 (cg0 G (sL l _ X J G 2 h6))).imp λ σ H Q q=>TEv.eq (λ ρ s=>rfl) q)
       ·obtain⟨h5,h6⟩:=zn h4
        exact .val ((bV0 G (of_decide_eq_true h5) Y h3 (ca5 G (sL l _ X J G 1 h6))).imp λ σ H Q q=>TEv.eq (λ ρ s=>rfl) q)
      | _=>exact ff h
     | _=>exact ff h
    | _=>exact ff h
   | _=>exact ff h
  | _=>exact ff h
 | .mks _ _,E,X,J,G,h=>ff h
 | .mkDs _ _ _,E,X,J,G,h=>ff h
 | .mkD _ _ _,E,X,J,G,h=>ff h
 | .meth m o es,E,X,J,G,h=>by
  cases E with
  | Call fE xs kw p =>
   cases fE with
   | Attribute ob x ap =>
    cases kw with
    | nil =>
     obtain⟨h,h5⟩:=zn h
     obtain⟨h,h4⟩:=zn h
     obtain⟨h,h3⟩:=zn h
     obtain⟨Z,Y⟩:=zn h
     exact bk0 G (of_decide_eq_true Z) Y h3 (sE o _ X J G h4).1 h5 (sEs es _ X J G h5)
    | _=>exact ff h
   | _=>exact ff h
  | _=>exact ff h
 | .ext _ _,E,X,J,G,h=>ff h
 | .extS _ _,E,X,J,G,h=>ff h
 | .join o e',E,X,J,G,h=>by
  cases E with
  | Call fE xs kw p =>
   cases fE with
   | Attribute ob x ap =>
    cases xs with
    | cons a xs_0 =>
     cases xs_0 with
     | nil =>
      cases kw with
      | nil =>
       obtain⟨h,h6⟩:=zn h
       obtain⟨h,h5⟩:=zn h
       obtain⟨h,h4⟩:=zn h
       obtain⟨h,h3⟩:=zn h
       obtain⟨Z,Y⟩:=zn h
       have e:=of_decide_eq_true Z
       subst e
       exact .val ((bH1 G Y h3 (sE o _ X J G h4).1 h6 (sE e' _ X J G h5).1).imp λ σ H Q q=>TEv.eq (λ ρ s=>rfl) q)
      | _=>exact ff h
     | _=>exact ff h
    | _=>exact ff h
   | _=>exact ff h
  | _=>exact ff h
theorem sEs:∀(es:lF) (p:List Expr) (X:Cx) (y:Ck),CG Γ F n X y->mEs y es p=true->PEs Γ F X es p
 | .nil,p,X,y,G,h=>by
  cases p with
  | nil =>
   exact trivial
  | _=>exact ff h
 | .cons e es,p,X,y,G,h=>by
  cases p with
  | cons x p =>
   obtain⟨h,h3⟩:=zn h
   obtain⟨Y,J⟩:=zn h
   exact⟨⟨J,sE e _ X y G Y⟩,sEs es _ X y G h3⟩
  | _=>exact ff h
theorem sAs:∀(es:lW) (p:List Expr) (X:Cx) (y:Ck),CG Γ F n X y->mAs y es p=true->PA X p (TAv Γ (lU F es))
 | .nil,p,X,y,G,h=>by
  cases p with
  | nil =>
   exact ai2.imp λ σ H Q q=>aN8 (TAv.eq (λ ρ s=>rfl) q)
  | _=>exact ff h
 | .ex e es,p,X,y,G,h=>by
  cases p with
  | cons x p =>
   obtain⟨h,h3⟩:=zn h
   obtain⟨Y,J⟩:=zn h
   exact(aN9 J (sE e _ X y G Y).1 (sAs es _ X y G h3)).imp λ σ H Q q=>TAv.eq (λ ρ s=>rfl) q
  | _=>exact ff h
 | .lam _ _ _,p,X,y,G,h=>ff h
 | .fn _ _,p,X,y,G,h=>ff h
theorem cc7:∀(es:lW) (y:List Expr) (X:Cx) (Y:Ck),CG Γ F n X Y->bJ3 Y es y=true->PA X y (TAp Γ X.env.cells X.N (lU F es))
 | .nil,y,X,Y,G,h=>by
  cases y with
  | nil =>
   exact ai2.imp λ σ H Q q=>bu9 (TAp.eq (λ ρ s=>rfl) q)
  | _=>exact ff h
 | .ex e es,y,X,Y,G,h=>by
  cases y with
  | cons x y =>
   obtain⟨h,h3⟩:=zn h
   obtain⟨h1,h2⟩:=zn h
   exact(zW (sE e _ X Y G h1).1 (cc7 es _ X Y G h3) (zl h2)).imp λ σ H Q q=>bW3 (TAp.eq (λ ρ s=>rfl) q)
  | _=>exact ff h
 | .lam id caps es,y,X,Y,G,h=>by
  cases y with
  | cons x y =>
   obtain⟨h,h3⟩:=zn h
   obtain⟨h1,h2⟩:=zn h
   obtain⟨c,P,params,body,scope,pos,J,e,L⟩:=G.lam id caps _ h1
   have Z:J.nm=none:=by
    cases q:J.nm with
    | none=>rfl
    | some p=>unfold lamText at e;rw[q]at e;rw[e]at h2;cases h2
   unfold lamText at e
   rw[Z]at e
   dsimp only at e
   subst e
   rw[<-G.N]at L
   exact(bX2 L Z (cc7 es _ X Y G h3)).imp λ σ H Q q=>TAp.eq (λ ρ s=>rfl) q
  | _=>exact ff h
 | .fn _ _,y,X,Y,G,h=>ff h
theorem sI:∀(i:DV.I) (E tg:Expr) (X:Cx) (y:Ck),CG Γ F n X y->mI y tg i E=true->PI X tg E (TIv Γ (nr F i))
 | .seq e,E,tg,X,y,G,h=>by
  obtain⟨J,Y⟩:=zn h
  exact bz0 G (sE e _ X y G J).1
 | .rng1 a,E,tg,X,y,G,h=>by
  cases E with
  | Call fE xs kw p =>
   cases fE with
   | Name x pN =>
    cases xs with
    | cons l xs_0 =>
     cases xs_0 with
     | nil =>
      cases kw with
      | nil =>
       obtain⟨h,Z⟩:=zn h
       obtain⟨h,h3⟩:=zn h
       obtain⟨J,Y⟩:=zn h
       have e:=of_decide_eq_true J
       subst e
       exact bp2 G Y Z (sE a _ X y G h3).1
      | _=>exact ff h
     | _=>exact ff h
    | _=>exact ff h
   | _=>exact ff h
  | _=>exact ff h
 | .rng2 _ _,E,tg,X,y,G,h=>ff h
 | .rng3 _ _ _,E,tg,X,y,G,h=>ff h
 | .enum (.seq _),E,tg,X,y,G,h=>ff h
 | .enum (.rng1 _),E,tg,X,y,G,h=>ff h
 | .enum (.rng2 _ _),E,tg,X,y,G,h=>ff h
 | .enum (.rng3 _ _ _),E,tg,X,y,G,h=>ff h
 | .enum (.enum _),E,tg,X,y,G,h=>ff h
 | .enum (.zip _ _),E,tg,X,y,G,h=>ff h
 | .enum (.items _),E,tg,X,y,G,h=>ff h
 | .zip (.seq _) (.seq _),E,tg,X,y,G,h=>ff h
 | .zip (.seq _) (.rng1 _),E,tg,X,y,G,h=>ff h
 | .zip (.seq _) (.rng2 _ _),E,tg,X,y,G,h=>ff h
 | .zip (.seq _) (.rng3 _ _ _),E,tg,X,y,G,h=>ff h
 | .zip (.seq _) (.enum _),E,tg,X,y,G,h=>ff h
 | .zip (.seq _) (.zip _ _),E,tg,X,y,G,h=>ff h
 | .zip (.seq _) (.items _),E,tg,X,y,G,h=>ff h
 | .zip (.rng1 _) _,E,tg,X,y,G,h=>ff h
 | .zip (.rng2 _ _) _,E,tg,X,y,G,h=>ff h
 | .zip (.rng3 _ _ _) _,E,tg,X,y,G,h=>ff h
 | .zip (.enum _) _,E,tg,X,y,G,h=>ff h
 | .zip (.zip _ _) _,E,tg,X,y,G,h=>ff h
 | .zip (.items _) _,E,tg,X,y,G,h=>ff h
 | .items _,E,tg,X,y,G,h=>ff h
theorem sL:∀(l:DV.L) (E:Expr) (X:Cx) (J:Ck),CG Γ F n X J->∀ k,mL J k l E=true->LK Γ X (DV.evL F l) E k
 | .comp tg it e caps,E,X,J,G,k,h=>by
  cases E with
  | ListComp elt gs scope p =>
   cases gs with
   | cons g gs1 =>
    cases g with
    | mk tgt iter ifs z =>
     cases ifs with
     | nil =>
      cases gs1 with
      | nil =>
       obtain⟨h,h3⟩:=zn h
       obtain⟨h,Y⟩:=zn h
       obtain⟨h0,y⟩:=zn h
       have Z:=of_decide_eq_true h0
       subst Z
       have c:=bo8 (pos:=p) G y (sI it _ _ X J G Y) λ C cells s H ex=>(sE e _ _ _ ((G.comp y).2.2 C cells s H ex).1 h3).1
       exact .c (c.eq λ ρ s=>rfl)
      | _=>exact ff h
     | _=>exact ff h
   | _=>exact ff h
  | _=>exact ff h
 | .compIf tg it i e caps,E,X,J,G,k,h=>by
  cases E with
  | ListComp elt gs scope p =>
   cases gs with
   | cons g gs1 =>
    cases g with
    | mk tgt iter ifs z =>
     cases ifs with
     | cons i1 ifs1 =>
      cases ifs1 with
      | nil =>
       cases gs1 with
       | nil =>
        obtain⟨h,h4⟩:=zn h
        obtain⟨h,h3⟩:=zn h
        obtain⟨h,Y⟩:=zn h
        obtain⟨h0,y⟩:=zn h
        have Z:=of_decide_eq_true h0
        subst Z
        have c:=bA0 (pos:=p) G y (sI it _ _ X J G Y) (λ C cells s H ex=>(sE i _ _ _ ((G.comp y).2.2 C cells s H ex).1 h3).2) λ C cells s H ex=>(sE e _ _ _ ((G.comp y).2.2 C cells s H ex).1 h4).1
        exact .c (c.eq λ ρ s=>rfl)
       | _=>exact ff h
      | _=>exact ff h
     | _=>exact ff h
   | _=>exact ff h
  | _=>exact ff h
 | .disp es,E,X,J,G,k,h=>by
  cases E with
  | List xs p =>
   obtain⟨h,Y⟩:=zn h
   obtain⟨h0,y⟩:=zn h
   exact .f (of_decide_eq_true h0) (bz9 y (of_decide_eq_true Y) (an7 (sEs es _ X J G y)))
  | _=>exact ff h
 | .seq e,E,X,J,G,k,h=>by
  obtain⟨h0,y⟩:=zn h
  exact .s (of_decide_eq_true h0) ((sE e _ X J G y).1.imp λ σ H Q q=>bY8 (TLv.eq (λ ρ s=>rfl) q))
 | .itm _,E,X,J,G,k,h=>ff h
end
end
section
variable {Γ:Gm} {F:lA} {n:Nat}
theorem bm1 {X:Cx}{ck:Ck}{m:ln->lh->lp (List li)}{E:Expr}{x:Str}{i:Nat}{px pos:Pos}(G:CG Γ F n X ck)(c:CompF Γ X m E)(hi:ck.N[i]?=some x)(hl:ck.loc x=true) :
  PS X (.Assign [.Name x px] E pos) (bk5 (TFv Γ m) (aA2 i)):=by
 obtain⟨J,a0,iter,Y,scope,p2,N',h,wi,g,tc,te,rfl,h1,h2,h3,h4,h5⟩:=c.ex
 obtain⟨l1,l2⟩:=G.loc hl
 have nd:X.N.Nodup:=by rw[G.N];exact G.nd
 have p:X.N[i]?=some x:=by rw[G.N];exact hi
 generalize hb:((X.env.blockKind==.function&&X.env.kindOf x==some .local&&px.line==(Expr.ListComp J [⟨a0,iter,Y,0⟩] scope p2).pos.line&&!(scope.names.any λ(n,k)=>n==x&&(k==.local||k==.cell))))=b
 have Z:e8 (.ListComp J [⟨a0,iter,Y,0⟩] scope p2) (some (.Name x px)) pos.line X.env=pure b:=by rw[<-hb];rfl
 have imp:∀ D σ H,bk5 (TFv Γ m) (aA2 i) D σ H->bk5 (tComp h wi g tc te) (aA2 i) D σ H:=λ D σ H q=>h5 _ _ _ q
 cases b with
 | true =>
  have y:X.env.scope.names.lookup x=some .local:=by
   simp only[ag]at hb
   exact eq_of_beq hb.1.1.2
  exact(aS1 N' h nd p y h1 h2 G.calm h3 h4 Z).imp imp
 | false=>exact(bt6 nd p l1 (aZ4 N' h h1 h2 G.calm h3 h4) Z l2).imp imp
theorem bv6 {X:Cx}{y:Ck}{e:mH}{v:Expr}{x:Str}{i:Nat}{px pos:Pos}(G:CG Γ F n X y)(Y:y.N[i]?=some x)(hl:y.loc x=true)(h:mE y e v=true) :
  PS X (.Assign [.Name x px] v pos) (TSv Γ (DV.ex F (.asg (.one i) e))):=by
 obtain⟨l1,Z⟩:=G.loc hl
 have nd:X.N.Nodup:=by rw[G.N];exact G.nd
 have J:X.N[i]?=some x:=by rw[G.N];exact Y
 by_cases hc:aD8 v=true
 ·exact(bt6 nd J l1 (sE e v X y G h).1 (ar9 hc) Z).imp λ D σ H q=>bb9 (tg:=.one i) (TSv.eq (λ ρ s=>rfl) q)
 ·have hs:=aK4 h
  cases v with
  | ListComp elt gs sc p =>
   cases e with
   | mk k l =>
    obtain⟨h1,h2⟩:=zn h
    have e:=of_decide_eq_true h1
    subst e
    exact(bm1 G (bU5 (sL l _ X y G 0 h2)) Y hl).imp λ D σ H q=>bh7 (tg:=.one i) (TSv.eq (λ ρ s=>rfl) q)
   | _=>exact ff h
  | SetComp _ _ _ _=>cases hs
  | DictComp _ _ _ _ _=>cases hs
  | _=>exact absurd rfl hc
mutual
theorem sS:∀(st:DV.S) (S:Stmt) (X:Cx) (y:Ck),CG Γ F n X y->mS y st S=true->PS X S (TSv Γ (DV.ex F st))
 | .asg tg e,S,X,y,G,h=>by
  cases S with
  | Assign ts v p =>
   cases ts with
   | cons t ts1 =>
    cases ts1 with
    | nil =>
     obtain⟨h,h3⟩:=zn h
     obtain⟨Y,J⟩:=zn h
     cases tg with
     | one i =>
      have h:=Y
      cases t with
      | Name x px =>
       obtain⟨a1,Z⟩:=zn h
       exact bv6 G (of_decide_eq_true a1) Z J
      | _=>exact ff h
     | tup is =>
      obtain⟨a1,Z⟩:=zn h3
      have h:=Y
      cases t with
      | Tuple te tk tp=>exact(bt8 (sE e _ X y G J).1 (bv3 G Y) (show e8 v (some (.Tuple te tk tp)) p.line X.env=pure false from ar9 Z) (aR0 a1) rfl).imp λ D σ H q=>bb9 (TSv.eq (λ ρ s=>rfl) q)
      | _=>exact ff h
    | _=>exact ff h
   | _=>exact ff h
  | _=>exact ff h
 | .setIx o i e,S,X,y,G,h=>by
  cases S with
  | Assign ts v p2 =>
   cases ts with
   | cons tt ts1 =>
    cases tt with
    | Subscript ob ix p1 =>
     cases ts1 with
     | nil =>
      obtain⟨h,h5⟩:=zn h
      obtain⟨h,h4⟩:=zn h
      obtain⟨h,h3⟩:=zn h
      obtain⟨Y,J⟩:=zn h
      have a0:=aK4 J
      refine(bt8 (sE e _ X y G h3).1 (bR0 (sE o _ X y G Y).1 (sE i _ X y G J).1 (bS2 (bV3 G.room)) ?_) (show e8 v (some (.Subscript ob ix p1)) p2.line X.env=pure false from ar9 h4) (aS5 h5) ?_).imp λ D σ H q=>bj8 (TSv.eq (λ ρ s=>rfl) q)
      ·intro w
       cases ix<;>first|rfl|cases a0
      ·rfl
     | _=>exact ff h
    | _=>exact ff h
   | _=>exact ff h
  | _=>exact ff h
 | .aug _ _,S,X,y,G,h=>ff h
 | .ex e,S,X,y,G,h=>by
  cases S with
  | Expr v p =>
   obtain⟨Y,J⟩:=zn h
   exact(aY7 (sE e _ X y G Y).1 (ar9 J)).imp λ D σ H q=>bz2 (TSv.eq (λ ρ s=>rfl) q)
  | _=>exact ff h
 | .ret e,S,X,y,G,h=>by
  cases S with
  | Return vo p =>
   cases vo with
   | some v =>
    exact(aC1 (sE e _ X y G h).1).imp λ D σ H q=>bQ1 (TSv.eq (λ ρ s=>rfl) q)
   | _=>exact ff h
  | _=>exact ff h
 | .retN,S,X,y,G,h=>ff h
 | .ite c a b,S,X,y,G,h=>by
  cases S with
  | If t l r p =>
   obtain⟨h,h3⟩:=zn h
   obtain⟨Y,J⟩:=zn h
   exact(bD2 (sE c _ X y G Y).2 (sSs a _ X y G J) (sSs b _ X y G h3)).imp λ D σ H q=>cf2 (TSv.eq (λ ρ s=>rfl) q)
  | _=>exact ff h
 | .whl c b,S,X,y,G,h=>by
  cases S with
  | While t l o p =>
   cases o with
   | nil =>
    obtain⟨Y,J⟩:=zn h
    exact(bi4 (by rw[G.xe];exact j5) (sE c _ X y G Y).2 (sSs b _ X y G J)).imp λ D σ H q=>bk1 (TSv.eq (λ ρ s=>rfl) q)
   | _=>exact ff h
  | _=>exact ff h
 | .for_ tg it b,S,X,y,G,h=>by
  cases S with
  | For tgt iter l o p =>
   cases o with
   | nil =>
    obtain⟨h,h3⟩:=zn h
    obtain⟨Y,J⟩:=zn h
    exact(bN7 (by rw[G.xe];exact j5) G.calm (sI it _ _ X y G J) (bv3 G Y) (sSs b _ X y G h3) (aJ4 (bY5 J))).imp λ D σ H q=>bR2 (TSv.eq (λ ρ s=>rfl) q)
   | _=>exact ff h
  | _=>exact ff h
 | .pass,S,X,y,G,h=>ff h
 | .cont,S,X,y,G,h=>ff h
 | .brk,S,X,y,G,h=>ff h
 | .und _,S,X,y,G,h=>ff h
 | .raise,S,X,y,G,h=>bl6.imp λ D σ H q=>by
  obtain⟨φ,ρ,s,c,s',E,R,hm,q⟩:=q
  cases hm
theorem sSs:∀(st:DV.Ss) (S:List Stmt) (X:Cx) (p:Ck),CG Γ F n X p->mSs p st S=true->PSs X S (TSv Γ (DV.exs F st))
 | .nil,S,X,p,G,h=>by
  cases S with
  | nil =>
   exact az0.imp λ D σ H q=>bE0 (m:=DV.exs F .nil) (λ ρ s=>rfl) q
  | _=>exact ff h
 | .cons s ss,S,X,p,G,h=>by
  cases S with
  | cons x xs =>
   obtain⟨J,y⟩:=zn h
   exact(qm (sS s _ X p G J) (sSs ss _ X p G y)).imp λ D σ H q=>bW7 (TSv.eq (λ ρ s=>rfl) q)
  | _=>exact ff h
end
end
noncomputable def cf5 (ck:Ck):List String->List Expr->Bool
 | [],xs=>match xs with|[]=>true|_=>false
 | c::cs,xs=>match xs with|.Name x _::es=>decide (x=(c:Str))&&ck.gl x&&cf5 ck cs es|_=>false
noncomputable def mHT (ck:Ck)(n:Str):DV.HT->Expr->Bool
 | .isi cs,E=>match E with|.Call (.Name g _) [.Name x _,.Tuple es _ _] [] _=>decide (g=("isinstance":Str))&&ck.gl g&&decide (x=n)&&cf5 ck cs es&&decide (cs.length<=1000)|_=>false
 | .one c,E=>match E with|.Call (.Name g _) [.Name x _,.Name d _] [] _=>decide (g=("isinstance":Str))&&ck.gl g&&decide (x=n)&&decide (d=(c:Str))&&ck.gl d|_=>false
 | .not t,E=>match E with|.UnaryOp .Not e _=>mHT ck n t e|_=>false
 | .or a b,E=>match E with|.BoolOp .Or [x,y] _=>mHT ck n a x&&mHT ck n b y|_=>false
noncomputable def mHd (ck:Ck)(n:Str):DV.Hd->List Stmt->Bool
 | .ret t,S=>match S with|[.Return (some e) _]=>mHT ck n t e|_=>false
 | .iff t b h,S=>match S with|.If e [.Return (some (.Constant (.bool b') _ _)) _] [] _::rest=>mHT ck n t e&&decide (b'=b)&&mHd ck n h rest|_=>false
structure XC (F:lA)(K:ac)(mg:Str->Option Value):Prop where
 at_:∀ c:String,F.xc c=true->∃ C,mg (c:Str)=some (.ref C)/\ExcCls K C/\excI K C=true
 cls:∀ c:String,F.xt c=true->∃ C,mg (c:Str)=some (.ref C)
 sub:∀(c d:String) (C D:Addr),F.xc c=true->F.xt d=true->mg (c:Str)=some (.ref C)->mg (d:Str)=some (.ref D)->bH K (.ref C) (.ref D)=some (lM c d)
theorem aE2:∀ {h:List Addr} {us:List Value},Vals (h.map V.ref) us->us=h.map Value.ref
 | [],_,.nil=>rfl
 | d::h,_,.cons r t=>by
  have e:=aE2 t
  subst e
  cases(show _=Value.ref d from r)
  rfl
def cn3 (K:ac)(a C:Addr):List V->Hp->VK->Prop:=λ xs H Q=>∃ y b,xs=[.ref a,y]/\((∃ D,y=.ref D/\bH K (.ref C) (.ref D)=some b)\/∃(p:Addr) (ds:List Addr),y=.ref p/\H p=some (.tup (ds.map V.ref))/\hJ K (.ref C) (ds.map Value.ref)=some b)/\Q (.bl b) H
section
variable {Γ:Gm} {F:lA} {n:Nat} {X:Cx} {ck:Ck} {a C:Addr} {oe:Obj}
theorem aP0 (G:dR X.K (.ref a) (.ref C) (λ h=>XAt h a C))(hcl:oe.cls=.ref C):ag6 (X.hnd a oe) (.builtin "isinstance") (cn3 X.K a C):=by
 intro J s σ H xs us Q I r h
 obtain⟨y,b,rfl,hc,q⟩:=h
 obtain⟨u,Z,rfl,r1,Y⟩:=bi0 r
 cases(show u=Value.ref a from r1)
 have hx:XAt s.heap a C:=⟨oe,(I.pin (a,oe) (aB ..)).1,hcl⟩
 rcases hc with⟨D,rfl,e⟩|⟨p,ds,rfl,hp,e⟩
 ·cases(show Z=Value.ref D from Y)
  exact bG G I.kIn hx e (λ z=>nomatch z) λ tk=>⟨.bl b,H,I.tok _,rfl,q⟩
 ·cases(show Z=Value.ref p from Y)
  obtain⟨z,its,rr,ob,e1,e2,nn,e3⟩:=(show ag2 X.prog X.w H s.heap p (.tup (ds.map V.ref))from I.hok p _ hp)
  have e4:=aE2 rr
  subst e4
  obtain⟨c0,dd,dt,sl⟩:=ob
  cases e2
  cases e3
  exact PySem.W.kia_tup G I.kIn hx e1 e (λ z=>nomatch z) λ tk=>⟨.bl b,H,I.tok _,rfl,q⟩
def tHv (i:Nat)(a:Addr)(b:Bool):TE:=λ σ H Q=>σ[i]?=some (some (.ref a))/\∀ H',ai1 H H'->Q (.bl b) H'
def tHt (i:Nat)(a:Addr)(b:Bool):TT:=λ σ H Q=>σ[i]?=some (some (.ref a))/\∀ H',ai1 H H'->Q b H'
theorem bj9 {H:Hp}{p:Addr}{o:HO}(h:H p=none):ai1 H (upd H p o):=λ b u e=>by rw[zd (zC e h)];exact e
theorem br7 (G:CG Γ F n X ck)(xc:XC F X.K X.mg):∀ {cs:List String} {es:List Expr},cf5 ck cs es=true->cs.all F.xt=true->∃ y:List Addr,y.length=cs.length/\PA (X.hnd a oe) es (λ σ H Q=>Q (y.map V.ref) H)/\(∀ e∈es,shp e=true) /\
  ∀(c:String),F.xc c=true->X.mg (c:Str)=some (.ref C)->hJ X.K (.ref C) (y.map Value.ref)=some (cs.any (lM c))
 | [],es,h,_=>by
  cases es with
  | nil=>exact⟨[],rfl,ai2.imp λ σ H Q q=>q,by nofun,λ c _ _=>rfl⟩
  | cons _ _=>exact ff h
 | d::cs,es,h,hc=>by
  cases es with
  | nil=>exact ff h
  | cons e es =>
   cases e with
   | Name x p =>
    obtain⟨h,h3⟩:=zn h
    obtain⟨h1,h2⟩:=zn h
    have e1:=of_decide_eq_true h1
    subst e1
    rw[cZ,ag]at hc
    obtain⟨D,hD⟩:=xc.cls d hc.1
    obtain⟨g1,g2,g3⟩:=G.gl h2
    obtain⟨y,hl,hp,hs,hk⟩:=br7 G xc h3 hc.2
    refine⟨D::y,by simp[hl],?_,λ e Z=>?_,λ c J Y=>?_⟩
    ·have h0:PE (X.hnd a oe) (.Name (d:Str) p) (tC (.ref D)):=ao9 (X:=X.hnd a oe) g1 hD rfl g2
     exact(zW h0 hp rfl).imp λ σ H Q q=>q
    ·rcases aE.mp Z with z|z
     ·subst z;rfl
     ·exact hs e z
    ·have e1:=xc.sub c d C D J hc.1 Y hD
     have e2:=hk c J Y
     rw[aG]
     show(match bH X.K (.ref C) (.ref D)with|some true=>some true|some false=>hJ X.K (.ref C) (y.map Value.ref)|none=>none)=_
     rw[e1]
     cases hs:lM c d with
     | true=>simp[hs]
     | false=>simp only[d9,hs,iC];exact e2
   | _=>exact ff h
theorem aY8 (G:CG Γ F n X ck)(xc:XC F X.K X.mg){c:String}(Z:F.xc c=true)(a0:X.mg (c:Str)=some (.ref C))(kx:dR X.K (.ref a) (.ref C) (λ h=>XAt h a C))(hcl:oe.cls=.ref C){nm:Str}{i:Nat}(hi:ck.N[i]?=some nm)(hv:Vis X.env.scope nm)(hd:(nm==("__debug__":Str))=false)(J:(nm==("__classdict__":Str))=false) :
  ∀ {t:DV.HT} {E:Expr},mHT ck nm t E=true->t.ok F.xt=true->PE (X.hnd a oe) E (tHv i a (t.val c))/\PT (X.hnd a oe) E (tHt i a (t.val c))
 | .isi cs,E,h,ho=>by
  cases E with
  | Call g xs kw p =>
   cases g with
   | Name g pg =>
    cases xs with
    | nil=>exact ff h
    | cons x xs=>cases x with
     | Name x px =>
      cases xs with
      | nil=>exact ff h
      | cons y xs=>cases y with
       | Tuple es k py =>
        cases xs with
        | cons _ _=>exact ff h
        | nil=>cases kw with
         | cons _ _=>exact ff h
         | nil =>
          obtain⟨h,h5⟩:=zn h
          obtain⟨h,h4⟩:=zn h
          obtain⟨h,h3⟩:=zn h
          obtain⟨h1,h2⟩:=zn h
          have e1:=of_decide_eq_true h1
          have e3:=of_decide_eq_true h3
          have e5:=of_decide_eq_true h5
          subst e1 e3
          obtain⟨g1,g2,g3⟩:=G.gl h2
          obtain⟨ds,hl,hp,hs,hk⟩:=br7 (a:=a) (C:=C) (oe:=oe) G xc h4 ho
          have Y:PE (X.hnd a oe) (.Name x px) (bx6 i):=aM4 (X:=X.hnd a oe) (by show X.N[i]?=_;rw[G.N];exact hi) hv hd J
          have pa:PA (X.hnd a oe) [.Name x px,.Tuple es k py] _:=zW Y (zW (bp9 hp) ai2 rfl) rfl
          have main:PE (X.hnd a oe) (.Call (.Name "isinstance" pg) [.Name x px,.Tuple es k py] [] p) (tHv i a (cs.any (lM c))):=by
           refine(al3 (aP0 kx hcl) (show Gl (X.hnd a oe) "isinstance" from g1) (G.bi _ (by decide)) jl pa g3 g2 rfl rfl).imp λ σ H Q q=>?_
           exact⟨.ref a,q.1,by rw[aC,hl];exact ao e5 (by decide),λ p a3=>⟨.ref p,_,rfl,.inr ⟨p,ds,rfl,zm,hk c Z a0⟩,q.2 _ (bj9 a3)⟩⟩
          refine⟨main,(bb2 main).imp λ σ H Q q=>?_⟩
          exact⟨q.1,λ H' s=>⟨_,rfl,q.2 H' s⟩⟩
       | _=>exact ff h
     | _=>exact ff h
   | _=>exact ff h
  | _=>exact ff h
 | .one d,E,h,ho=>by
  cases E with
  | Call g xs kw p =>
   cases g with
   | Name g pg =>
    cases xs with
    | nil=>exact ff h
    | cons x xs=>cases x with
     | Name x px =>
      cases xs with
      | nil=>exact ff h
      | cons y xs=>cases y with
       | Name y py =>
        cases xs with
        | cons _ _=>exact ff h
        | nil=>cases kw with
         | cons _ _=>exact ff h
         | nil =>
          obtain⟨h,h5⟩:=zn h
          obtain⟨h,h4⟩:=zn h
          obtain⟨h,h3⟩:=zn h
          obtain⟨h1,h2⟩:=zn h
          have e1:=of_decide_eq_true h1
          have e3:=of_decide_eq_true h3
          have e4:=of_decide_eq_true h4
          subst e1 e3 e4
          obtain⟨g1,g2,g3⟩:=G.gl h2
          obtain⟨k1,k2,k3⟩:=G.gl h5
          obtain⟨D,hD⟩:=xc.cls d ho
          have Y:PE (X.hnd a oe) (.Name x px) (bx6 i):=aM4 (X:=X.hnd a oe) (by show X.N[i]?=_;rw[G.N];exact hi) hv hd J
          have a2:PE (X.hnd a oe) (.Name (d:Str) py) (tC (.ref D)):=ao9 (X:=X.hnd a oe) k1 hD rfl k2
          have pa:PA (X.hnd a oe) [.Name x px,.Name (d:Str) py] _:=zW Y (zW a2 ai2 rfl) rfl
          have main:PE (X.hnd a oe) (.Call (.Name "isinstance" pg) [.Name x px,.Name (d:Str) py] [] p) (tHv i a (lM c d)):=by
           refine(al3 (aP0 kx hcl) (show Gl (X.hnd a oe) "isinstance" from g1) (G.bi _ (by decide)) jl pa g3 g2 rfl rfl).imp λ σ H Q q=>?_
           exact⟨.ref a,q.1,⟨.ref D,_,rfl,.inl ⟨D,rfl,xc.sub c d C D Z ho a0 hD⟩,q.2 _ (ai1.refl _)⟩⟩
          refine⟨main,(bb2 main).imp λ σ H Q q=>?_⟩
          exact⟨q.1,λ H' s=>⟨_,rfl,q.2 H' s⟩⟩
       | _=>exact ff h
     | _=>exact ff h
   | _=>exact ff h
  | _=>exact ff h
 | .not t,E,h,ho=>by
  cases E with
  | UnaryOp o l p=>cases o with
   | Not =>
    obtain⟨h1,h2⟩:=aY8 G xc Z a0 kx hcl hi hv hd J (t:=t) (E:=l) h ho
    exact⟨(br3 h1).imp λ σ H Q q=>⟨q.1,λ H' s=>⟨_,rfl,q.2 H' s⟩⟩,(bs0 h2).imp λ σ H Q q=>⟨q.1,λ H' s=>q.2 H' s⟩⟩
   | _=>exact ff h
  | _=>exact ff h
 | .or t u,E,h,ho=>by
  cases E with
  | BoolOp op vs p=>cases op with
   | Or=>cases vs with
    | nil=>exact ff h
    | cons l vs=>cases vs with
     | nil=>exact ff h
     | cons r vs=>cases vs with
      | cons _ _=>exact ff h
      | nil =>
       obtain⟨m1,m2⟩:=zn h
       have a1:(t.ok F.xt&&u.ok F.xt)=true:=ho
       rw[ag]at a1
       obtain⟨h1,h2⟩:=aY8 G xc Z a0 kx hcl hi hv hd J (t:=t) (E:=l) m1 a1.1
       obtain⟨h3,h4⟩:=aY8 G xc Z a0 kx hcl hi hv hd J (t:=u) (E:=r) m2 a1.2
       have ev:(DV.HT.or t u).val c=if t.val c then true else u.val c:=rfl
       refine⟨(bu7 h1 (be6 h3)).imp λ σ H Q q=>⟨q.1,λ H' s=>⟨_,rfl,?_⟩⟩,(bE7 h2 (br6 h4)).pt.imp λ σ H Q q=>⟨q.1,λ H' s=>?_⟩⟩
       ·rw[ev]at q
        cases hb:t.val c with
        | true=>rw[hb]at q;exact q.2 H' s
        | false=>rw[hb]at q;exact⟨q.1,λ H2 s2=>q.2 H2 (s.trans s2)⟩
       ·rw[ev]at q
        cases hb:t.val c with
        | true=>rw[hb]at q;exact q.2 H' s
        | false=>rw[hb]at q;exact⟨q.1,λ H2 s2=>q.2 H2 (s.trans s2)⟩
   | _=>exact ff h
  | _=>exact ff h
end
def tHd (i:Nat)(a:Addr)(b:Bool):TS:=λ D σ H=>σ[i]?=some (some (.ref a))/\∀ H',ai1 H H'->D.rt (.bl b) H'
noncomputable def mX (ck:Ck):DV.XB->List Stmt->Bool
 | .no,_=>true
 | .rais c,S=>match S with|.Raise (some (.Call (.Name x _) [.Constant (.str _) _ _] [] _)) none _::_=>decide (x=(c:Str))&&ck.gl x|_=>false
 | .call f as,S=>match S with
  | .Return (some (.Call (.Name x _) (e::es) [] _)) _::_=>decide (x=(f:Str))&&ck.gl x&&mAs ck as (e::es)
  | .Expr (.Call (.Name x _) (e::es) [] _) _::_=>decide (x=(f:Str))&&ck.gl x&&mAs ck as (e::es)
  | _=>false
 | .iteT c a r,S=>match S with|.If t l [] _::rest=>mE ck c t&&mX ck a l&&mX ck r rest|_=>false
 | .seq s b,S=>match S with|x::rest=>mS ck s x&&mX ck b rest|_=>false
noncomputable def noR:DV.XB->Bool
 | .rais _=>false
 | .iteT _ a r=>noR a&&noR r
 | .seq _ b=>noR b
 | _=>true
def aB8 (Γ:Gm)(mg:Str->Option Value)(φ:Nat->Addr)(s:lh)(H:Hp)(c:String)(s':lh)(E:XK):Prop :=
 ∀ φ' H' a C,Gr φ s H φ' s' H'->s.length<=s'.length->Rp Γ φ' H' s'->mg (c:Str)=some (.ref C)->E (.ref a) (some C) H'
def TXv (Γ:Gm)(mg:Str->Option Value)(m:ln->lh->Option (String×lh))(E:XK):TS:=λ _ σ H=>∃ φ ρ s c s',RE Γ φ H s.length ρ σ/\Rp Γ φ H s/\m ρ s=some (c,s')/\aB8 Γ mg φ s H c s' E
def spX (Γ:Gm)(mg:Str->Option Value)(x:List li->lh->Option (String×lh)):Sp:=λ vs H _ E=>∃ φ s l c s',Rp Γ φ H s/\RVL Γ φ H l vs/\lj s.length l=true/\x l s=some (c,s')/\aB8 Γ mg φ s H c s' E
theorem aB8.trans {Γ:Gm}{mg:Str->Option Value}{φ φ1:Nat->Addr}{s s1 s':lh}{H y:Hp}{c:String}{E:XK}(h:aB8 Γ mg φ s H c s' E)(g:Gr φ s H φ1 s1 y)(l:s.length<=s1.length):aB8 Γ mg φ1 s1 y c s' E :=
 λ φ' H' a C g' G p m=>h φ' H' a C (g.trans g' l) (ao l G) p m
theorem PA.nox {X:Cx}{e:List Expr}{t:TA}(h:PA X.nox e t):PA X e t:=λ pos p s σ H Q I hw =>
 bz (h pos p s σ H Q (I.wish _) hw) (λ _ _ ⟨v,H',y,r,q⟩=>⟨v,H',y.unwish,r,q⟩) λ _ _ z=>bf z
theorem PS.nox {X:Cx}{st:Stmt}{t:TS}(h:PS X.nox st t):PS X st t:=λ p s σ H D I hw =>
 bz (h p s σ H D (I.wish _) hw) (λ _ _ q=>q.unwish) λ _ _ z=>bf z
def XOk (Γ:Gm)(prog:aM)(w:World)(K:ac)(mg:Str->Option Value)(base:Heap)(F:lA)(n:Nat):Prop:=∀ f:String,(∀ l s,F.xcall f l s=none) \/
 ∃ a fd ps,FnOk prog w K mg base (CX1 prog w) n a fd ps (spX Γ mg (F.xcall f))/\mg (f:Str)=some (.ref a)/\bZ K (.ref a)=true/\Binds K fd ps []
section
variable {Γ:Gm} {F:lA} {n:Nat} {X:Cx} {ck:Ck} {a C:Addr} {oe:Obj}
theorem bK5 (G:CG Γ F n X ck)(xc:XC F X.K X.mg){c:String}(Y:F.xc c=true)(Z:X.mg (c:Str)=some (.ref C))(kx:dR X.K (.ref a) (.ref C) (λ h=>XAt h a C))(hcl:oe.cls=.ref C){nm:Str}{i:Nat}(hi:ck.N[i]?=some nm)(hv:Vis X.env.scope nm)(hd:(nm==("__debug__":Str))=false)(y:(nm==("__classdict__":Str))=false) :
  ∀ {t:DV.Hd} {S:List Stmt},mHd ck nm t S=true->t.ok F.xt=true->PSs (X.hnd a oe) S (tHd i a (t.val c))
 | .ret t,S,h,ho=>by
  cases S with
  | nil=>exact ff h
  | cons s S=>cases s with
   | Return vo p=>cases vo with
    | none=>exact ff h
    | some v=>cases S with
     | cons _ _=>exact ff h
     | nil=>exact(be5 (aC1 (aY8 G xc Y Z kx hcl hi hv hd y h ho).1)).imp λ D σ H q=>q
   | _=>exact ff h
 | .iff t b g,S,h,ho=>by
  cases S with
  | nil=>exact ff h
  | cons s S=>cases s with
   | If e l r p=>cases l with
    | nil=>exact ff h
    | cons l0 l=>cases l0 with
     | Return vo pr=>cases vo with
      | none=>exact ff h
      | some v=>cases v with
       | Constant k j pk=>cases k with
        | bool b'=>cases l with
         | cons _ _=>exact ff h
         | nil=>cases r with
          | cons _ _=>exact ff h
          | nil =>
           obtain⟨h,h3⟩:=zn h
           obtain⟨h1,h2⟩:=zn h
           have e:=of_decide_eq_true h2
           subst e
           have J:(t.ok F.xt&&g.ok F.xt)=true:=ho
           rw[ag]at J
           have q1:=(aY8 G xc Y Z kx hcl hi hv hd y h1 J.1).2
           have q2:=bK5 G xc Y Z kx hcl hi hv hd y h3 J.2
           refine(qm (bD2 q1 (be5 (aC1 bP8)) az0) q2).imp λ D σ H q=>⟨q.1,λ H' s=>?_⟩
           have q':∀ H',ai1 H H'->D.rt (.bl (if t.val c then b' else g.val c)) H':=q.2
           cases hb:t.val c with
           | true=>rw[hb]at q';exact q' H' s
           | false=>rw[hb]at q';exact⟨q.1,λ H2 s2=>q' H2 (s.trans s2)⟩
        | _=>exact ff h
       | _=>exact ff h
     | _=>exact ff h
   | _=>exact ff h
theorem bq7 (G:CG Γ F n X.nox ck)(XO:XOk Γ X.prog X.w X.K X.mg X.base F n){E:XK}(hp:al4 (CX1 X.prog X.w) X E){f:String}{y:lW}{e:Expr}{es:List Expr}{p pos:Pos}(hg:ck.gl (f:Str)=true)(m:mAs ck y (e::es)=true) :
  ∃ t:TE,PE X (.Call (.Name (f:Str) p) (e::es) [] pos) t/\∀ D σ H Q,TXv Γ X.mg (mP F (.call f y)) E D σ H->t σ H Q:=by
 obtain⟨g1,g2,g3⟩:=G.gl hg
 rcases XO f with hbad|⟨a,fd,ps,hF,J,hk,hb⟩
 ·refine⟨λ _ _ _=>False,λ _ _ _ _ _ _ z=>z.elim,λ D σ H Q q=>?_⟩
  obtain⟨φ,ρ,s,c,s',Y,R,h,q⟩:=q
  change(match lU F y ρ s with|.ok l s1=>F.xcall f l s1|_=>none)=_ at h
  split at h
  ·rw[hbad]at h;cases h
  ·cases h
 ·have hs:=aG0 m
  have pa:PA X (e::es) (TAv Γ (lU F y)):=(sAs y _ X.nox ck G m).nox
  refine⟨_,be3 hF G.room g1 J hk hb .nil hp pa g2 (zl (hs e (aB ..))) (zN λ x hx=>hs x (aj _ hx)).1,λ D σ H Q q=>?_⟩
  obtain⟨φ,ρ,s,c,s',Y,R,h,q⟩:=q
  change(match lU F y ρ s with|.ok l s1=>F.xcall f l s1|_=>none)=_ at h
  split at h
  ·rename_i l s1 e1
   refine⟨φ,ρ,s,l,s1,Y,R,e1,λ vs φ1 H1 g1 l1 Z r1 R1=>?_⟩
   show spX Γ X.mg (F.xcall f) (vs++[]) H1 Q E
   rw[bo]
   exact⟨φ1,s1,l,c,s',R1,r1,Z,h,q.trans g1 l1⟩
  ·cases h
theorem aZ7 (G:CG Γ F n X.nox ck)(xc:XC F X.K X.mg)(XO:XOk Γ X.prog X.w X.K X.mg X.base F n){E:XK}(hp:al4 (CX1 X.prog X.w) X E):∀(b:DV.XB) (S:List Stmt),(noR b=true\/aT1 X E)->mX ck b S=true->PSs X S (TXv Γ X.mg (mP F b) E)
 | .no,S,_,h=>λ a0 s σ H D I q=>by
  obtain⟨_,_,_,_,_,_,_,z,_⟩:=q
  cases z
 | .rais c,S,hT,h=>by
  have hT:aT1 X E:=hT.elim (λ z=>by cases z) id
  cases hx:F.xc c with
  | false =>
   intro a0 s σ H D I q
   obtain⟨_,_,s,_,_,_,_,z,_⟩:=q
   change(if F.xc c=true then some (c,s)else none)=_ at z
   rw[hx]at z;cases z
  | true =>
   cases S with
   | nil=>exact ff h
   | cons st S=>cases st with
    | Raise v k p=>cases v with
     | none=>exact ff h
     | some v=>cases v with
      | Call g xs kw pc=>cases g with
       | Name x pn=>cases xs with
        | nil=>exact ff h
        | cons y xs=>cases y with
         | Constant cv j py=>cases cv with
          | str t=>cases xs with
           | cons _ _=>exact ff h
           | nil=>cases kw with
            | cons _ _=>exact ff h
            | nil=>cases k with
             | some _=>exact ff h
             | none =>
              obtain⟨Z,Y⟩:=zn h
              have e:=of_decide_eq_true Z
              subst e
              obtain⟨g1,g2,g3⟩:=G.gl Y
              obtain⟨C,hC,hE,_⟩:=xc.at_ c hx
              refine(qm (bl2 hT hE g1 hC G.room.hd g2) ak4).imp λ D σ H q a=>?_
              obtain⟨φ,ρ,s,c',s',Ev,R,J,q⟩:=q
              change(if F.xc c=true then some (c,s)else none)=_ at J
              rw[hx,if_pos rfl]at J
              cases J
              exact q φ H a C (Gr.refl φ s H) (am _) R hC
          | _=>exact ff h
         | _=>exact ff h
       | _=>exact ff h
      | _=>exact ff h
    | _=>exact ff h
 | .call f as,S,_,h=>by
  cases S with
  | nil=>exact ff h
  | cons st S=>cases st with
   | Return v p=>cases v with
    | none=>exact ff h
    | some v=>cases v with
     | Call g xs kw pc=>cases g with
      | Name x pn=>cases xs with
       | nil=>exact ff h
       | cons y xs=>cases kw with
        | cons _ _=>exact ff h
        | nil =>
         obtain⟨h,h3⟩:=zn h
         obtain⟨Z,Y⟩:=zn h
         have e:=of_decide_eq_true Z
         subst e
         obtain⟨t,ht,hq⟩:=bq7 G XO hp Y h3
         exact(qm (aC1 ht) ak4).imp λ D σ H q=>hq D σ H _ q
      | _=>exact ff h
     | _=>exact ff h
   | Expr v p=>cases v with
    | Call g xs kw pc=>cases g with
     | Name x pn=>cases xs with
      | nil=>exact ff h
      | cons y xs=>cases kw with
       | cons _ _=>exact ff h
       | nil =>
        obtain⟨h,h3⟩:=zn h
        obtain⟨Z,Y⟩:=zn h
        have e:=of_decide_eq_true Z
        subst e
        obtain⟨t,ht,hq⟩:=bq7 G XO hp Y h3
        exact(qm (aY7 ht (ar9 rfl)) ak4).imp λ D σ H q=>hq D σ H _ q
     | _=>exact ff h
    | _=>exact ff h
   | _=>exact ff h
 | .iteT c a r,S,hT,h=>by
  cases S with
  | nil=>exact ff h
  | cons st S=>cases st with
   | If t l o p=>cases o with
    | cons _ _=>exact ff h
    | nil =>
     obtain⟨h,h3⟩:=zn h
     obtain⟨Z,Y⟩:=zn h
     have a2:noR a=true\/aT1 X E:=hT.elim (λ z=>.inl (zn z).1) .inr
     have a1:noR r=true\/aT1 X E:=hT.elim (λ z=>.inl (zn z).2) .inr
     refine(qm (bD2 (sE c _ X.nox ck G Z).2.nox (aZ7 G xc XO hp a _ a2 Y) az0) (aZ7 G xc XO hp r _ a1 h3)).imp λ D σ H q=>?_
     obtain⟨φ,ρ,s,c',s',Ev,R,J,q⟩:=q
     change(match lr F c ρ s with|.ok (.bl b) s1=>if b then mP F a ρ s1 else mP F r ρ s1|_=>none)=_ at J
     split at J
     ·rename_i b s1 e1
      refine⟨φ,ρ,s,b,s1,Ev,R,e1,λ φ1 H1 g1 l1 R1=>?_⟩
      cases b with
      | true=>exact⟨φ1,ρ,s1,c',s',Ev.mono g1 l1,R1,J,q.trans g1 l1⟩
      | false=>exact⟨φ1,ρ,s1,c',s',Ev.mono g1 l1,R1,J,q.trans g1 l1⟩
     ·cases J
   | _=>exact ff h
 | .seq st b,S,hT,h=>by
  cases S with
  | nil=>exact ff h
  | cons x S =>
   obtain⟨Z,Y⟩:=zn h
   refine(qm (sS st _ X.nox ck G Z).nox (aZ7 G xc XO hp b _ hT Y)).imp λ D σ H q=>?_
   obtain⟨φ,ρ,s,c',s',Ev,R,J,q⟩:=q
   change(match DV.ex F st ρ s with|.ok (.next ρ1) s1=>mP F b ρ1 s1|_=>none)=_ at J
   split at J
   ·rename_i ρ1 s1 e1
    exact⟨φ,ρ,s,.next ρ1,s1,Ev,R,e1,λ φ1 H1 g1 l1 R1 σ1 a3=>⟨φ1,ρ1,s1,c',s',a3,R1,J,q.trans g1 l1⟩⟩
   ·cases J
theorem bH0 {tb:List Stmt}{h₀:fR}{hs:List fR}{p:Pos}{t:TS}(hx:X.xe=λ _ _=>False)(h:PSs X tb t):PS X (.Try tb (h₀::hs) [] [] p) t:=by
 intro y s σ H D I q
 refine jW (bz (h y s σ H D I q) (λ f s1 z=>?_) (λ e s1 z=>?_))
 ·cases f with
  | next=>exact cV z
  | _=>exact z
 ·rw[hx]at z;exact z.elim
def EH (C:Addr)(b:Bool)(D:Ends):XK:=λ _ o H'=>o=some C/\∀ H'',ai1 H' H''->D.rt (.bl b) H''
theorem bD8 {tb:List Stmt}{x nm:Str}{i:Nat}{b₀:Stmt}{Y:List Stmt}{np a1 p:Pos}{hs:List fR}{m:ln->lh->Option (String×lh)}{b:Bool}(a3:X.ex=[])(b1:X.stack=X.env::X.outer)(a5:X.env.frame=some X.env.locals)
  (hc:ExcCls X.K C) (hg:Gl X x) (hm:X.mg x=some (.ref C)) (hd:(x==("__debug__":Str))=false) (hN:X.N.Nodup) (hi:X.N[i]?=some nm) (hl:X.env.scope.names.lookup nm=some .local)
  (a2:∀(pn:List (Addr×Obj)) (W:Value->af->Prop) (E:XK),al4 (CX1 X.prog X.w) { X with pn:=pn,xe:=W } E->PSs { X with pn:=pn,xe:=W } tb (TXv Γ X.mg m E)) (a4:∀ a oe,oe.cls=.ref C->PSs (X.hnd a oe) (b₀::Y) (tHd i a b)) :
  PS X (.Try tb (.ExceptHandler (some (.Name x np)) (some nm) (b₀::Y) a1::hs) [] [] p) (λ D σ H=>TXv Γ X.mg m (EH C b D) D σ H):=by
 intro y s σ H D I q
 let W:Value->af->Prop:=λ e s₁=>wpAny (model X.prog X.w) X.A (jS e X.env) (λ _ s₂=>wpAny (model X.prog X.w) X.A (kJ e none) (λ _ s₃=>wpAny (model X.prog X.w) X.A (handleBy e X.env (.ExceptHandler (some (.Name x np)) (some nm) (b₀::Y) a1::hs)) (SP X y D) X.xe s₃) X.xe s₂) X.xe s₁
 have a6:({ X with pn:=X.pn++y,xe:=W }:Cx).Ok:=⟨I.ok.mod,I.ok.kind,I.ok.glob,I.ok.blt,I.ok.above,I.ok.inj,I.ok.has,I.ok.cab,I.ok.hd,I.ok.frames,I.ok.stk,I.ok.exf,I.ok.bs,I.ok.bsz,I.ok.noex,I.ok.exfs,I.ok.funs,I.ok.frf⟩
 have I':Inv { X with pn:=X.pn++y,xe:=W } [] σ H s:=⟨a6,I.os,I.bare,I.base,I.loc,I.cell,I.free,I.freeC,λ p hp=>I.pin p (by rw[bo]at hp;exact hp),I.hok,I.len⟩
 have G:∀ {Z:List (Addr×Obj)} {σ':St} {H':Hp} {s':af},Inv { X with pn:=X.pn++y,xe:=W } Z σ' H' s'->Inv X y σ' H' s':=λ J=>⟨I.ok,J.os,J.bare,J.base,J.loc,J.cell,J.free,J.freeC,λ p hp=>J.pin p (cD _ hp),J.hok,J.len⟩
 have hp:al4 (CX1 X.prog X.w) { X with pn:=X.pn++y,xe:=W } (EH C b D):=λ Z σ' H' s' e b3 J h=>by
  obtain⟨a,C',b2,rfl,T,eC,hq⟩:=CX1.tr J a3 h
  cases eC
  obtain⟨a0,oe,vs,T0,oT,ts,h1,h2,h3,h4,h5,h6,b0,h7⟩:=T.tr
  have hn:i < σ'.length:=by rw[J.len];exact(ae.mp hi).1
  exact aY6 ⟨G T.inv,T.n0,T.nH,λ p hp=>T.np p (cD _ hp),a0,oe,vs,T0,oT,ts,h1,h2,h3,h4,h5,h6,λ p hp=>b0 p (cD _ hp),h7⟩ a3 b1 a5 hc hg hm hd hN hi hl (a4 a) ⟨by rw[aZ hn],hq⟩
 refine jW (bz (a2 _ W _ hp [] s σ H D I' q) (λ f s1 z=>?_) (λ e s1 z=>z))
 cases f with
 | next=>obtain⟨σ1,H1,J,z⟩:=z;exact cV ⟨σ1,H1,G J,z⟩
 | brk=>obtain⟨σ1,H1,J,z⟩:=z;exact⟨σ1,H1,G J,z⟩
 | cont=>obtain⟨σ1,H1,J,z⟩:=z;exact⟨σ1,H1,G J,z⟩
 | ret u=>obtain⟨v,σ1,H1,J,r,z⟩:=z;exact⟨v,σ1,H1,G J,r,z⟩
end
section
variable {Γ:Gm}
theorem aJ7 {φ φ1:Nat->Addr}{H p:Hp}{s s1:lh}(R:Rp Γ φ H s)(g:Gr φ s H φ1 s1 p)(ho:nu s s1=true){i:Nat}{o:lH}(y:i<s.length)(e:s1[i]?=some o):o.bnd s.length=true:=by
 unfold nu at ho
 have:=aO.mp ho i (cq.mpr y)
 rw[e,b9]at this
 rcases this with h|h
 ·exact R.wf i o (of_decide_eq_true h).symm
 ·exact h
theorem qX {s1:lh}{k i:Nat}{o:lH}(e:(s1.take k)[i]?=some o):i<k/\s1[i]?=some o:=by
 rw[iX]at e
 split at e
 ·exact⟨‹_›,e⟩
 ·cases e
theorem aR3 {φ φ1:Nat->Addr}{H h:Hp}{s s1:lh}(R:Rp Γ φ H s)(g:Gr φ s H φ1 s1 h)(R1:Rp Γ φ1 h s1)(ho:nu s s1=true):Gr φ s H φ1 (s1.take s.length) h/\Rp Γ φ1 h (s1.take s.length):=by
 have hl:(s1.take s.length).length=s.length:=by rw[br];have:=g.le;omega
 refine⟨⟨g.w,by rw[hl];exact am _,λ i G y=>by rw[hl]at y;omega,λ i o p e e'=>g.kd i o p e (qX e').2,g.st,g.fr⟩,λ i j o p e e' m m' z=>R1.inj i j o p (qX e).2 (qX e').2 m m' z,λ i o e=>R1.obj i o (qX e).2,λ i o e=>?_,R1.tab⟩
 rw[hl]
 exact aJ7 R g ho (qX e).1 (qX e).2
theorem qW {φ φ1:Nat->Addr}{H J:Hp}{s s1 s':lh}{v0 d:li}{v:V}(R:Rp Γ φ H s)(g:Gr φ s H φ1 s1 J)(R1:Rp Γ φ1 J s1)(hb:v0.bnd s1.length=true)(r:RV Γ φ1 J v0 v)(h:DV.af7 s v0 s1=.ok d s') :
  ∃ φ',Gr φ s H φ' s' J/\s.length<=s'.length/\d.bnd s'.length=true/\RV Γ φ' J d v/\Rp Γ φ' J s':=by
 have all:d=v0->s'=s1->∃ φ',Gr φ s H φ' s' J/\s.length<=s'.length/\d.bnd s'.length=true/\RV Γ φ' J d v/\Rp Γ φ' J s':=λ e1 e2=>by
  subst e1;subst e2
  exact⟨φ1,g,g.le,hb,r,R1⟩
 unfold DV.af7 at h
 split at h
 case isFalse=>cases h;exact all rfl rfl
 rename_i ho
 obtain⟨gt,Rt⟩:=aR3 R g R1 ho
 have hl:(s1.take s.length).length=s.length:=by rw[br];have:=g.le;omega
 have tk:d=v0->s'=s1.take s.length->v0.bnd s.length=true->∃ φ',Gr φ s H φ' s' J/\s.length<=s'.length/\d.bnd s'.length=true/\RV Γ φ' J d v/\Rp Γ φ' J s':=λ e1 e2 b=>by
  subst e1;subst e2
  exact⟨φ1,gt,by rw[hl];exact am _,by rw[hl];exact b,r,Rt⟩
 split at h
 ·rename_i k
  split at h
  ·cases h
   exact tk rfl rfl (by unfold lq;exact decide_eq_true ‹_›)
  ·rename_i hk
   split at h
   ·rename_i o Z
    split at h
    ·rename_i Y
     cases h
     have gw:Gw φ1 s.length J (λ i=>if i=s.length then φ1 k else φ1 i) J:=⟨λ i p=>if_neg (aH p),Kp.refl _⟩
     have key:∀(i:Nat) (G:lH),(s1.take s.length++[o])[i]?=some G->(i<s.length/\s1[i]?=some G)\/(i=s.length/\G=o):=λ i G e=>by
      rcases fH i s.length with h|h|h
      ·rw[aA (by rw[hl];exact h)]at e;exact .inl (qX e)
      ·subst h
       rw[ak (by rw[hl];exact am _),hl,dS]at e
       exact .inr ⟨rfl,(aF e).symm⟩
      ·rw[bT (by rw[aL,hl];simp;omega)]at e;cases e
     have y:(s1.take s.length++[o]).length=s.length+1:=by rw[aL,hl];rfl
     refine⟨λ i=>if i=s.length then φ1 k else φ1 i,⟨⟨λ i p=>?_,g.w.kp⟩,by rw[y];omega,λ i h1 h2=>?_,λ i oo G e e'=>?_,g.st,g.fr⟩,by rw[y];omega,by unfold lq;rw[y];exact decide_eq_true (db _),?_,⟨λ i j oi oj a0 a1 mi mj e=>?_,λ i G e=>?_,λ i G e=>?_,R1.tab⟩⟩
     ·show(if i=s.length then φ1 k else φ1 i)=φ i
      rw[if_neg (aH p)];exact g.w.map i p
     ·rw[y]at h2
      show H (if i=s.length then φ1 k else φ1 i)=none
      rw[if_pos (by omega)]
      exact g.new k (by omega) (ae.mp Z).1
     ·rcases key i G e' with⟨_,e2⟩|⟨p,_⟩
      ·exact g.kd i oo G e e2
      ·have:=(ae.mp e).1;omega
     ·rw[r.refE]
      unfold RV
      show V.ref (φ1 k)=V.ref (if s.length=s.length then φ1 k else φ1 s.length)
      rw[if_pos rfl]
     ·rcases key i oi a0 with⟨p,ei⟩|⟨p,zi⟩<;>rcases key j oj a1 with⟨hj,ej⟩|⟨hj,zj⟩
      ·rw[if_neg (aH p),if_neg (aH hj)]at e
       exact R1.inj i j oi oj ei ej mi mj e
      ·rw[if_neg (aH p),if_pos hj]at e
       subst zj
       have:=R1.inj i k oi _ ei Z mi mj e
       omega
      ·rw[if_neg (aH hj),if_pos p]at e
       subst zi
       have:=R1.inj k j _ oj Z ej mi mj e
       omega
      ·rw[p,hj]
     ·rcases key i G e with⟨p,e⟩|⟨p,rfl⟩
      ·show RO Γ _ _ (if i=s.length then φ1 k else φ1 i) G
       rw[if_neg (aH p)]
       exact(R1.obj i G e).mono gw (aJ7 R g ho p e) λ _ u hu=>hu
      ·show RO Γ _ _ (if i=s.length then φ1 k else φ1 i) G
       rw[if_pos p]
       exact(R1.obj k _ Z).mono gw Y λ _ u hu=>hu
     ·rw[y]
      rcases key i G e with⟨p,e⟩|⟨_,rfl⟩
      ·exact qA (eD _) _ (aJ7 R g ho p e)
      ·exact qA (eD _) _ Y
    ·cases h;exact all rfl rfl
   ·exact fb h
 ·split at h
  ·cases h;exact tk rfl rfl ‹_›
  ·cases h;exact all rfl rfl
structure LamGood (J:LamI)(L:mz):Prop where
 sc:LamScope (J.ps++J.fr) J.ps J.fr J.scope
 ps:J.ps.length=L.ps
 fr:J.fr.length=L.cs
 m:mE (ck0 (J.ps++J.fr) J.scope) L.body J.body=true
 bind:∀(clos:List (Str×Addr)) (doc pm:Value) (c':Addr) (ctv:Value) (us:List Value),us.length=J.ps.length->ef (bU "<lambda>" J.qual J.params J.body J.scope clos pm (.ref c') ctv) ⟨us,[]⟩=pure (J.ps.zip us) /\
  ∀(nm:Str) (rp:Pos),ef (et nm J.qual J.params [.Return (some J.body) rp] J.scope clos .none .none doc pm none (.ref c') ctv) ⟨us,[]⟩=pure (J.ps.zip us)
structure LkAt (Γ:Gm)(cds:List (Addr×Addr))(f:Str)(sc:Scope)(N:List Str)(fd:bu)(id:String)(caps:List Nat)(params:bA)(body:Expr)(scope:Scope)(c P:Addr)(J:LamI):Prop where
 code:fd.code=.ref c
 cd:(c,P)∈cds
 ck:lamCheck scope sc=true
 fre:∀ x,scope.names.lookup x=some .free->sc.names.lookup x=some .cell
 cel:∀ y∈sc.names,y.2=.cell->sc.names.lookup y.1=some .cell
 df:∀ env,ku params env=([],[])
 lg:Γ.lg id J
 q:J.qual=f ++ ".<locals>."++J.own
 p:J.params=params
 b:J.body=body
 s:J.scope=scope
 len:J.fr.length=caps.length
 at_:∀(i j:Nat) (x:Str),caps[i]?=some j->J.fr[i]?=some x->N[j]?=some x
 fr:∀ x∈J.fr,scope.names.lookup x=some .free
 tab:(P,J.qual)∈Γ.T
def bw4 (Γ:Gm)(cds:List (Addr×Addr))(f:Str)(sc:Scope)(N:List Str)(fd:bu)(lk:String->List Nat->Expr->Bool):Prop :=
 ∀ id caps E,lk id caps E=true->∃ c P params body scope pos J,E=lamText J params body scope pos/\LkAt Γ cds f sc N fd id caps params body scope c P J
def GoodB (Γ:Gm)(cds:List (Addr×Addr))(mg:Str->Option Value)(f:String)(pc vc:Nat)(m:Ck->List Stmt->Bool):Prop:=∃ st N ps a fd lk,DefAt Γ.K mg (f:Str) st ps a fd/\FnScope N ps (defScope st)/\ps.length=pc/\N.length=pc+vc/\m ⟨N,defScope st,lk⟩ (zK st)=true/\bw4 Γ cds (f:Str) (defScope st) N fd lk
def Good (Γ:Gm)(cds:List (Addr×Addr))(mg:Str->Option Value)(f:String)(d:mB):Prop:=GoodB Γ cds mg f d.ps d.vs λ ck S=>mSs ck d.body S
noncomputable def mT (ck:Ck)(d:DV.Tf)(S:List Stmt):Bool:=match S with
 | st::rest=>(match st with|.Try tb hs [] [] _=>(match hs with|[eh]=>(match eh with|.ExceptHandler (some en) (some nm) hb _=>(match en,hb with|.Name x _,b::su=>mSs ck d.body tb&&(mX ck d.xb tb&&(noR d.xb&&(decide (x=(d.c:Str))&&(ck.gl x&&(decide (ck.N[d.i]?=some nm)&&((ck.sc.names.lookup nm==some .local)&&(!(nm==("__debug__":Str))&&(!(nm==("__classdict__":Str))&&(mHd ck nm d.h (b::su)&&mSs ck d.tl rest)))))))))|_,_=>false)|_=>false)|_=>false)|_=>false)
 | _=>false
structure PrOk (Γ:Gm)(cds:List (Addr×Addr))(P:ly)(mg:Str->Option Value):Prop where
 df:∀ f d,P.df f=some d->Good Γ cds mg f d
 con:∀ x d,P.con x=some d->∃ v u,mg (x:Str)=some u/\RelV v u/\(∀ m,d.bnd m=true)/\∀ φ H,RV Γ φ H d v
 bi:∀ x∈bNames,mg x=none
 fa:∀(f:String) (a:Addr),Γ.fa f=some a->mg (f:Str)=some (.ref a)/\∃ oc od fd sl,Γ.K.lookup a=some ⟨oc,od,.func fd,sl⟩
 lg:∀ id J,Γ.lg id J->∃ L,P.lm id=some L/\LamGood J L
 nd:(Γ.T.map (·.1)).Nodup
 xf:∀ f d,P.xf f=some d->GoodB Γ cds mg f d.ps d.vs λ ck S=>mX ck d.body S
 tf:∀ f d,P.tf f=some d->GoodB Γ cds mg f d.ps d.vs λ ck S=>mT ck d S
 xc:∀ c:String,P.xc c=true->∃ C,mg (c:Str)=some (.ref C)/\ExcCls Γ.K C/\excI Γ.K C=true
 xt:∀ c:String,P.xt c=true->∃ C,mg (c:Str)=some (.ref C)
 xs:∀(c d:String) (C D:Addr),P.xc c=true->P.xt d=true->mg (c:Str)=some (.ref C)->mg (d:Str)=some (.ref D)->bH Γ.K (.ref C) (.ref D)=some (lM c d)
noncomputable def ar5 (Γ : Gm) (prog : Program) (w : World) (mg : Str -> Option Value) (base : Heap) (F : DV.Fns) (n : Nat) : Prop := (∀ f : String, (∀ l s, F.call f l s = .bad) \/
      ∃ a fd ps, FnOk prog w Γ.K mg base CX0 n a fd ps (spV Γ (F.call f)) /\ mg (f : Str) = some (.ref a) /\ bZ Γ.K (.ref a) = true /\ Binds Γ.K fd ps []) /\
  ∀(id : String) (J : LamI) (f : Addr) (cap : List V) (clos : List (Str × Addr)), Γ.lg id J -> cap.length = J.fr.length -> ClOk prog w Γ.K mg base n (λ H => CloAt H f J cap clos) f (spL Γ (F.lam id) cap)
theorem ax3 {φ:Nat->Addr}{H:Hp}{n k:Nat}{N:List Str}{l:List li}{vs:List V}(r:RVL Γ φ H l vs)(b:lj n l=true)(hN:N.length=l.length+k):RE Γ φ H n (l.map some++av k none) (aj6 N vs):=by
 have hl:=r.length
 refine⟨?_,λ i d e=>?_⟩
 ·unfold aj6;simp[hl,hN]
 ·by_cases hi:i<l.length
  ·rw[aA (by simpa using hi),ax]at e
   have e':l[i]?=some d:=by
    rw[ah hi]at e ⊢
    exact aF e
   obtain⟨v,e1,e2⟩:=r.get e'
   refine⟨ak9 b e',v,?_,e2⟩
   unfold aj6
   rw[aA (by rw[aC,hl];exact hi),ax,e1];rfl
  ·rw[ak (by simpa using jR hi)]at e
   rw[fS]at e
   split at e<;>cases e
theorem bf9 {a0:List (Addr×Addr)}{P:ly}{prog:aM}{w:World}{mg:Str->Option Value}{base:Heap}(hP:PrOk Γ a0 P mg)(hb:∀ y∈a0,bK base y.1 y.2/\BM mg base)(n:Nat)(G:ar5 Γ prog w mg base (lu P n) (n+31))
  {f:String} {st:Stmt} {N ps:List Str} {a:Addr} {fd:bu} {lk:String->List Nat->Expr->Bool} (hS:FnScope N ps (defScope st)) (hL:bw4 Γ a0 (f:Str) (defScope st) N fd lk) (Y:Value) (a3:∀ id h E,lk id h E=true->fd.code=Y) (A:aX) (Z:List Env) (sh:af) (H:Hp) (E:XK) (hr:Room (n+31) (A.deeper (eN (f:Str) (defScope st) sh.heap.objs.size a Y))) :
  CG Γ (lu P n) (n+31) (az5 CX0 prog w Γ.K mg base N (f:Str) (defScope st) a Y A Z sh H E).nox ⟨N,defScope st,lk⟩:=by
 refine⟨rfl,rfl,hS.nd,rfl,rfl,?_,hr,λ x k e=>.inl e,λ _ _=>rfl,hP.bi,G.1,?_,λ id h E' a1=>?_,G.2,hP.fa,DV.ai9 P n⟩
 ·show lC+1<=n+31
  unfold lC;omega
 ·have:(lu P n).con=P.con:=by cases n<;>rfl
  rw[this];exact hP.con
 ·obtain⟨c,Pa,params,body,scope,pos,J,eE,L⟩:=hL id h E' a1
  obtain⟨a2,a4⟩:=hb _ L.cd
  refine⟨c,Pa,params,body,scope,pos,J,eE,⟨?_,a2,a4,L.ck,L.df _,L.lg,L.q,L.p,L.b,L.s,L.len,L.at_,L.fr,λ x hx=>?_,L.tab,hP.nd,λ _=>rfl,λ x c hx=>?_⟩⟩
  ·show Y=.ref c
   rw[<-a3 id h E' a1];exact L.code
  ·exact ql (L.fre x hx)
  ·rcases zO (aD hx)with z|z
   ·exact .inl (L.cel (x,.cell) z rfl)
   ·exact absurd z (by simp)
theorem bT8 {a1:List (Addr×Addr)}{P:ly}{prog:aM}{w:World}{mg:Str->Option Value}{base:Heap}(hP:PrOk Γ a1 P mg)(hb:∀ y∈a1,bK base y.1 y.2/\BM mg base)(n:Nat)(a2:ar5 Γ prog w mg base (lu P n) (n+31))
  {f:String} {d:mB} (e:P.df f=some d) {st:Stmt} {N ps:List Str} {a:Addr} {fd:bu} {lk:String->List Nat->Expr->Bool} (hD:DefAt Γ.K mg (f:Str) st ps a fd) (hS:FnScope N ps (defScope st)) (h1:ps.length=d.ps) (h2:N.length=d.ps+d.vs) (hm:mSs ⟨N,defScope st,lk⟩ d.body (zK st)=true) (hL:bw4 Γ a1 (f:Str) (defScope st) N fd lk) :
  FnOk prog w Γ.K mg base CX0 (n+1+31) a fd ps (spV Γ ((lu P (n+1)).call f)):=by
 have a0:∀ vs H Q E,spV Γ ((lu P (n+1)).call f) vs H Q E->vs.length=ps.length:=λ vs H Q E q=>by
  obtain⟨φ,s,l,d',s',R,r,b,hc,k⟩:=q
  simp only[lu,e]at hc
  split at hc
  ·rw[r.length,h1];assumption
  ·exact fb hc
 have body:∀(Y:Value),(∀ id p E,lk id p E=true->fd.code=Y)->∀(A:aX) (Z:List Env) (sh:af) (H:Hp) (vs:List V) (Q:VK) (E:XK),Room (n+31) (A.deeper (eN (f:Str) (defScope st) sh.heap.objs.size a Y))->spV Γ ((lu P (n+1)).call f) vs H Q E ->
   ∃ t,PSs (az5 CX0 prog w Γ.K mg base N (f:Str) (defScope st) a Y A Z sh H E).nox (zK st) t/\t { nx:=λ _ H'=>Q .non H',rt:=Q } (aj6 N vs) H:=by
  intro Y a4 A Z sh H vs Q E hr q
  have G:=bf9 hP hb n a2 hS hL (a:=a) Y a4 A Z sh H E hr
  refine⟨_,sSs d.body (zK st) _ ⟨N,defScope st,lk⟩ G hm,?_⟩
  obtain⟨φ,s,l,d',s',R,r,b,hc,k⟩:=q
  simp only[lu,e]at hc
  split at hc
  case isFalse=>exact fb hc
  rename_i a0
  obtain⟨c,s1,e1,hc⟩:=aa0 hc
  refine⟨φ,l.map some++av d.vs none,s,c,s1,ax3 r b (by rw[h2,a0]),R,e1,λ φ1 H1 g1 l1 R1=>?_⟩
  cases c with
  | ret v0 =>
   intro v hb rv
   obtain⟨φ',g',l',b',r',R'⟩:=qW R g1 R1 hb rv hc
   exact k v φ' H1 g' l' b' r' R'
  | next ρ =>
   intro σ' _
   obtain⟨φ',g',l',b',r',R'⟩:=qW (v0:=.non) R g1 R1 rfl RV.nonI hc
   exact k .non φ' H1 g' l' b' r' R'
  | cont ρ=>exact fb hc
  | brk ρ=>exact fb hc
 by_cases hl:∃ id p E,lk id p E=true
 ·obtain⟨id,p,E,a5⟩:=hl
  obtain⟨c,Pa,params,a3,scope,pos,J,eE,L⟩:=hL id p E a5
  exact hD.fn.okC L.code hS a0 (body _ λ _ _ _ _=>L.code)
 ·exact hD.fn.ok hS a0 (λ Y=>body Y λ id p E h=>absurd ⟨id,p,E,h⟩ hl)
theorem Fun.okX {Y:CXT}{P:aM}{w:World}{K:ac}{mg:Str->Option Value}{base:Heap}{x qual:Str}{st:Stmt}{f:Addr}{G:bu}{N ps:List Str}{k:Nat}{sp:Sp}(F:Fun K x qual st f G)(S:FnScope N ps (defScope st))(len:∀ vs H Q E,sp vs H Q E->vs.length=ps.length)
  (y:∀(p:Value),G.code=p->∀(A:aX) (h:List Env) (s:af) (H:Hp) (vs:List V) (Q:VK) (E:XK),Room k (A.deeper (eN qual (defScope st) s.heap.objs.size f p))->sp vs H Q E ->
   ∃ t,PSs (az5 Y P w K mg base N qual (defScope st) f p A h s H E) (zK st) t/\t { nx:=λ _ H'=>Q .non H',rt:=Q } (aj6 N vs) H):FnOk P w K mg base Y (k+1) f G ps sp:=by
 obtain⟨oc,od,kV,a1,pm,an,p,ct,a0,rfl,lk,hc⟩:=F.ex
 exact bG2 lk hc S len λ A h s H vs Q E Z J=>y p rfl A h s H vs Q E Z J
theorem bV8 {p:List (Addr×Addr)}{P:ly}{mg:Str->Option Value}(y:PrOk Γ p P mg)(n:Nat):XC (lu P n) Γ.K mg:=by
 have e:(lu P n).xc=P.xc:=by cases n<;>rfl
 have e':(lu P n).xt=P.xt:=by cases n<;>rfl
 exact⟨λ c h=>y.xc c (by rw[e]at h;exact h),λ c h=>y.xt c (by rw[e']at h;exact h),λ c d C D J G=>y.xs c d C D (by rw[e]at J;exact J) (by rw[e']at G;exact G)⟩
theorem bP9 {p:List (Addr×Addr)}{P:ly}{prog:aM}{w:World}{mg:Str->Option Value}{base:Heap}(hP:PrOk Γ p P mg)(hb:∀ y∈p,bK base y.1 y.2/\BM mg base)(n:Nat)(J:ar5 Γ prog w mg base (lu P n) (n+31))(XO:XOk Γ prog w Γ.K mg base (lu P n) (n+31))
  {f:String} {d:DV.Xf} (e:P.xf f=some d) {st:Stmt} {N ps:List Str} {a:Addr} {fd:bu} {lk:String->List Nat->Expr->Bool} (hD:DefAt Γ.K mg (f:Str) st ps a fd) (hS:FnScope N ps (defScope st)) (h1:ps.length=d.ps) (h2:N.length=d.ps+d.vs) (hm:mX ⟨N,defScope st,lk⟩ d.body (zK st)=true) (hL:bw4 Γ p (f:Str) (defScope st) N fd lk) :
  FnOk prog w Γ.K mg base (CX1 prog w) (n+1+31) a fd ps (spX Γ mg ((lu P (n+1)).xcall f)):=by
 refine hD.fn.okX hS (λ vs H Q E q=>?_) λ Y a0 A h sh H vs Q E hr q=>?_
 ·obtain⟨φ,s,l,c,s',R,r,b,hc,k⟩:=q
  simp only[lu,e]at hc
  split at hc
  ·rw[r.length,h1];assumption
  ·cases hc
 ·have G:=bf9 hP hb n J hS hL (a:=a) Y (λ _ _ _ _=>a0) A h sh H E hr
  obtain⟨φ,s,l,c,s',R,r,b,hc,k⟩:=q
  simp only[lu,e]at hc
  split at hc
  case isFalse=>cases hc
  rename_i Z
  exact⟨_,aZ7 (X:=az5 (CX1 prog w) prog w Γ.K mg base N (f:Str) (defScope st) a Y A h sh H E) G (bV8 hP n) XO cc3 d.body (zK st) (.inr ch2) hm,φ,l.map some++av d.vs none,s,c,s',ax3 r b (by rw[h2,Z]),R,hc,k⟩
theorem bP7 {cds : List (Addr × Addr)} {P : DV.Pr} {prog : Program} {w : World} {mg : Str -> Option Value} {base : Heap} (hP : PrOk Γ cds P mg) (hb : ∀ y ∈ cds, PySem.W.CodeHd base y.1 y.2 /\ BM mg base) (n : Nat) (hcall : ar5 Γ prog w mg base (DV.aa1 P n) (n + 31)) (XO : XOk Γ prog w Γ.K mg base (DV.aa1 P n) (n + 31))
    {f : String} {d : DV.Tf} (e0 : P.df f = none) (e : P.tf f = some d) {st : Stmt} {N ps : List Str} {a : Addr} {fd : bu} {lk : String -> List Nat -> Expr -> Bool} (hD : DefAt Γ.K mg (f : Str) st ps a fd) (hS : FnScope N ps (defScope st)) (h1 : ps.length = d.ps) (h2 : N.length = d.ps + d.vs) (hm : mT ⟨N, defScope st, lk⟩ d (zK st) = true) (hL : bw4 Γ cds (f : Str) (defScope st) N fd lk) :
    FnOk prog w Γ.K mg base CX0 (n + 1 + 31) a fd ps (spV Γ ((lu P (n + 1)).call f)) := by
  refine hD.fn.okX hS (λ vs H Q E q => ?_) λ cdv hcd A outer sh H vs Q E hr q => ?_
  · obtain⟨φ, s, l, d', s', R, r, b, hc, k⟩ := q
    simp only[lu, e0, e]at hc
    split at hc
    · rw[r.length, h1]; assumption
    · exact fb hc
  have G := bf9 hP hb n hcall hS hL (a := a) cdv (λ _ _ _ _ => hcd) A outer sh H E hr
  have xc := bV8 hP n
  obtain⟨φ, s, l, d', s', R, r, b, hc, k⟩ := q
  simp only[lu, e0, e]at hc
  split at hc
  case isFalse => exact fb hc
  rename_i hlen
  have E0 := ax3 r b (k := d.vs) (N := N) (by rw[h2, hlen])
  unfold mT at hm
  split at hm
  case h_2 => exact ff hm
  rename_i st0 rest eb
  rw[eb]
  split at hm
  case h_2 => exact ff hm
  rename_i tb hs tp
  split at hm
  case h_2 => exact ff hm
  rename_i eh
  split at hm
  case h_2 => exact ff hm
  rename_i en nm hb0 hp
  split at hm
  case h_2 => exact ff hm
  rename_i x np b0 su
  obtain⟨m1, hm⟩ := zn hm
  obtain⟨m2, hm⟩ := zn hm
  obtain⟨m3, hm⟩ := zn hm
  obtain⟨m4, hm⟩ := zn hm
  obtain⟨m5, hm⟩ := zn hm
  obtain⟨m6, hm⟩ := zn hm
  obtain⟨m7, hm⟩ := zn hm
  obtain⟨m8, hm⟩ := zn hm
  obtain⟨m9, hm⟩ := zn hm
  obtain⟨m10, m11⟩ := zn hm
  have ex := of_decide_eq_true m4
  have ei := of_decide_eq_true m6
  subst ex
  unfold DV.bt4 at hc
  split at hc
  · rename_i c s1 hx
    split at hc
    case isFalse => exact fb hc
    rename_i hcond
    obtain⟨rfl, hxc, hok⟩ := hcond
    obtain⟨C, hC, hE, hI⟩ := xc.at_ _ hxc
    obtain⟨g1, g2, g3⟩ := G.gl m5
    have hloc : (defScope st).names.lookup nm = some .local := eq_of_beq m7
    have hd1 : (nm == ("__debug__" : Str)) = false := by simpa using m8
    have hd2 : (nm == ("__classdict__" : Str)) = false := by simpa using m9
    have kx : ∀ a', dR Γ.K (.ref a') (.ref C) (λ h => XAt h a' C) := λ a' => bw2 hE hI
    refine⟨_, (qm (bD8 (X := (az5 CX0 prog w Γ.K mg base N (f : Str) (defScope st) a cdv A outer sh H E).nox) (Γ := Γ) (C := C) (m := mP (lu P n) d.xb) (b := d.h.val d.c) (i := d.i) rfl rfl rfl hE g1 hC g2 hS.nd ei hloc (λ pn W E1 hpas => ?_) λ a' oe hcl => bK5 G xc hxc hC (kx a') hcl ei (.inl hloc) hd1 hd2 m10 hok) ak4).nox, ?_⟩
    · have G' : CG Γ (DV.aa1 P n) (n + 31) ({ (az5 CX0 prog w Γ.K mg base N (f : Str) (defScope st) a cdv A outer sh H E).nox with pn := pn, xe := W } : Cx).nox ⟨N, defScope st, lk⟩ := ⟨G.K, G.N, G.nd, rfl, G.calm, G.deep, G.room, G.sc, G.fn, G.bi, G.call, G.con, λ id caps E' hlk => by
          obtain⟨c, Pa, params, body, scope, pos, J, eE, L⟩ := G.lam id caps E' hlk
          exact⟨c, Pa, params, body, scope, pos, J, eE, ⟨L.code, L.hd, L.bm, L.ck, L.df, L.lg, L.q, L.p, L.b, L.s, L.len, L.at_, L.fr, L.cl, L.tab, L.nd, L.fn, L.kd⟩⟩, G.cl, G.fa, G.fk⟩
      exact aZ7 (X := { (az5 CX0 prog w Γ.K mg base N (f : Str) (defScope st) a cdv A outer sh H E).nox with pn := pn, xe := W }) G' xc XO hpas d.xb tb (.inl m3) m2
    · refine⟨φ, l.map some ++ av d.vs none, s, d.c, s1, E0, R, hx, λ φ' H' a' C' g' l' R' hC' => ?_⟩
      have hC' : mg (d.c : Str) = some (.ref C') := hC'
      rw[hC]at hC'
      cases hC'
      refine⟨rfl, λ H'' same => ?_⟩
      obtain⟨gs, Rs⟩ := R'.same same
      obtain⟨φ2, g2', l2, b2, r2, R2⟩ := qW (v0 := .bl (d.h.val d.c)) R (g'.trans gs l') Rs rfl RV.blI hc
      exact k _ φ2 H'' g2' l2 b2 r2 R2
  · rename_i hx
    refine⟨_, (qm (bH0 (X := (az5 CX0 prog w Γ.K mg base N (f : Str) (defScope st) a cdv A outer sh H E).nox) rfl (sSs d.body tb _ ⟨N, defScope st, lk⟩ G m1)) (sSs d.tl rest _ ⟨N, defScope st, lk⟩ G m11)).nox, ?_⟩
    obtain⟨c, s1, e1, hc⟩ := aa0 hc
    refine⟨φ, l.map some ++ av d.vs none, s, c, s1, E0, R, e1, λ φ1 H1 g1 l1 R1 => ?_⟩
    cases c with
    | ret v0 =>
      intro v hb rv
      obtain⟨φ', g', l', b', r', R'⟩ := qW R g1 R1 hb rv hc
      exact k v φ' H1 g' l' b' r' R'
    | next ρ =>
      intro σ' E1
      obtain⟨c, s2, e2, hc⟩ := aa0 hc
      refine⟨φ1, ρ, s1, c, s2, E1, R1, e2, λ φ2 H2 g2 l2 R2 => ?_⟩
      cases c with
      | ret v0 =>
        intro v hb rv
        obtain⟨φ', g', l', b', r', R'⟩ := qW R (g1.trans g2 l1) R2 hb rv hc
        exact k v φ' H2 g' l' b' r' R'
      | next ρ =>
        intro σ' _
        obtain⟨φ', g', l', b', r', R'⟩ := qW (v0 := .non) R (g1.trans g2 l1) R2 rfl RV.nonI hc
        exact k .non φ' H2 g' l' b' r' R'
      | cont ρ => exact fb hc
      | brk ρ => exact fb hc
    | cont ρ => exact fb hc
    | brk ρ => exact fb hc
theorem bF2 {c0:List (Addr×Addr)}{P:ly}{prog:aM}{w:World}{mg:Str->Option Value}{base:Heap}(hP:PrOk Γ c0 P mg)(n:Nat)(a2:ar5 Γ prog w mg base (lu P n) (n+31))
  (id:String) (J:LamI) (f:Addr) (cap:List V) (Z:List (Str×Addr)) (c2:Γ.lg id J) (a4:cap.length=J.fr.length) :
  ClOk prog w Γ.K mg base (n+1+31) (λ H=>CloAt H f J cap Z) f (spL Γ ((lu P (n+1)).lam id) cap):=by
 obtain⟨L,eL,LG⟩:=hP.lg id J c2
 have a5:∀ vs H Q E,spL Γ ((lu P (n+1)).lam id) cap vs H Q E->vs.length=J.ps.length:=λ vs H Q E q=>by
  obtain⟨φ,s,cs,l,d,s',R,r,rc,b,bc,hc,k⟩:=q
  simp only[lu,eL]at hc
  split at hc
  ·rename_i hh;rw[r.length,LG.ps];exact hh.1
  ·exact fb hc
 have main:∀(A:aX) (a0:List Env) (sh:af) (H:Hp) (cd:Value) (vs:List V) (Q:VK),Room (n+31) (A.deeper (cS J.qual J.scope sh.heap.objs.size f cd (aQ (sh.heap.objs.size+1) J.scope.names Z)))->Cells Z H->(∀ b o,Γ.K.lookup b=some o->H b=none)->spL Γ ((lu P (n+1)).lam id) cap vs H Q E0 ->
   ∃ t,PE (aH2 prog w Γ.K mg base (J.ps++J.fr) J.qual J.scope f cd Z A a0 sh H) J.body t/\t (vs.map some++cap.map some) (af8 Z H) λ v H'=>(∀ b,isC Z b=true->H' b=none)->Q v (Put Z H H'):=by
  intro A a0 sh H cd vs Q hr Y hK q
  have G:CG Γ (lu P n) (n+31) (aH2 prog w Γ.K mg base (J.ps++J.fr) J.qual J.scope f cd Z A a0 sh H) (ck0 (J.ps++J.fr) J.scope):=by
   refine⟨rfl,rfl,LG.sc.nd,rfl,rfl,?_,hr,λ x k e=>.inl e,λ x e=>?_,hP.bi,a2.1,?_,λ _ _ _ h=>(by cases h),a2.2,hP.fa,DV.ai9 P n⟩
   ·show lC+1<=n+31
    unfold lC;omega
   ·show(J.scope.names.lookup x==some .cell)=true
    rw[show J.scope.names.lookup x=some .cell from e];rfl
   ·have:(lu P n).con=P.con:=by cases n<;>rfl
    rw[this];exact hP.con
  refine⟨_,(sE L.body J.body _ (ck0 (J.ps++J.fr) J.scope) G LG.m).1,?_⟩
  obtain⟨φ,s,cs,l,d,s',R,r,rc,b,bc,hc,k⟩:=q
  simp only[lu,eL]at hc
  split at hc
  case isFalse=>exact fb hc
  rename_i hh
  obtain⟨h1,h2,h3⟩:=hh
  rw[ag,ag]at h3
  obtain⟨⟨b5,b6⟩,c1⟩:=h3
  obtain⟨v0,s1,e1,hc⟩:=aa0 hc
  have RD:Rp Γ φ (af8 Z H) s:=R.dropC Y c1
  have b3:RVL Γ φ (af8 Z H) (l++cs) (vs++cap):=(RVL.dropC Y l vs b5 r).append (RVL.dropC Y cs cap b6 rc)
  refine⟨φ,l.map some++cs.map some,s,v0,s1,⟨by simp[r.length,rc.length],λ i x ei=>?_⟩,RD,e1,λ v φ1 H1 g1 l1 b1 r1 R1 a3=>?_⟩
  ·rw[<-bv,ax]at ei
   have b2:(l++cs)[i]?=some x:=by
    cases q:(l++cs)[i]? with
    | none=>rw[q]at ei;cases ei
    | some y=>rw[q]at ei;cases ei;rfl
   obtain⟨u,e3,e4⟩:=b3.get b2
   refine⟨ak9 (qi b bc) b2,u,?_,e4⟩
   rw[<-bv,ax,e3];rfl
  ·obtain⟨φ',g',l',b',r',R'⟩:=qW RD g1 R1 b1 r1 hc
   have gp:=Gr.put Y a3 hK R' g'
   obtain⟨gs,Rs⟩:=R'.same (aZ6 (H:=H) a3)
   exact k v φ' _ gp l' b' (RV.mono gs d v b' r') Rs
 unfold CloAt
 cases q:J.nm with
 | none=>exact bw0 LG.sc a5 a4 (λ pm c' a1 us b0=>(LG.bind Z .none pm c' a1 us b0).1) (λ A a0 sh H cd vs Q hr a6 hK q=>by
   obtain⟨pm,c',a1,_,_,Y,_⟩:=a6
   exact main A a0 sh H cd vs Q hr Y hK q)
 | some p=>exact by4 LG.sc a5 a4 (λ b4 pm c' a1 us b0=>(LG.bind Z b4 pm c' a1 us b0).2 _ _) (λ A a0 sh H cd vs Q hr a6 hK q=>by
   obtain⟨b4,pm,c',a1,_,_,Y,_⟩:=a6
   obtain⟨t,h1,h2⟩:=main A a0 sh H cd vs Q hr Y hK q
   exact⟨_,qm (aC1 h1) az0,h2⟩)
theorem aL3 {a0:List (Addr×Addr)}{P:ly}{prog:aM}{w:World}{mg:Str->Option Value}{base:Heap}(h:PrOk Γ a0 P mg)(hb:∀ y∈a0,bK base y.1 y.2/\BM mg base):∀ n:Nat,ar5 Γ prog w mg base (lu P n) (n+31)/\XOk Γ prog w Γ.K mg base (lu P n) (n+31)
 | 0=>⟨⟨λ f=>.inl λ l s=>rfl,λ id J f cap p _ _=>⟨λ A a1 s H us vs Q _ _ _ _ q=>by
   obtain⟨φ,s,cs,l,d,s',R,r,rc,b,bc,hc,k⟩:=q
   cases hc⟩⟩,λ f=>.inl λ l s=>rfl⟩
 | n+1=>by
  obtain⟨ih,XO⟩:=aL3 (prog:=prog) (w:=w) (base:=base) h hb n
  refine⟨⟨λ f=>?_,λ id J f cap p Y G=>bF2 h n ih id J f cap p Y G⟩,λ f=>?_⟩
  ·cases e:P.df f with
   | none =>
    cases e2:P.tf f with
    | none=>exact .inl λ l s=>by simp only[lu,e,e2]
    | some d =>
     obtain⟨st,N,ps,a,Z,lk,hD,hS,Y,G,hm,hL⟩:=h.tf f d e2
     exact .inr ⟨a,Z,ps,bP7 h hb n ih XO e e2 hD hS Y G hm hL,hD.mg,hD.fn.kp,hD.bi⟩
   | some d =>
    obtain⟨st,N,ps,a,Z,lk,hD,hS,Y,G,hm,hL⟩:=h.df f d e
    exact .inr ⟨a,Z,ps,bT8 h hb n ih e hD hS Y G hm hL,hD.mg,hD.fn.kp,hD.bi⟩
  ·cases e:P.xf f with
   | none=>exact .inl λ l s=>by simp only[lu,e]
   | some d =>
    obtain⟨st,N,ps,a,Z,lk,hD,hS,Y,G,hm,hL⟩:=h.xf f d e
    exact .inr ⟨a,Z,ps,bP9 h hb n ih XO e hD hS Y G hm hL,hD.mg,hD.fn.kp,hD.bi⟩
theorem bw1 {h:List (Addr×Addr)}{P:ly}{prog:aM}{w:World}{mg:Str->Option Value}{base:Heap}(p:PrOk Γ h P mg)(hb:∀ y∈h,bK base y.1 y.2/\BM mg base)(n:Nat):ar5 Γ prog w mg base (lu P n) (n+31):=(aL3 p hb n).1
def spT (Γ:Gm):Sp:=λ vs H Q _=>∃(a:Addr) (ns:List Int),vs=[.ref a]/\SqF Γ.K H a (ns.map V.int)/\ns.length<=63/\TabsH Γ.T H/\∀ H',Q (.bl true) H'
theorem aK9 {φ:Nat->Addr}{H:Hp}:∀ ns:List Int,RVL Γ φ H (ns.map DV.D.int) (ns.map V.int)
 | []=>.nil
 | n::ns=>.cons RV.intI (aK9 ns)
theorem aE9 {m:Nat}:∀ ns:List Int,lj m (ns.map DV.D.int)=true
 | []=>rfl
 | n::ns=>by rw[aG];unfold lj;rw[aE9 ns];rfl
theorem bY6 {P:ly}{k:Nat}(h:∀ ns:List Int,ns.length<=63->∃ s',(lu P k).call "law" [.ref 0] [.ro (ns.map DV.D.int)]=.ok (.bl true) s')(vs:List V)(H:Hp)(Q:VK)(E:XK)(q:spT Γ vs H Q E):spV Γ ((lu P k).call "law") vs H Q E:=by
 obtain⟨a,ns,rfl,y,hl,hT,p⟩:=q
 obtain⟨s',hs⟩:=h ns hl
 refine⟨λ _=>a,[.ro (ns.map DV.D.int)],[.ref 0],.bl true,s',⟨λ i j o G e e' m m' _=>?_,λ i o e=>?_,λ i o e=>?_,hT⟩,.cons RV.refI .nil,?_,hs,λ v φ' H' g l b r R=>?_⟩
 ·cases i with
  | zero=>cases e;cases m
  | succ i=>cases e
 ·cases i with
  | zero=>cases e;exact⟨_,y,aK9 ns⟩
  | succ i=>cases e
 ·cases i with
  | zero=>cases e;unfold ls;exact aE9 ns
  | succ i=>cases e
 ·unfold lj lq lj;rfl
 ·rw[r.blE];exact p H'
theorem aM3 {y:List (Addr×Addr)}{mg:Str->Option Value}:∀ {tbl:List (String×mB)},(∀ p∈tbl,Good Γ y mg p.1 p.2)->∀ f d,tbl.lookup f=some d->Good Γ y mg f d
 | [],_,f,d,h=>by cases h
 | (g,e)::tbl,H,f,d,h=>by
  rw[a9]at h
  cases q:f==g with
  | true =>
   rw[q]at h
   cases h
   rw[eq_of_beq q]
   exact H (g,_) (aB ..)
  | false =>
   rw[q]at h
   exact aM3 (λ p hp=>H p (aj _ hp)) f d h
def bn8 (Γ:Gm)(mg:Str->Option Value)(x:String)(d:li):Prop:=∃ v u,mg (x:Str)=some u/\RelV v u/\(∀ m,d.bnd m=true)/\∀ φ H,RV Γ φ H d v
theorem aZ5 {mg:Str->Option Value}:∀ {tbl:List (String×li)},(∀ p∈tbl,bn8 Γ mg p.1 p.2)->∀ f d,tbl.lookup f=some d->bn8 Γ mg f d
 | [],_,f,d,h=>by cases h
 | (g,e)::tbl,H,f,d,h=>by
  rw[a9]at h
  cases q:f==g with
  | true =>
   rw[q]at h
   cases h
   rw[eq_of_beq q]
   exact H (g,_) (aB ..)
  | false =>
   rw[q]at h
   exact aZ5 (λ p hp=>H p (aj _ hp)) f d h
theorem bH9 {mg:Str->Option Value}{x:String}{i:Int}{t:Tok}(h:mg (x:Str)=some (.int i t)):bn8 Γ mg x (.int i):=⟨.int i,_,h,⟨t,rfl⟩,λ _=>rfl,λ _ _=>RV.intI⟩
end
theorem aT9 {P:aM}{w:World}{K:ac}{mg mb:Str->Option Value}{k:Nat}{fa a:Addr}{fd:bu}{x:Str}{sp:Sp}{G:af}{vs:List Value}{ns:List Int}{tabs:List (Addr×Addr)}
  (KX:K.In G.heap) (c0:G.heap.Ns a7 mg) (hb:G.heap.Ns f7 mb) (d0:∀ x:Str,x ≠ "__name__"->mb x=bj x) (hlim:G.heap.NoLimit) (hg:G.gens=#[]) (d1:BM mg G.heap) (hT:kB tabs G.heap) (c3:kC K=true)
  (ha:G.heap.get? a=some { cls:=.type "list",data:=.seq vs.toArray }) (hi:kh vs ns) (hl:ns.length<=aP) (hr:Room k ic)
  (F:∀ base:Heap,K.In base->base.Ns a7 mg->BM mg base->(∀ q∈tabs,bK base q.1 q.2)->FnOk P w K mg base CX0 k fa fd [x] sp) (a2:∀(s:af) (u:Value),ke s fd ⟨[u],[]⟩ [(x,u)])
  (c2:∀ H:Hp,(∀ q∈tabs,H q.2=some (.tbl #[]))->SqL K H a (ns.map V.int)->(∀ u,H a=some u->(∃ o xs,u=.frz o (.lst xs))\/∃ ps,u=.tbl ps)->sp [.ref a] H (λ v _=>v=.bl true) E0) :
  f9 (model P w) ic (.call (.ref fa) ⟨[.ref a],[]⟩) (λ r s'=>r=.ok (.ret (.bool true))/\OldK G.heap s'.heap/\s'.os=G.os/\eU s'.gens) G:=by
 have rv:=aC6 hi
 have a5:=hi.length
 have J:∀ b,b∈tabs.map (·.2)->G.heap.get? b=some (fo #[]):=λ b h=>by
  obtain⟨q,hq,rfl⟩:=aS.mp h
  exact(hT q hq).2
 have a1:∀ H:Hp,(∀ b u,H b=some u->(b=a/\∃ o xs,u=.frz o (.lst xs))\/(b∈tabs.map (·.2)/\u=.tbl #[]))->(∀ q∈tabs,H q.2=some (.tbl #[]))->SqL K H a (ns.map V.int)->HOk P w H G.heap->(H a≠none->K.lookup a=none) ->
   f9 (model P w) ic (.call (.ref fa) ⟨[.ref a],[]⟩) (λ r s'=>r=.ok (.ret (.bool true))/\OldK G.heap s'.heap/\s'.os=G.os/\eU s'.gens) G:=by
  intro H hO c4 hS hok hK
  have un:∀ b o,G.heap.get? b=some o->o.cls≠.type "list"->(∀ vs,o.data≠.fields vs)->H b=none:=λ b o e n1 n2=>by
   cases q:H b with
   | none=>rfl
   | some u =>
    rcases hO b u q with⟨z,_⟩|⟨z,_⟩
    ·rw[z,ha]at e;cases e;exact absurd rfl n1
    ·rw[J b z]at e;cases e;exact absurd rfl (n2 #[])
  have Z:∀ {b:Addr} {m:Str->Option Value},G.heap.Ns b m->(bh3 G.heap H).Ns b m:=λ {b m} ⟨o,es,ep,e,d,r⟩=>by
   refine⟨o,es,ep,an3 e ?_,d,r⟩
   cases q:H b with
   | none=>rfl
   | some u =>
    rcases hO b u q with⟨z,_⟩|⟨z,_⟩
    ·rw[z,ha]at e;cases e;cases d
    ·rw[J b z]at e;cases e;cases d
  have a6:K.In (bh3 G.heap H):=λ b o e=>an3 (KX b o e) (by
   cases q:H b with
   | none=>rfl
   | some u =>
    rcases hO b u q with⟨z,_⟩|⟨z,_⟩
    ·subst z
     rw[hK (by rw[q];simp)]at e;cases e
    ·have e2:=KX b o e
     rw[J b z]at e2
     have h2:=aO.mp c3 (b,o) (PySem.W.mem_of_lookupK e)
     have e3:o=fo #[]:=(aF e2).symm
     subst e3
     exact absurd (show false=true from h2) aW)
  have hM:Mod K mg (bh3 G.heap H):=⟨a6,Z c0,⟨mb,Z hb,d0⟩,let⟨mc,h1,h2⟩:=hlim;⟨mc,Z h1,h2⟩⟩
  have d3:BM mg (bh3 G.heap H):=by
   obtain⟨bm,ob,b1,b2,b3,b4,b5,b6⟩:=d1
   exact⟨bm,ob,b1,b2,an3 b3 (un bm ob b3 (by rw[b4];nofun) (by rw[b6];nofun)),b4,b5,b6⟩
  have d2:∀ q∈tabs,bK (bh3 G.heap H) q.1 q.2:=λ q hq=>by
   obtain⟨o,e4,b0,tf,a3,tg,c1,text,tt,e1,r1,r2⟩:=(hT q hq).1
   refine⟨o,e4,b0,tf,a3,tg,c1,text,tt,an3 e1 ?_,r1,r2⟩
   cases q2:H q.1 with
   | none=>rfl
   | some u =>
    rcases hO _ u q2 with⟨z,_⟩|⟨z,_⟩
    ·rw[z,ha]at e1;cases e1;exact absurd r1 (by simp)
    ·rw[J _ z]at e1;cases e1;exact absurd r1 (by simp)
  have e0:Env0 P w K mg (bh3 G.heap H) ic [] G H:=⟨rfl,hM,λ b o e=>bx7 e,Nat.le_of_eq (aV2 _ _),trivial,λ b hb=>absurd (show b∈([]:List Addr)from hb) (by simp),hok,.of_eq hg⟩
  refine eX ((F _ a6 (Z c0) d3 d2).run ic [] G H ⟨[.ref a],[]⟩ [.ref a] [.ref a] _ _ hr e0 (a2 G (.ref a)) (.cons rfl .nil) (c2 H c4 hS (λ u e=>(hO a u e).elim (λ z=>.inl z.2) (λ z=>.inr ⟨_,z.2⟩)))) λ r s' h=>?_
  cases r with
  | error e=>exact bf h
  | ok fl =>
   cases fl with
   | next=>exact bf h
   | brk=>exact bf h
   | cont=>exact bf h
   | ret u =>
    obtain⟨v,H',os,bare,a4,a0,r',q⟩:=h
    have q':v=.bl true:=q
    subst q'
    obtain rfl:u=Value.bool true:=r'
    have key:∀ b o,G.heap.get? b=some o->asItWas G.heap s'.heap b o/\∃ o',s'.heap.get? b=some o':=λ b o e=>by
     cases q:H b with
     | none =>
      have z:=a4.keep b o e q (by intro z;exact absurd (show b∈([]:List Addr)from z) (by simp)) (by simp)
      exact⟨.inl z,o,z⟩
     | some u =>
      rcases hO b u q with⟨_,ob,xs,z⟩|⟨z,z2⟩
      ·subst z
       have z2:=a4.frzs b ob _ q
       obtain⟨e1,_⟩:=hok b _ q
       obtain⟨e2,_⟩:=a0 b _ z2
       rw[e]at e1;cases e1
       exact⟨.inl e2,_,e2⟩
      ·subst z2
       obtain⟨more,z3⟩:=a4.tbls b _ q
       have g:s'.heap.get? b=some { cls:=.none,data:=.fields (#[]++more) }:=a0 b _ z3
       have e1:=J b z
       rw[e]at e1;cases e1
       obtain⟨p,hp,ep⟩:=aS.mp z
       refine⟨.inr (.inl ⟨?_,rfl,#[],more,rfl,g⟩),_,g⟩
       have t:=((hT p hp).1.tab (hT p hp).2).isCodeTable
       rw[ep]at t
       exact t
    exact⟨rfl,⟨λ b o e=>(key b o e).1,λ b o e=>(key b o e).2⟩,os,bare⟩
 have tbl:∀ b,b∈tabs.map (·.2)->b≠a:=λ b h z=>by
  have e:=J b h
  rw[z,ha]at e;cases e
 cases hk:K.lookup a with
 | some o =>
  have e:=KX a o hk
  rw[ha]at e
  cases e
  refine a1 (λ b=>if b∈tabs.map (·.2)then some (.tbl #[])else none) (λ b u z=>?_) (λ q hq=>if_pos (bF hq)) (.inr ⟨_,vs.toArray,_,hk,rfl,rfl,rfl,by rw[ay,a5];exact hl,by simpa using rv⟩) (λ b u z=>?_) λ z=>?_
  ·by_cases hb:b∈tabs.map (·.2)
   ·have Y:=(if_pos hb).symm.trans z
    cases Y
    exact .inr ⟨hb,rfl⟩
   ·have Y:=(if_neg hb).symm.trans z
    cases Y
  ·by_cases hb:b∈tabs.map (·.2)
   ·have Y:=(if_pos hb).symm.trans z
    cases Y
    exact J b hb
   ·have Y:=(if_neg hb).symm.trans z
    cases Y
  ·exact absurd (if_neg λ y=>tbl a y rfl) z
 | none =>
  refine a1 (λ b=>if b=a then some (.frz { cls:=.type "list",data:=.seq vs.toArray } (.lst (ns.map V.int)))else if b∈tabs.map (·.2)then some (.tbl #[])else none) (λ b u z=>?_) (λ q hq=>?_) (.inl (.inr ⟨{ cls:=.type "list",data:=.seq vs.toArray },if_pos rfl⟩)) (λ b u z=>?_) λ _=>hk
  ·by_cases hb:b=a
   ·have Y:=(if_pos hb).symm.trans z
    cases Y
    exact .inl ⟨hb,_,_,rfl⟩
   ·have Y:=(if_neg hb).symm.trans z
    by_cases hc:b∈tabs.map (·.2)
    ·rw[if_pos hc]at Y;cases Y;exact .inr ⟨hc,rfl⟩
    ·rw[if_neg hc]at Y;cases Y
  ·have hm:q.2∈tabs.map (·.2):=bF hq
   show(if _ then _ else if _ then _ else _)=_
   rw[if_neg (tbl _ hm),if_pos hm]
  ·by_cases hb:b=a
   ·have Y:=(if_pos hb).symm.trans z
    cases Y
    subst hb
    exact⟨ha,by rw[aC];exact hl,vs,_,rv,ha⟩
   ·have Y:=(if_neg hb).symm.trans z
    by_cases hc:b∈tabs.map (·.2)
    ·rw[if_pos hc]at Y;cases Y;exact J b hc
    ·rw[if_neg hc]at Y;cases Y
theorem bc4 {ts:List Addr}{l:cU}{n k:Nat}{q:aM}{loose:List Str}{XP:(Str->Option Value)->Heap->Prop}{YP:World->Heap->Prop}{d:DefRec}{K:Params->ac}{sp:ac->Sp}{x:Str}(names:List Str)
  (hn:l.most=some n) (a2:n<=aP) (b0:d.params.defaults=[]) (hr:Room k ic)
  (hY:∀(w:World) (h:Heap),YP w h->(K w.params).In h/\∀ P∈ts,h.get? P=some (fo #[])) (a0:∀ w:World,bJ8 (K w.params) names ts=true) (a5:∀ w:World,kC (K w.params)=true)
  (F:∀(w:World) (mg:Str->Option Value) (fa:Addr) (h:Heap),(K w.params).In h->h.Ns a7 mg->mg d.name=some (.ref fa) ->
   ∃ fd:bu,(∀(s:af) (u:Value),ke s fd ⟨[u],[]⟩ [(x,u)]) /\
    ∀ base:Heap,(K w.params).In base->base.Ns a7 mg->BM mg base->bG1 (K w.params) names base->FnOk l.prog w (K w.params) mg base CX0 k fa fd [x] (sp (K w.params)))
  (a4:∀(K:ac) (H:Hp) (a:Addr) (ns:List Int),ns.length<=n->bw3 K names H->SqL K H a (ns.map V.int)->(∀ u,H a=some u->(∃ o xs,u=.frz o (.lst xs))\/∃ ps,u=.tbl ps)->sp K [.ref a] H (λ v _=>v=.bl true) E0) :
  kF q loose XP YP l.row.toRowW d [] (λ f vs=>kj f vs):=by
 refine Att.attach_call hn b0 λ w s₀ s₁ mg mb fa o pm cd b2 a vs ns G Y ho hd b1 a3 a1 Z J hg=>?_
 obtain⟨KX,a6⟩:=hY w _ Y
 obtain⟨fd,hb,hF⟩:=F w mg fa _ KX G.T.g a3
 have hT:kB ((az8 (K w.params) names).map (·.2)) s₁.heap:=λ p hp=>by
  obtain⟨y,hy,rfl⟩:=aS.mp hp
  obtain⟨h1,h2⟩:=au0.mp hy
  have z:=aO.mp (a0 w) y.1 h1
  rw[h2]at z
  have z':(jU (K w.params) y.2.1 y.2.2&&ts.contains y.2.2)=true:=z
  rw[ag]at z'
  exact⟨PySem.W.codeHd_of_K KX z'.1,a6 _ (by simpa using z'.2)⟩
 have hm:∀ x∈names,∀ c P,bh (K w.params) x=some (c,P)->(c,P)∈(az8 (K w.params) names).map (·.2):=λ x hx c P e=>aS.mpr ⟨(x,c,P),au0.mpr ⟨hx,e⟩,rfl⟩
 refine aT9 (tabs:=(az8 (K w.params) names).map (·.2)) KX G.T.g G.T.b G.T.builtins G.T.nolimit hg ?_ hT (a5 w) a1 Z (ao J a2) hr (λ base k1 k2 k3 k4=>hF base k1 k2 k3 λ x hx c P e=>k4 _ (hm x hx c P e)) hb λ H hO hS hF=>a4 (K w.params) H a ns J (λ x hx c P e=>hO _ (hm x hx c P e)) hS hF
 obtain⟨bm,ob,h1,h2,h3,h4,h5,h6⟩:=G.T.bmain
 exact⟨bm,ob,h1,h2,h3,h4,h5,h6⟩
def spB (names:List Str)(K:ac):Sp:=λ vs H Q _=>∃(a:Addr) (ns:List Int),vs=[.ref a]/\SqF K H a (ns.map V.int)/\ns.length<=63/\bw3 K names H/\∀ H',Q (.bl true) H'
theorem bR4 {names:List Str}{K:ac}{H:Hp}{a:Addr}{ns:List Int}(hl:ns.length<=63)(G:bw3 K names H)(p:SqL K H a (ns.map V.int))(y:∀ u,H a=some u->(∃ o J,u=.frz o (.lst J))\/∃ ps,u=.tbl ps):spB names K [.ref a] H (λ v _=>v=.bl true) E0:=by
 refine⟨a,ns,rfl,⟨p,λ H' k=>?_⟩,hl,G,λ _=>rfl⟩
 rcases p with(h|⟨o,h⟩)|h
 ·rcases y _ h with⟨_,_,z⟩|⟨_,z⟩<;>cases z
 ·exact .inl (.inr ⟨o,k _ _ h rfl⟩)
 ·exact .inr h
def cm7 (P:ly):String->LamI->Prop:=λ id J=>∃ L,P.lm id=some L/\LamGood J L
noncomputable def sfx (x:Str):Str:=if x = "letter_table" then "least_fee" else "<lambda>"
noncomputable def bu8 (names:List Str)(K:ac):List (Addr×Str):=names.map λ x=>(((bh K x).getD (0,0)).2,x ++ ".<locals>."++sfx x)
noncomputable def bH2 (names:List Str)(K:ac):List (Addr×Addr):=names.map λ x=>(bh K x).getD (0,0)
noncomputable def bR6 (K:ac)(f:String):Option Addr:=match cc K a7 (f:Str)with
 | some (some (.ref a))=>(match K.lookup a with
  | some ⟨_,_,.func _,_⟩=>some a
  | _=>none)
 | _=>none
theorem bA2 {K:ac}{f:String}{a:Addr}{oc:Value}{od:Option Addr}{h:bu}{sl:Array (Option Value)}(y:cc K a7 (f:Str)=some (some (.ref a)))(p:K.lookup a=some ⟨oc,od,.func h,sl⟩):bR6 K f=some a:=by
 unfold bR6
 rw[y]
 simp only
 rw[p]
theorem aO3 {K:ac}{f:String}{a:Addr}(h:bR6 K f=some a):cc K a7 (f:Str)=some (some (.ref a))/\∃ oc od p sl,K.lookup a=some ⟨oc,od,.func p,sl⟩:=by
 unfold bR6 at h
 split at h
 ·rename_i y e
  split at h
  ·rename_i oc od p sl e2
   cases h
   exact⟨e,_,_,_,_,e2⟩
  ·cases h
 ·cases h
noncomputable abbrev bb6 (names:List Str)(P:ly)(K:ac):Gm:=⟨K,bR6 K,cm7 P,bu8 names K⟩
theorem ch9 {names:List Str}{P:ly}{K:ac}{h:Heap}{mg:Str->Option Value}(X:K.In h)(G:h.Ns a7 mg):∀(f:String) (a:Addr),(bb6 names P K).fa f=some a->mg (f:Str)=some (.ref a)/\∃ oc od p sl,(bb6 names P K).K.lookup a=some ⟨oc,od,.func p,sl⟩:=λ f a e=>⟨bW X G (aO3 e).1,(aO3 e).2⟩
theorem bV4 {names:List Str}{P:ly}{K:ac}{h:Heap}{mg:Str->Option Value}{f:String}{a:Addr}{oc:Value}{od:Option Addr}{y:bu}{sl:Array (Option Value)}(X:K.In h)(G:h.Ns a7 mg)(p:cc K a7 (f:Str)=some (some (.ref a)))(J:K.lookup a=some ⟨oc,od,.func y,sl⟩):bn8 (bb6 names P K) mg f (.fn f) :=
 ⟨.ref a,.ref a,bW X G p,rfl,λ _=>rfl,λ φ H=>by unfold RV;exact⟨a,bA2 p J,rfl⟩⟩
theorem bk3 {names:List Str}{P:ly}{K:ac}(G:∀ x∈names,(bh K x).isSome=true){vs:List V}{H:Hp}{Q:VK}{E:XK}(q:spB names K vs H Q E):spT (bb6 names P K) vs H Q E:=by
 obtain⟨a,ns,e,h,hl,y,J⟩:=q
 refine⟨a,ns,e,h,hl,TabsH.init λ p hp=>?_,J⟩
 simp only[bu8,dU]at hp
 obtain⟨x,hx,rfl⟩:=aS.mp hp
 exact y x hx _ _ (ax2 (G x hx))
theorem bs8 {names:List Str}{K:ac}{mg:Str->Option Value}{base:Heap}(h:∀ x∈names,(bh K x).isSome=true)(bm:BM mg base)(hc:bG1 K names base):∀ y∈bH2 names K,bK base y.1 y.2/\BM mg base:=λ y hy=>by
 obtain⟨x,hx,rfl⟩:=aS.mp hy
 exact⟨hc x hx _ _ (ax2 (h x hx)),bm⟩
noncomputable def aw0:bA->Option (List Str)
 | ⟨[],args,none,[],[],none,[]⟩=>some (args.map (·.arg))
 | _=>none
theorem jB {p:bA}{ps:List Str}(h:aw0 p=some ps):∃ args,p=⟨[],args,none,[],[],none,[]⟩/\args.map (·.arg)=ps:=by
 unfold aw0 at h
 split at h
 ·exact⟨_,rfl,aF h⟩
 ·cases h
def aP8 (ps:List Str):Prop:=∀ params,aw0 params=some ps->∀(qual:Str) (body:Expr) (scope:Scope) (clos:List (Str×Addr)) (doc pm:Value) (c':Addr) (ctv:Value) (us:List Value),us.length=ps.length->ef (bU "<lambda>" qual params body scope clos pm (.ref c') ctv) ⟨us,[]⟩=pure (ps.zip us) /\
 ∀(nm:Str) (rp:Pos),ef (et nm qual params [.Return (some body) rp] scope clos .none .none doc pm none (.ref c') ctv) ⟨us,[]⟩=pure (ps.zip us)
noncomputable def aW8 (ps fr:List Str)(sc:Scope):Bool:=decide (sc.kind=.function)&&!sc.isCoroutine&&!sc.isGenerator&&decide ((ps++fr).Nodup)&&(ps.all λ x=>decide (sc.names.lookup x=some .local)||decide (sc.names.lookup x=some .cell))&&(fr.all λ x=>decide (sc.names.lookup x=some .free))&&(sc.names.all λ y=>!decide (y.2=.cell)||decide (sc.names.lookup y.1=some .cell))
theorem bf7 {ps fr:List Str}{sc:Scope}(h:aW8 ps fr sc=true):LamScope (ps++fr) ps fr sc:=by
 unfold aW8 at h
 simp only[ag,decide_eq_true_eq,dQ,aO,b9]at h
 obtain⟨⟨⟨⟨⟨⟨J,G⟩,h3⟩,Z⟩,p⟩,Y⟩,h7⟩:=h
 exact⟨J,G,h3,Z,rfl,p,Y,λ y hy e=>by
  rcases h7 y hy with z|z
  ·rw[e]at z;simp at z
  ·exact z⟩
noncomputable def bL7 (scope sc:Scope):Bool:=scope.names.all λ y=>!decide (scope.names.lookup y.1=some .free)||decide (sc.names.lookup y.1=some .cell)
theorem bl8 {scope sc:Scope}(h:bL7 scope sc=true):∀ x,scope.names.lookup x=some .free->sc.names.lookup x=some .cell:=λ x hx=>by
 have:=aO.mp h (x,.free) (aD hx)
 simp only[b9,dQ,decide_eq_false_iff_not,decide_eq_true_eq]at this
 rcases this with z|z
 ·exact absurd hx z
 ·exact z
noncomputable def lkB (sc:Scope)(N:List Str)(caps:List Nat)(params:bA)(body:Expr)(scope:Scope)(t:mz×List Str×List Str):Bool :=
 decide (aw0 params=some t.2.1)&&decide (caps.map (λ j=>N[j]?)=t.2.2.map some)&&lamCheck scope sc&&bL7 scope sc&&aW8 t.2.1 t.2.2 scope&&decide (t.2.1.length=t.1.ps)&&decide (t.2.2.length=t.1.cs)&&mE (ck0 (t.2.1++t.2.2) scope) t.1.body body
noncomputable def lkG (f:Str)(sc:Scope)(N:List Str)(tab:List (String×mz×List Str×List Str))(id:String)(caps:List Nat)(E:Expr):Bool:=match tab.lookup id,E with
 | some t,.Lambda params body scope _=>decide (sfx f = "<lambda>")&&lkB sc N caps params body scope t
 | some t,.NamedExpr (.Name nm _) (.Lambda params body scope p1) p2=>decide (sfx f=nm)&&decide (p1=p2)&&lkB sc N caps params body scope t
 | _,_=>false
theorem bx8 {names:List Str}{P:ly}{K:ac}{f:Str}{sc:Scope}{N:List Str}{fd:bu}{tab:List (String×mz×List Str×List Str)}(hf:f∈names)(Y:fd.code=.ref ((bh K f).getD (0,0)).1)(a0:∀ y∈sc.names,y.2=.cell->sc.names.lookup y.1=some .cell)
  (Z:∀ id t,tab.lookup id=some t->P.lm id=some t.1/\aP8 t.2.1):bw4 (bb6 names P K) (bH2 names K) f sc N fd (lkG f sc N tab):=by
 intro id G E h
 have J:∀(t:mz×List Str×List Str) (params:bA) (body:Expr) (scope:Scope) (nm:Option (Str×Pos)),tab.lookup id=some t->lkB sc N G params body scope t=true->(match nm with|none => "<lambda>" | some p=>p.1)=sfx f ->
   LkAt (bb6 names P K) (bH2 names K) f sc N fd id G params body scope ((bh K f).getD (0,0)).1 ((bh K f).getD (0,0)).2 ⟨f ++ ".<locals>."++sfx f,params,body,scope,t.2.1,t.2.2,nm⟩:=λ t params body scope nm e h hs=>by
  obtain⟨L,ps,fr⟩:=t
  unfold lkB at h
  simp only[ag,decide_eq_true_eq]at h
  obtain⟨⟨⟨⟨⟨⟨⟨h1,h2⟩,h3⟩,h4⟩,h5⟩,h6⟩,h7⟩,h8⟩:=h
  obtain⟨hL,hB⟩:=Z id _ e
  obtain⟨args,rfl,a2⟩:=jB h1
  have a1:fr.length=G.length:=by have:=congrArg kX h2;simpa using this.symm
  have S:=bf7 h5
  refine⟨Y,aS.mpr ⟨f,hf,rfl⟩,h3,bl8 h4,a0,λ env=>rfl,⟨L,hL,⟨S,h6,h7,h8,λ a4 a6 pm c' a5 us a3=>hB _ h1 _ _ _ _ _ _ _ _ _ a3⟩⟩,?_,rfl,rfl,rfl,a1,λ i j x e1 e2=>?_,S.frs,aS.mpr ⟨f,hf,rfl⟩⟩
  ·show f ++ ".<locals>."++sfx f=f ++ ".<locals>."++LamI.own _
   unfold LamI.own
   rw[<-hs]<;>rfl
  ·have e3:(G.map (λ j=>N[j]?))[i]?=some (N[j]?):=by rw[ax,e1];rfl
   rw[h2,ax,e2]at e3
   exact(aF e3).symm
 unfold lkG at h
 split at h
 case h_3=>cases h
 ·rename_i t params body scope pos e
  rw[ag]at h
  exact⟨_,_,params,body,scope,pos,_,rfl,J t params body scope none e h.2 (of_decide_eq_true h.1).symm⟩
 ·rename_i t nm rp params body scope p1 p2 e
  rw[ag,ag]at h
  have ep:=of_decide_eq_true h.1.2
  subst ep
  exact⟨_,_,params,body,scope,p1,_,rfl,J t params body scope (some (nm,rp)) e h.2 (of_decide_eq_true h.1.1).symm⟩
theorem bf8 {names:List Str}{P:ly}{K:ac}{f:Str}{sc:Scope}{N:List Str}{p:bu}:bw4 (bb6 names P K) (bH2 names K) f sc N p (λ _ _ _=>false):=λ _ _ _ h=>by cases h
theorem ce7 {names:List Str}{P:ly}{K:ac}:∀ id J,(bb6 names P K).lg id J->∃ L,P.lm id=some L/\LamGood J L:=λ _ _ h=>h
theorem cg1 {P:ly}{tab:List (String×mz×List Str×List Str)}(h:∀ p∈tab,P.lm p.1=some p.2.1/\aP8 p.2.2.1):∀ id t,tab.lookup id=some t->P.lm id=some t.1/\aP8 t.2.1:=by
 induction tab with
 | nil=>intro id t e;cases e
 | cons y l ih =>
  intro id t e
  rw[a9]at e
  cases q:id==y.1 with
  | true =>
   rw[q]at e
   cases e
   rw[eq_of_beq q]
   exact h y (aB ..)
  | false =>
   rw[q]at e
   exact ih (λ p hp=>h p (aj _ hp)) id t e
def ca2 (K:ac)(n:Str)(st:Stmt):Prop:=∃(f:Addr) (od an:Option Addr) (sl:Array (Option Value)) (oc kV dc pm cd ct:Value),cc K a7 n=some (some (.ref f)) /\
 K.lookup f=some ⟨oc,od,.func (cQ n n (defArgs st) (zK st) (defScope st) .none kV dc pm an cd ct),sl⟩/\fh K cd n=true/\bZ K (.ref f)=true
def cl2 (n:Str)(st:Stmt)(ps:List Str):Prop:=∀(kV doc pm:Value) (an:Option Addr) (cdv ct:Value) (us:List Value),us.length=ps.length->ef (cQ n n (defArgs st) (zK st) (defScope st) .none kV doc pm an cdv ct) ⟨us,[]⟩=pure (ps.zip us)
theorem bd0 {Q:List Value->Prop}(h:Q [])(us:List Value)(hl:us.length=0):Q us:=by
 cases us with
 | nil=>exact h
 | cons _ _=>cases hl
theorem bdS {k:Nat}{Q:List Value->Prop}(h:∀ a us,us.length=k->Q (a::us))(us:List Value)(hl:us.length=k+1):Q us:=by
 cases us with
 | nil=>cases hl
 | cons a us=>exact h a us (Nat.succ.inj hl)
theorem bd1 {Q:List Value->Prop}(h:∀ a,Q [a]):∀ us:List Value,us.length=1->Q us:=bdS λ a=>bd0 (h a)
theorem bd2 {Q:List Value->Prop}(h:∀ a b,Q [a,b]):∀ us:List Value,us.length=2->Q us:=bdS λ a=>bd1 (h a)
theorem bd3 {Q:List Value->Prop}(h:∀ a b c,Q [a,b,c]):∀ us:List Value,us.length=3->Q us:=bdS λ a=>bd2 (h a)
theorem bd4 {Q:List Value->Prop}(h:∀ a b c d,Q [a,b,c,d]):∀ us:List Value,us.length=4->Q us:=bdS λ a=>bd3 (h a)
def DTB (names:List Str)(P:ly)(n:String)(pc vc:Nat)(m:Ck->List Stmt->Bool)(st:Stmt):Prop:=∃ N ps,FnScope N ps (defScope st)/\ps.length=pc/\N.length=pc+vc/\cl2 n st ps/\(m ⟨N,defScope st,λ _ _ _=>false⟩ (zK st)=true \/
 ((n:Str)∈names/\∃ tab,m ⟨N,defScope st,lkG n (defScope st) N tab⟩ (zK st)=true/\(∀ y∈(defScope st).names,y.2=.cell->(defScope st).names.lookup y.1=some .cell)/\∀ p∈tab,P.lm p.1=some p.2.1/\aP8 p.2.2.1))
def DT (names:List Str)(P:ly)(n:String)(d:mB)(st:Stmt):Prop:=DTB names P n d.ps d.vs (λ ck S=>mSs ck d.body S) st
theorem an0 {names:List Str}{P:ly}{K:ac}{h:Heap}{mg:Str->Option Value}{n:String}{Z y:Nat}{m:Ck->List Stmt->Bool}{st:Stmt}(X:K.In h)(G:h.Ns a7 mg)(hT:∀ x∈names,(bh K x).isSome=true)(hD:ca2 K n st)(hd:DTB names P n Z y m st):GoodB (bb6 names P K) (bH2 names K) mg n Z y m:=by
 obtain⟨f,od,an,sl,oc,kV,dc,pm,cd,ct,a,l,c,k⟩:=hD
 obtain⟨N,ps,Y,J,h3,h4,p⟩:=hd
 have F:=bu0 (st:=st) l c k
 have D:DefAt K mg n st ps f _:=⟨F,bW X G a,F.binds h4⟩
 rcases p with p|⟨hn,tab,p,h6,h7⟩
 ·exact⟨_,_,_,_,_,_,D,Y,J,h3,p,bf8⟩
 ·exact⟨_,_,_,_,_,_,D,Y,J,h3,p,bx8 hn (PySem.W.law_code X G (ax2 (hT _ hn)) (bW X G a) (X _ _ l) rfl) h6 (cg1 h7)⟩
theorem good_of {names:List Str}{P:ly}{K:ac}{h:Heap}{mg:Str->Option Value}{n:String}{d:mB}{st:Stmt}(X:K.In h)(G:h.Ns a7 mg)(hT:∀ x∈names,(bh K x).isSome=true)(hD:ca2 K n st)(hd:DT names P n d st):Good (bb6 names P K) (bH2 names K) mg n d:=an0 X G hT hD hd
theorem aJ8 {α:Type}{Q:String->α->Prop}:∀ {tbl:List (String×α)},(∀ p∈tbl,Q p.1 p.2)->∀ f d,tbl.lookup f=some d->Q f d
 | [],_,f,d,h=>by cases h
 | (g,e)::tbl,H,f,d,h=>by
  rw[a9]at h
  cases q:f==g with
  | true =>
   rw[q]at h
   cases h
   rw[eq_of_beq q]
   exact H (g,_) (aB ..)
  | false =>
   rw[q]at h
   exact aJ8 (λ p hp=>H p (aj _ hp)) f d h
noncomputable def cj5 (K:ac)(c:String):Bool:=match cc K a7 (c:Str)with|some (some (.ref C))=>cd5 K C&&excI K C|_=>false
noncomputable def ci9 (K:ac)(c:String):Bool:=match cc K a7 (c:Str)with|some (some (.ref _))=>true|_=>false
noncomputable def cl0 (K:ac)(c d:String):Bool:=match cc K a7 (c:Str),cc K a7 (d:Str)with|some (some (.ref C)),some (some (.ref D))=>bH K (.ref C) (.ref D)==some (lM c d)|_,_=>false
noncomputable def bA1 (K:ac)(cs ts:List String):Bool:=cs.all (cj5 K)&&(ts.all (ci9 K)&&cs.all λ c=>ts.all λ d=>cl0 K c d)
theorem bd8 {K:ac}{h:Heap}{mg:Str->Option Value}{cs ts:List String}(X:K.In h)(G:h.Ns a7 mg)(hx:bA1 K cs ts=true) :
  (∀ c:String,cs.contains c=true->∃ C,mg (c:Str)=some (.ref C)/\ExcCls K C/\excI K C=true)/\(∀ c:String,ts.contains c=true->∃ C,mg (c:Str)=some (.ref C)) /\
  ∀(c d:String) (C D:Addr),cs.contains c=true->ts.contains d=true->mg (c:Str)=some (.ref C)->mg (d:Str)=some (.ref D)->bH K (.ref C) (.ref D)=some (lM c d):=by
 unfold bA1 at hx
 simp only[ag]at hx
 obtain⟨Z,Y,h3⟩:=hx
 refine⟨λ c hc=>?_,λ c hc=>?_,λ c d C D hc hd mc J=>?_⟩
 ·have q:=aO.mp Z c (c5.mp hc)
  unfold cj5 at q
  split at q
  ·rename_i C e
   rw[ag]at q
   exact⟨C,bW X G e,bE9 q.1,q.2⟩
  ·cases q
 ·have q:=aO.mp Y c (c5.mp hc)
  unfold ci9 at q
  split at q
  ·rename_i C e
   exact⟨C,bW X G e⟩
  ·cases q
 ·have q:=aO.mp (aO.mp h3 c (c5.mp hc)) d (c5.mp hd)
  unfold cl0 at q
  split at q
  ·rename_i C' D' e1 e2
   have y:=bW X G e1
   have p:=bW X G e2
   rw[mc]at y;cases y
   rw[J]at p;cases p
   exact eq_of_beq q
  ·cases q
end L2
end
noncomputable section
namespace DV
noncomputable def aT3:Df:=⟨"is_whole",3,0,(.cons (.ret (.and (.bi .isInt (.cons (.var 0) .nil)) (.and (.not (.bi .isBool (.cons (.var 0) .nil))) (.chain .le .le (.var 1) (.var 0) (.var 2))))) .nil)⟩
noncomputable def ay1:Df:=⟨"is_tuple_of",2,0,(.cons (.ret (.and (.bi .isTup (.cons (.var 0) .nil)) (.cmp .eq (.bi .len (.cons (.var 0) .nil)) (.var 1)))) .nil)⟩
noncomputable def aF5:Df:=⟨"is_letter",2,0,(.cons (.ret (.cmp .isin (.var 0) (.slU (.glob "LETTERS") (.var 1)))) .nil)⟩
noncomputable def cc8:Df:=⟨"_law_bag",2,3,(.cons (.asg (.one 2) (.cst (.int 0))) (.cons (.ite (.cmp .lt (.var 1) (.bi .len (.cons (.var 0) .nil))) (.cons (.asg (.one 2) (.bi .abs (.cons (.ix (.var 0) (.var 1)) .nil))) .nil) .nil) (.cons (.asg (.one 3) (.bin .add (.bin .mul (.cst (.int 7919)) (.var 1)) (.cst (.int 17)))) (.cons (.for_ (.one 4) (.rng1 (.bi .min2 (.cons (.bi .len (.cons (.var 0) .nil)) (.cons (.cst (.int 60)) .nil)))) (.cons (.asg (.one 3) (.bin .mod (.bin .add (.bin .add (.bin .mul (.var 3) (.cst (.int 48271))) (.bin .mod (.ix (.var 0) (.var 4)) (.cst (.int 2147483647)))) (.var 4)) (.cst (.int 2147483629)))) .nil)) (.cons (.ite (.cmp .lt (.var 2) (.bin .pow (.cst (.int 10)) (.cst (.int 18)))) (.cons (.asg (.one 2) (.cst (.int 0))) .nil) .nil) (.cons (.ret (.lst (.cons (.var 2) (.cons (.var 3) .nil)))) .nil))))))⟩
noncomputable def bN0:Df:=⟨"_law_take",2,3,(.cons (.ite (.cmp .gt (.ix (.var 0) (.cst (.int 0))) (.cst (.int 0))) (.cons (.asg (.one 2) (.bin .mod (.ix (.var 0) (.cst (.int 0))) (.var 1))) (.cons (.setIx (.var 0) (.cst (.int 0)) (.bin .fdiv (.ix (.var 0) (.cst (.int 0))) (.var 1))) (.cons (.ret (.var 2)) .nil))) .nil) (.cons (.asg (.one 3) (.cst (.int 0))) (.cons (.asg (.one 4) (.cst (.int 1))) (.cons (.whl (.cmp .lt (.var 4) (.var 1)) (.cons (.setIx (.var 0) (.cst (.int 1)) (.bin .mod (.bin .add (.bin .mul (.ix (.var 0) (.cst (.int 1))) (.cst (.int 48271))) (.cst (.int 7919))) (.cst (.int 2147483647)))) (.cons (.asg (.one 3) (.bin .add (.bin .mul (.var 3) (.cst (.int 1073741789))) (.bin .mod (.bin .mul (.bin .fdiv (.ix (.var 0) (.cst (.int 1))) (.cst (.int 8))) (.cst (.int 69621))) (.cst (.int 1073741789))))) (.cons (.asg (.one 4) (.bin .mul (.var 4) (.cst (.int 1073741789)))) .nil)))) (.cons (.ret (.bin .mod (.var 3) (.var 1))) .nil)))))⟩
noncomputable def bG6:Df:=⟨"_law_rooms",2,1,(.cons (.asg (.one 2) (.call "_law_take" (.ex (.var 0) (.ex (.bin .shl (.cst (.int 1)) (.var 1)) .nil)))) (.cons (.ret (.mk .tuple (.compIf (.one 0) (.rng1 (.var 1)) (.cmp .eq (.bin .mod (.bin .fdiv (.var 1) (.bin .shl (.cst (.int 1)) (.var 0))) (.cst (.int 2))) (.cst (.int 1))) (.var 0) [none,some 2]))) .nil))⟩
noncomputable def bb4:Df:=⟨"_law_machine",1,5,(.cons (.asg (.one 1) (.bin .add (.cst (.int 1)) (.call "_law_take" (.ex (.var 0) (.ex (.cst (.int 3)) .nil))))) (.cons (.asg (.one 2) (.bin .add (.cst (.int 1)) (.call "_law_take" (.ex (.var 0) (.ex (.cst (.int 5)) .nil))))) (.cons (.asg (.one 3) (.call "_law_take" (.ex (.var 0) (.ex (.cst (.int 13)) .nil)))) (.cons (.ite (.cmp .eq (.call "_law_take" (.ex (.var 0) (.ex (.cst (.int 8)) .nil))) (.cst (.int 7))) (.cons (.asg (.one 3) (.call "_law_take" (.ex (.var 0) (.ex (.cst (.int 76)) .nil)))) .nil) .nil) (.cons (.asg (.one 4) (.lst .nil)) (.cons (.for_ (.one 5) (.rng1 (.var 3)) (.cons (.ex (.meth .append (.var 4) (.cons (.tup (.cons (.call "_law_take" (.ex (.var 0) (.ex (.var 2) .nil))) (.cons (.ix (.cst (.str [97,98,99])) (.call "_law_take" (.ex (.var 0) (.ex (.var 1) .nil)))) (.cons (.call "_law_take" (.ex (.var 0) (.ex (.var 2) .nil))) (.cons (.call "_law_take" (.ex (.var 0) (.ex (.cst (.int 4)) .nil))) .nil))))) .nil))) .nil)) (.cons (.ret (.tup (.cons (.var 1) (.cons (.var 2) (.cons (.call "_law_rooms" (.ex (.var 0) (.ex (.var 2) .nil))) (.cons (.call "_law_rooms" (.ex (.var 0) (.ex (.var 2) .nil))) (.cons (.mk .tuple (.seq (.var 4))) .nil))))))) .nil)))))))⟩
noncomputable def aB1:Df:=⟨"letters_of",1,0,(.cons (.ret (.slU (.glob "LETTERS") (.ix (.var 0) (.cst (.int 0))))) .nil)⟩
noncomputable def bU3:Df:=⟨"_law_word",3,2,(.cons (.asg (.one 3) (.cst (.str []))) (.cons (.for_ (.one 4) (.rng1 (.call "_law_take" (.ex (.var 0) (.ex (.bin .add (.var 2) (.cst (.int 1))) .nil)))) (.cons (.asg (.one 3) (.bin .add (.var 3) (.ix (.cst (.str [97,98,99])) (.call "_law_take" (.ex (.var 0) (.ex (.var 1) .nil)))))) .nil)) (.cons (.ret (.var 3)) .nil)))⟩
noncomputable def ab2:Df:=⟨"rooms_of",1,0,(.cons (.ret (.ix (.var 0) (.cst (.int 1)))) .nil)⟩
noncomputable def jF:Df:=⟨"begins_of",1,0,(.cons (.ret (.ix (.var 0) (.cst (.int 2)))) .nil)⟩
noncomputable def ap8:Df:=⟨"ends_of",1,0,(.cons (.ret (.ix (.var 0) (.cst (.int 3)))) .nil)⟩
noncomputable def zR:Df:=⟨"doors_of",1,0,(.cons (.ret (.ix (.var 0) (.cst (.int 4)))) .nil)⟩
noncomputable def qr:Df:=⟨"grid",2,2,(.cons (.asg (.one 2) (.lst .nil)) (.cons (.for_ (.one 3) (.rng1 (.var 0)) (.cons (.ex (.meth .append (.var 2) (.cons (.mk .tuple (.comp (.one 0) (.rng1 (.var 0)) (.callV 1 (.cons (.var 2) (.cons (.var 0) .nil))) [none,some 1,some 3])) .nil))) .nil)) (.cons (.ret (.mk .tuple (.seq (.var 2)))) .nil)))⟩
noncomputable def qP:Df:=⟨"least",1,0,(.cons (.ret (.mkD .min (.compIf (.one 0) (.seq (.var 0)) (.notN (.var 0)) (.var 0) [none]) (.cst .non))) .nil)⟩
noncomputable def qV:Df:=⟨"added",2,0,(.cons (.ite (.or (.isN (.var 0)) (.isN (.var 1))) (.cons (.ret (.cst .non)) .nil) .nil) (.cons (.ret (.bin .add (.var 0) (.var 1))) .nil))⟩
noncomputable def ja:Df:=⟨"plain",1,0,(.cons (.ret (.callC "grid" (.ex (.var 0) (.lam "plain.0" [] .nil)))) .nil)⟩
noncomputable def zT:Lm:=⟨"plain.0",2,0,(.ite (.cmp .eq (.var 0) (.var 1)) (.cst (.int 0)) (.cst .non))⟩
noncomputable def qe:Df:=⟨"product",2,1,(.cons (.asg (.one 2) (.bi .len (.cons (.var 0) .nil))) (.cons (.ret (.callC "grid" (.ex (.var 2) (.lam "product.0" [2,0,1] .nil)))) .nil))⟩
noncomputable def zD:Lm:=⟨"product.0",2,3,(.call "least" (.ex (.mk .list (.comp (.one 0) (.rng1 (.var 2)) (.call "added" (.ex (.ix (.ix (.var 1) (.var 2)) (.var 0)) (.ex (.ix (.ix (.var 3) (.var 0)) (.var 4)) .nil))) [none,some 3,some 0,some 4,some 1])) .nil))⟩
noncomputable def bm9:Df:=⟨"_law_same",2,2,(.cons (.ite (.or (.not (.bi .isTup (.cons (.var 0) .nil))) (.cmp .ne (.bi .len (.cons (.var 0) .nil)) (.bi .len (.cons (.var 1) .nil)))) (.cons (.ret (.cst (.bl false))) .nil) .nil) (.cons (.for_ (.one 2) (.rng1 (.bi .len (.cons (.var 1) .nil))) (.cons (.ite (.or (.not (.bi .isTup (.cons (.ix (.var 0) (.var 2)) .nil))) (.cmp .ne (.bi .len (.cons (.ix (.var 0) (.var 2)) .nil)) (.bi .len (.cons (.var 1) .nil)))) (.cons (.ret (.cst (.bl false))) .nil) .nil) (.cons (.for_ (.one 3) (.seq (.ix (.var 0) (.var 2))) (.cons (.ite (.and (.notN (.var 3)) (.or (.not (.bi .isInt (.cons (.var 3) .nil))) (.bi .isBool (.cons (.var 3) .nil)))) (.cons (.ret (.cst (.bl false))) .nil) .nil) .nil)) .nil))) (.cons (.ret (.cmp .eq (.var 0) (.var 1))) .nil)))⟩
noncomputable def jt:Df:=⟨"raised",4,3,(.cons (.asg (.one 4) (.var 2)) (.cons (.asg (.one 5) (.var 0)) (.cons (.asg (.one 6) (.var 1)) (.cons (.whl (.cmp .gt (.var 6) (.cst (.int 0))) (.cons (.ite (.cmp .eq (.bin .mod (.var 6) (.cst (.int 2))) (.cst (.int 1))) (.cons (.asg (.one 4) (.callV 3 (.cons (.var 4) (.cons (.var 5) .nil)))) .nil) .nil) (.cons (.asg (.one 6) (.bin .fdiv (.var 6) (.cst (.int 2)))) (.cons (.ite (.cmp .gt (.var 6) (.cst (.int 0))) (.cons (.asg (.one 5) (.callV 3 (.cons (.var 5) (.cons (.var 5) .nil)))) .nil) .nil) .nil)))) (.cons (.ret (.var 4)) .nil)))))⟩
noncomputable def ax6:Df:=⟨"power",2,0,(.cons (.ret (.call "raised" (.ex (.var 0) (.ex (.var 1) (.ex (.call "plain" (.ex (.bi .len (.cons (.var 0) .nil)) .nil)) (.ex (.glob "product") .nil)))))) .nil)⟩
noncomputable def zw:Df:=⟨"letter_table",2,1,(.cons (.und 2) (.cons (.ret (.callC "grid" (.ex (.call "rooms_of" (.ex (.var 0) .nil)) (.lam "letter_table.least_fee" [0,1] .nil)))) .nil))⟩
noncomputable def zh:Lm:=⟨"letter_table.least_fee",2,2,(.call "least" (.ex (.mk .list (.compIf (.tup [0,1,2,3]) (.seq (.call "doors_of" (.ex (.var 2) .nil))) (.cmp .eq (.tup (.cons (.var 0) (.cons (.var 1) (.cons (.var 2) .nil)))) (.tup (.cons (.var 4) (.cons (.var 5) (.cons (.var 6) .nil))))) (.var 3) [none,none,none,none,some 0,some 3,some 1])) .nil))⟩
noncomputable def qb:Df:=⟨"word_table",2,3,(.cons (.asg (.one 2) (.dic .nil .nil)) (.cons (.asg (.one 3) (.call "plain" (.ex (.call "rooms_of" (.ex (.var 0) .nil)) .nil))) (.cons (.for_ (.one 4) (.seq (.var 1)) (.cons (.ite (.cmp .notin (.var 4) (.var 2)) (.cons (.setIx (.var 2) (.var 4) (.call "letter_table" (.ex (.var 0) (.ex (.var 4) .nil)))) .nil) .nil) (.cons (.asg (.one 3) (.call "product" (.ex (.var 3) (.ex (.ix (.var 2) (.var 4)) .nil)))) .nil))) (.cons (.ret (.var 3)) .nil))))⟩
noncomputable def aF3:Df:=⟨"_law_from_room",3,7,(.cons (.asg (.one 3) (.mk .list (.comp (.one 0) (.rng1 (.ix (.var 0) (.cst (.int 1)))) (.cst .non) [none]))) (.cons (.setIx (.var 3) (.var 2) (.cst (.int 0))) (.cons (.for_ (.one 4) (.seq (.var 1)) (.cons (.asg (.one 5) (.mk .list (.comp (.one 0) (.seq (.var 3)) (.cst .non) [none]))) (.cons (.for_ (.tup [6,7,8,9]) (.seq (.ix (.var 0) (.cst (.int 4)))) (.cons (.ite (.and (.cmp .eq (.var 7) (.var 4)) (.notN (.ix (.var 3) (.var 6)))) (.cons (.ite (.or (.isN (.ix (.var 5) (.var 8))) (.cmp .lt (.bin .add (.ix (.var 3) (.var 6)) (.var 9)) (.ix (.var 5) (.var 8)))) (.cons (.setIx (.var 5) (.var 8) (.bin .add (.ix (.var 3) (.var 6)) (.var 9))) .nil) .nil) .nil) .nil) .nil)) (.cons (.asg (.one 3) (.var 5)) .nil)))) (.cons (.ret (.mk .tuple (.seq (.var 3)))) .nil))))⟩
noncomputable def aX5:Df:=⟨"law",1,7,(.cons (.for_ (.one 1) (.rng1 (.bin .add (.bi .min2 (.cons (.bi .len (.cons (.var 0) .nil)) (.cons (.cst (.int 3)) .nil))) (.cst (.int 1)))) (.cons (.asg (.one 2) (.call "_law_bag" (.ex (.var 0) (.ex (.var 1) .nil)))) (.cons (.asg (.one 3) (.call "_law_machine" (.ex (.var 2) .nil))) (.cons (.asg (.one 4) (.call "_law_word" (.ex (.var 2) (.ex (.ix (.var 3) (.cst (.int 0))) (.ex (.ix (.lst (.cons (.cst (.int 10)) (.cons (.cst (.int 10)) (.cons (.cst (.int 10)) (.cons (.ix (.lst (.cons (.cst (.int 30)) (.cons (.cst (.int 200)) .nil))) (.bi .int (.cons (.cmp .eq (.var 1) (.cst (.int 0))) .nil))) .nil))))) (.call "_law_take" (.ex (.var 2) (.ex (.cst (.int 4)) .nil)))) .nil))))) (.cons (.asg (.one 5) (.lst (.cons (.var 4) (.cons (.cst (.str [])) (.cons (.rev (.var 4)) (.cons (.var 4) .nil)))))) (.cons (.ite (.cmp .gt (.bi .len (.cons (.var 4) .nil)) (.cst (.int 60))) (.cons (.asg (.one 5) (.lst (.cons (.var 4) .nil))) .nil) .nil) (.cons (.for_ (.one 6) (.seq (.var 5)) (.cons (.asg (.one 7) (.mk .tuple (.comp (.one 0) (.rng1 (.ix (.var 3) (.cst (.int 1)))) (.call "_law_from_room" (.ex (.var 1) (.ex (.var 2) (.ex (.var 0) .nil)))) [none,some 3,some 6]))) (.cons (.ite (.not (.call "_law_same" (.ex (.call "word_table" (.ex (.var 3) (.ex (.var 6) .nil))) (.ex (.var 7) .nil)))) (.cons (.ret (.cst (.bl false))) .nil) .nil) .nil))) .nil))))))) (.cons (.ret (.cst (.bl true))) .nil))⟩
noncomputable def zV:Df:=⟨"at_begins_and_ends",2,2,(.cons (.asg (.one 2) (.lst .nil)) (.cons (.for_ (.one 3) (.seq (.call "begins_of" (.ex (.var 0) .nil))) (.cons (.ex (.ext (.var 2) (.comp (.one 0) (.seq (.call "ends_of" (.ex (.var 0) .nil))) (.ix (.ix (.var 1) (.var 2)) (.var 0)) [none,some 1,some 3]))) .nil)) (.cons (.ret (.var 2)) .nil)))⟩
noncomputable def bc5:Df:=⟨"price",2,0,(.cons (.ret (.call "least" (.ex (.call "at_begins_and_ends" (.ex (.var 0) (.ex (.call "word_table" (.ex (.var 0) (.ex (.var 1) .nil))) .nil))) .nil))) .nil)⟩
noncomputable def aA0:Df:=⟨"sign_of",1,0,(.cons (.ite (.isN (.var 0)) (.cons (.ret (.glob "NONE")) .nil) .nil) (.cons (.ret (.ite (.cmp .eq (.var 0) (.cst (.int 0))) (.glob "FREE") (.glob "SOME"))) .nil))⟩
noncomputable def aE6:Df:=⟨"reading",1,0,(.cons (.ret (.callC "grid" (.ex (.bi .len (.cons (.var 0) .nil)) (.lam "reading.0" [0] .nil)))) .nil)⟩
noncomputable def am1:Lm:=⟨"reading.0",2,1,(.call "sign_of" (.ex (.ix (.ix (.var 2) (.var 0)) (.var 1)) .nil))⟩
noncomputable def ak7:Df:=⟨"plain_signs",1,0,(.cons (.ret (.callC "grid" (.ex (.var 0) (.lam "plain_signs.0" [] .nil)))) .nil)⟩
noncomputable def ji:Lm:=⟨"plain_signs.0",2,0,(.ite (.cmp .eq (.var 0) (.var 1)) (.glob "FREE") (.glob "NONE"))⟩
noncomputable def aj8:Df:=⟨"_law_box",2,4,(.cons (.asg (.one 2) (.cst (.int 0))) (.cons (.ite (.cmp .lt (.var 1) (.bi .len (.cons (.var 0) .nil))) (.cons (.asg (.one 2) (.bi .abs (.cons (.ix (.var 0) (.var 1)) .nil))) .nil) .nil) (.cons (.ite (.cmp .ge (.var 2) (.bin .pow (.cst (.int 10)) (.cst (.int 18)))) (.cons (.ret (.lst (.cons (.var 2) .nil))) .nil) .nil) (.cons (.asg (.one 3) (.cst (.int 0))) (.cons (.for_ (.one 4) (.rng1 (.cst (.int 128))) (.cons (.asg (.one 5) (.bin .mod (.bin .mul (.bin .add (.bin .add (.bin .add (.bin .mod (.var 2) (.cst (.int 2147483647))) (.bin .mul (.cst (.int 7919)) (.var 1))) (.bin .mul (.cst (.int 104729)) (.var 4))) (.cst (.int 97))) (.cst (.int 48271))) (.cst (.int 2147483647)))) (.cons (.asg (.one 3) (.bin .add (.bin .mul (.var 3) (.cst (.int 2147483647))) (.bin .mod (.bin .add (.bin .add (.bin .mul (.var 5) (.var 5)) (.bin .mul (.cst (.int 31)) (.var 4))) (.bin .fdiv (.var 2) (.cst (.int 2147483647)))) (.cst (.int 2147483647))))) .nil))) (.cons (.ret (.lst (.cons (.var 3) .nil))) .nil))))))⟩
noncomputable def ag9:Df:=⟨"_law_draw",2,1,(.cons (.asg (.one 2) (.bin .mod (.ix (.var 0) (.cst (.int 0))) (.var 1))) (.cons (.setIx (.var 0) (.cst (.int 0)) (.bin .fdiv (.ix (.var 0) (.cst (.int 0))) (.var 1))) (.cons (.ret (.var 2)) .nil)))⟩
noncomputable def bt0:Df:=⟨"_law_form",2,2,(.cons (.ite (.or (.not (.bi .isTup (.cons (.var 0) .nil))) (.cmp .ne (.bi .len (.cons (.var 0) .nil)) (.var 1))) (.cons (.ret (.cst (.bl false))) .nil) .nil) (.cons (.for_ (.one 2) (.seq (.var 0)) (.cons (.ite (.or (.not (.bi .isTup (.cons (.var 2) .nil))) (.cmp .ne (.bi .len (.cons (.var 2) .nil)) (.var 1))) (.cons (.ret (.cst (.bl false))) .nil) .nil) (.cons (.for_ (.one 3) (.seq (.var 2)) (.cons (.ite (.or (.not (.bi .isInt (.cons (.var 3) .nil))) (.bi .isBool (.cons (.var 3) .nil))) (.cons (.ret (.cst (.bl false))) .nil) .nil) .nil)) .nil))) (.cons (.ret (.cst (.bl true))) .nil)))⟩
noncomputable def zE:Df:=⟨"sign_product",2,1,(.cons (.asg (.one 2) (.bi .len (.cons (.var 0) .nil))) (.cons (.ret (.callC "grid" (.ex (.var 2) (.lam "sign_product.0" [2,0,1] .nil)))) .nil))⟩
noncomputable def zv:Lm:=⟨"sign_product.0",2,3,(.mk .min (.comp (.one 0) (.rng1 (.var 2)) (.bi .max2 (.cons (.ix (.ix (.var 1) (.var 2)) (.var 0)) (.cons (.ix (.ix (.var 3) (.var 0)) (.var 4)) .nil))) [none,some 3,some 0,some 4,some 1]))⟩
noncomputable def aG3:Df:=⟨"_law_signs",2,6,(.cons (.asg (.one 2) (.call "_law_draw" (.ex (.var 0) (.ex (.cst (.int 4)) .nil)))) (.cons (.asg (.one 3) (.lst .nil)) (.cons (.for_ (.one 4) (.rng1 (.var 1)) (.cons (.asg (.one 5) (.lst .nil)) (.cons (.for_ (.one 6) (.rng1 (.var 1)) (.cons (.asg (.one 7) (.call "_law_draw" (.ex (.var 0) (.ex (.cst (.int 4)) .nil)))) (.cons (.ite (.or (.and (.cmp .eq (.var 2) (.cst (.int 1))) (.cmp .gt (.call "_law_draw" (.ex (.var 0) (.ex (.cst (.int 3)) .nil))) (.cst (.int 0)))) (.and (.cmp .eq (.var 2) (.cst (.int 2))) (.cmp .gt (.var 4) (.var 6)))) (.cons (.asg (.one 7) (.cst (.int 3))) .nil) .nil) (.cons (.ite (.and (.cmp .eq (.var 2) (.cst (.int 3))) (.and (.cmp .ne (.var 6) (.bin .mod (.bin .add (.var 4) (.cst (.int 1))) (.var 1))) (.cmp .gt (.call "_law_draw" (.ex (.var 0) (.ex (.cst (.int 4)) .nil))) (.cst (.int 0))))) (.cons (.asg (.one 7) (.cst (.int 3))) .nil) .nil) (.cons (.ex (.meth .append (.var 5) (.cons (.var 7) .nil))) .nil))))) (.cons (.ex (.meth .append (.var 3) (.cons (.mk .tuple (.seq (.var 5))) .nil))) .nil)))) (.cons (.ret (.mk .tuple (.seq (.var 3)))) .nil))))⟩
noncomputable def ac4:Df:=⟨"_law_product",2,4,(.cons (.asg (.one 2) (.lst .nil)) (.cons (.for_ (.one 3) (.seq (.var 0)) (.cons (.asg (.one 4) (.mk .list (.comp (.one 0) (.seq (.var 3)) (.cst (.int 3)) [none]))) (.cons (.for_ (.one 5) (.rng1 (.bi .len (.cons (.var 3) .nil))) (.cons (.ite (.cmp .lt (.ix (.var 3) (.var 5)) (.cst (.int 3))) (.cons (.asg (.one 4) (.mk .list (.comp (.one 0) (.rng1 (.bi .len (.cons (.var 3) .nil))) (.bi .min2 (.cons (.ix (.var 1) (.var 0)) (.cons (.bi .max2 (.cons (.ix (.var 2) (.var 3)) (.cons (.ix (.ix (.var 4) (.var 3)) (.var 0)) .nil))) .nil))) [none,some 4,some 3,some 5,some 1]))) .nil) .nil) .nil)) (.cons (.ex (.meth .append (.var 2) (.cons (.mk .tuple (.seq (.var 4))) .nil))) .nil)))) (.cons (.ret (.mk .tuple (.seq (.var 2)))) .nil)))⟩
noncomputable def am2:Df:=⟨"sign_power",2,0,(.cons (.ret (.call "raised" (.ex (.var 0) (.ex (.var 1) (.ex (.call "plain_signs" (.ex (.bi .len (.cons (.var 0) .nil)) .nil)) (.ex (.glob "sign_product") .nil)))))) .nil)⟩
noncomputable def bf1:Df:=⟨"_law_unit",1,0,(.cons (.ret (.mk .tuple (.comp (.one 0) (.rng1 (.var 0)) (.mk .tuple (.comp (.one 0) (.rng1 (.var 1)) (.bin .mul (.cst (.int 3)) (.bi .int (.cons (.cmp .ne (.var 1) (.var 0)) .nil))) [none,some 0])) [none,some 0]))) .nil)⟩
noncomputable def aW3:Df:=⟨"_law_round",1,2,(.cons (.asg (.one 1) (.lst (.cons (.call "_law_unit" (.ex (.bi .len (.cons (.var 0) .nil)) .nil)) .nil))) (.cons (.whl (.cst (.bl true)) (.cons (.asg (.one 2) (.call "_law_product" (.ex (.ix (.var 1) (.neg (.cst (.int 1)))) (.ex (.var 0) .nil)))) (.cons (.ite (.cmp .isin (.var 2) (.var 1)) (.cons (.ret (.tup (.cons (.var 1) (.cons (.meth .index (.var 1) (.cons (.var 2) .nil)) .nil)))) .nil) .nil) (.cons (.ex (.meth .append (.var 1) (.cons (.var 2) .nil))) .nil)))) .nil))⟩
noncomputable def bD9:Df:=⟨"_law_due",3,0,(.cons (.ite (.cmp .lt (.var 2) (.bi .len (.cons (.var 0) .nil))) (.cons (.ret (.ix (.var 0) (.var 2))) .nil) .nil) (.cons (.ret (.ix (.var 0) (.bin .add (.var 1) (.bin .mod (.bin .sub (.var 2) (.var 1)) (.bin .sub (.bi .len (.cons (.var 0) .nil)) (.var 1)))))) .nil))⟩
noncomputable def bg4:Df:=⟨"law",1,9,(.cons (.for_ (.one 1) (.rng1 (.bin .add (.bi .min2 (.cons (.cst (.int 8)) (.cons (.bi .len (.cons (.var 0) .nil)) .nil))) (.cst (.int 1)))) (.cons (.asg (.one 2) (.call "_law_box" (.ex (.var 0) (.ex (.var 1) .nil)))) (.cons (.asg (.one 3) (.bin .add (.cst (.int 1)) (.call "_law_draw" (.ex (.var 2) (.ex (.cst (.int 5)) .nil))))) (.cons (.asg (.one 4) (.call "_law_signs" (.ex (.var 2) (.ex (.var 3) .nil)))) (.cons (.asg (.tup [5,6]) (.call "_law_round" (.ex (.var 4) .nil))) (.cons (.asg (.one 7) (.bin .mul (.call "_law_draw" (.ex (.var 2) (.ex (.bin .pow (.cst (.int 10)) (.cst (.int 30))) .nil))) (.bin .pow (.cst (.int 10)) (.cst (.int 29))))) (.cons (.ite (.cmp .gt (.var 1) (.cst (.int 0))) (.cons (.asg (.one 7) (.cst (.int 0))) .nil) .nil) (.cons (.for_ (.one 8) (.seq (.lst (.cons (.cst (.int 0)) (.cons (.cst (.int 1)) (.cons (.bin .add (.cst (.int 2)) (.call "_law_draw" (.ex (.var 2) (.ex (.cst (.int 30)) .nil)))) (.cons (.call "_law_draw" (.ex (.var 2) (.ex (.cst (.int 1000)) .nil))) (.cons (.bin .add (.var 7) (.call "_law_draw" (.ex (.var 2) (.ex (.cst (.int 1000)) .nil)))) .nil))))))) (.cons (.asg (.one 9) (.call "sign_power" (.ex (.var 4) (.ex (.var 8) .nil)))) (.cons (.ite (.or (.not (.call "_law_form" (.ex (.var 9) (.ex (.var 3) .nil)))) (.cmp .ne (.var 9) (.call "_law_due" (.ex (.var 5) (.ex (.var 6) (.ex (.var 8) .nil)))))) (.cons (.ret (.cst (.bl false))) .nil) .nil) (.cons (.ite (.cmp .ne (.call "sign_product" (.ex (.var 9) (.ex (.call "sign_power" (.ex (.var 4) (.ex (.cst (.int 7)) .nil))) .nil))) (.call "_law_due" (.ex (.var 5) (.ex (.var 6) (.ex (.bin .add (.var 8) (.cst (.int 7))) .nil))))) (.cons (.ret (.cst (.bl false))) .nil) .nil) .nil)))) .nil)))))))) (.cons (.ret (.cst (.bl true))) .nil))⟩
noncomputable def jE:Df:=⟨"is_steady",1,0,(.cons (.ret (.cmp .eq (.call "sign_product" (.ex (.var 0) (.ex (.var 0) .nil))) (.var 0))) .nil)⟩
noncomputable def av3:Df:=⟨"round_of",1,0,(.cons (.ite (.or (.cmp .eq (.var 0) (.glob "FREE")) (.cmp .eq (.var 0) (.glob "NONE"))) (.cons (.ret (.var 0)) .nil) .nil) (.cons (.ret (.glob "UNBOUND")) .nil))⟩
noncomputable def ap4:Df:=⟨"sharpened",1,2,(.cons (.ite (.not (.call "is_steady" (.ex (.var 0) .nil))) (.cons .raise .nil) .nil) (.cons (.asg (.one 1) (.bi .len (.cons (.var 0) .nil))) (.cons (.asg (.one 2) (.mk .list (.comp (.one 0) (.rng1 (.var 1)) (.call "round_of" (.ex (.ix (.ix (.var 1) (.var 0)) (.var 0)) .nil)) [none,some 0]))) (.cons (.ret (.callC "grid" (.ex (.var 1) (.lam "sharpened.0" [1,0,2] .nil)))) .nil))))⟩
noncomputable def jz:Lm:=⟨"sharpened.0",2,3,(.mk .min (.comp (.one 0) (.rng1 (.var 2)) (.bi .max3 (.cons (.ix (.ix (.var 1) (.var 2)) (.var 0)) (.cons (.ix (.var 3) (.var 0)) (.cons (.ix (.ix (.var 1) (.var 0)) (.var 4)) .nil)))) [none,some 3,some 0,some 4,some 1]))⟩
noncomputable def jA:Df:=⟨"steady_power",1,2,(.cons (.asg (.one 1) (.cst (.int 1))) (.cons (.asg (.one 2) (.var 0)) (.cons (.whl (.not (.call "is_steady" (.ex (.var 2) .nil))) (.cons (.aug 1 (.cst (.int 1))) (.cons (.asg (.one 2) (.call "sign_product" (.ex (.var 2) (.ex (.var 0) .nil)))) .nil))) (.cons (.ret (.tup (.cons (.var 1) (.cons (.var 2) .nil)))) .nil))))⟩
noncomputable def aI4:Df:=⟨"_law_goes_with",2,4,(.cons (.for_ (.tup [2,3]) (.zip (.seq (.var 0)) (.seq (.var 1))) (.cons (.for_ (.tup [4,5]) (.zip (.seq (.var 2)) (.seq (.var 3))) (.cons (.ite (.or (.cmp .lt (.var 5) (.var 4)) (.or (.cmp .ne (.cmp .eq (.var 5) (.cst (.int 0))) (.cmp .eq (.var 4) (.cst (.int 0)))) (.cmp .ne (.cmp .eq (.var 5) (.cst (.int 3))) (.cmp .eq (.var 4) (.cst (.int 3)))))) (.cons (.ret (.cst (.bl false))) .nil) .nil) .nil)) .nil)) (.cons (.ret (.cmp .eq (.bi .len (.cons (.var 0) .nil)) (.bi .len (.cons (.var 1) .nil)))) .nil))⟩
noncomputable def bv4:Df:=⟨"_law_right",1,3,(.cons (.asg (.tup [1,2]) (.call "steady_power" (.ex (.var 0) .nil))) (.cons (.asg (.one 3) (.call "sharpened" (.ex (.var 2) .nil))) (.cons (.ite (.or (.notB (.call "is_steady" (.ex (.var 3) .nil)) true) (.cmp .ne (.call "sharpened" (.ex (.var 3) .nil)) (.var 3))) (.cons (.ret (.cst (.bl false))) .nil) .nil) (.cons (.ite (.or (.cmp .ne (.call "sign_product" (.ex (.var 3) (.ex (.var 2) .nil))) (.var 3)) (.cmp .ne (.call "sign_product" (.ex (.var 2) (.ex (.var 3) .nil))) (.var 3))) (.cons (.ret (.cst (.bl false))) .nil) .nil) (.cons (.ret (.call "_law_goes_with" (.ex (.var 2) (.ex (.var 3) .nil)))) .nil)))))⟩
noncomputable def aU2:Df:=⟨"law",1,7,(.cons (.for_ (.one 1) (.rng1 (.bin .add (.bi .min2 (.cons (.cst (.int 12)) (.cons (.bi .len (.cons (.var 0) .nil)) .nil))) (.cst (.int 1)))) (.cons (.asg (.one 2) (.call "_law_box" (.ex (.var 0) (.ex (.var 1) .nil)))) (.cons (.asg (.one 3) (.bin .add (.cst (.int 1)) (.call "_law_draw" (.ex (.var 2) (.ex (.cst (.int 5)) .nil))))) (.cons (.asg (.one 4) (.call "_law_signs" (.ex (.var 2) (.ex (.var 3) .nil)))) (.cons (.asg (.one 5) (.call "_law_signs" (.ex (.var 2) (.ex (.var 3) .nil)))) (.cons (.asg (.one 6) (.call "sign_product" (.ex (.call "sharpened" (.ex (.ix (.call "steady_power" (.ex (.var 4) .nil)) (.cst (.int 1))) .nil)) (.ex (.var 5) .nil)))) (.cons (.for_ (.one 7) (.seq (.lst (.cons (.var 4) (.cons (.call "sign_product" (.ex (.var 4) (.ex (.var 5) .nil))) (.cons (.call "sign_product" (.ex (.var 5) (.ex (.var 4) .nil))) (.cons (.var 6) .nil)))))) (.cons (.ite (.not (.call "_law_right" (.ex (.var 7) .nil))) (.cons (.ret (.cst (.bl false))) .nil) .nil) .nil)) .nil))))))) (.cons (.ret (.cst (.bl true))) .nil))⟩
noncomputable def am4:Df:=⟨"word_signs",2,0,(.cons (.ret (.call "reading" (.ex (.call "word_table" (.ex (.var 0) (.ex (.var 1) .nil))) .nil))) .nil)⟩
noncomputable def au6:Df:=⟨"end_sign",2,0,(.cons (.ret (.mkDs .min (.call "at_begins_and_ends" (.ex (.var 0) (.ex (.var 1) .nil))) (.glob "NONE"))) .nil)⟩
noncomputable def af6:Df:=⟨"_law_machine",1,12,(.cons (.asg (.one 1) (.bin .add (.cst (.int 1)) (.call "_law_draw" (.ex (.var 0) (.ex (.cst (.int 3)) .nil))))) (.cons (.asg (.one 2) (.bin .add (.cst (.int 1)) (.call "_law_draw" (.ex (.var 0) (.ex (.cst (.int 5)) .nil))))) (.cons (.asg (.one 3) (.call "_law_draw" (.ex (.var 0) (.ex (.bin .add (.bin .mul (.cst (.int 3)) (.var 2)) (.cst (.int 2))) .nil)))) (.cons (.ite (.cmp .eq (.call "_law_draw" (.ex (.var 0) (.ex (.cst (.int 8)) .nil))) (.cst (.int 5))) (.cons (.asg (.one 3) (.call "_law_draw" (.ex (.var 0) (.ex (.cst (.int 76)) .nil)))) .nil) .nil) (.cons (.asg (.one 4) (.ix (.lst (.cons (.cst (.int 2)) (.cons (.cst (.int 2)) (.cons (.cst (.int 4)) (.cons (.cst (.int 1)) .nil))))) (.call "_law_draw" (.ex (.var 0) (.ex (.cst (.int 4)) .nil))))) (.cons (.asg (.one 5) (.lst .nil)) (.cons (.for_ (.one 6) (.rng1 (.var 3)) (.cons (.asg (.one 7) (.call "_law_draw" (.ex (.var 0) (.ex (.var 2) .nil)))) (.cons (.asg (.one 8) (.call "_law_draw" (.ex (.var 0) (.ex (.var 2) .nil)))) (.cons (.asg (.one 9) (.ix (.cst (.str [97,98,99])) (.call "_law_draw" (.ex (.var 0) (.ex (.var 1) .nil))))) (.cons (.ex (.meth .append (.var 5) (.cons (.tup (.cons (.var 7) (.cons (.var 9) (.cons (.var 8) (.cons (.call "_law_draw" (.ex (.var 0) (.ex (.var 4) .nil))) .nil))))) .nil))) .nil))))) (.cons (.asg (.one 10) (.call "_law_draw" (.ex (.var 0) (.ex (.bin .shl (.cst (.int 1)) (.var 2)) .nil)))) (.cons (.asg (.one 11) (.mk .tuple (.compIf (.one 0) (.rng1 (.var 2)) (.cmp .eq (.bin .mod (.bin .shr (.var 1) (.var 0)) (.cst (.int 2))) (.cst (.int 1))) (.var 0) [none,some 10]))) (.cons (.asg (.one 10) (.call "_law_draw" (.ex (.var 0) (.ex (.bin .shl (.cst (.int 1)) (.var 2)) .nil)))) (.cons (.asg (.one 12) (.mk .tuple (.compIf (.one 0) (.rng1 (.var 2)) (.cmp .eq (.bin .mod (.bin .shr (.var 1) (.var 0)) (.cst (.int 2))) (.cst (.int 1))) (.var 0) [none,some 10]))) (.cons (.ret (.tup (.cons (.var 1) (.cons (.var 2) (.cons (.var 11) (.cons (.var 12) (.cons (.mk .tuple (.seq (.var 5))) .nil))))))) .nil))))))))))))⟩
noncomputable def ab7:Df:=⟨"_law_letter_signs",2,6,(.cons (.asg (.one 2) (.ix (.var 0) (.cst (.int 1)))) (.cons (.asg (.one 3) (.mk .list (.comp (.one 0) (.rng1 (.var 2)) (.mk .list (.comp (.one 0) (.rng1 (.var 1)) (.cst (.int 3)) [none])) [none,some 2]))) (.cons (.for_ (.tup [4,5,6,7]) (.seq (.ix (.var 0) (.cst (.int 4)))) (.cons (.ite (.cmp .eq (.var 5) (.var 1)) (.cons (.setIx (.ix (.var 3) (.var 4)) (.var 6) (.bi .min2 (.cons (.ix (.ix (.var 3) (.var 4)) (.var 6)) (.cons (.bi .int (.cons (.cmp .gt (.var 7) (.cst (.int 0))) .nil)) .nil)))) .nil) .nil) .nil)) (.cons (.ret (.mk .tuple (.comp (.one 0) (.seq (.var 3)) (.mk .tuple (.seq (.var 0))) [none]))) .nil))))⟩
noncomputable def bd9:Df:=⟨"law",1,11,(.cons (.for_ (.one 1) (.rng1 (.bin .add (.bi .min2 (.cons (.cst (.int 3)) (.cons (.bi .len (.cons (.var 0) .nil)) .nil))) (.cst (.int 1)))) (.cons (.asg (.one 2) (.call "_law_box" (.ex (.var 0) (.ex (.var 1) .nil)))) (.cons (.asg (.one 3) (.call "_law_machine" (.ex (.var 2) .nil))) (.cons (.asg (.one 4) (.call "_law_draw" (.ex (.var 2) (.ex (.cst (.int 61)) .nil)))) (.cons (.ite (.and (.cmp .eq (.call "_law_draw" (.ex (.var 2) (.ex (.cst (.int 8)) .nil))) (.cst (.int 3))) (.cmp .eq (.var 1) (.cst (.int 0)))) (.cons (.asg (.one 4) (.call "_law_draw" (.ex (.var 2) (.ex (.cst (.int 201)) .nil)))) .nil) .nil) (.cons (.asg (.one 5) (.cst (.str []))) (.cons (.asg (.one 6) (.call "_law_unit" (.ex (.ix (.var 3) (.cst (.int 1))) .nil))) (.cons (.asg (.one 7) (.mk .list (.comp (.one 0) (.seq (.slU (.cst (.str [97,98,99])) (.ix (.var 3) (.cst (.int 0))))) (.call "_law_letter_signs" (.ex (.var 1) (.ex (.var 0) .nil))) [none,some 3]))) (.cons (.for_ (.one 8) (.rng1 (.var 4)) (.cons (.asg (.one 9) (.call "_law_draw" (.ex (.var 2) (.ex (.ix (.var 3) (.cst (.int 0))) .nil)))) (.cons (.asg (.one 5) (.bin .add (.var 5) (.ix (.cst (.str [97,98,99])) (.var 9)))) (.cons (.asg (.one 6) (.call "_law_product" (.ex (.var 6) (.ex (.ix (.var 7) (.var 9)) .nil)))) .nil)))) (.cons (.asg (.one 10) (.call "word_signs" (.ex (.var 3) (.ex (.var 5) .nil)))) (.cons (.ite (.or (.not (.call "_law_form" (.ex (.var 10) (.ex (.ix (.var 3) (.cst (.int 1))) .nil)))) (.or (.cmp .ne (.var 10) (.var 6)) (.cmp .ne (.call "reading" (.ex (.call "word_table" (.ex (.var 3) (.ex (.var 5) .nil))) .nil)) (.var 6)))) (.cons (.ret (.cst (.bl false))) .nil) .nil) (.cons (.asg (.one 11) (.call "_law_draw" (.ex (.var 2) (.ex (.bin .add (.var 4) (.cst (.int 1))) .nil)))) (.cons (.ite (.cmp .ne (.call "sign_product" (.ex (.call "word_signs" (.ex (.var 3) (.ex (.slU (.var 5) (.var 11)) .nil))) (.ex (.call "word_signs" (.ex (.var 3) (.ex (.slL (.var 5) (.var 11)) .nil))) .nil))) (.var 6)) (.cons (.ret (.cst (.bl false))) .nil) .nil) (.cons (.ite (.cmp .ne (.call "end_sign" (.ex (.var 3) (.ex (.var 10) .nil))) (.call "sign_of" (.ex (.call "price" (.ex (.var 3) (.ex (.var 5) .nil))) .nil))) (.cons (.ret (.cst (.bl false))) .nil) .nil) .nil)))))))))))))) (.cons (.ret (.cst (.bl true))) .nil))⟩
noncomputable def aT2:Df:=⟨"is_ahead",2,0,(.cons (.ret (.call "is_whole" (.ex (.var 0) (.ex (.cst (.int 0)) (.ex (.bin .sub (.var 1) (.cst (.int 1))) .nil))))) .nil)⟩
noncomputable def am7:Df:=⟨"is_letter_step",2,0,(.cons (.ret (.and (.call "is_tuple_of" (.ex (.var 0) (.ex (.cst (.int 2)) .nil))) (.and (.cmp .eq (.ix (.var 0) (.cst (.int 0))) (.cst (.str [108,101,116,116,101,114]))) (.call "is_letter" (.ex (.ix (.var 0) (.cst (.int 1))) (.ex (.var 1) .nil)))))) .nil)⟩
noncomputable def at2:Df:=⟨"is_pair_step",2,0,(.cons (.ret (.and (.call "is_tuple_of" (.ex (.var 0) (.ex (.cst (.int 3)) .nil))) (.and (.cmp .eq (.ix (.var 0) (.cst (.int 0))) (.cst (.str [112,97,105,114]))) (.and (.call "is_ahead" (.ex (.ix (.var 0) (.cst (.int 1))) (.ex (.var 1) .nil))) (.call "is_ahead" (.ex (.ix (.var 0) (.cst (.int 2))) (.ex (.var 1) .nil))))))) .nil)⟩
noncomputable def aq0:Df:=⟨"is_sharp_step",2,0,(.cons (.ret (.and (.call "is_tuple_of" (.ex (.var 0) (.ex (.cst (.int 2)) .nil))) (.and (.cmp .eq (.ix (.var 0) (.cst (.int 0))) (.cst (.str [115,104,97,114,112]))) (.call "is_ahead" (.ex (.ix (.var 0) (.cst (.int 1))) (.ex (.var 1) .nil)))))) .nil)⟩
noncomputable def ag5:Df:=⟨"_law_sharp",1,8,(.cons (.asg (.one 1) (.bi .len (.cons (.var 0) .nil))) (.cons (.asg (.one 2) (.lst .nil)) (.cons (.for_ (.one 3) (.rng1 (.var 1)) (.cons (.asg (.one 4) (.lst .nil)) (.cons (.for_ (.one 5) (.rng1 (.var 1)) (.cons (.asg (.one 6) (.cst (.int 3))) (.cons (.for_ (.one 7) (.rng1 (.var 1)) (.cons (.asg (.one 8) (.ix (.ix (.var 0) (.var 7)) (.var 7))) (.cons (.ite (.cmp .eq (.var 8) (.cst (.int 1))) (.cons (.asg (.one 8) (.cst (.int 2))) .nil) .nil) (.cons (.asg (.one 6) (.bi .min2 (.cons (.var 6) (.cons (.bi .max3 (.cons (.ix (.ix (.var 0) (.var 3)) (.var 7)) (.cons (.var 8) (.cons (.ix (.ix (.var 0) (.var 7)) (.var 5)) .nil)))) .nil)))) .nil)))) (.cons (.ex (.meth .append (.var 4) (.cons (.var 6) .nil))) .nil)))) (.cons (.ex (.meth .append (.var 2) (.cons (.mk .tuple (.seq (.var 4))) .nil))) .nil)))) (.cons (.ret (.mk .tuple (.seq (.var 2)))) .nil))))⟩
noncomputable def ag7:Df:=⟨"_law_makings",4,8,(.cons (.asg (.one 4) (.lst .nil)) (.cons (.asg (.one 5) (.lst .nil)) (.cons (.asg (.one 6) (.lst .nil)) (.cons (.for_ (.one 7) (.rng1 (.bin .add (.cst (.int 1)) (.call "_law_draw" (.ex (.var 0) (.ex (.var 2) .nil))))) (.cons (.asg (.one 8) (.call "_law_draw" (.ex (.var 0) (.ex (.cst (.int 6)) .nil)))) (.cons (.asg (.one 9) (.call "_law_draw" (.ex (.var 0) (.ex (.bin .add (.var 7) (.cst (.int 1))) .nil)))) (.cons (.asg (.one 10) (.call "_law_draw" (.ex (.var 0) (.ex (.bin .add (.var 7) (.cst (.int 1))) .nil)))) (.cons (.ite (.and (.cmp .lt (.var 8) (.cst (.int 4))) (.and (.cmp .gt (.var 3) (.cst (.int 0))) (.and (.cmp .ne (.var 6) (.lst .nil)) (.cmp .gt (.var 8) (.cst (.int 0)))))) (.cons (.asg (.one 9) (.ix (.var 6) (.bin .mod (.var 10) (.bi .len (.cons (.var 6) .nil))))) (.cons (.ex (.meth .append (.var 4) (.cons (.tup (.cons (.cst (.str [115,104,97,114,112])) (.cons (.var 9) .nil))) .nil))) (.cons (.ex (.meth .append (.var 5) (.cons (.call "_law_sharp" (.ex (.ix (.var 5) (.var 9)) .nil)) .nil))) (.cons (.asg (.one 3) (.bin .sub (.var 3) (.cst (.int 1)))) .nil)))) (.cons (.ite (.and (.cmp .gt (.var 7) (.cst (.int 0))) (.cmp .lt (.var 8) (.cst (.int 5)))) (.cons (.asg (.one 9) (.bi .min2 (.cons (.var 9) (.cons (.bin .sub (.var 7) (.cst (.int 1))) .nil)))) (.cons (.asg (.one 10) (.ite (.cmp .gt (.var 8) (.cst (.int 1))) (.bi .min2 (.cons (.var 10) (.cons (.bin .sub (.var 7) (.cst (.int 1))) .nil))) (.var 9))) (.cons (.ex (.meth .append (.var 4) (.cons (.tup (.cons (.cst (.str [112,97,105,114])) (.cons (.var 9) (.cons (.var 10) .nil)))) .nil))) (.cons (.ex (.meth .append (.var 5) (.cons (.call "_law_product" (.ex (.ix (.var 5) (.var 9)) (.ex (.ix (.var 5) (.var 10)) .nil))) .nil))) .nil)))) (.cons (.asg (.one 11) (.ix (.cst (.str [97,98,99])) (.bin .mod (.var 9) (.ix (.var 1) (.cst (.int 0)))))) (.cons (.ex (.meth .append (.var 4) (.cons (.tup (.cons (.cst (.str [108,101,116,116,101,114])) (.cons (.var 11) .nil))) .nil))) (.cons (.ex (.meth .append (.var 5) (.cons (.call "_law_letter_signs" (.ex (.var 1) (.ex (.var 11) .nil))) .nil))) .nil)))) .nil)) (.cons (.ite (.cmp .eq (.call "_law_product" (.ex (.ix (.var 5) (.var 7)) (.ex (.ix (.var 5) (.var 7)) .nil))) (.ix (.var 5) (.var 7))) (.cons (.ex (.meth .append (.var 6) (.cons (.var 7) .nil))) .nil) .nil) .nil)))))) (.cons (.ret (.tup (.cons (.mk .tuple (.seq (.var 4))) (.cons (.var 5) .nil)))) .nil)))))⟩
noncomputable def ad9:Df:=⟨"as_times",2,0,(.cons (.ret (.mk .list (.comp (.one 0) (.seq (.var 0)) (.ite (.cmp .eq (.ix (.var 0) (.cst (.int 0))) (.cst (.str [115,104,97,114,112]))) (.tup (.cons (.cst (.str [116,105,109,101,115])) (.cons (.ix (.var 0) (.cst (.int 1))) (.cons (.var 1) .nil)))) (.var 0)) [none,some 1]))) .nil)⟩
noncomputable def ad6:Df:=⟨"folded",4,2,(.cons (.asg (.one 4) (.lst .nil)) (.cons (.for_ (.one 5) (.seq (.var 0)) (.cons (.ite (.cmp .eq (.ix (.var 5) (.cst (.int 0))) (.cst (.str [108,101,116,116,101,114]))) (.cons (.ex (.meth .append (.var 4) (.cons (.callV 1 (.cons (.ix (.var 5) (.cst (.int 1))) .nil)) .nil))) .nil) (.cons (.ite (.cmp .eq (.ix (.var 5) (.cst (.int 0))) (.cst (.str [112,97,105,114]))) (.cons (.ex (.meth .append (.var 4) (.cons (.callV 2 (.cons (.ix (.var 4) (.ix (.var 5) (.cst (.int 1)))) (.cons (.ix (.var 4) (.ix (.var 5) (.cst (.int 2)))) .nil))) .nil))) .nil) (.cons (.ex (.meth .append (.var 4) (.cons (.callV 3 (.cons (.ix (.var 4) (.ix (.var 5) (.cst (.int 1)))) (.cons (.ix (.var 5) (.cst (.int 2))) .nil))) .nil))) .nil)) .nil)) .nil)) (.cons (.ret (.var 4)) .nil)))⟩
noncomputable def qT:Df:=⟨"counted",2,0,(.cons (.ret (.callC "folded" (.ex (.var 0) (.lam "counted.2" [1] (.lam "counted.1" [] (.lam "counted.0" [] .nil)))))) .nil)⟩
noncomputable def z8:Lm:=⟨"counted.0",2,0,(.bin .mul (.var 0) (.var 1))⟩
noncomputable def z7:Lm:=⟨"counted.1",2,0,(.bin .add (.var 0) (.var 1))⟩
noncomputable def qa:Lm:=⟨"counted.2",1,1,(.var 1)⟩
noncomputable def af2:Df:=⟨"unrolled",3,0,(.cons (.ret (.call "as_times" (.ex (.var 1) (.ex (.bin .mul (.bin .add (.var 2) (.cst (.int 1))) (.call "rooms_of" (.ex (.var 0) .nil))) .nil)))) .nil)⟩
noncomputable def bg3:Df:=⟨"lengths",3,0,(.cons (.ret (.call "counted" (.ex (.call "unrolled" (.ex (.var 0) (.ex (.var 1) (.ex (.var 2) .nil)))) (.ex (.cst (.int 1)) .nil)))) .nil)⟩
noncomputable def ah6:Df:=⟨"begun",1,0,(.cons (.ret (.slU (.var 0) (.bin .add (.glob "MOST_WRITTEN") (.cst (.int 1))))) .nil)⟩
noncomputable def ab8:Df:=⟨"begun_times",2,1,(.cons (.asg (.one 2) (.bin .add (.bin .fdiv (.glob "MOST_WRITTEN") (.bi .len (.cons (.var 0) .nil))) (.cst (.int 1)))) (.cons (.ret (.call "begun" (.ex (.bin .mul (.var 0) (.bi .min2 (.cons (.var 1) (.cons (.var 2) .nil)))) .nil))) .nil))⟩
noncomputable def ae0:Df:=⟨"last_word",1,1,(.cons (.asg (.one 1) (.ix (.callC "folded" (.ex (.var 0) (.lam "last_word.1" [] (.lam "last_word.0" [] (.ex (.glob "begun_times") .nil))))) (.neg (.cst (.int 1))))) (.cons (.ite (.cmp .gt (.bi .len (.cons (.var 1) .nil)) (.glob "MOST_WRITTEN")) (.cons .raise .nil) .nil) (.cons (.ret (.var 1)) .nil)))⟩
noncomputable def ac2:Lm:=⟨"last_word.0",2,0,(.call "begun" (.ex (.bin .add (.var 0) (.var 1)) .nil))⟩
noncomputable def ac1:Lm:=⟨"last_word.1",1,0,(.var 0)⟩
noncomputable def ab3:Df:=⟨"word_unrolled",3,0,(.cons (.ret (.call "last_word" (.ex (.call "unrolled" (.ex (.var 0) (.ex (.var 1) (.ex (.var 2) .nil)))) .nil))) .nil)⟩
noncomputable def ah9:Df:=⟨"_law_length",2,2,(.cons (.asg (.one 2) (.lst .nil)) (.cons (.for_ (.one 3) (.seq (.var 0)) (.cons (.ite (.cmp .eq (.ix (.var 3) (.cst (.int 0))) (.cst (.str [108,101,116,116,101,114]))) (.cons (.ex (.meth .append (.var 2) (.cons (.cst (.int 1)) .nil))) .nil) (.cons (.ite (.cmp .eq (.ix (.var 3) (.cst (.int 0))) (.cst (.str [112,97,105,114]))) (.cons (.ex (.meth .append (.var 2) (.cons (.bin .add (.ix (.var 2) (.ix (.var 3) (.cst (.int 1)))) (.ix (.var 2) (.ix (.var 3) (.cst (.int 2))))) .nil))) .nil) (.cons (.ex (.meth .append (.var 2) (.cons (.bin .mul (.ix (.var 2) (.ix (.var 3) (.cst (.int 1)))) (.var 1)) .nil))) .nil)) .nil)) .nil)) (.cons (.ret (.ix (.var 2) (.neg (.cst (.int 1))))) .nil)))⟩
noncomputable def ah8:Df:=⟨"_law_word",2,3,(.cons (.asg (.one 2) (.lst (.cons (.bin .sub (.bi .len (.cons (.var 0) .nil)) (.cst (.int 1))) .nil))) (.cons (.asg (.one 3) (.lst .nil)) (.cons (.whl (.cmp .ne (.var 2) (.lst .nil)) (.cons (.asg (.one 4) (.ix (.var 0) (.meth .pop (.var 2) .nil))) (.cons (.ite (.cmp .eq (.ix (.var 4) (.cst (.int 0))) (.cst (.str [108,101,116,116,101,114]))) (.cons (.ex (.meth .append (.var 3) (.cons (.ix (.var 4) (.cst (.int 1))) .nil))) .nil) (.cons (.ite (.cmp .eq (.ix (.var 4) (.cst (.int 0))) (.cst (.str [112,97,105,114]))) (.cons (.asg (.one 2) (.bin .add (.var 2) (.lst (.cons (.ix (.var 4) (.cst (.int 2))) (.cons (.ix (.var 4) (.cst (.int 1))) .nil))))) .nil) (.cons (.asg (.one 2) (.bin .add (.var 2) (.bin .mul (.lst (.cons (.ix (.var 4) (.cst (.int 1))) .nil)) (.var 1)))) .nil)) .nil)) .nil))) (.cons (.ret (.join (.cst (.str [])) (.var 3))) .nil))))⟩
noncomputable def ag8:Df:=⟨"_law_tall",3,2,(.cons (.asg (.one 3) (.lst (.cons (.tup (.cons (.cst (.str [108,101,116,116,101,114])) (.cons (.ix (.cst (.str [97,98,99])) (.call "_law_draw" (.ex (.var 0) (.ex (.var 1) .nil)))) .nil))) .nil))) (.cons (.for_ (.one 4) (.rng1 (.call "_law_draw" (.ex (.var 0) (.ex (.var 2) .nil)))) (.cons (.ex (.meth .append (.var 3) (.cons (.tup (.cons (.cst (.str [112,97,105,114])) (.cons (.var 4) (.cons (.bin .sub (.var 4) (.call "_law_draw" (.ex (.var 0) (.ex (.bin .add (.bi .min2 (.cons (.var 4) (.cons (.cst (.int 1)) .nil))) (.cst (.int 1))) .nil)))) .nil)))) .nil))) .nil)) (.cons (.ret (.mk .tuple (.seq (.var 3)))) .nil)))⟩
noncomputable def ag4:Df:=⟨"law",1,7,(.cons (.for_ (.one 1) (.rng1 (.bin .add (.bi .min2 (.cons (.cst (.int 8)) (.cons (.bi .len (.cons (.var 0) .nil)) .nil))) (.cst (.int 1)))) (.cons (.asg (.one 2) (.call "_law_box" (.ex (.var 0) (.ex (.var 1) .nil)))) (.cons (.asg (.one 3) (.call "_law_machine" (.ex (.var 2) .nil))) (.cons (.asg (.one 4) (.ix (.call "_law_makings" (.ex (.var 2) (.ex (.var 3) (.ex (.cst (.int 8)) (.ex (.cst (.int 3)) .nil))))) (.cst (.int 0)))) (.cons (.ite (.cmp .eq (.call "_law_draw" (.ex (.var 2) (.ex (.cst (.int 8)) .nil))) (.cst (.int 3))) (.cons (.asg (.one 4) (.call "_law_tall" (.ex (.var 2) (.ex (.ix (.var 3) (.cst (.int 0))) (.ex (.cst (.int 99)) .nil))))) .nil) .nil) (.cons (.asg (.one 5) (.call "_law_draw" (.ex (.var 2) (.ex (.cst (.int 5)) .nil)))) (.cons (.ite (.cmp .eq (.call "_law_draw" (.ex (.var 2) (.ex (.cst (.int 8)) .nil))) (.cst (.int 5))) (.cons (.asg (.one 5) (.call "_law_draw" (.ex (.var 2) (.ex (.bin .add (.bin .pow (.cst (.int 10)) (.cst (.int 30))) (.cst (.int 1))) .nil)))) .nil) .nil) (.cons (.asg (.one 6) (.bin .mul (.bin .add (.var 5) (.cst (.int 1))) (.ix (.var 3) (.cst (.int 1))))) (.cons (.ite (.cmp .gt (.call "_law_length" (.ex (.var 4) (.ex (.var 6) .nil))) (.cst (.int 2000))) (.cons (.ite (.not (.call "_law_refused" (.ex (.var 3) (.ex (.var 4) (.ex (.var 5) .nil))))) (.cons (.ret (.cst (.bl false))) .nil) .nil) .nil) (.cons (.ite (.cmp .ne (.call "word_unrolled" (.ex (.var 3) (.ex (.var 4) (.ex (.var 5) .nil)))) (.call "_law_word" (.ex (.var 4) (.ex (.var 6) .nil)))) (.cons (.ret (.cst (.bl false))) .nil) .nil) .nil)) (.cons (.asg (.one 7) (.bin .add (.var 4) (.tup (.cons (.tup (.cons (.cst (.str [108,101,116,116,101,114])) (.cons (.cst (.str [97])) .nil))) .nil)))) (.cons (.ite (.cmp .ne (.call "word_unrolled" (.ex (.var 3) (.ex (.var 7) (.ex (.var 5) .nil)))) (.cst (.str [97]))) (.cons (.ret (.cst (.bl false))) .nil) .nil) .nil))))))))))) (.cons (.ret (.cst (.bl true))) .nil))⟩
noncomputable def jr:Df:=⟨"last_table",2,0,(.cons (.ret (.ix (.callC "folded" (.ex (.var 1) (.lam "last_table.0" [0] (.ex (.glob "product") (.ex (.glob "power") .nil))))) (.neg (.cst (.int 1))))) .nil)⟩
noncomputable def qG:Lm:=⟨"last_table.0",1,1,(.call "letter_table" (.ex (.var 1) (.ex (.var 0) .nil)))⟩
noncomputable def jh:Df:=⟨"table_unrolled",3,0,(.cons (.ret (.call "last_table" (.ex (.var 0) (.ex (.call "unrolled" (.ex (.var 0) (.ex (.var 1) (.ex (.var 2) .nil)))) .nil)))) .nil)⟩
noncomputable def aj7:Df:=⟨"_law_least",2,0,(.cons (.ite (.or (.isN (.var 0)) (.and (.notN (.var 1)) (.cmp .lt (.var 1) (.var 0)))) (.cons (.ret (.var 1)) .nil) .nil) (.cons (.ret (.var 0)) .nil))⟩
noncomputable def aw8:Df:=⟨"_law_times",2,6,(.cons (.asg (.one 2) (.lst .nil)) (.cons (.for_ (.one 3) (.seq (.var 0)) (.cons (.asg (.one 4) (.lst .nil)) (.cons (.for_ (.one 5) (.rng1 (.bi .len (.cons (.var 0) .nil))) (.cons (.asg (.one 6) (.cst .non)) (.cons (.for_ (.one 7) (.rng1 (.bi .len (.cons (.var 0) .nil))) (.cons (.ite (.and (.notN (.ix (.var 3) (.var 7))) (.notN (.ix (.ix (.var 1) (.var 7)) (.var 5)))) (.cons (.asg (.one 6) (.call "_law_least" (.ex (.var 6) (.ex (.bin .add (.ix (.var 3) (.var 7)) (.ix (.ix (.var 1) (.var 7)) (.var 5))) .nil)))) .nil) .nil) .nil)) (.cons (.ex (.meth .append (.var 4) (.cons (.var 6) .nil))) .nil)))) (.cons (.ex (.meth .append (.var 2) (.cons (.mk .tuple (.seq (.var 4))) .nil))) .nil)))) (.cons (.ret (.mk .tuple (.seq (.var 2)))) .nil)))⟩
noncomputable def ao3:Df:=⟨"_law_power",2,1,(.cons (.asg (.one 2) (.cst .non)) (.cons (.whl (.cmp .gt (.var 1) (.cst (.int 0))) (.cons (.ite (.cmp .eq (.bin .mod (.var 1) (.cst (.int 2))) (.cst (.int 1))) (.cons (.asg (.one 2) (.ite (.isN (.var 2)) (.var 0) (.call "_law_times" (.ex (.var 2) (.ex (.var 0) .nil))))) .nil) .nil) (.cons (.asg (.one 1) (.bin .fdiv (.var 1) (.cst (.int 2)))) (.cons (.ite (.cmp .gt (.var 1) (.cst (.int 0))) (.cons (.asg (.one 0) (.call "_law_times" (.ex (.var 0) (.ex (.var 0) .nil)))) .nil) .nil) .nil)))) (.cons (.ret (.var 2)) .nil)))⟩
noncomputable def jf:Df:=⟨"_law_letter_table",2,6,(.cons (.asg (.one 2) (.ix (.var 0) (.cst (.int 1)))) (.cons (.asg (.one 3) (.mk .list (.comp (.one 0) (.rng1 (.var 2)) (.mk .list (.comp (.one 0) (.rng1 (.var 1)) (.cst .non) [none])) [none,some 2]))) (.cons (.for_ (.tup [4,5,6,7]) (.seq (.ix (.var 0) (.cst (.int 4)))) (.cons (.ite (.cmp .eq (.var 5) (.var 1)) (.cons (.setIx (.ix (.var 3) (.var 4)) (.var 6) (.call "_law_least" (.ex (.ix (.ix (.var 3) (.var 4)) (.var 6)) (.ex (.var 7) .nil)))) .nil) .nil) .nil)) (.cons (.ret (.mk .tuple (.comp (.one 0) (.seq (.var 3)) (.mk .tuple (.seq (.var 0))) [none]))) .nil))))⟩
noncomputable def aY0:Df:=⟨"_law_due",3,2,(.cons (.asg (.one 3) (.lst .nil)) (.cons (.for_ (.one 4) (.seq (.var 1)) (.cons (.ite (.cmp .eq (.ix (.var 4) (.cst (.int 0))) (.cst (.str [108,101,116,116,101,114]))) (.cons (.ex (.meth .append (.var 3) (.cons (.call "_law_letter_table" (.ex (.var 0) (.ex (.ix (.var 4) (.cst (.int 1))) .nil))) .nil))) .nil) (.cons (.ite (.cmp .eq (.ix (.var 4) (.cst (.int 0))) (.cst (.str [112,97,105,114]))) (.cons (.ex (.meth .append (.var 3) (.cons (.call "_law_times" (.ex (.ix (.var 3) (.ix (.var 4) (.cst (.int 1)))) (.ex (.ix (.var 3) (.ix (.var 4) (.cst (.int 2)))) .nil))) .nil))) .nil) (.cons (.ex (.meth .append (.var 3) (.cons (.call "_law_power" (.ex (.ix (.var 3) (.ix (.var 4) (.cst (.int 1)))) (.ex (.var 2) .nil))) .nil))) .nil)) .nil)) .nil)) (.cons (.ret (.ix (.var 3) (.neg (.cst (.int 1))))) .nil)))⟩
noncomputable def be1:Df:=⟨"law",1,8,(.cons (.for_ (.one 1) (.rng1 (.bin .add (.bi .min2 (.cons (.cst (.int 4)) (.cons (.bi .len (.cons (.var 0) .nil)) .nil))) (.cst (.int 1)))) (.cons (.asg (.one 2) (.call "_law_box" (.ex (.var 0) (.ex (.var 1) .nil)))) (.cons (.asg (.one 3) (.call "_law_machine" (.ex (.var 2) .nil))) (.cons (.asg (.one 4) (.ix (.call "_law_makings" (.ex (.var 2) (.ex (.var 3) (.ex (.cst (.int 8)) (.ex (.cst (.int 3)) .nil))))) (.cst (.int 0)))) (.cons (.ite (.cmp .eq (.call "_law_draw" (.ex (.var 2) (.ex (.cst (.int 8)) .nil))) (.cst (.int 3))) (.cons (.asg (.one 4) (.call "_law_tall" (.ex (.var 2) (.ex (.ix (.var 3) (.cst (.int 0))) (.ex (.cst (.int 100)) .nil))))) .nil) .nil) (.cons (.asg (.one 5) (.call "_law_draw" (.ex (.var 2) (.ex (.bin .add (.bin .pow (.cst (.int 10)) (.cst (.int 30))) (.cst (.int 1))) .nil)))) (.cons (.ite (.cmp .gt (.var 1) (.cst (.int 0))) (.cons (.asg (.one 5) (.bin .mod (.var 5) (.bin .pow (.cst (.int 10)) (.cst (.int 9))))) .nil) .nil) (.cons (.for_ (.one 6) (.seq (.lst (.cons (.call "_law_draw" (.ex (.var 2) (.ex (.cst (.int 4)) .nil))) (.cons (.var 5) .nil)))) (.cons (.asg (.one 7) (.call "_law_due" (.ex (.var 3) (.ex (.var 4) (.ex (.bin .mul (.bin .add (.var 6) (.cst (.int 1))) (.ix (.var 3) (.cst (.int 1)))) .nil))))) (.cons (.asg (.one 8) (.call "table_unrolled" (.ex (.var 3) (.ex (.var 4) (.ex (.var 6) .nil))))) (.cons (.ite (.or (.not (.bi .isTup (.cons (.var 8) .nil))) (.cmp .ne (.var 8) (.var 7))) (.cons (.ret (.cst (.bl false))) .nil) .nil) (.cons (.ite (.cmp .le (.ix (.call "lengths" (.ex (.var 3) (.ex (.var 4) (.ex (.var 6) .nil)))) (.neg (.cst (.int 1)))) (.cst (.int 200))) (.cons (.ite (.cmp .ne (.call "word_table" (.ex (.var 3) (.ex (.call "word_unrolled" (.ex (.var 3) (.ex (.var 4) (.ex (.var 6) .nil)))) .nil))) (.var 7)) (.cons (.ret (.cst (.bl false))) .nil) .nil) .nil) .nil) .nil))))) .nil)))))))) (.cons (.ret (.cst (.bl true))) .nil))⟩
noncomputable def aL1:Df:=⟨"_law_recipe",4,6,(.cons (.asg (.one 4) (.lst .nil)) (.cons (.for_ (.one 5) (.rng1 (.bin .add (.cst (.int 1)) (.call "_law_draw" (.ex (.var 0) (.ex (.var 2) .nil))))) (.cons (.asg (.one 6) (.call "_law_draw" (.ex (.var 0) (.ex (.cst (.int 6)) .nil)))) (.cons (.asg (.one 7) (.call "_law_draw" (.ex (.var 0) (.ex (.bin .add (.var 5) (.cst (.int 1))) .nil)))) (.cons (.asg (.one 8) (.call "_law_draw" (.ex (.var 0) (.ex (.bin .add (.var 5) (.cst (.int 1))) .nil)))) (.cons (.asg (.one 9) (.bin .add (.cst (.int 1)) (.call "_law_draw" (.ex (.var 0) (.ex (.cst (.int 6)) .nil))))) (.cons (.ite (.cmp .eq (.call "_law_draw" (.ex (.var 0) (.ex (.cst (.int 3)) .nil))) (.cst (.int 2))) (.cons (.asg (.one 9) (.bin .add (.cst (.int 1)) (.call "_law_draw" (.ex (.var 0) (.ex (.bin .pow (.cst (.int 10)) (.cst (.int 30))) .nil))))) .nil) .nil) (.cons (.ite (.and (.cmp .gt (.var 5) (.cst (.int 0))) (.and (.cmp .lt (.var 6) (.cst (.int 3))) (.cmp .gt (.var 3) (.cst (.int 0))))) (.cons (.ex (.meth .append (.var 4) (.cons (.tup (.cons (.cst (.str [116,105,109,101,115])) (.cons (.bi .min2 (.cons (.var 7) (.cons (.bin .sub (.var 5) (.cst (.int 1))) .nil))) (.cons (.var 9) .nil)))) .nil))) (.cons (.asg (.one 3) (.bin .sub (.var 3) (.cst (.int 1)))) .nil)) (.cons (.ite (.and (.cmp .gt (.var 5) (.cst (.int 0))) (.cmp .lt (.var 6) (.cst (.int 5)))) (.cons (.ex (.meth .append (.var 4) (.cons (.tup (.cons (.cst (.str [112,97,105,114])) (.cons (.bi .min2 (.cons (.var 7) (.cons (.bin .sub (.var 5) (.cst (.int 1))) .nil))) (.cons (.bi .min2 (.cons (.var 8) (.cons (.bin .sub (.var 5) (.cst (.int 1))) .nil))) .nil)))) .nil))) .nil) (.cons (.ex (.meth .append (.var 4) (.cons (.tup (.cons (.cst (.str [108,101,116,116,101,114])) (.cons (.ix (.cst (.str [97,98,99])) (.bin .mod (.var 7) (.var 1))) .nil))) .nil))) .nil)) .nil)) .nil))))))) (.cons (.ret (.mk .tuple (.seq (.var 4)))) .nil)))⟩
noncomputable def qZ:Df:=⟨"long_length",1,0,(.cons (.ret (.ix (.call "counted" (.ex (.var 0) (.ex (.cst (.int 1)) .nil))) (.neg (.cst (.int 1))))) .nil)⟩
noncomputable def jG:Df:=⟨"letter_at",2,4,(.cons (.asg (.one 2) (.call "counted" (.ex (.var 0) (.ex (.cst (.int 1)) .nil)))) (.cons (.asg (.one 3) (.ix (.var 0) (.neg (.cst (.int 1))))) (.cons (.asg (.one 4) (.var 1)) (.cons (.whl (.cmp .ne (.ix (.var 3) (.cst (.int 0))) (.cst (.str [108,101,116,116,101,114]))) (.cons (.asg (.one 5) (.ix (.var 3) (.cst (.int 1)))) (.cons (.ite (.cmp .eq (.ix (.var 3) (.cst (.int 0))) (.cst (.str [116,105,109,101,115]))) (.cons (.asg (.one 4) (.bin .mod (.var 4) (.ix (.var 2) (.var 5)))) .nil) (.cons (.ite (.cmp .ge (.var 4) (.ix (.var 2) (.var 5))) (.cons (.asg (.one 4) (.bin .sub (.var 4) (.ix (.var 2) (.var 5)))) (.cons (.asg (.one 5) (.ix (.var 3) (.cst (.int 2)))) .nil)) .nil) .nil)) (.cons (.asg (.one 3) (.ix (.var 0) (.var 5))) .nil)))) (.cons (.ret (.ix (.var 3) (.cst (.int 1)))) .nil)))))⟩
noncomputable def aq9:Df:=⟨"_law_lengths",1,2,(.cons (.asg (.one 1) (.lst .nil)) (.cons (.for_ (.one 2) (.seq (.var 0)) (.cons (.ite (.cmp .eq (.ix (.var 2) (.cst (.int 0))) (.cst (.str [108,101,116,116,101,114]))) (.cons (.ex (.meth .append (.var 1) (.cons (.cst (.int 1)) .nil))) .nil) (.cons (.ite (.cmp .eq (.ix (.var 2) (.cst (.int 0))) (.cst (.str [112,97,105,114]))) (.cons (.ex (.meth .append (.var 1) (.cons (.bin .add (.ix (.var 1) (.ix (.var 2) (.cst (.int 1)))) (.ix (.var 1) (.ix (.var 2) (.cst (.int 2))))) .nil))) .nil) (.cons (.ex (.meth .append (.var 1) (.cons (.bin .mul (.ix (.var 1) (.ix (.var 2) (.cst (.int 1)))) (.ix (.var 2) (.cst (.int 2)))) .nil))) .nil)) .nil)) .nil)) (.cons (.ret (.var 1)) .nil)))⟩
noncomputable def aP6:Df:=⟨"_law_letter",3,3,(.cons (.asg (.one 3) (.bin .sub (.bi .len (.cons (.var 0) .nil)) (.cst (.int 1)))) (.cons (.whl (.cmp .ne (.ix (.ix (.var 0) (.var 3)) (.cst (.int 0))) (.cst (.str [108,101,116,116,101,114]))) (.cons (.asg (.one 4) (.ix (.var 0) (.var 3))) (.cons (.asg (.one 5) (.ix (.var 1) (.ix (.var 4) (.cst (.int 1))))) (.cons (.ite (.cmp .eq (.ix (.var 4) (.cst (.int 0))) (.cst (.str [116,105,109,101,115]))) (.cons (.asg (.one 3) (.ix (.var 4) (.cst (.int 1)))) (.cons (.asg (.one 2) (.bin .mod (.var 2) (.var 5))) .nil)) (.cons (.ite (.cmp .lt (.var 2) (.var 5)) (.cons (.asg (.one 3) (.ix (.var 4) (.cst (.int 1)))) .nil) (.cons (.asg (.one 3) (.ix (.var 4) (.cst (.int 2)))) (.cons (.asg (.one 2) (.bin .sub (.var 2) (.var 5))) .nil))) .nil)) .nil)))) (.cons (.ret (.ix (.ix (.var 0) (.var 3)) (.cst (.int 1)))) .nil)))⟩
noncomputable def ay4:Df:=⟨"_law_word",1,3,(.cons (.asg (.one 1) (.lst (.cons (.bin .sub (.bi .len (.cons (.var 0) .nil)) (.cst (.int 1))) .nil))) (.cons (.asg (.one 2) (.lst .nil)) (.cons (.whl (.cmp .ne (.var 1) (.lst .nil)) (.cons (.asg (.one 3) (.ix (.var 0) (.meth .pop (.var 1) .nil))) (.cons (.ite (.cmp .eq (.ix (.var 3) (.cst (.int 0))) (.cst (.str [108,101,116,116,101,114]))) (.cons (.ex (.meth .append (.var 2) (.cons (.ix (.var 3) (.cst (.int 1))) .nil))) .nil) (.cons (.ite (.cmp .eq (.ix (.var 3) (.cst (.int 0))) (.cst (.str [112,97,105,114]))) (.cons (.asg (.one 1) (.bin .add (.var 1) (.lst (.cons (.ix (.var 3) (.cst (.int 2))) (.cons (.ix (.var 3) (.cst (.int 1))) .nil))))) .nil) (.cons (.asg (.one 1) (.bin .add (.var 1) (.bin .mul (.lst (.cons (.ix (.var 3) (.cst (.int 1))) .nil)) (.ix (.var 3) (.cst (.int 2)))))) .nil)) .nil)) .nil))) (.cons (.ret (.join (.cst (.str [])) (.var 2))) .nil))))⟩
noncomputable def aA9:Df:=⟨"law",1,11,(.cons (.for_ (.one 1) (.rng1 (.bin .add (.bi .min2 (.cons (.cst (.int 8)) (.cons (.bi .len (.cons (.var 0) .nil)) .nil))) (.cst (.int 1)))) (.cons (.asg (.one 2) (.call "_law_box" (.ex (.var 0) (.ex (.var 1) .nil)))) (.cons (.asg (.one 3) (.cst (.int 20))) (.cons (.ite (.cmp .eq (.call "_law_draw" (.ex (.var 2) (.ex (.cst (.int 4)) .nil))) (.cst (.int 1))) (.cons (.asg (.one 3) (.cst (.int 60))) .nil) .nil) (.cons (.asg (.one 4) (.call "_law_recipe" (.ex (.var 2) (.ex (.cst (.int 3)) (.ex (.var 3) (.ex (.cst (.int 40)) .nil)))))) (.cons (.ite (.cmp .eq (.call "_law_draw" (.ex (.var 2) (.ex (.cst (.int 8)) .nil))) (.cst (.int 3))) (.cons (.asg (.one 4) (.call "_law_tall" (.ex (.var 2) (.ex (.cst (.int 3)) (.ex (.cst (.int 60)) .nil))))) .nil) .nil) (.cons (.asg (.one 5) (.call "_law_lengths" (.ex (.var 4) .nil))) (.cons (.asg (.one 6) (.call "long_length" (.ex (.var 4) .nil))) (.cons (.ite (.or (.not (.bi .isInt (.cons (.var 6) .nil))) (.or (.bi .isBool (.cons (.var 6) .nil)) (.cmp .ne (.var 6) (.ix (.var 5) (.neg (.cst (.int 1))))))) (.cons (.ret (.cst (.bl false))) .nil) .nil) (.cons (.asg (.one 7) (.bi .min2 (.cons (.var 6) (.cons (.bin .pow (.cst (.int 10)) (.cst (.int 60))) .nil)))) (.cons (.asg (.one 8) (.lst (.cons (.cst (.int 0)) (.cons (.bin .sub (.var 7) (.cst (.int 1))) (.cons (.bin .fdiv (.var 7) (.cst (.int 2))) .nil))))) (.cons (.for_ (.one 9) (.rng1 (.cst (.int 3))) (.cons (.ex (.meth .append (.var 8) (.cons (.call "_law_draw" (.ex (.var 2) (.ex (.var 7) .nil))) .nil))) .nil)) (.cons (.for_ (.one 10) (.seq (.var 8)) (.cons (.ite (.cmp .ne (.call "letter_at" (.ex (.var 4) (.ex (.var 10) .nil))) (.call "_law_letter" (.ex (.var 4) (.ex (.var 5) (.ex (.var 10) .nil))))) (.cons (.ret (.cst (.bl false))) .nil) .nil) .nil)) (.cons (.ite (.cmp .le (.var 6) (.cst (.int 200))) (.cons (.asg (.one 11) (.call "_law_word" (.ex (.var 4) .nil))) (.cons (.ite (.cmp .ne (.mk .list (.comp (.one 0) (.rng1 (.var 6)) (.call "letter_at" (.ex (.var 1) (.ex (.var 0) .nil))) [none,some 4])) (.mk .list (.seq (.var 11)))) (.cons (.ret (.cst (.bl false))) .nil) .nil) .nil)) .nil) .nil)))))))))))))) (.cons (.ret (.cst (.bl true))) .nil))⟩
noncomputable def aI9:Df:=⟨"long_word",1,0,(.cons (.ret (.call "last_word" (.ex (.var 0) .nil))) .nil)⟩
noncomputable def aV4:Df:=⟨"_law_right",1,0,(.cons (.ite (.cmp .gt (.ix (.call "_law_lengths" (.ex (.var 0) .nil)) (.neg (.cst (.int 1)))) (.cst (.int 2000))) (.cons (.ret (.call "_law_refused" (.ex (.var 0) .nil))) .nil) .nil) (.cons (.ret (.cmp .eq (.call "long_word" (.ex (.var 0) .nil)) (.call "_law_word" (.ex (.var 0) .nil)))) .nil))⟩
noncomputable def cm8:Df:=⟨"_law_on",3,5,(.cons (.asg (.one 3) (.mk .list (.comp (.one 0) (.seq (.var 2)) (.cst .non) [none]))) (.cons (.for_ (.tup [4,5,6,7]) (.seq (.ix (.var 0) (.cst (.int 4)))) (.cons (.ite (.and (.cmp .eq (.var 5) (.var 1)) (.notN (.ix (.var 2) (.var 4)))) (.cons (.ite (.or (.isN (.ix (.var 3) (.var 6))) (.cmp .lt (.bin .add (.ix (.var 2) (.var 4)) (.var 7)) (.ix (.var 3) (.var 6)))) (.cons (.setIx (.var 3) (.var 6) (.bin .add (.ix (.var 2) (.var 4)) (.var 7))) .nil) .nil) .nil) .nil) .nil)) (.cons (.ret (.var 3)) .nil)))⟩
class Has (P:Pr)(d:Df):Prop where
 eq:P.df d.name=some d
class HasL (P:Pr)(d:Lm):Prop where
 eq:P.lm d.id=some d
class HasC (P:Pr)(x:String)(v:D):Prop where
 eq:P.con x=some v
noncomputable def fin (s:Sto)(c:Ct)(s':Sto):R D:=match c with
 | .ret v=>af7 s v s'
 | .next _=>af7 s .non s'
 | _=>.bad
@[simp] theorem ab0 (s:Sto) (v:D) (s':Sto):fin s (.ret v) s'=af7 s v s':=rfl
@[simp] theorem aa8 (s:Sto) (ρ:Env) (s':Sto):fin s (.next ρ) s'=af7 s .non s':=rfl
theorem zA {P:Pr}(d:Df)[h:Has P d]{n:Nat}{l:List D}{s:Sto}(hl:l.length=d.ps) :
  (aa1 P (n+1)).call d.name l s=(exs (aa1 P n) d.body (l.map some++av d.vs none) s).bind (fin s):=by
 simp only[aa1,h.eq,hl,if_true]
 rfl
theorem aZ9 {P:Pr}(d:Lm)[h:HasL P d]{n:Nat}{cs l:List D}{s:Sto}(hl:l.length=d.ps)(hc:cs.length=d.cs)(hn:(D.nclL l&&D.nclL cs&&s.all O.ncl)=true) :
  (aa1 P (n+1)).lam d.id cs l s=(ev (aa1 P n) d.body (l.map some++cs.map some) s).bind (af7 s):=by
 simp only[aa1,h.eq,hl,hc,hn,and_self,if_true]
theorem by8 {P:Pr}{x:String}{v:D}[h:HasC P x v]{n:Nat}:(aa1 P n).con x=some v:=by
 cases n<;>exact h.eq
theorem aB4 (s t:Sto):as9 s (s++t)=true:=by
 unfold as9
 rw[aO]
 intro i h
 rw[cq]at h
 rw[aA h]
 simp
theorem ar1 (s t:Sto)(r:Nat)(o:O)(h:o.bnd s.length=true):as9 s (s.set r o++t)=true:=by
 unfold as9
 rw[aO]
 intro i p
 rw[cq]at p
 rw[aA (by rw[bJ];exact p)]
 by_cases e:r=i
 ·subst e;rw[aZ p];simp[h]
 ·rw[be e];simp
theorem qc {s t:Sto}{d:D}(h:∀ n,d.bnd n=true)(p:∀ r,d≠.ref r):af7 s d (s++t)=.ok d s:=by
 unfold af7
 rw[aB4,if_pos rfl]
 cases d with
 | ref r=>exact absurd rfl (p r)
 | _=>simp[h]
theorem zU {s:Sto}{d:D}(h:∀ n,d.bnd n=true)(p:∀ r,d≠.ref r):af7 s d s=.ok d s:=by
 have:=qc (s:=s) (t:=[]) h p
 rwa [bo]at this
theorem ao6 {s t:Sto}{d:D}{r:Nat}{o:O}(h:∀ n,d.bnd n=true)(p:∀ r,d≠.ref r)(ho:o.bnd s.length=true):af7 s d (s.set r o++t)=.ok d (s.set r o):=by
 unfold af7
 rw[ar1 s t r o ho,if_pos rfl]
 have e:(s.set r o++t).take s.length=s.set r o:=by rw[cO (by simp),b7 (by simp)]
 cases d with
 | ref r=>exact absurd rfl (p r)
 | _=>simp only[h,if_true,e]
theorem aS4 {s:Sto}{d:D}{r:Nat}{o:O}(h:∀ n,d.bnd n=true)(p:∀ r,d≠.ref r)(ho:o.bnd s.length=true):af7 s d (s.set r o)=.ok d (s.set r o):=by
 have:=ao6 (s:=s) (t:=[]) (r:=r) h p ho
 rwa [bo]at this
theorem aB6 {s t u:Sto}{o:O}(ho:o.bnd s.length=true):af7 s (.ref (s.length+t.length)) (s++(t++o::u))=.ok (.ref s.length) (s++[o]):=by
 unfold af7
 rw[aB4,if_pos rfl]
 simp[ho,ak]
@[simp] theorem bO3 {s:Sto} {i:Int}:af7 s (.int i) s=.ok (.int i) s:=zU (λ _=>rfl) (by nofun)
@[simp] theorem ca3 {s:Sto} {i:Bool}:af7 s (.bl i) s=.ok (.bl i) s:=zU (λ _=>rfl) (by nofun)
@[simp] theorem bN3 {s:Sto}:af7 s .non s=.ok .non s:=zU (λ _=>rfl) (by nofun)
@[simp] theorem bM0 {s:Sto} {x:List Nat}:af7 s (.str x) s=.ok (.str x) s:=zU (λ _=>rfl) (by nofun)
theorem jo {c:Env->Sto->R D}{g:Env->Sto->R Ct}:∀ {n:Nat} {ρ:Env} {s:Sto},al7 c g n ρ s≠.bad->al7 c g (n+1) ρ s=al7 c g n ρ s
 | 0,_,_,h=>absurd rfl h
 | n+1,ρ,s,h=>by
  rw[show al7 c g (n+1+1) ρ s=tru (c ρ s) (λ b s=>if b then(g ρ s).bind λ p s=>match p with
   | .next ρ=>al7 c g (n+1) ρ s|.cont ρ=>al7 c g (n+1) ρ s|.brk ρ=>.ok (.next ρ) s|.ret d=>.ok (.ret d) s else .ok (.next ρ) s)from rfl]
  have e:al7 c g (n+1) ρ s=tru (c ρ s) (λ b s=>if b then(g ρ s).bind λ p s=>match p with
   | .next ρ=>al7 c g n ρ s|.cont ρ=>al7 c g n ρ s|.brk ρ=>.ok (.next ρ) s|.ret d=>.ok (.ret d) s else .ok (.next ρ) s):=rfl
  rw[e]at h ⊢
  unfold tru at h ⊢
  cases hc:c ρ s with
  | exc _ _=>rfl
  | bad=>rfl
  | ok d s1 =>
   rw[hc]at h
   cases d with
   | bl b =>
    cases b with
    | false=>rfl
    | true =>
     simp only[R.bind_ok,if_true]at h ⊢
     cases hg:g ρ s1 with
     | exc _ _=>rfl
     | bad=>rfl
     | ok p s2 =>
      rw[hg]at h
      simp only[R.bind_ok]at h ⊢
      cases p with
      | next ρ'=>exact jo h
      | cont ρ'=>exact jo h
      | _=>rfl
   | _=>rfl
theorem jm {c:Env->Sto->R D}{g:Env->Sto->R Ct}{n:Nat}{ρ:Env}{s:Sto}(h:al7 c g n ρ s≠.bad):∀ k,al7 c g (n+k) ρ s=al7 c g n ρ s
 | 0=>rfl
 | k+1=>by
  have e:=jm h k
  rw[<-Nat.add_assoc,jo (by rw[e];exact h),e]
theorem bP6 {c:Env->Sto->R D}{g:Env->Sto->R Ct}{n:Nat}{ρ:Env}{s:Sto}{r:Ct}{t:Sto}(h:al7 c g n ρ s=.ok r t):whl c g ρ s=.ok r t:=by
 have hb:al7 c g n ρ s≠.bad:=by rw[h];nofun
 have hx:∃ n,al7 c g n ρ s≠.bad:=⟨n,hb⟩
 unfold whl
 rw[dif_pos hx]
 have y:=jm hx.choose_spec n
 have p:=jm hb hx.choose
 rw[<-y,jI,p,h]
theorem ax9 {c:Env->Sto->R D}{g:Env->Sto->R Ct}{ρ ρ':Env}{s s1 s':Sto}(hc:c ρ s=.ok (.bl true) s1)(y:g ρ s1=.ok (.next ρ') s'):whl c g ρ s=whl c g ρ' s':=by
 have key:∀ n,al7 c g (n+1) ρ s=al7 c g n ρ' s':=λ n=>by
  show tru (c ρ s) _=_
  rw[hc,qd,if_pos rfl,y];rfl
 unfold whl
 by_cases hx:∃ n,al7 c g n ρ' s'≠.bad
 ·have hy:∃ n,al7 c g n ρ s≠.bad:=⟨hx.choose+1,by rw[key];exact hx.choose_spec⟩
  rw[dif_pos hx,dif_pos hy]
  have p:=jm hy.choose_spec (hx.choose+1)
  have h:=jm (n:=hx.choose+1) (ρ:=ρ) (s:=s) (by rw[key];exact hx.choose_spec) hy.choose
  rw[<-p,jI,h,key]
 ·have hy:¬ ∃ n,al7 c g n ρ s≠.bad:=λ⟨n,hn⟩=>by
   cases n with
   | zero=>exact hn rfl
   | succ n=>exact hx ⟨n,by rw[<-key];exact hn⟩
  rw[dif_neg hx,dif_neg hy]
theorem bE3 {c:Env->Sto->R D}{g:Env->Sto->R Ct}{ρ:Env}{s s1:Sto}(hc:c ρ s=.ok (.bl false) s1):whl c g ρ s=.ok (.next ρ) s1 :=
 bP6 (n:=1) (by show tru (c ρ s) _=_;rw[hc,qd];rfl)
theorem aX6 (s0 s:Sto):chk s0 s []=true:=rfl
theorem aI3 {ok:Sto->Bool}{g:D->Env->Sto->R Ct}(P:Nat->Env->Sto->Prop):∀(l:List D) (k:Nat) (ρ:Env) (s:Sto),
  P k ρ s->(∀(j:Nat) (ρ:Env) (s:Sto),j<=l.length->P (k+j) ρ s->ok s=true)->(∀(j:Nat) (d:D) (ρ:Env) (s:Sto),l[j]?=some d->P (k+j) ρ s->∃ ρ' s',(g d ρ s=.ok (.next ρ') s'\/g d ρ s=.ok (.cont ρ') s')/\P (k+j+1) ρ' s') ->
  ∃ ρ' s',aU0 ok g l ρ s=.ok (.next ρ') s'/\P (k+l.length) ρ' s'
 | [],k,ρ,s,h,o,_=>⟨ρ,s,by show(if ok s then _ else _)=_;rw[if_pos (o 0 ρ s (am _) h)],h⟩
 | d::l,k,ρ,s,h,o,t=>by
  have ho:=o 0 ρ s (c9 _) h
  obtain⟨ρ1,s1,p,y⟩:=t 0 d ρ s rfl h
  obtain⟨ρ2,s2,e,G⟩:=aI3 P l (k+1) ρ1 s1 y (λ j ρ' s' hj hp=>o (j+1) ρ' s' (by simpa using hj) (by rwa [show k+(j+1)=k+1+j by omega])) λ j d' ρ' s' hj hp=>by
   have:=t (j+1) d' ρ' s' (by simpa using hj) (by rwa [show k+(j+1)=k+1+j by omega])
   rwa [show k+(j+1)+1=k+1+j+1 by omega]at this
  refine⟨ρ2,s2,?_,by rwa [aY,show k+(l.length+1)=k+1+l.length by omega]⟩
  show(if ok s then _ else _)=_
  rw[if_pos ho]
  rcases p with p|p<;>(rw[p];exact e)
noncomputable def Nx (Q:Env->Sto->Prop):R Ct->Prop
 | .ok (.next ρ) s=>Q ρ s
 | .ok (.cont ρ) s=>Q ρ s
 | _=>False
@[simp] theorem bg7 (Q:Env->Sto->Prop) (ρ:Env) (s:Sto):Nx Q (.ok (.next ρ) s)=Q ρ s:=rfl
@[simp] theorem cd1 (Q:Env->Sto->Prop) (ρ:Env) (s:Sto):Nx Q (.ok (.cont ρ) s)=Q ρ s:=rfl
theorem aE5 {Q:Env->Sto->Prop}{r:R Ct}{ρ:Env}{s:Sto}(e:r=.ok (.next ρ) s)(h:Q ρ s):Nx Q r:=by rw[e];exact h
theorem Nx.out {Q:Env->Sto->Prop}:∀ {r:R Ct},Nx Q r->∃ ρ s,(r=.ok (.next ρ) s\/r=.ok (.cont ρ) s)/\Q ρ s
 | .ok (.next ρ) s,h=>⟨ρ,s,.inl rfl,h⟩
 | .ok (.cont ρ) s,h=>⟨ρ,s,.inr rfl,h⟩
 | .ok (.ret _) _,h=>h.elim
 | .ok (.brk _) _,h=>h.elim
 | .exc _ _,h=>h.elim
 | .bad,h=>h.elim
noncomputable def Tst (A B:Sto->Prop):R D->Prop
 | .ok (.bl false) s=>A s
 | .ok (.bl true) s=>B s
 | _=>False
@[simp] theorem ck7 (A B:Sto->Prop) (b:Bool) (s:Sto):Tst A B (.ok (.bl b) s)=if b then B s else A s:=by cases b<;>rfl
theorem qK {ok:Sto->Bool}{g:D->Env->Sto->R Ct}{l:List D}{ρ:Env}{s:Sto}{α:Type}{f:Ct->Sto->R α}{W:R α->Prop}(P:Nat->Env->Sto->Prop)(h:P 0 ρ s)
  (o:∀(j:Nat) (ρ:Env) (s:Sto),j<=l.length->P j ρ s->ok s=true) (step:∀(j:Nat) (d:D) (ρ:Env) (s:Sto),l[j]?=some d->P j ρ s->Nx (P (j+1)) (g d ρ s))
  (p:∀ ρ' s',P l.length ρ' s'->W (f (.next ρ') s')):W ((aU0 ok g l ρ s).bind f):=by
 obtain⟨ρ',s',e,q⟩:=aI3 P l 0 ρ s h (λ j ρ s hj hp=>o j ρ s hj (by rwa [cT]at hp)) (λ j d ρ s hj hp=>by
  rw[cT]at hp ⊢
  exact(step j d ρ s hj hp).out)
 rw[e]
 rw[cT]at q
 exact p ρ' s' q
theorem ak0 {ok:Sto->Bool}{g:D->Env->Sto->R Ct}{l:List D}{ρ:Env}{s:Sto}{α:Type}{f:Ct->Sto->R α}{x:R α}(P:Nat->Env->Sto->Prop)(h:P 0 ρ s)
  (o:∀(j:Nat) (ρ:Env) (s:Sto),j<=l.length->P j ρ s->ok s=true) (step:∀(j:Nat) (d:D) (ρ:Env) (s:Sto),l[j]?=some d->P j ρ s->Nx (P (j+1)) (g d ρ s))
  (p:∀ ρ' s',P l.length ρ' s'->f (.next ρ') s'=x):(aU0 ok g l ρ s).bind f=x:=qK (W:=(·=x)) P h o step p
section
variable {F:Fns} {ρ:Env} {s:Sto}
@[simp] theorem zq (i:Nat):ev F (.var i) ρ s=aW2 ρ i s:=rfl
@[simp] theorem zG (c:Cn):ev F (.cst c) ρ s=.ok c.d s:=rfl
@[simp] theorem jj (op:BOp) (a b:E):ev F (.bin op a b) ρ s=(ev F a ρ s).bind λ x s=>(ev F b ρ s).bind λ y s=>qN op x y s:=rfl
@[simp] theorem af0 (a:E):ev F (.not a) ρ s=tru (ev F a ρ s) λ b s=>.ok (.bl (!b)) s:=rfl
@[simp] theorem qB (op:COp) (a b:E):ev F (.cmp op a b) ρ s=(ev F a ρ s).bind λ x s=>(ev F b ρ s).bind λ y s=>qO op x y s:=rfl
@[simp] theorem bZ9 (o p:COp) (a b c:E):ev F (.chain o p a b c) ρ s=(ev F a ρ s).bind λ x s=>(ev F b ρ s).bind λ y s=>tru (qO o x y s) λ k s=>if k then(ev F c ρ s).bind λ z s=>qO p y z s else .ok (.bl false) s:=rfl
@[simp] theorem af4 (a:E):ev F (.isN a) ρ s=(ev F a ρ s).bind λ x s=>.ok (.bl (decide (x=.non))) s:=rfl
@[simp] theorem ac7 (a:E):ev F (.notN a) ρ s=(ev F a ρ s).bind λ x s=>.ok (.bl (!decide (x=.non))) s:=rfl
@[simp] theorem ae3 (a b:E):ev F (.and a b) ρ s=tru (ev F a ρ s) λ c s=>if c then tru (ev F b ρ s) λ c s=>.ok (.bl c) s else .ok (.bl false) s:=rfl
@[simp] theorem ah1 (a b:E):ev F (.or a b) ρ s=tru (ev F a ρ s) λ c s=>if c then .ok (.bl true) s else tru (ev F b ρ s) λ c s=>.ok (.bl c) s:=rfl
@[simp] theorem ad8 (c a b:E):ev F (.ite c a b) ρ s=tru (ev F c ρ s) λ k s=>if k then ev F a ρ s else ev F b ρ s:=rfl
@[simp] theorem ad1 (es:Es):ev F (.tup es) ρ s=(evs F es ρ s).bind λ l s=>.ok (.tup l) s:=rfl
@[simp] theorem ad7 (es:Es):ev F (.lst es) ρ s=(evs F es ρ s).bind λ l s=>ah2 (.lst l) s:=rfl
@[simp] theorem jk (a b:E):ev F (.ix a b) ρ s=(ev F a ρ s).bind λ x s=>(ev F b ρ s).bind λ y s=>ixM x y s:=rfl
@[simp] theorem qk (f:String) (h:As):ev F (.call f h) ρ s=(al5 F h ρ s).bind λ l s=>F.call f l s:=rfl
@[simp] theorem bi2 (f:String) (h:As):ev F (.callC f h) ρ s=(al5 F h ρ s).bind λ l s=>(F.call f l s).bind λ d s'=>if(d.ncl&&s'.all O.ncl)=true then .ok d s' else .bad:=rfl
@[simp] theorem ag3 (b:Bi) (es:Es):ev F (.bi b es) ρ s=(evs F es ρ s).bind λ l s=>bi b l s:=rfl
@[simp] theorem ag1 (k:Mk) (it:L):ev F (.mk k it) ρ s=(evL F it ρ s).bind λ q s=>mk k q s:=rfl
@[simp] theorem ae7 (k:Mk) (it:L) (d:E):ev F (.mkD k it d) ρ s=(evL F it ρ s).bind λ q s=>(ev F d ρ s).bind λ d s=>mkD k q d s:=rfl
@[simp] theorem af3 (k:Mk) (e:E):ev F (.mks k e) ρ s=(ev F e ρ s).bind λ x s=>(bJ4 x s).bind λ q s=>mk k q s:=rfl
@[simp] theorem ac6 (k:Mk) (e d:E):ev F (.mkDs k e d) ρ s=(ev F e ρ s).bind λ x s=>(ev F d ρ s).bind λ z s=>(bJ4 x s).bind λ q s=>mkD k q z s:=rfl
@[simp] theorem qH (m:Mt) (o:E) (es:Es):ev F (.meth m o es) ρ s=(ev F o ρ s).bind λ x s=>(evs F es ρ s).bind λ l s=>meth m x l s:=rfl
@[simp] theorem ce9 (o e:E):ev F (.extS o e) ρ s=(ev F o ρ s).bind λ x s=>(ev F e ρ s).bind λ y s=>extS x y s:=rfl
@[simp] theorem cj6 (a:E):ev F (.rev a) ρ s=(ev F a ρ s).bind λ x s=>ce4 x s:=rfl
@[simp] theorem ck3 (o:E) (it:L):ev F (.ext o it) ρ s=(ev F o ρ s).bind λ x s=>(evL F it ρ s).bind λ q s=>bN4 x q s:=rfl
@[simp] theorem zz:evs F .nil ρ s=.ok [] s:=rfl
@[simp] theorem zx (e:E) (es:Es):evs F (.cons e es) ρ s=(ev F e ρ s).bind λ d s=>(evs F es ρ s).bind λ l s=>.ok (d::l) s:=rfl
@[simp] theorem zQ:al5 F .nil ρ s=.ok [] s:=rfl
@[simp] theorem z5 (e:E) (h:As):al5 F (.ex e h) ρ s=(ev F e ρ s).bind λ d s=>(al5 F h ρ s).bind λ l s=>.ok (d::l) s:=rfl
@[simp] theorem cb8 (f:String) (h:As):al5 F (.fn f h) ρ s=(al5 F h ρ s).bind λ l s=>.ok (.fn f::l) s:=rfl
@[simp] theorem ac0 (e:E):evI F (.seq e) ρ s=(ev F e ρ s).bind λ d s=>aF7 d s:=rfl
@[simp] theorem bZ5 (es:Es):evL F (.disp es) ρ s=evs F es ρ s:=rfl
@[simp] theorem ab9 (e:E):evL F (.seq e) ρ s=(ev F e ρ s).bind λ d s=>aT5 d s:=rfl
noncomputable def bz3 (x:D):M Sq:=λ s=>match x with|.int i=>if -W62<=i/\i<W62 then .ok ⟨ai7 0 i,[]⟩ s else .bad|_=>.bad
@[simp] theorem jv (a:E):evI F (.rng1 a) ρ s=(ev F a ρ s).bind λ x s=>bz3 x s:=rfl
theorem qg {i:Int}(h0:-W62<=i)(h:i<W62):bz3 (.int i) s=.ok ⟨ai7 0 i,[]⟩ s:=by unfold bz3;simp only[h0,h,and_self,if_true]
noncomputable def nxt (F:Fns)(ss:Ss)(c:Ct)(s:Sto):R Ct:=match c with|.next ρ=>exs F ss ρ s|c=>.ok c s
@[simp] theorem ze (h:Ss) (ρ:Env) (s:Sto):nxt F h (.next ρ) s=exs F h ρ s:=rfl
@[simp] theorem ab1 (h:Ss) (d:D) (s:Sto):nxt F h (.ret d) s=.ok (.ret d) s:=rfl
@[simp] theorem aa7 (h:Ss) (ρ:Env) (s:Sto):nxt F h (.cont ρ) s=.ok (.cont ρ) s:=rfl
@[simp] theorem zu:exs F .nil ρ s=.ok (.next ρ) s:=rfl
@[simp] theorem za (st:S) (h:Ss):exs F (.cons st h) ρ s=(ex F st ρ s).bind (nxt F h):=rfl
noncomputable def cb0 (ρ:Option Env)(s:Sto):R Ct:=match ρ with|some ρ=>.ok (.next ρ) s|none=>.bad
@[simp] theorem zB (ρ:Env) (s:Sto):cb0 (some ρ) s=.ok (.next ρ) s:=rfl
@[simp] theorem qD (tg:Tg) (e:E):ex F (.asg tg e) ρ s=(ev F e ρ s).bind λ d s=>cb0 (ah7 ρ tg d) s:=rfl
@[simp] theorem aa5 (o i e:E):ex F (.setIx o i e) ρ s=(ev F e ρ s).bind λ d s=>(ev F o ρ s).bind λ x s=>(ev F i ρ s).bind λ y s=>(setIx x y d s).bind λ _ s=>.ok (.next ρ) s:=rfl
@[simp] theorem af9 (e:E):ex F (.ex e) ρ s=(ev F e ρ s).bind λ _ s=>.ok (.next ρ) s:=rfl
@[simp] theorem ad4 (e:E):ex F (.ret e) ρ s=(ev F e ρ s).bind λ d s=>.ok (.ret d) s:=rfl
@[simp] theorem cb4:ex F .retN ρ s=.ok (.ret .non) s:=rfl
@[simp] theorem ad0 (c:E) (a b:Ss):ex F (.ite c a b) ρ s=tru (ev F c ρ s) λ k s=>if k then exs F a ρ s else exs F b ρ s:=rfl
@[simp] theorem af5 (c:E) (b:Ss):ex F (.whl c b) ρ s=whl (ev F c) (exs F b) ρ s:=rfl
noncomputable def turn (F:Fns)(tg:Tg)(b:Ss)(d:D)(ρ:Env)(s:Sto):R Ct:=match ah7 ρ tg d with
 | some ρ=>exs F b ρ s
 | none=>.bad
@[simp] theorem ad5 (tg:Tg) (it:I) (b:Ss):ex F (.for_ tg it b) ρ s=(evI F it ρ s).bind λ q s0=>aU0 (λ s=>chk s0 s q.src) (turn F tg b) q.its ρ s0:=rfl
@[simp] theorem ac9:ex F .cont ρ s=.ok (.cont ρ) s:=rfl
@[simp] theorem af1 (i:Nat):ex F (.und i) ρ s=cb0 (ap9 ρ i) s:=rfl
@[simp] theorem ac8:ex F .pass ρ s=.ok (.next ρ) s:=rfl
@[simp] theorem zg (i:Nat) (d:D):ah7 ρ (.one i) d=aF8 ρ i d:=rfl
@[simp] theorem aa3 (is:List Nat) (l:List D):ah7 ρ (.tup is) (.tup l)=ap5 ρ is l:=rfl
@[simp] theorem aa4:ap5 ρ [] []=some ρ:=rfl
@[simp] theorem aa2 (i:Nat) (is:List Nat) (d:D) (l:List D):ap5 ρ (i::is) (d::l)=(aF8 ρ i d).bind λ ρ=>ap5 ρ is l:=rfl
@[simp] theorem zr (d:D) (ρ:Env):aW2 (some d::ρ) 0 s=.ok d s:=rfl
@[simp] theorem zt (x:Option D) (ρ:Env) (i:Nat):aW2 (x::ρ) (i+1) s=aW2 ρ i s:=by unfold aW2;rw[List.getElem?_cons_succ]
@[simp] theorem zM (d:D) (x:Option D) (ρ:Env):aF8 (x::ρ) 0 d=some (some d::ρ):=rfl
@[simp] theorem zZ (d:D) (x:Option D) (ρ:Env) (i:Nat):aF8 (x::ρ) (i+1) d=(aF8 ρ i d).map (x::·):=by
 unfold aF8
 by_cases h:i < ρ.length
 ·rw[if_pos (by simpa using h),if_pos h];rfl
 ·rw[if_neg (by simpa using h),if_neg h];rfl
@[simp] theorem aa9 (x:Option D) (ρ:Env):ap9 (x::ρ) 0=some (none::ρ):=rfl
@[simp] theorem aa6 (x:Option D) (ρ:Env) (i:Nat):ap9 (x::ρ) (i+1)=(ap9 ρ i).map (x::·):=by
 unfold ap9
 by_cases h:i < ρ.length
 ·rw[if_pos (by simpa using h),if_pos h];rfl
 ·rw[if_neg (by simpa using h),if_neg h];rfl
@[simp] theorem zI (i:Int):(Cn.int i).d=.int i:=rfl
@[simp] theorem ah0 (i:Bool):(Cn.bl i).d=.bl i:=rfl
@[simp] theorem je (i:List Nat):(Cn.str i).d=.str i:=rfl
@[simp] theorem ae9:Cn.non.d=.non:=rfl
@[simp] theorem ab4 (a b:Int):qN .add (.int a) (.int b) s=.ok (.int (a+b)) s:=rfl
@[simp] theorem ab5 (a b:Int):qN .sub (.int a) (.int b) s=.ok (.int (a - b)) s:=rfl
theorem ah3 {a b:Int}(h:mulOk a b=true):qN .mul (.int a) (.int b) s=.ok (.int (a*b)) s:=by show(if mulOk a b then _ else _:M D) s=_;rw[if_pos h];rfl
theorem ar3 {a b:Int}(h:a.natAbs<2^64):mulOk a b=true:=by unfold mulOk;simp[h]
theorem av7 {a b:Int}(h:b.natAbs<2^64):mulOk a b=true:=by unfold mulOk;simp[h]
theorem ap7 {a b:Int}(h:0<b):qN .mod (.int a) (.int b) s=.ok (.int (a % b)) s:=by show(if 0<b then _ else _:M D) s=_;rw[if_pos h];rfl
theorem bF0:(10:Int)^200<=(DIVL:Int):=by unfold DIVL;decide +kernel
theorem az3 {a b:Int}(h:0<b)(p:b<10^200):qN .fdiv (.int a) (.int b) s=.ok (.int (a / b)) s:=by show(if 0<b/\b<(DIVL:Int)then _ else _:M D) s=_;rw[if_pos ⟨h,Int.lt_of_lt_of_le p bF0⟩];rfl
theorem aG9 {a b:Int}(h:0<=b/\b<=1000000/\a.natAbs<2^64):qN .pow (.int a) (.int b) s=.ok (.int (a^b.toNat)) s:=by show(if _ then _ else _:M D) s=_;rw[if_pos h];rfl
@[simp] theorem ae1 (a b:Int):qO .lt (.int a) (.int b) s=.ok (.bl (decide (a<b))) s:=rfl
@[simp] theorem ae4 (a b:Int):qO .le (.int a) (.int b) s=.ok (.bl (decide (a<=b))) s:=rfl
@[simp] theorem ad3 (a b:Int):qO .gt (.int a) (.int b) s=.ok (.bl (decide (b<a))) s:=rfl
@[simp] theorem ae6 (a b:Int):qO .ge (.int a) (.int b) s=.ok (.bl (decide (b<=a))) s:=rfl
@[simp] theorem ae5 (a b:Int):qO .eq (.int a) (.int b) s=.ok (.bl (decide (a=b))) s:=rfl
@[simp] theorem ae8 (a b:Int):qO .ne (.int a) (.int b) s=.ok (.bl (!decide (a=b))) s:=rfl
@[simp] theorem jy (o:O):ah2 o s=.ok (.ref s.length) (s++[o]):=rfl
@[simp] theorem bC3 (l:List D):bi .len [.tup l] s=.ok (.int l.length) s:=rfl
@[simp] theorem av8 (l:List Nat):bi .len [.str l] s=.ok (.int l.length) s:=rfl
theorem by9 {r:Nat}{l:List D}(h:s[r]?=some (.lst l)):bi .len [.ref r] s=.ok (.int l.length) s:=by simp only[bi,bi1,by6,h]
theorem br2 {r:Nat}{l:List D}(h:s[r]?=some (.ro l)):bi .len [.ref r] s=.ok (.int l.length) s:=by simp only[bi,bi1,by6,h]
@[simp] theorem ch5 (i:Int):bi .abs [.int i] s=.ok (.int (if i<0 then -i else i)) s:=rfl
@[simp] theorem js (a b:Int):bi .min2 [.int a,.int b] s=.ok (.int (if b<a then b else a)) s:=rfl
@[simp] theorem bZ0 (a b:Int):bi .max2 [.int a,.int b] s=.ok (.int (if b > a then b else a)) s:=rfl
@[simp] theorem bM1 (a:Int):bi .isInt [.int a] s=.ok (.bl true) s:=rfl
@[simp] theorem bI8 (a:Int):bi .isBool [.int a] s=.ok (.bl false) s:=rfl
@[simp] theorem bV2 (l:List D):bi .isTup [.tup l] s=.ok (.bl true) s:=rfl
theorem cg5 {r:Nat}{l:List D}{j:Nat}{d:D}(h:s[r]?=some (.ro l))(hj:l[j]?=some d):ixM (.ref r) (.int (j:Int)) s=.ok d s:=by
 have hl:j<l.length:=(ae.mp hj).1
 have e:l[j]=d:=(ae.mp hj).2
 simp[ixM,h,ixn,hl,e]
theorem qv {r:Nat}{l:List D}{j:Nat}{d:D}(h:s[r]?=some (.lst l))(hj:l[j]?=some d):ixM (.ref r) (.int (j:Int)) s=.ok d s:=by
 have hl:j<l.length:=(ae.mp hj).1
 have e:l[j]=d:=(ae.mp hj).2
 simp[ixM,h,ixn,hl,e]
theorem ix_tup {l:List D}{j:Nat}{d:D}(hj:l[j]?=some d):ixM (.tup l) (.int (j:Int)) s=.ok d s:=by
 have hl:j<l.length:=(ae.mp hj).1
 have e:l[j]=d:=(ae.mp hj).2
 simp[ixM,ixn,hl,e]
theorem bC2 {r:Nat}{l:List D}{j:Nat}{v:D}(h:s[r]?=some (.lst l))(hl:j<l.length):setIx (.ref r) (.int (j:Int)) v s=.ok () (s.set r (.lst (l.set j v))):=by
 simp[setIx,h,ixn,hl]
theorem z9 {r:Nat}{l:List D}{v:D}(h:s[r]?=some (.lst l))(hl:l.length<LIM):meth .append (.ref r) [v] s=.ok .non (s.set r (.lst (l++[v]))):=by
 show(match s[r]? with|some (.lst l)=>(if l.length<LIM then R.ok D.non (s.set r (.lst (l++[v])))else .bad)|_=>.bad:R D)=_
 rw[h]
 exact if_pos hl
end
theorem aI5 (s t:Sto)(b:Bool):∃ s',af7 s (.bl b) t=.ok (.bl b) s':=by
 unfold af7
 by_cases h:as9 s t=true
 ·rw[if_pos h];exact⟨_,rfl⟩
 ·rw[if_neg h];exact⟨_,rfl⟩
def Yes (r:R D):Prop:=∃ s',r=.ok (.bl true) s'
theorem aV8 (s t:Sto):Yes (af7 s (.bl true) t):=aI5 s t true
theorem ak8 {a b:Int}{j:Nat}{d:D}(h:(ai7 a b)[j]?=some d):(j:Int)<b - a/\d=.int (a+j):=by
 have hj:=(ae.mp h).1
 simp only[ai7,aC,fI]at hj
 unfold ai7 at h
 rw[ax,bN hj]at h
 exact⟨by omega,(aF h).symm⟩
def cc9 (P:Pr)(k:Nat):Prop:=∀ ns:List Int,ns.length<=63->Yes ((aa1 P k).call "law" [.ref 0] [.ro (ns.map D.int)])
noncomputable def bH3:Option Int->D
 | none=>.non
 | some i=>.int i
@[simp] theorem bW6:bH3 none=.non:=rfl
@[simp] theorem bT3 (i:Int):bH3 (some i)=.int i:=rfl
@[simp] theorem bm0 (p:Option Int) (n:Nat):(bH3 p).bnd n=true:=by cases p<;>rfl
theorem bk8 (p:Option Int)(r:Nat):bH3 p≠.ref r:=by cases p<;>nofun
@[simp] theorem bI9 {s:Sto} {p:Option Int}:af7 s (bH3 p) s=.ok (bH3 p) s:=zU (bm0 p) (bk8 p)
noncomputable def co1 (b:Nat×Nat):O:=.lst [.int b.1,.int b.2]
@[simp] theorem ca1 (b:Nat×Nat) (n:Nat):(co1 b).bnd n=true:=rfl
noncomputable def tkW (many:Nat):Nat->Nat->Nat->Nat->Nat×Nat
 | 0,mix,num,_=>(num,mix)
 | n+1,mix,num,room=>if room<many then tkW many n ((mix*48271+7919) % 2147483647) (num*1073741789+(mix*48271+7919) % 2147483647 / 8*69621 % 1073741789) (room*1073741789)else(num,mix)
noncomputable def tk (b:Nat×Nat)(many:Nat):Nat×(Nat×Nat) :=
 if 0<b.1 then(b.1 % many,(b.1 / many,b.2))else let r:=tkW many 12 b.2 0 1;(r.1 % many,(b.1,r.2))
theorem by5 {s t:Sto}{r:Nat}{o:O}(h:r<s.length):(s++t).set r o=s.set r o++t:=by rw[j6,if_pos h]
theorem zJ {s t:Sto}{r:Nat}{o:O}(h:s[r]?=some o):(s++t)[r]?=some o:=by
 rw[aA (ae.mp h).1];exact h
theorem aw9 {s:Sto}{r:Nat}{o:O}(h:r<s.length):(s.set r o)[r]?=some o:=aZ h
noncomputable def bd (b:Nat×Nat):Nat×(Nat×Nat) :=
 let x0:=tk b 3
 let x1:=tk x0.2 13
 let x2:=tk x1.2 1000000000
 let x3:=tk x2.2 1000000000000000000000000000000
 let i:=tk x3.2 4
 ([x0.1,x1.1,x2.1,x3.1].getD i.1 0,i.2)
section
variable {F:Fns} {ρ:Env} {s:Sto}
noncomputable def al9 (F:Fns)(tg:Tg)(e:E)(d:D)(ρ:Env)(s:Sto):R (Option D×Env):=match ah7 ρ tg d with
 | some ρ=>(ev F e ρ s).bind λ v s=>.ok (some v,ρ) s
 | none=>.bad
noncomputable def bp4 (F:Fns)(tg:Tg)(c e:E)(d:D)(ρ:Env)(s:Sto):R (Option D×Env):=match ah7 ρ tg d with
 | some ρ=>tru (ev F c ρ s) λ k s=>if k then(ev F e ρ s).bind λ v s=>.ok (some v,ρ) s else .ok (none,ρ) s
 | none=>.bad
@[simp] theorem bl5 (tg:Tg) (it:I) (e:E) (h:List (Option Nat)):evL F (.comp tg it e h) ρ s=(evI F it ρ s).bind λ q s0=>if q.its.length<=LIM then jb (λ s=>chk s0 s q.src) (al9 F tg e) q.its (qS ρ h) s0 else .bad:=rfl
@[simp] theorem au4 (tg:Tg) (it:I) (c e:E) (h:List (Option Nat)):evL F (.compIf tg it c e h) ρ s=(evI F it ρ s).bind λ q s0=>if q.its.length<=LIM then jb (λ s=>chk s0 s q.src) (bp4 F tg c e) q.its (qS ρ h) s0 else .bad:=rfl
@[simp] theorem bK3 (a h:E):ev F (.slU a h) ρ s=(ev F a ρ s).bind λ x s=>(ev F h ρ s).bind λ y s=>match y with|.int i=>slM x none (some i) s|_=>.bad:=rfl
@[simp] theorem ci2 (a h:E):ev F (.slL a h) ρ s=(ev F a ρ s).bind λ x s=>(ev F h ρ s).bind λ y s=>match y with|.int i=>slM x (some i) none s|_=>.bad:=rfl
end
theorem ax5 {ok:Sto->Bool}{g:D->Env->Sto->R (Option D×Env)}(P:Env->Sto->Prop)(f:D->Option D):∀(l:List D) (ρ:Env) (s:Sto),P ρ s ->
  (∀ ρ s,P ρ s->ok s=true)->(∀ d∈l,∀ ρ s,P ρ s->∃ ρ' s',g d ρ s=.ok (f d,ρ') s'/\P ρ' s')->∃ ρ' s',jb ok g l ρ s=.ok (l.filterMap f) s'/\P ρ' s'
 | [],ρ,s,h,o,_=>⟨ρ,s,by unfold jb;rw[if_pos (o ρ s h)];rfl,h⟩
 | d::l,ρ,s,h,o,st=>by
  obtain⟨ρ1,s1,e1,y⟩:=st d (aB ..) ρ s h
  obtain⟨ρ2,s2,e2,p⟩:=ax5 P f l ρ1 s1 y o λ x hx=>st x (aj _ hx)
  refine⟨ρ2,s2,?_,p⟩
  unfold jb
  rw[if_pos (o ρ s h),e1]
  simp only[R.bind_ok]
  rw[e2,bM]
  cases f d<;>rfl
theorem qh {k:Int}(h:k<=1000):k<=10^90:=cG h (by decide)
theorem bf6 {k:Int}{s:Sto}(h:0<=k/\k<=1000000):qN .shl (.int 1) (.int k) s=.ok (.int (1*2^k.toNat)) s:=by
 show(if 0<=k/\k<=1000000/\(1:Int).natAbs<2^64 then _ else _:M D) s=_
 rw[if_pos ⟨h.1,h.2,by decide⟩];rfl
theorem qy {l:List D}(h:∀ d∈l,∀ n,d.bnd n=true)(n:Nat):D.bndL n l=true:=by
 induction l with
 | nil=>rfl
 | cons d l ih=>unfold D.bndL;rw[h d (aB ..),ih λ x hx=>h x (aj _ hx)];rfl
noncomputable def bf2 (bits:Nat):D->Option D
 | .int i=>if(bits:Int) / (1*2^i.toNat) % 2=1 then some (.int i)else none
 | _=>none
theorem bd5 {k:Nat}(h:k<3)(s:Sto):ixM (.str [97,98,99]) (.int (k:Int)) s=.ok (.str [97+k]) s:=by
 match k,h with
 | 0,_=>rfl
 | 1,_=>rfl
 | 2,_=>rfl
theorem aV3 {a b:List Nat}{s:Sto}(h:a.length+b.length<=LIM):qN .add (.str a) (.str b) s=.ok (.str (a++b)) s:=by
 show(if a.length+b.length<=LIM then _ else _:M D) s=_;rw[if_pos h];rfl
theorem bv7 {a:List Nat}{k:Int}{s:Sto}(h:0<=k/\k<=1000000/\a.length*k.toNat<=LIM):qN .mul (.str a) (.int k) s=.ok (.str (rep k.toNat a)) s:=by
 show(if _ then _ else _:M D) s=_;rw[if_pos h];rfl
def Lts (L:Nat)(w:List Nat):Prop:=∀ c∈w,97<=c/\c<97+L
theorem rep_len (l:List Nat):∀ n,(rep n l).length=l.length*n
 | 0=>by simp[rep]
 | n+1=>by simp[rep,rep_len l n,dD];omega
noncomputable def bP0 (L:Nat)(d:D):Bool:=match d with
 | .str w=>decide (w.length<=200)&&w.all λ c=>decide (97<=c/\c<97+L)
 | _=>false
noncomputable def bE2 (s:Sto):D->Prop
 | .fn _=>False
 | .clo _ _=>False
 | .ref k=>∃ l,s[k]?=some (.lst l)
 | _=>True
noncomputable abbrev cl7:List D:=[.str [97],.str [98],.str [99]]
@[simp] theorem ck1 {F:Fns} {ρ:Env} {s:Sto} (a:E):ev F (.neg a) ρ s=(ev F a ρ s).bind λ x s=>match x with|.int i=>.ok (.int (-i)) s|_=>.bad:=rfl
structure Dr where
 a:Nat
 l:Nat
 b:Nat
 t:Nat
noncomputable def Dr.d (x:Dr):D:=.tup [.int x.a,.str [x.l],.int x.b,.int x.t]
structure Mc where
 L:Nat
 R:Nat
 bg:List Nat
 en:List Nat
 ds:List Dr
noncomputable def zY (l:List Nat):List D:=l.map λ(k:Nat)=>D.int (k:Int)
noncomputable def aL7 (l:List Int):List D:=l.map D.int
noncomputable def sg (w:List Nat):List D:=w.map λ c=>.str [c]
noncomputable def Mc.ps (m:Mc):List D:=[.int m.L,.int m.R,.tup (zY m.bg),.tup (zY m.en),.tup (m.ds.map Dr.d)]
noncomputable def Mc.d (m:Mc):D:=.tup m.ps
structure Dr.Ok (m:Mc)(x:Dr):Prop where
 a:x.a<m.R
 l:97<=x.l/\x.l<97+m.L
 b:x.b<m.R
 t:x.t<4
structure Mc.Ok (m:Mc):Prop where
 L1:1<=m.L
 L3:m.L<=3
 R1:1<=m.R
 R5:m.R<=5
 bg:(∀ k∈m.bg,k<m.R)/\m.bg.Pairwise (· < ·)
 en:(∀ k∈m.en,k<m.R)/\m.en.Pairwise (· < ·)
 ds:(∀ x∈m.ds,x.Ok m)/\m.ds.length<=75
theorem aO0 {l:List Nat}:∀ d∈zY l,∀ n,d.bnd n=true:=λ d hd n=>by
 obtain⟨c,_,rfl⟩:=aS.mp hd;rfl
theorem bI3 {l:List Dr}:∀ d∈l.map Dr.d,∀ n,d.bnd n=true:=λ d hd n=>by
 obtain⟨c,_,rfl⟩:=aS.mp hd;rfl
theorem bG8 {m:Mc}:∀ d∈m.ps,∀ n,d.bnd n=true:=λ d hd n=>by
 simp only[Mc.ps,aE,bL,or_false]at hd
 rcases hd with rfl|rfl|rfl|rfl|rfl
 ·rfl
 ·rfl
 ·unfold D.bnd;exact qy aO0 n
 ·unfold D.bnd;exact qy aO0 n
 ·unfold D.bnd;exact qy bI3 n
theorem bK4 (m:Mc)(n:Nat):m.d.bnd n=true:=by unfold Mc.d D.bnd;exact qy bG8 n
noncomputable def ak5 (bits k:Nat):List Nat:=(aw k).filter λ i=>decide (bits / 2^i % 2=1)
theorem aE4 (h k:Nat):(∀ i∈ak5 h k,i<k)/\(ak5 h k).Pairwise (· < ·) :=
 ⟨λ i p=>cq.mp (gD.mp p).1,k7 _ List.pairwise_lt_range⟩
theorem bn1 (p:Nat)(k:Nat):(ai7 0 (k:Int)).filterMap (bf2 p)=zY (ak5 p k):=by
 unfold ai7 ak5 zY
 simp only[kQ,ci]
 rw[iM]
 induction (aw k)with
 | nil=>rfl
 | cons i l ih =>
  rw[bM,List.filter_cons]
  have e:((p:Int) / (1*2^((0:Int)+(i:Int)).toNat) % 2=1)↔(p / 2^i % 2=1):=by
   rw[Int.one_mul,show((0:Int)+(i:Int)).toNat=i by omega]
   have:((p:Int) / 2^i % 2)=((p / 2^i % 2:Nat):Int):=by simp
   rw[this];omega
  simp only[kH,bf2]
  by_cases h:p / 2^i % 2=1
  ·rw[if_pos (e.mpr h)]
   simp only[h,decide_true,if_true,aG]
   rw[<-ih,gB]
  ·rw[if_neg λ z=>h (e.mp z)]
   simp only[h,decide_false]
   exact ih
section
variable {P:Pr}
theorem bF9 {l:List D}{s:Sto}(j:Nat){d:D}(h:l[j]?=some d):ixM (.tup l) (.int (j:Int)) s=.ok d s:=ix_tup h
theorem ixL (m:Mc)(s:Sto):ixM m.d (.int 0) s=.ok (.int m.L) s:=bF9 0 rfl
theorem ixR (m:Mc)(s:Sto):ixM m.d (.int 1) s=.ok (.int m.R) s:=bF9 1 rfl
theorem ixD (m:Mc)(s:Sto):ixM m.d (.int 4) s=.ok (.tup (m.ds.map Dr.d)) s:=bF9 4 rfl
theorem aH9 [Has P ab2](n:Nat)(m:Mc)(s:Sto):(aa1 P (n+1)).call "rooms_of" [m.d] s=.ok (.int m.R) s:=by
 refine(zA ab2 rfl).trans ?_
 simp -implicitDefEqProofs [ab2,ixR]
theorem bg8 {a b:Int}(h:a<b):ai7 a b=.int a::ai7 (a+1) b:=by
 unfold ai7
 obtain⟨n,hn⟩:∃ n:Nat,(b - a).toNat=n+1:=⟨(b - a).toNat - 1,by omega⟩
 rw[hn,show(b - (a+1)).toNat=n by omega,gz,aG,dU]
 congr 1
 ·simp
 ·apply dh
  intro k _
  simp only[kH]
  congr 1;omega
@[simp] theorem ce6 (a b:Nat) (s:Sto):qO .ne (.str [a]) (.str [b]) s=.ok (.bl (!decide (a=b))) s:=by
 show(match eqv s DEEP (.str [a]) (.str [b])with|some r=>R.ok (D.bl (!r)) s|none=>.bad)=_
 have:eqv s DEEP (.str [a]) (.str [b])=some ([a]==[b]):=rfl
 rw[this]
 have e:([a]==[b])=decide (a=b):=by rw[eQ];simp
 rw[e]
@[simp] theorem aW1 (a b:Nat) (s:Sto):qO .eq (.str [a]) (.str [b]) s=.ok (.bl (decide (a=b))) s:=by
 show(match eqv s DEEP (.str [a]) (.str [b])with|some r=>R.ok (D.bl r) s|none=>.bad)=_
 have:eqv s DEEP (.str [a]) (.str [b])=some ([a]==[b]):=rfl
 rw[this]
 have e:([a]==[b])=decide (a=b):=by rw[eQ];simp
 rw[e]
end
theorem good_of {L:Nat}{w:List Nat}(h:w.length<=200)(hw:Lts L w):bP0 L (.str w)=true:=by
 unfold bP0
 simp only[h,decide_true,iE,aO,decide_eq_true_eq]
 exact hw
theorem aP2 (l:List D):∀ n,(am8 n l).length=l.length*n
 | 0=>by simp[am8]
 | n+1=>by simp[am8,aP2 l n,dD];omega
theorem bC9 {a b:List D}{s:Sto}(h:a.length+b.length<=LIM):qN .add (.tup a) (.tup b) s=.ok (.tup (a++b)) s:=by
 show(if a.length+b.length<=LIM then _ else _:M D) s=_;rw[if_pos h];rfl
@[simp] theorem cb9 {F:Fns} {ρ:Env} {s:Sto} (a p h:E):ev F (.slLU a p h) ρ s=(ev F a ρ s).bind λ x s=>(ev F p ρ s).bind λ y s=>match y with|.int i=>(ev F h ρ s).bind (λ z s=>match z with|.int j=>slM x (some i) (some j) s|_=>.bad)|_=>.bad:=rfl
noncomputable def qt (N:Int):O:=.lst [.int N]
theorem aM8 {s:Sto}{r:Nat}(h:∃ N,s[r]?=some (qt N)):r<s.length:=by obtain⟨b,hb⟩:=h;exact(ae.mp hb).1
theorem as1 {s:Sto}{r:Nat}{b:Int}(h:r<s.length):∃ p,(s.set r (qt b))[r]?=some (qt p):=⟨b,aw9 h⟩
theorem qE {P:Pr}[Has P ag9](n:Nat){s:Sto}{r:Nat}(hs:∃ N,s[r]?=some (qt N))(p:Int)(h0:0<p)(h:p<=10^90) :
  ∃(k:Nat) (N:Int),(k:Int)<p/\(aa1 P (n+1)).call "_law_draw" [.ref r,.int p] s=.ok (.int k) (s.set r (qt N)):=by
 obtain⟨N,hN⟩:=hs
 have J:(aa1 P (n+1)).call "_law_draw" [.ref r,.int p] s=_:=zA ag9 (n:=n) rfl
 have y:p<10^200:=by
  have:(10:Int)^90<10^200:=by decide +kernel
  omega
 have Z:=j7 N (show p≠0 by omega)
 have Y:=i0 N h0
 refine⟨(N % p).toNat,N / p,by omega,?_⟩
 rw[J]
 have G:s[r]?=some (.lst [.int N]):=hN
 simp -implicitDefEqProofs [ag9,ixM,G,ixn,ap7 h0,az3 h0 y,setIx]
 rw[show max (N % p) 0=N % p by omega]
 exact aS4 (λ _=>rfl) (by nofun) rfl
def cl1 (s:Sto)(x:R D):Prop:=∃ N:Int,x=.ok (.ref s.length) (s++[qt N])
theorem bW1 {P:Pr}[Has P aj8](n:Nat)(ns:List Int)(k:Nat){s:Sto}{r:Nat}(hs:s[r]?=some (.ro (ns.map D.int))) :
  ∃ N:Int,(aa1 P (n+1)).call "_law_box" [.ref r,.int k] s=.ok (.ref s.length) (s++[qt N]):=by
 have Z:(aa1 P (n+1)).call "_law_box" [.ref r,.int k] s=_:=zA aj8 (n:=n) rfl
 have p:bi .len [.ref r] s=.ok (.int ns.length) s:=by rw[br2 hs,aC]
 have m1:∀ a:Int,mulOk 7919 a=true:=λ a=>ar3 (by decide)
 have m2:∀ a:Int,mulOk a 48271=true:=λ a=>av7 (by decide)
 have m3:∀ a:Int,mulOk 104729 a=true:=λ a=>ar3 (by decide)
 have m4:∀ a:Int,mulOk a 2147483647=true:=λ a=>av7 (by decide)
 have Y:∀ a:Int,mulOk 31 a=true:=λ a=>ar3 (by decide)
 have m6:∀ a:Int,mulOk (a % 2147483647) (a % 2147483647)=true:=λ a=>ar3 (by
  have h1:=j7 a (show(2147483647:Int)≠0 by decide)
  have h2:=i0 a (show(0:Int)<2147483647 by decide)
  omega)
 have J:∀ N:Int,af7 s (.ref s.length) (s++[.lst [.int N]])=.ok (.ref s.length) (s++[qt N]):=λ N=>by
  have:=aB6 (s:=s) (t:=[]) (u:=[]) (o:=qt N) rfl
  simp only[cj,kS,dq]at this
  exact this
 have h:∀ c:Int,cl1 s ((exs (aa1 P n) (.cons (.ite (.cmp .ge (.var 2) (.bin .pow (.cst (.int 10)) (.cst (.int 18)))) (.cons (.ret (.lst (.cons (.var 2) .nil))) .nil) .nil) (.cons (.asg (.one 3) (.cst (.int 0))) (.cons (.for_ (.one 4) (.rng1 (.cst (.int 128))) (.cons (.asg (.one 5) (.bin .mod (.bin .mul (.bin .add (.bin .add (.bin .add (.bin .mod (.var 2) (.cst (.int 2147483647))) (.bin .mul (.cst (.int 7919)) (.var 1))) (.bin .mul (.cst (.int 104729)) (.var 4))) (.cst (.int 97))) (.cst (.int 48271))) (.cst (.int 2147483647)))) (.cons (.asg (.one 3) (.bin .add (.bin .mul (.var 3) (.cst (.int 2147483647))) (.bin .mod (.bin .add (.bin .add (.bin .mul (.var 5) (.var 5)) (.bin .mul (.cst (.int 31)) (.var 4))) (.bin .fdiv (.var 2) (.cst (.int 2147483647)))) (.cst (.int 2147483647))))) .nil))) (.cons (.ret (.lst (.cons (.var 3) .nil))) .nil))))
   [some (.ref r),some (.int k),some (.int c),none,none,none] s).bind (fin s)):=by
  intro c
  by_cases hc:(10:Int)^18<=c
  ·have G:(1000000000000000000:Int)<=c:=hc
   exact⟨c,by simp -implicitDefEqProofs [aG9,G,J]⟩
  ·have G:¬(1000000000000000000:Int)<=c:=hc
   simp -implicitDefEqProofs [aG9,G]
   rw[qg (by decide) (by decide)]
   simp only[R.bind_ok]
   refine qK (W:=cl1 s) (λ j ρ t=>t=s/\∃(N:Int) (x y:Option D),ρ=[some (.ref r),some (.int k),some (.int c),some (.int N),x,y]) ⟨rfl,0,_,_,rfl⟩ (λ _ _ _ _ _=>rfl) ?_ ?_
   ·rintro j d ρ t hj ⟨rfl,N,x,y,rfl⟩
    obtain⟨_,rfl⟩:=ak8 hj
    conv=>arg 2;simp -implicitDefEqProofs [turn,ah3 (m1 _),ah3 (m2 _),ah3 (m3 _),ah3 (m4 _),ah3 (Y _),ah3 (m6 _),ap7,az3]
    exact⟨rfl,_,_,_,rfl⟩
   ·rintro ρ t ⟨rfl,N,x,y,rfl⟩
    exact⟨N,by simp -implicitDefEqProofs [J]⟩
 rw[Z]
 by_cases hk:k<ns.length
 ·have hx:ixM (.ref r) (.int k) s=.ok (.int (ns.getD k 0)) s:=cg5 hs (by simp[hk])
  obtain⟨N,e⟩:=h (if ns.getD k 0<0 then -ns.getD k 0 else ns.getD k 0)
  refine⟨N,?_⟩
  rw[<-e]
  simp -implicitDefEqProofs [aj8,p,hk,hx]
 ·obtain⟨N,e⟩:=h 0
  refine⟨N,?_⟩
  rw[<-e]
  simp -implicitDefEqProofs [aj8,p,hk]
theorem bb0 {s:Sto}{d:D}(h:bE2 s d)(w:List Nat):∃ b:Bool,qO .eq d (.str w) s=.ok (.bl b) s/\(b=true↔d=.str w):=by
 cases d with
 | str v=>exact⟨v==w,rfl,by
   rw[beq_iff_eq]
   constructor
   ·intro h;rw[h]
   ·intro h;cases h;rfl⟩
 | ref k =>
  obtain⟨l,e⟩:=h
  refine⟨false,?_,by constructor<;>intro h<;>cases h⟩
  have:eqv s DEEP (.ref k) (.str w)=some false:=by
   have p:kd s (.ref k)=4:=by
    show(match s[k]? with|some (.lst _)=>4|_=>9)=4
    rw[e]
   show(if aC2 (kd s (.ref k)) (kd s (.str w))then none else some false)=_
   rw[p];rfl
  show(match eqv s DEEP (.ref k) (.str w)with|some r=>R.ok (D.bl r) s|none=>R.bad)=_
  rw[this]
 | fn _=>exact h.elim
 | clo _ _=>exact h.elim
 | _=>exact⟨false,rfl,by constructor<;>intro h<;>cases h⟩
@[simp] theorem bZ3 {F:Fns} {ρ:Env} {s:Sto} (e:E):evI F (.enum (.seq e)) ρ s=(ev F e ρ s).bind λ d s=>(bk2 d s).bind λ q s=>.ok ⟨bH6 0 q.its,q.src⟩ s:=rfl
theorem qu (v w:List Nat)(s:Sto):qO .eq (.str v) (.str w) s=.ok (.bl (decide (v=w))) s:=by
 obtain⟨b,e,q⟩:=bb0 (s:=s) (d:=.str v) trivial w
 rw[e]
 congr 2
 rw[eQ,q,decide_eq_true_iff]
 constructor
 ·intro h;cases h;rfl
 ·intro h;rw[h]
theorem qR {P:Pr}[Has P ag9](n:Nat){s t:Sto}{r:Nat}(G:r<s.length)(b:Int)(p:Int)(h0:0<p)(h:p<=10^90) :
  ∃(k:Nat) (y:Int),(k:Int)<p/\(aa1 P (n+1)).call "_law_draw" [.ref r,.int p] (s.set r (qt b)++t)=.ok (.int k) (s.set r (qt y)++t):=by
 obtain⟨k,y,Y,J⟩:=qE (P:=P) n (s:=s.set r (qt b)++t) (r:=r) ⟨b,zJ (aw9 G)⟩ p h0 h
 refine⟨k,y,Y,?_⟩
 rw[J,by5 (by rw[bJ];exact G),eZ]
theorem bI0 {s t:Sto}{r:Nat}{b:Int}{l:List D}{v:D}(h:l.length<LIM):meth .append (.ref s.length) [v] (s.set r (qt b)++(.lst l::t))=.ok .non (s.set r (qt b)++(.lst (l++[v])::t)):=by
 rw[z9 (l:=l) (by rw[ak (by simp)];simp) h]
 congr 1
 rw[j6,if_neg (by simp)]
 simp
noncomputable def row (m:Nat)(f:Nat->Int):List D:=(aw m).map λ j=>.int (f j)
noncomputable def gd (m:Nat)(f:Nat->Nat->Int):D:=.tup ((aw m).map λ i=>.tup (row m (f i)))
theorem ao4 {m:Nat}{f:Nat->Int}{j:Nat}(h:j<m):(row m f)[j]?=some (.int (f j)):=by
 unfold row;rw[ax,bN h];rfl
@[simp] theorem aW9 {m:Nat} {f:Nat->Int}:(row m f).length=m:=by unfold row;simp
theorem bz4 {m:Nat}{f:Nat->Int}(n:Nat):D.bndL n (row m f)=true:=qy (λ d hd n=>by
 obtain⟨j,_,rfl⟩:=aS.mp hd;rfl) n
theorem aU1 {m:Nat}{f:Nat->Nat->Int}(n:Nat):(gd m f).bnd n=true:=by
 unfold gd D.bnd
 exact qy (λ d hd n=>by
  obtain⟨j,_,rfl⟩:=aS.mp hd
  unfold D.bnd;exact bz4 n) n
theorem aU8 {m:Nat}{f:Nat->Nat->Int}{i:Nat}(h:i<m)(s:Sto):ixM (gd m f) (.int (i:Int)) s=.ok (.tup (row m (f i))) s :=
 ix_tup (by rw[ax,bN h];rfl)
theorem am6 {m:Nat}{f:Nat->Int}{j:Nat}(h:j<m)(s:Sto):ixM (.tup (row m f)) (.int (j:Int)) s=.ok (.int (f j)) s:=ix_tup (ao4 h)
theorem bS7 {m:Nat}{f:Nat->Nat->Int}(s:Sto):aF7 (gd m f) s=.ok ⟨(aw m).map λ i=>.tup (row m (f i)),[]⟩ s:=rfl
theorem ay2 {l:List D}(s:Sto):aF7 (.tup l) s=.ok ⟨l,[]⟩ s:=rfl
theorem aw4 {ok:Sto->Bool}{g:D->Env->Sto->R (Option D×Env)}(P:Env->Sto->Prop)(f:D->D)(l:List D)(ρ:Env)(s:Sto)(h:P ρ s)
  (o:∀ ρ s,P ρ s->ok s=true) (st:∀ d∈l,∀ ρ s,P ρ s->∃ ρ' s',g d ρ s=.ok (some (f d),ρ') s'/\P ρ' s'):∃ ρ' s',jb ok g l ρ s=.ok (l.map f) s'/\P ρ' s':=by
 obtain⟨ρ',s',e,p⟩:=ax5 P (λ d=>some (f d)) l ρ s h o st
 refine⟨ρ',s',?_,p⟩
 rw[e];congr 1;induction l<;>simp_all
theorem aP7 {ok:Sto->Bool}{g:D->Env->Sto->R (Option D×Env)}(P:Env->Sto->Prop)(f:Nat->D)(n:Nat)(ρ:Env)(s:Sto)(h:P ρ s)
  (o:∀ ρ s,P ρ s->ok s=true) (st:∀ j,j<n->∀ ρ s,P ρ s->∃ ρ' s',g (.int (j:Int)) ρ s=.ok (some (f j),ρ') s'/\P ρ' s'):∃ ρ' s',jb ok g (ai7 0 (n:Int)) ρ s=.ok ((aw n).map f) s'/\P ρ' s':=by
 obtain⟨ρ',s',e,p⟩:=aw4 (g:=g) P (λ d=>match d with|.int i=>f i.toNat|d=>d) (ai7 0 (n:Int)) ρ s h o λ d hd ρ s hp=>by
  obtain⟨j,hj⟩:=hU hd
  obtain⟨y,rfl⟩:=ak8 hj
  obtain⟨ρ',s',e,p⟩:=st j (by omega) ρ s hp
  refine⟨ρ',s',?_,p⟩
  rw[gB,e];rfl
 refine⟨ρ',s',?_,p⟩
 rw[e]
 congr 1
 unfold ai7
 rw[dU,show((n:Int) - 0).toNat=n by omega]
 exact dh λ j _=>by
  show f ((0:Int)+(j:Int)).toNat=f j
  congr 1;omega
theorem qo (n:Nat):(ai7 0 (n:Int)).length=n:=by simp[ai7]
theorem qJ {n j:Nat}{d:D}(h:(ai7 0 (n:Int))[j]?=some d):j<n/\d=.int (j:Int):=by
 obtain⟨p,rfl⟩:=ak8 h
 exact⟨by omega,by rw[gB]⟩
theorem bb3 {m:Nat}{f:Nat->Int}{i:Int}:(row m f).map (λ _=>D.int i)=row m λ _=>i:=by
 unfold row;rw[dU];rfl
theorem aH7 {s t:Sto}{l:List D}{v:D}(h:l.length<LIM):meth .append (.ref s.length) [v] (s++.lst l::t)=.ok .non (s++.lst (l++[v])::t):=by
 rw[z9 (l:=l) (by rw[ak (am _)];simp) h,bC _ _ (am _)]
 simp
theorem ax8 {s t:Sto}{o:O}{x:O}:(s++x::(t++[o]))[s.length+(t.length+1)]?=some o:=by
 rw[show(s++x::(t++[o]))=(s++x::t)++[o]by simp,ak (by simp)]
 simp
noncomputable def prN (f g:Nat->Nat->Int)(i j:Nat):Nat->Int
 | 0=>3
 | k+1=>if f i k<3 then(let b:=(if g k j > f i k then g k j else f i k);if b<prN f g i j k then b else prN f g i j k)else prN f g i j k
noncomputable def pr (m:Nat)(f g:Nat->Nat->Int)(i j:Nat):Int:=prN f g i j m
theorem au8 {P:Pr}[Has P ac4](n:Nat){m:Nat}(Z:m<=5)(f g:Nat->Nat->Int)(s:Sto) :
  (aa1 P (n+1)).call "_law_product" [gd m f,gd m g] s=.ok (gd m (pr m f g)) s:=by
 have Y:(aa1 P (n+1)).call "_law_product" [gd m f,gd m g] s=_:=zA ac4 (n:=n) rfl
 rw[Y]
 conv=>lhs;simp only[ac4]
 simp -implicitDefEqProofs [bS7]
 refine ak0 (λ i ρ t=>∃(T:Sto) (x y z:Option D),ρ=[some (gd m f),some (gd m g),some (.ref s.length),x,y,z]/\t=s++.lst ((aw i).map λ i=>.tup (row m (pr m f g i)))::T) ⟨[],none,none,none,rfl,rfl⟩ (λ _ _ _ _ _=>rfl) ?_ ?_
 ·rintro i d ρ t hi ⟨T,x,y,z,rfl,rfl⟩
  have G:i<m:=by have:=(ae.mp hi).1;simpa using this
  have hd:d=.tup (row m (f i)):=by rw[ax,bN G]at hi;exact(aF hi).symm
  subst hd
  conv=>arg 2;simp -implicitDefEqProofs [turn,ay2]
  rw[if_pos (by unfold LIM;omega)]
  obtain⟨ρ1,s1,e1,J⟩:=aw4 (ok:=λ s1=>chk (s++.lst ((aw i).map λ i=>.tup (row m (pr m f g i)))::T) s1 []) (g:=al9 (aa1 P n) (.one 0) (.cst (.int 3))) (λ ρ u=>u=s++.lst ((aw i).map λ i=>.tup (row m (pr m f g i)))::T/\∃ x,ρ=[x]) (λ _=>.int 3) (row m (f i)) (qS [some (gd m f),some (gd m g),some (.ref s.length),some (.tup (row m (f i))),y,z] [none]) _ ⟨rfl,none,rfl⟩ (λ _ _ _=>rfl) (by
   rintro d _ ρ u ⟨rfl,x,rfl⟩
   exact⟨_,_,rfl,rfl,_,rfl⟩)
  obtain⟨rfl,_⟩:=J
  rw[bb3]at e1
  rw[e1]
  simp -implicitDefEqProofs [mk]
  rw[qg (by unfold W62;omega) (by unfold W62;omega)]
  simp only[R.bind_ok]
  refine qK (W:=Nx _) (λ k ρ t=>∃(T:Sto) (p:Nat) (z:Option D),ρ=[some (gd m f),some (gd m g),some (.ref s.length),some (.tup (row m (f i))),some (.ref p),z]/\t=s++.lst ((aw i).map λ i=>.tup (row m (pr m f g i)))::T/\t[p]?=some (.lst (row m λ j=>prN f g i j k))) ⟨T++[.lst (row m λ _=>3)],s.length+(T.length+1),z,rfl,rfl,ax8⟩ (λ _ _ _ _ _=>rfl) ?_ ?_
  ·rintro k d ρ t hk ⟨T,p,z,rfl,rfl,hp⟩
   obtain⟨h,rfl⟩:=qJ hk
   by_cases h3:f i k<3
   ·conv=>arg 2;simp -implicitDefEqProofs [turn,am6 h,h3]
    rw[qg (by unfold W62;omega) (by unfold W62;omega)]
    simp only[R.bind_ok]
    rw[if_pos (by rw[qo];unfold LIM;omega)]
    obtain⟨ρ1,s1,e1,J⟩:=aP7 (ok:=λ s1=>chk (s++.lst ((aw i).map λ i=>.tup (row m (pr m f g i)))::T) s1 []) (g:=al9 (aa1 P n) (.one 0) (.bi .min2 (.cons (.ix (.var 1) (.var 0)) (.cons (.bi .max2 (.cons (.ix (.var 2) (.var 3)) (.cons (.ix (.ix (.var 4) (.var 3)) (.var 0)) .nil))) .nil)))) (λ ρ u=>u=s++.lst ((aw i).map λ i=>.tup (row m (pr m f g i)))::T/\∃ x,ρ=[x,some (.ref p),some (.tup (row m (f i))),some (.int k),some (gd m g)]) (λ j=>.int (prN f g i j (k+1))) m (qS [some (gd m f),some (gd m g),some (.ref s.length),some (.tup (row m (f i))),some (.ref p),some (.int (k:Int))] [none,some 4,some 3,some 5,some 1]) _ ⟨rfl,none,rfl⟩ (λ _ _ _=>rfl) (by
     rintro j hj ρ u ⟨rfl,x,rfl⟩
     refine⟨[some (.int j),some (.ref p),some (.tup (row m (f i))),some (.int k),some (gd m g)],_,?_,rfl,_,rfl⟩
     simp -implicitDefEqProofs [al9,am6 h,aU8 h,am6 hj,qv hp (ao4 hj),prN,h3])
    obtain⟨rfl,_⟩:=J
    rw[e1]
    simp -implicitDefEqProofs [mk]
    rfl
   ·refine aE5 (ρ:=[some (gd m f),some (gd m g),some (.ref s.length),some (.tup (row m (f i))),some (.ref p),some (.int k)]) ?_ ⟨T,p,_,rfl,rfl,?_⟩
    ·simp -implicitDefEqProofs [turn,am6 h,h3]
    ·rw[hp];simp[prN,h3]
  ·rintro ρ t ⟨T,p,z,rfl,rfl,hp⟩
   rw[qo]at hp
   simp -implicitDefEqProofs [aT5,hp,mk]
   rw[aH7 (by unfold LIM;simp;omega)]
   simp -implicitDefEqProofs
   rw[cY,bv];rfl
 ·rintro ρ t ⟨T,x,y,z,rfl,rfl⟩
  have h0:(s++.lst ((aw m).map λ i=>D.tup (row m (pr m f g i)))::T:Sto)[s.length]?=some (.lst ((aw m).map λ i=>D.tup (row m (pr m f g i)))):=by rw[ak (am _)];simp
  simp -implicitDefEqProofs [aT5,h0,mk]
  exact qc (d:=gd m (pr m f g)) aU1 (by nofun)
theorem by3 {a b:Int}{s:Sto}(h:0<=b):qN .shr (.int a) (.int b) s=.ok (.int (a / 2^b.toNat)) s:=by
 show(if 0<=b then _ else _:M D) s=_
 rw[if_pos h];rfl
theorem bg0 {P:Pr}{n c h:Nat}(J:c<=5){s:Sto}{ρ:Env}(y:qS ρ [none,some 10]=[none,some (.int h)]) :
  jb (λ p=>chk s p []) (bp4 (aa1 P n) (.one 0) (.cmp .eq (.bin .mod (.bin .shr (.var 1) (.var 0)) (.cst (.int 2))) (.cst (.int 1))) (.var 0)) (ai7 0 (c:Int)) (qS ρ [none,some 10]) s=.ok (zY (ak5 h c)) s:=by
 have key:∃(ρ':Env) (s':Sto),jb (λ p=>chk s p []) (bp4 (aa1 P n) (.one 0) (.cmp .eq (.bin .mod (.bin .shr (.var 1) (.var 0)) (.cst (.int 2))) (.cst (.int 1))) (.var 0)) (ai7 0 (c:Int)) (qS ρ [none,some 10]) s=.ok ((ai7 0 (c:Int)).filterMap (bf2 h)) s'/\(s'=s/\∃ x,ρ'=[x,some (D.int h)]):=by
  refine ax5 (λ ρ u=>u=s/\∃ x,ρ=[x,some (.int h)]) (bf2 h) (ai7 0 (c:Int)) _ _ ⟨rfl,none,y⟩ (λ _ _ _=>rfl) ?_
  rintro d hd ρ u ⟨rfl,x,rfl⟩
  obtain⟨j,hj⟩:=hU hd
  obtain⟨G,rfl⟩:=ak8 hj
  refine⟨[some (.int (0+j)),some (.int h)],_,?_,rfl,_,rfl⟩
  unfold bp4
  simp only[zg,zM,qB,jj,zq,zG,zI,zr,zt,R.bind_ok]
  rw[by3 (by omega)]
  simp only[R.bind_ok]
  rw[ap7 (by decide)]
  simp only[R.bind_ok,ae5,qd]
  simp[bf2]
  split<;>rfl
 obtain⟨_,_,e,rfl,_⟩:=key
 rw[e,bn1]
theorem bC6 {s:Sto}{r:Nat}{b:Int}{o:O}{l:List D}{v:D}(h:l.length<LIM):meth .append (.ref (s.length+1)) [v] (s.set r (qt b)++[o,.lst l])=.ok .non (s.set r (qt b)++[o,.lst (l++[v])]):=by
 rw[z9 (l:=l) (by rw[ak (by simp)];simp) h,bC _ _ (by simp)]
 simp
theorem cm0 {k:Nat}(h:k<=5):(0:Int)<1*2^((k:Int)).toNat/\(1:Int)*2^((k:Int)).toNat<=32:=by
 have y:(2:Nat)^k<=2^5:=eF (by decide) h
 have h3:((2^k:Nat):Int)<=32:=by exact_mod_cast y
 have G:0<(2:Nat)^k:=Nat.pow_pos (by decide)
 have p:(0:Int)<((2^k:Nat):Int):=by exact_mod_cast G
 rw[ci,Int.one_mul]
 push_cast at h3 p
 exact⟨p,h3⟩
def McB (s:Sto)(r:Nat)(x:R D):Prop:=∃(m:Mc) (b:Int),m.Ok/\x=.ok m.d (s.set r (qt b))
theorem aK0 {P : Pr} [Has P ag9] [Has P af6] (n : Nat) {s : Sto} {r : Nat} (hs : ∃ b, s[r]? = some (qt b)) : McB s r ((aa1 P (n + 2)).call "_law_machine" [.ref r] s) := by
  have e0 : (aa1 P (n + 2)).call "_law_machine" [.ref r] s = _ := zA af6 (n := n + 1) rfl
  have hr := aM8 hs
  obtain⟨a, b1, ha, e1⟩ := qE (P := P) n hs 3 (by decide) (by decide)
  obtain⟨c, b2, hc, e2⟩ := qE (P := P) n (as1 (b := b1) hr) 5 (by decide) (by decide)
  rw[eZ]at e2
  obtain⟨m1, b3, hm1, e3⟩ := qE (P := P) n (as1 (b := b2) hr) (3 * (1 + (c : Int)) + 2) (by omega) (qh (by omega))
  rw[eZ]at e3
  obtain⟨m2, b4, hm2, e4⟩ := qE (P := P) n (as1 (b := b3) hr) 8 (by decide) (by decide)
  rw[eZ]at e4
  obtain⟨m3, b5, hm3, e5⟩ := qE (P := P) n (as1 (b := b4) hr) 76 (by decide) (by decide)
  rw[eZ]at e5
  rw[e0]
  have mo : ∀ x : Int, mulOk 3 x = true := λ x => ar3 (by decide)
  simp -implicitDefEqProofs [af6, e1, e2, ah3 (mo _), e3, e4]
  obtain ⟨many, bb, hmany, hif⟩ : ∃ (many : Nat) (bb : Int), many <= 75 /\ (if (m2 : Int) = 5 then
                      ((aa1 P (n + 1)).call "_law_draw" [D.ref r, D.int 76] (List.set s r (qt b4))).bind λ d s =>
                        R.ok
                          (Ct.next [some (D.ref r), some (D.int (1 + ↑a)), some (D.int (1 + ↑c)), some d, none, none, none, none, none, none, none, none, none]) s
                    else
                      R.ok
                        (Ct.next
                          [some (D.ref r), some (D.int (1 + ↑a)), some (D.int (1 + ↑c)), some (D.int ↑m1), none, none, none, none, none, none, none, none, none])
                        (List.set s r (qt b4))) = .ok (.next [some (.ref r), some (.int (1 + a)), some (.int (1 + c)), some (.int many), none, none, none, none, none, none, none, none, none]) (s.set r (qt bb)) := by
    by_cases h7 : (m2 : Int) = 5
    · exact⟨m3, b5, by omega, by rw[if_pos h7, e5]; rfl⟩
    · exact⟨m1, b4, by omega, by rw[if_neg h7]⟩
  rw[hif]
  simp -implicitDefEqProofs
  obtain⟨h4, b6, hh4, e6⟩ := qR (P := P) n (t := [.lst [.int 2, .int 2, .int 4, .int 1]]) hr bb 4 (by decide) (by decide)
  rw[e6]
  have hx : ∃ hi : Nat, 1 <= hi /\ hi <= 4 /\ ixM (.ref s.length) (.int h4) (s.set r (qt b6) ++ [.lst [.int 2, .int 2, .int 4, .int 1]]) = .ok (.int hi) (s.set r (qt b6) ++ [.lst [.int 2, .int 2, .int 4, .int 1]]) := by
    have hg : (s.set r (qt b6) ++ [O.lst [.int 2, .int 2, .int 4, .int 1]])[s.length]? = some (.lst [.int 2, .int 2, .int 4, .int 1]) := by rw[ak (by simp)]; simp
    match h4, hh4 with
    | 0, _ => exact⟨2, by decide, by decide, qv (j := 0) hg rfl⟩
    | 1, _ => exact⟨2, by decide, by decide, qv (j := 1) hg rfl⟩
    | 2, _ => exact⟨4, by decide, by decide, qv (j := 2) hg rfl⟩
    | 3, _ => exact⟨1, by decide, by decide, qv (j := 3) hg rfl⟩
    | k + 4, h => omega
  obtain⟨hi, hi1, hi4, hx⟩ := hx
  simp -implicitDefEqProofs [hx]
  rw[qg (by unfold W62; omega) (by unfold W62; omega)]
  simp -implicitDefEqProofs only[R.bind_ok]
  have hc1 : ((1 : Int) + (c : Int)) = ((c + 1 : Nat) : Int) := by omega
  have ha1 : ((1 : Int) + (a : Int)) = ((a + 1 : Nat) : Int) := by omega
  rw[hc1, ha1]
  generalize hH : O.lst [D.int 2, D.int 2, D.int 4, D.int 1] = H
  have hHb : ∀ b : Int, as9 s (s.set r (qt b) ++ [H]) = true := λ b => ar1 s [H] r (qt b) rfl
  refine qK (W := McB s r) (λ j ρ u => ∃(b : Int) (l : List Dr) (x y z v : Option D), (∀ d ∈ l, d.Ok ⟨a + 1, c + 1, [], [], []⟩) /\ l.length = j /\ ρ = [some (.ref r), some (.int (a + 1 : Nat)), some (.int (c + 1 : Nat)), some (.int many), some (.int hi), some (.ref (s.length + 1)), x, y, z, v, none, none, none] /\ u = s.set r (qt b) ++ [H, .lst (l.map Dr.d)]) ⟨b6, [], none, none, none, none, by simp, rfl, rfl, rfl⟩ (λ _ _ _ _ _ => rfl) ?_ ?_
  · rintro j d ρ u hj ⟨b, l, x, y, z, v, hl, hlen, rfl, rfl⟩
    obtain⟨hj2, rfl⟩ := ak8 hj
    obtain⟨k1, c1, hk1, f1⟩ := qR (P := P) n (t := [H, .lst (l.map Dr.d)]) hr b (c + 1 : Nat) (by omega) (qh (by omega))
    obtain⟨k3, c2, hk3, f2⟩ := qR (P := P) n (t := [H, .lst (l.map Dr.d)]) hr c1 (c + 1 : Nat) (by omega) (qh (by omega))
    obtain⟨k2, c3, hk2, f3⟩ := qR (P := P) n (t := [H, .lst (l.map Dr.d)]) hr c2 (a + 1 : Nat) (by omega) (qh (by omega))
    obtain⟨k4, c4, hk4, f4⟩ := qR (P := P) n (t := [H, .lst (l.map Dr.d)]) hr c3 hi (by omega) (qh (by omega))
    refine aE5 (ρ := [some (.ref r), some (.int (a + 1 : Nat)), some (.int (c + 1 : Nat)), some (.int many), some (.int hi), some (.ref (s.length + 1)), some (.int j), some (.int k1), some (.int k3), some (.str [97 + k2]), none, none, none]) (s := s.set r (qt c4) ++ [H, .lst ((l ++ [(⟨k1, 97 + k2, k3, k4⟩ : Dr)]).map Dr.d)]) ?_ ⟨c4, l ++ [(⟨k1, 97 + k2, k3, k4⟩ : Dr)], _, _, _, _, ?_, ?_, rfl, rfl⟩
    · simp -implicitDefEqProofs only[turn, gB, zg, zZ, zM, aq, za, zu, qD, af9, qk, zq, jk, zG, qH, ad1, zx, zz, z5, zQ, zr, zt, R.bind_ok, je, f1, f2, f3, f4, bd5 (show k2 < 3 by omega), zB, ze]
      rw[bC6 (by unfold LIM; simp; omega)]
      simp -implicitDefEqProofs
      rfl
    · intro d hd
      rcases cB.mp hd with h|h
      · exact hl d h
      · rw[cx.mp h]; constructor <;> simp only <;> omega
    · simp[hlen]
  · rintro ρ u ⟨b, l, x, y, z, v, hl, hlen, rfl, rfl⟩
    have p5 := cm0 (k := c + 1) (by omega)
    obtain⟨k1, c1, hk1, f1⟩ := qR (P := P) n (t := [H, .lst (l.map Dr.d)]) hr b _ p5.1 (qh (by omega))
    obtain⟨k2, c2, hk2, f2⟩ := qR (P := P) n (t := [H, .lst (l.map Dr.d)]) hr c1 _ p5.1 (qh (by omega))
    have hl3 : (s.set r (qt c2) ++ [H, O.lst (l.map Dr.d)])[s.length + 1]? = some (.lst (l.map Dr.d)) := by rw[ak (by simp)]; simp
    have hll : l.length <= 75 := by
      rw[hlen]; simp[ai7]; omega
    have hrl : (ai7 0 ((c + 1 : Nat) : Int)).length <= LIM := by rw[qo]; unfold LIM; omega
    simp -implicitDefEqProofs only[ze, za, zu, qD, qk, z5, zQ, zq, jj, zG, zI, zr, zt, R.bind_ok, bf6 ⟨show(0 : Int) <= ((c + 1 : Nat) : Int)by omega, by omega⟩, f1, zg, zZ, zM, aq, zB, ag1, au4, jv]
    rw[qg (by unfold W62; omega) (by unfold W62; omega)]
    simp -implicitDefEqProofs only[R.bind_ok, if_pos hrl]
    rw[bg0 (by omega) rfl]
    simp -implicitDefEqProofs only[R.bind_ok, mk, f2, zB, ze, zg, zZ, zM, aq, za, qk, z5, zQ, zq, jj, zG, zI, zr, zt, qD, bf6 ⟨show(0 : Int) <= ((c + 1 : Nat) : Int)by omega, by omega⟩, ag1, au4, jv]
    rw[qg (by unfold W62; omega) (by unfold W62; omega)]
    simp -implicitDefEqProofs only[R.bind_ok, if_pos hrl]
    rw[bg0 (by omega) rfl]
    simp -implicitDefEqProofs only[R.bind_ok, mk, zB, ze, ab1, zg, zZ, zM, aq, za, zu, ad4, ad1, zx, zz, zq, zr, zt, ag1, ab9, aT5, hl3, ab0]
    refine⟨⟨a + 1, c + 1, ak5 k1 (c + 1), ak5 k2 (c + 1), l⟩, c2, ⟨by simp, by simp; omega, by simp, by simp; omega, aE4 _ _, aE4 _ _, λ x hx => ?_, hll⟩, ?_⟩
    · have := hl x hx
      exact⟨this.a, this.l, this.b, this.t⟩
    · exact ao6 (bK4 ⟨a + 1, c + 1, ak5 k1 (c + 1), ak5 k2 (c + 1), l⟩) (by nofun) rfl
noncomputable def al0 (m:Nat)(f:Nat->Nat->Int):Sto:=(aw m).map λ i=>.lst (row m (f i))
@[simp] theorem ba2 {m:Nat} {f:Nat->Nat->Int}:(al0 m f).length=m:=by unfold al0;simp
theorem aj9 {m i:Nat}{f:Nat->Nat->Int}(h:i<m):(al0 m f)[i]?=some (.lst (row m (f i))):=by
 unfold al0;rw[ax,bN h];rfl
theorem bF8 {m b:Nat}{f:Nat->Int}{v:Int}:(row m f).set b (.int v)=row m λ j=>if j=b then v else f j:=by
 apply jL
 intro j
 by_cases hj:j<m
 ·rw[ao4 hj]
  by_cases e:j=b
  ·subst e;rw[aZ (by rw[aW9];exact hj),if_pos rfl]
  ·rw[be (λ z=>e z.symm),ao4 hj,if_neg e]
 ·rw[bT (by simp;omega),bT (by simp;omega)]
theorem bg2 {m a b:Nat}{f:Nat->Nat->Int}{v:Int}:(al0 m f).set a (.lst ((row m (f a)).set b (.int v)))=al0 m λ i j=>if i=a/\j=b then v else f i j:=by
 apply jL
 intro i
 by_cases hi:i<m
 ·rw[aj9 hi]
  by_cases e:i=a
  ·subst e;rw[aZ (by rw[ba2];exact hi),bF8]
   simp
  ·rw[be (λ z=>e z.symm),aj9 hi]
   simp[e]
 ·rw[bT (by simp;omega),bT (by simp;omega)]
noncomputable def aH3 (p m:Nat):List D:=(aw m).map λ i=>.ref (p+i)
theorem bj4 {p m i:Nat}(h:i<m):(aH3 p m)[i]?=some (.ref (p+i)):=by
 unfold aH3;rw[ax,bN h];rfl
theorem ba6 {ok:Sto->Bool}{g:D->Env->Sto->R (Option D×Env)}(P:Nat->Env->Sto->Prop)(f:Nat->D)(n:Nat)
  (o:∀ k ρ s,P k ρ s->ok s=true) (st:∀ j,j<n->∀ ρ s,P j ρ s->∃ ρ' s',g (.int (j:Int)) ρ s=.ok (some (f j),ρ') s'/\P (j+1) ρ' s') :
  ∀(k:Nat) (ρ:Env) (s:Sto),k<=n->P k ρ s->∃ ρ' s',jb ok g (ai7 (k:Int) (n:Int)) ρ s=.ok ((List.range' k (n - k)).map f) s'/\P n ρ' s':=by
 intro k
 induction h:n - k generalizing k with
 | zero =>
  intro ρ s hk hp
  have e:k=n:=by omega
  subst e
  refine⟨ρ,s,?_,hp⟩
  rw[show ai7 (k:Int) (k:Int)=[]by simp[ai7]]
  unfold jb
  rw[if_pos (o _ _ _ hp)];rfl
 | succ d ih =>
  intro ρ s hk hp
  obtain⟨ρ1,s1,e1,y⟩:=st k (by omega) ρ s hp
  obtain⟨ρ2,s2,e2,p⟩:=ih (k+1) (by omega) ρ1 s1 (by omega) y
  refine⟨ρ2,s2,?_,p⟩
  rw[bg8 (by omega),List.range'_succ,aG]
  unfold jb
  rw[if_pos (o _ _ _ hp),e1]
  simp only[R.bind_ok]
  rw[show((k:Int)+1)=((k+1:Nat):Int)by omega,e2]
  rfl
noncomputable def sgF (ds:List Dr)(c i j:Nat):Nat->Int
 | 0=>3
 | k+1=>match ds[k]? with
  | some x=>if x.l=c/\i=x.a/\j=x.b then(if(if 0<x.t then(1:Int)else 0)<sgF ds c i j k then(if 0<x.t then(1:Int)else 0)else sgF ds c i j k)else sgF ds c i j k
  | none=>sgF ds c i j k
noncomputable def sgM (m:Mc)(c i j:Nat):Int:=sgF m.ds c i j m.ds.length
theorem bX1 {b:Bool}{s:Sto}:bi .int [.bl b] s=.ok (.int (if b then 1 else 0)) s:=rfl
theorem ap0 {P:Pr}[Has P ab7](n:Nat){m:Mc}(hm:m.Ok)(c:Nat)(s:Sto) :
  (aa1 P (n+1)).call "_law_letter_signs" [m.d,.str [c]] s=.ok (gd m.R (sgM m c)) s:=by
 have e0:(aa1 P (n+1)).call "_law_letter_signs" [m.d,.str [c]] s=_:=zA ab7 (n:=n) rfl
 have hR:=hm.R5
 rw[e0]
 simp -implicitDefEqProofs [ab7,ixR]
 rw[qg (by unfold W62;omega) (by unfold W62;omega)]
 simp only[R.bind_ok]
 rw[if_pos (by rw[qo];unfold LIM;omega)]
 obtain⟨ρ1,s1,e1,Y⟩:=ba6 (ok:=λ s1=>chk s s1 []) (g:=al9 (aa1 P n) (.one 0) (.mk .list (.comp (.one 0) (.rng1 (.var 1)) (.cst (.int 3)) [none]))) (λ k ρ u=>u=s++(aw k).map (λ _=>O.lst (row m.R λ _=>3))/\∃ x,ρ=[x,some (.int m.R)]) (λ i=>.ref (s.length+i)) m.R (λ _ _ _ _=>rfl) (by
  rintro j hj ρ u ⟨rfl,x,rfl⟩
  refine⟨[some (.int j),some (.int m.R)],_,?_,rfl,_,rfl⟩
  simp -implicitDefEqProofs [al9]
  rw[qg (by unfold W62;omega) (by unfold W62;omega)]
  simp only[R.bind_ok]
  rw[if_pos (by rw[qo];unfold LIM;omega)]
  obtain⟨ρ1,s1,e1,Y⟩:=aP7 (ok:=λ s1=>chk (s++(aw j).map (λ _=>O.lst (row m.R λ _=>3))) s1 []) (g:=al9 (aa1 P n) (.one 0) (.cst (.int 3))) (λ ρ u=>u=s++(aw j).map (λ _=>O.lst (row m.R λ _=>3))/\∃ x,ρ=[x]) (λ _=>.int 3) m.R (qS [some (.int (j:Int)),some (.int m.R)] [none]) _ ⟨rfl,none,rfl⟩ (λ _ _ _=>rfl) (by
   rintro i _ ρ u ⟨rfl,x,rfl⟩
   exact⟨_,_,rfl,rfl,_,rfl⟩)
  obtain⟨rfl,_⟩:=Y
  rw[e1]
  simp -implicitDefEqProofs [mk,cY]
  rfl) 0 (qS [some m.d,some (.str [c]),some (.int m.R),none,none,none,none,none] [none,some 2]) s (c9 _) ⟨by simp,none,rfl⟩
 obtain⟨rfl,_⟩:=Y
 rw[show((0:Nat):Int)=0 from rfl]at e1
 rw[e1]
 have el:(aw m.R).map (λ _=>O.lst (row m.R λ _=>3))=al0 m.R (λ i j=>sgF m.ds c i j 0):=rfl
 rw[el,kT,<-List.range_eq_range']
 simp -implicitDefEqProofs [mk,ixD,ay2]
 refine ak0 (λ k ρ t=>∃(x y z w:Option D),ρ=[some m.d,some (.str [c]),some (.int m.R),some (.ref (s.length+m.R)),x,y,z,w]/\t=s++(al0 m.R (λ i j=>sgF m.ds c i j k)++[.lst (aH3 s.length m.R)])) ⟨none,none,none,none,rfl,rfl⟩ (λ _ _ _ _ _=>rfl) ?_ ?_
 ·rintro k d ρ t hk ⟨x,y,z,w,rfl,rfl⟩
  rw[ax]at hk
  obtain⟨v,hv,rfl⟩:∃ v,m.ds[k]?=some v/\Dr.d v=d:=by
   cases e:m.ds[k]? with
   | none=>rw[e]at hk;cases hk
   | some v=>rw[e]at hk;exact⟨v,rfl,aF hk⟩
  have J:=hm.ds.1 v (bq hv)
  have ha:=J.a
  have hb:=J.b
  refine aE5 (ρ:=[some m.d,some (.str [c]),some (.int m.R),some (.ref (s.length+m.R)),some (.int v.a),some (.str [v.l]),some (.int v.b),some (.int v.t)]) (s:=s++(al0 m.R (λ i j=>sgF m.ds c i j (k+1))++[.lst (aH3 s.length m.R)])) ?_ ⟨_,_,_,_,rfl,rfl⟩
  have e3:(s++(al0 m.R (λ i j=>sgF m.ds c i j k)++[.lst (aH3 s.length m.R)]))[s.length+m.R]?=some (.lst (aH3 s.length m.R)):=by
   rw[ak (by omega),bV,ak (by simp)];simp
  have Z:(s++(al0 m.R (λ i j=>sgF m.ds c i j k)++[.lst (aH3 s.length m.R)]))[s.length+v.a]?=some (.lst (row m.R λ j=>sgF m.ds c v.a j k)):=by
   rw[ak (by omega),bV,aA (by simpa using ha),aj9 ha]
  have e5:=qv e3 (bj4 ha)
  have e6:=qv Z (ao4 hb)
  by_cases hl:v.l=c
  ·simp -implicitDefEqProofs only[turn,Dr.d,aa3,aa2,aa4,zZ,zM,aq,aK,za,zu,ad0,qB,zq,zr,zt,R.bind_ok,aW1,hl,decide_true,qd,if_true,aa5,ag3,zx,zz,jk,e5,e6,zG,zI,ad3,bX1,js]
   rw[bC2 Z (by rw[aW9];exact hb)]
   simp -implicitDefEqProofs only[R.bind_ok,ze,zu]
   congr 1
   rw[bC _ _ (by omega),bV,List.set_append_left _ _ (by simpa using ha)]
   congr 2
   rw[bg2 (f:=λ i j=>sgF m.ds c i j k)]
   congr 1
   funext i j
   rw[sgF,hv]
   by_cases h2:i=v.a/\j=v.b
   ·obtain⟨rfl,rfl⟩:=h2
    simp[hl]
   ·simp[hl,h2]
  ·simp -implicitDefEqProofs only[turn,Dr.d,aa3,aa2,aa4,zZ,zM,aq,aK,za,zu,ad0,qB,zq,zr,zt,R.bind_ok,aW1,hl,decide_false,qd,if_false,au,ze]
   congr 3
   congr 1
   funext i j
   rw[sgF,hv]
   simp[hl]
 ·rintro ρ t ⟨x,y,z,w,rfl,rfl⟩
  rw[aC]
  have e3:(s++(al0 m.R (sgM m c)++[.lst (aH3 s.length m.R)]))[s.length+m.R]?=some (.lst (aH3 s.length m.R)):=by
   rw[ak (by omega),bV,ak (by simp)];simp
  show(nxt _ _ _ (s++(al0 m.R (sgM m c)++[.lst (aH3 s.length m.R)]))).bind _=_
  simp -implicitDefEqProofs [aF7,e3]
  rw[if_pos (by unfold aH3 LIM;simp;omega)]
  generalize hS:s++(al0 m.R (sgM m c)++[.lst (aH3 s.length m.R)])=S
  obtain⟨ρ1,s1,e1,Y⟩:=aw4 (ok:=λ s1=>chk S s1 [s.length+m.R]) (g:=al9 (aa1 P n) (.one 0) (.mk .tuple (.seq (.var 0)))) (λ ρ u=>u=S/\∃ x,ρ=[x]) (λ d=>match d with|.ref p=>.tup (row m.R (sgM m c (p - s.length)))|d=>d) (aH3 s.length m.R) (qS [some m.d,some (.str [c]),some (.int m.R),some (.ref (s.length+m.R)),x,y,z,w] [none]) S ⟨rfl,none,rfl⟩ (λ _ u h=>by obtain⟨rfl,_⟩:=h;simp[chk]) (by
   rintro d hd ρ u ⟨rfl,x,rfl⟩
   obtain⟨i,hi,rfl⟩:=aS.mp hd
   have G:=cq.mp hi
   have Z:u[s.length+i]?=some (.lst (row m.R (sgM m c i))):=by
    rw[<-hS,ak (by omega),bV,aA (by simpa using G),aj9 G]
   refine⟨[some (.ref (s.length+i))],u,?_,rfl,_,rfl⟩
   simp -implicitDefEqProofs [al9,aT5,Z,mk])
  obtain⟨rfl,_⟩:=Y
  rw[e1]
  simp -implicitDefEqProofs [mk]
  rw[<-hS]
  have:(aH3 s.length m.R).map (λ d=>match d with|.ref p=>D.tup (row m.R (sgM m c (p - s.length)))|d=>d)=(aw m.R).map λ i=>.tup (row m.R (sgM m c i)):=by
   unfold aH3
   rw[dU]
   exact dh λ i _=>by simp
  rw[this]
  exact qc (d:=gd m.R (sgM m c)) aU1 (by nofun)
@[simp] theorem cc5 {F:Fns} {ρ:Env} {s:Sto} (a b:E):evI F (.zip (.seq a) (.seq b)) ρ s=(ev F a ρ s).bind λ x s=>(ev F b ρ s).bind λ y s=>(aQ3 x s).bind λ p s=>(aQ3 y s).bind λ q s=>.ok ⟨cd4 p.its q.its,p.src++q.src⟩ s:=rfl
theorem ix_str {l:List Nat}{j c:Nat}{s:Sto}(hj:l[j]?=some c):ixM (.str l) (.int (j:Int)) s=.ok (.str [c]) s:=by
 have hl:j<l.length:=(ae.mp hj).1
 have e:l[j]=c:=(ae.mp hj).2
 simp[ixM,ixn,hl,e]
theorem bC7 (s:Sto)(n:Nat)(a b:Int):eqv s n (.int a) (.int b)=some (a==b):=by cases n<;>rfl
noncomputable def shN (f:Nat->Nat->Int)(i j:Nat):Nat->Int
 | 0=>3
 | k+1=>let b:=max (max (f i k) (if f k k=1 then 2 else f k k)) (f k j);if b<shN f i j k then b else shN f i j k
noncomputable def sh (m:Nat)(f:Nat->Nat->Int)(i j:Nat):Int:=shN f i j m
theorem aM5 {a b c:Int}{s:Sto}:bi .max3 [.int a,.int b,.int c] s=.ok (.int (max (max a b) c)) s:=rfl
theorem bW8 {m:Nat}{f:Nat->Nat->Int}{s:Sto}:bi .len [gd m f] s=.ok (.int m) s:=by
 show R.ok (D.int ((aw m).map λ i=>D.tup (row m (f i))).length) s=_
 simp
theorem jw {s:Sto}{l:List D}{v:D}(h:l.length<LIM):meth .append (.ref s.length) [v] (s++[.lst l])=.ok .non (s++[.lst (l++[v])]):=aH7 (t:=[]) h
theorem bl9 {P:Pr}[Has P ag5](n:Nat){m:Nat}(hR:m<=5)(f:Nat->Nat->Int)(s:Sto) :
  (aa1 P (n+1)).call "_law_sharp" [gd m f] s=.ok (gd m (sh m f)) s:=by
 have e0:(aa1 P (n+1)).call "_law_sharp" [gd m f] s=_:=zA ag5 (n:=n) rfl
 rw[e0]
 simp -implicitDefEqProofs [ag5,bW8]
 rw[qg (by unfold W62;omega) (by unfold W62;omega)]
 simp only[R.bind_ok]
 refine ak0 (λ i ρ t=>∃(T:Sto) (x y z u v w:Option D),ρ=[some (gd m f),some (.int m),some (.ref s.length),x,y,z,u,v,w]/\t=s++.lst ((aw i).map λ i=>.tup (row m (sh m f i)))::T) ⟨[],none,none,none,none,none,none,rfl,rfl⟩ (λ _ _ _ _ _=>rfl) ?_ ?_
 ·rintro i d ρ t hi ⟨T,x,y,z,u,v,w,rfl,rfl⟩
  have Z:=qJ hi
  have p:=Z.1
  have hd:=Z.2
  rw[hd]
  simp -implicitDefEqProofs only[turn,zg,zZ,zM,aq,za,qD,ad7,zz,R.bind_ok,jy,zB,ze,ad5,jv,zq,zr,zt,bw,d6,aL,aY]
  rw[qg (by unfold W62;omega) (by unfold W62;omega)]
  simp only[R.bind_ok]
  generalize Y:(aw i).map (λ i=>D.tup (row m (sh m f i)))=X
  have a0:X.length=i:=by rw[<-Y];simp
  refine qK (W:=Nx _) (λ j ρ t=>∃(z u v w:Option D),ρ=[some (gd m f),some (.int m),some (.ref s.length),some (.int i),some (.ref (s.length+(T.length+1))),z,u,v,w]/\t=s++.lst X::(T++[.lst ((aw j).map λ j=>.int (sh m f i j))])) ⟨z,u,v,w,rfl,rfl⟩ (λ _ _ _ _ _=>rfl) ?_ ?_
  ·rintro j d ρ t hj ⟨z,u,v,w,rfl,rfl⟩
   have G:=(qJ hj).1
   rw[(qJ hj).2]
   simp -implicitDefEqProofs only[turn,zg,zZ,zM,aq,za,qD,zG,zI,R.bind_ok,zB,ze,ad5,jv,zq,zr,zt]
   rw[qg (by unfold W62;omega) (by unfold W62;omega)]
   simp only[R.bind_ok]
   refine qK (W:=Nx _) (λ k ρ t=>∃(v w:Option D),ρ=[some (gd m f),some (.int m),some (.ref s.length),some (.int i),some (.ref (s.length+(T.length+1))),some (.int j),some (.int (shN f i j k)),v,w]/\t=s++.lst X::(T++[.lst ((aw j).map λ j=>.int (sh m f i j))])) ⟨v,w,rfl,rfl⟩ (λ _ _ _ _ _=>rfl) ?_ ?_
   ·rintro k d ρ t hk ⟨v,w,rfl,rfl⟩
    have h:=(qJ hk).1
    rw[(qJ hk).2]
    refine aE5 (ρ:=[some (gd m f),some (.int m),some (.ref s.length),some (.int i),some (.ref (s.length+(T.length+1))),some (.int j),some (.int (shN f i j (k+1))),some (.int k),some (.int (if f k k=1 then 2 else f k k))]) (s:=s++.lst X::(T++[.lst ((aw j).map λ j=>.int (sh m f i j))])) ?_ ⟨_,_,rfl,rfl⟩
    by_cases h1:f k k=1
    ·simp -implicitDefEqProofs [turn,aU8 h,aU8 p,am6 h,am6 G,h1,aM5,shN]
    ·simp -implicitDefEqProofs [turn,aU8 h,aU8 p,am6 h,am6 G,h1,aM5,shN]
   ·rintro ρ t ⟨v,w,rfl,rfl⟩
    rw[qo]
    have J:(s++.lst X::(T++[O.lst ((aw j).map λ j=>D.int (sh m f i j))]))[s.length+(T.length+1)]?=some (.lst ((aw j).map λ j=>.int (sh m f i j))):=ax8
    simp -implicitDefEqProofs only[ze,za,zu,af9,qH,zx,zz,zq,zr,zt,R.bind_ok]
    rw[z9 J (by unfold LIM;simp;omega)]
    simp -implicitDefEqProofs only[R.bind_ok,ze,zu,bg7]
    refine⟨_,_,_,_,rfl,?_⟩
    rw[bC _ _ (by omega),bV,List.set_cons_succ,bC _ _ (am _),dS,List.set_cons_zero,cY,bv]
    rfl
  ·rintro ρ t ⟨z,u,v,w,rfl,rfl⟩
   rw[qo]
   have J:(s++.lst X::(T++[O.lst ((aw m).map λ j=>D.int (sh m f i j))]))[s.length+(T.length+1)]?=some (.lst ((aw m).map λ j=>.int (sh m f i j))):=ax8
   simp -implicitDefEqProofs only[ze,za,zu,af9,qH,zx,zz,zq,zr,zt,R.bind_ok,ag1,ab9,aT5,J,mk]
   rw[aH7 (by unfold LIM;omega)]
   simp -implicitDefEqProofs only[R.bind_ok,ze,zu,bg7]
   refine⟨T++[O.lst (cH (λ j=>D.int (sh m f i j)) (aw m))],_,_,_,_,_,_,rfl,?_⟩
   rw[cY,bv,Y]
   rfl
 ·rintro ρ t ⟨T,x,y,z,u,v,w,rfl,rfl⟩
  rw[qo]
  have h0:(s++.lst ((aw m).map λ i=>D.tup (row m (sh m f i)))::T:Sto)[s.length]?=some (.lst ((aw m).map λ i=>D.tup (row m (sh m f i)))):=by rw[ak (am _)];simp
  simp -implicitDefEqProofs [aT5,h0,mk]
  exact qc (d:=gd m (sh m f)) aU1 (by nofun)
theorem bf5 {s:Sto}{n m:Nat}{f g:Nat->Int}:∀ l:List Nat,eqL (eqv s n) (l.map λ j=>.int (f j)) (l.map λ j=>.int (g j))=some (l.all λ j=>f j==g j)
 | []=>rfl
 | a::l=>by
  rw[aG,aG]
  unfold eqL
  rw[bC7,bf5 (m:=m) l]
  simp
theorem bq5 {s:Sto}{n m:Nat}{f g:Nat->Nat->Int}:∀ l:List Nat,eqL (eqv s (n+1)) (l.map λ i=>.tup (row m (f i))) (l.map λ i=>.tup (row m (g i)))=some (l.all λ i=>(aw m).all λ j=>f i j==g i j)
 | []=>rfl
 | a::l=>by
  rw[aG,aG]
  unfold eqL
  rw[show eqv s (n+1) (.tup (row m (f a))) (.tup (row m (g a)))=eqL (eqv s n) (row m (f a)) (row m (g a))from rfl,row,row,bf5 (m:=m),bq5 l]
  simp
def EqG (m:Nat)(f g:Nat->Nat->Int):Prop:=∀ i j,i<m->j<m->f i j=g i j
theorem bX0 {s:Sto}{m:Nat}{f g:Nat->Nat->Int}:∃ b:Bool,eqv s DEEP (gd m f) (gd m g)=some b/\(b=true↔EqG m f g):=by
 refine⟨_,bq5 (n:=28) (aw m),?_⟩
 simp[EqG,aO]
 exact⟨λ h i j p hj=>h i p j hj,λ h i p j hj=>h i j p hj⟩
theorem ca8 {s:Sto}{m:Nat}{f g:Nat->Nat->Int}:∃ b:Bool,qO .eq (gd m f) (gd m g) s=.ok (.bl b) s/\(b=true↔EqG m f g):=by
 obtain⟨b,e,h⟩:=bX0 (s:=s) (m:=m) (f:=f) (g:=g)
 exact⟨b,by show(match eqv s DEEP (gd m f) (gd m g)with|some r=>R.ok (D.bl r) s|none=>.bad)=_;rw[e],h⟩
inductive Stp where
 | let_ (c:Nat)|pair (i j:Nat)|sharp (i:Nat)
noncomputable def bJ5:List Nat:=[108,101,116,116,101,114]
noncomputable def az4:List Nat:=[112,97,105,114]
noncomputable def at5:List Nat:=[115,104,97,114,112]
noncomputable def be9:List Nat:=[116,105,109,101,115]
noncomputable def Stp.d:Stp->D
 | .let_ c=>.tup [.str [108,101,116,116,101,114],.str [c]]
 | .pair i j=>.tup [.str [112,97,105,114],.int i,.int j]
 | .sharp i=>.tup [.str [115,104,97,114,112],.int i]
theorem Stp.bnd (x:Stp)(n:Nat):x.d.bnd n=true:=by cases x<;>rfl
theorem qL {l:List D}(h:∀ d∈l,d.ncl=true):D.nclL l=true:=by
 induction l with
 | nil=>rfl
 | cons d l ih=>unfold D.nclL;rw[h d (aB ..),ih λ x hx=>h x (aj _ hx)];rfl
theorem Stp.ncl (x:Stp):x.d.ncl=true:=by cases x<;>rfl
theorem bm4 {l:List Stp}:D.nclL (l.map Stp.d)=true:=qL λ d hd=>by obtain⟨x,_,rfl⟩:=aS.mp hd;exact x.ncl
theorem bh4 {l:List Nat}:D.nclL (zY l)=true:=qL λ d hd=>by obtain⟨x,_,rfl⟩:=aS.mp hd;rfl
theorem bi8 {l:List Int}:D.nclL (l.map D.int)=true:=qL λ d hd=>by obtain⟨x,_,rfl⟩:=aS.mp hd;rfl
theorem bE6 {m:Nat}{f:Nat->Int}:D.nclL (row m f)=true:=qL λ d hd=>by obtain⟨x,_,rfl⟩:=aS.mp hd;rfl
theorem bM6 {m:Nat}{f:Nat->Nat->Int}:(gd m f).ncl=true:=by
 unfold gd D.ncl
 exact qL λ d hd=>by obtain⟨x,_,rfl⟩:=aS.mp hd;unfold D.ncl;exact bE6
theorem bF6 {s:Sto}{r:Nat}{o:O}(h:s.all O.ncl=true)(ho:o.ncl=true):(s.set r o).all O.ncl=true:=by
 rw[aO]at h ⊢
 intro x hx
 rcases fy hx with h1|h1
 ·exact h x h1
 ·rw[h1];exact ho
inductive Mks (m:Mc):List Stp->List (Nat->Nat->Int)->Prop where
 | nil:Mks m [] []
 | let_ {l fs} (c:Nat):Mks m l fs->97<=c->c<97+m.L->Mks m (l++[.let_ c]) (fs++[sgM m c])
 | pair {l fs} (i j:Nat) (f g:Nat->Nat->Int):Mks m l fs->fs[i]?=some f->fs[j]?=some g->Mks m (l++[.pair i j]) (fs++[pr m.R f g])
 | sharp {l fs} (i:Nat) (f:Nat->Nat->Int):Mks m l fs->fs[i]?=some f->EqG m.R (pr m.R f f) f->Mks m (l++[.sharp i]) (fs++[sh m.R f])
theorem Mks.len {m:Mc}{l:List Stp}{fs:List (Nat->Nat->Int)}(h:Mks m l fs):l.length=fs.length:=by
 induction h<;>simp_all
noncomputable def stM (s:Sto)(r:Nat)(b:Int)(A B C:List D)(T:Sto):Sto:=s.set r (qt b)++(.lst A::.lst B::.lst C::T)
section
variable {s:Sto} {r:Nat} {b:Int} {A B C:List D} {T:Sto}
theorem bK1:(stM s r b A B C T)[s.length]?=some (.lst A):=by unfold stM;rw[ak (by simp)];simp
theorem aR6:(stM s r b A B C T)[s.length+1]?=some (.lst B):=by unfold stM;rw[ak (by simp)];simp
theorem bm8:(stM s r b A B C T)[s.length+2]?=some (.lst C):=by unfold stM;rw[ak (by simp)];simp
theorem bh0 {v:D}(h:A.length<LIM):meth .append (.ref s.length) [v] (stM s r b A B C T)=.ok .non (stM s r b (A++[v]) B C T):=by
 rw[z9 bK1 h];unfold stM;rw[bC _ _ (by simp)];simp
theorem aX4 {v:D}(h:B.length<LIM):meth .append (.ref (s.length+1)) [v] (stM s r b A B C T)=.ok .non (stM s r b A (B++[v]) C T):=by
 rw[z9 aR6 h];unfold stM;rw[bC _ _ (by simp)];simp
theorem bW2 {v:D}(h:C.length<LIM):meth .append (.ref (s.length+2)) [v] (stM s r b A B C T)=.ok .non (stM s r b A B (C++[v]) T):=by
 rw[z9 bm8 h];unfold stM;rw[bC _ _ (by simp)];simp
theorem ay5 {o:O}:stM s r b A B C T++[o]=stM s r b A B C (T++[o]):=by unfold stM;simp
theorem aw7:(stM s r b A B C T).length=s.length+(T.length+3):=by unfold stM;simp
theorem bi5 {o:O}:(stM s r b A B C (T++[o]))[s.length+(T.length+3)]?=some o:=by
 rw[<-ay5,ak (by rw[aw7];omega),aw7];simp
theorem an4 {P:Pr}[Has P ag9](n:Nat)(G:r<s.length)(p:Int)(h0:0<p)(h:p<=10^90) :
  ∃(k:Nat) (y:Int),(k:Int)<p/\(aa1 P (n+1)).call "_law_draw" [.ref r,.int p] (stM s r b A B C T)=.ok (.int k) (stM s r y A B C T):=qR n G b p h0 h
end
theorem aK2 {s:Sto}{r:Nat}{b:Int}{A B C:List D}{T:Sto}:qO .ne (.ref (s.length+2)) (.ref (s.length+(T.length+3))) (stM s r b A B C (T++[O.lst []]))=.ok (.bl (!decide (C=[]))) (stM s r b A B C (T++[O.lst []])):=by
 show(match eqv (stM s r b A B C (T++[O.lst []])) DEEP (.ref (s.length+2)) (.ref (s.length+(T.length+3)))with|some r=>R.ok (D.bl (!r)) _|none=>.bad)=_
 have:eqv (stM s r b A B C (T++[O.lst []])) DEEP (.ref (s.length+2)) (.ref (s.length+(T.length+3)))=some (decide (C=[])):=by
  show(match(stM s r b A B C (T++[O.lst []]))[s.length+2]?,(stM s r b A B C (T++[O.lst []]))[s.length+(T.length+3)]? with
   | some (O.lst l),some (O.lst m)=>if l.length=m.length then eqL (eqv (stM s r b A B C (T++[O.lst []])) 29) l m else some false
   | _,_=>none)=_
  rw[bm8,bi5]
  cases C<;>rfl
 rw[this]
noncomputable def zF (m:Nat)(fs:List (Nat->Nat->Int)):List D:=fs.map (gd m)
theorem bh5 {m:Nat}{fs:List (Nat->Nat->Int)}:D.nclL (zF m fs)=true:=qL λ d hd=>by obtain⟨x,_,rfl⟩:=aS.mp hd;exact bM6
theorem an6 {m i:Nat}{fs:List (Nat->Nat->Int)}{f:Nat->Nat->Int}(h:fs[i]?=some f):(zF m fs)[i]?=some (gd m f):=by
 unfold zF;rw[ax,h];rfl
noncomputable def mkC:E:=.and (.cmp .lt (.var 8) (.cst (.int 4))) (.and (.cmp .gt (.var 3) (.cst (.int 0))) (.and (.cmp .ne (.var 6) (.lst .nil)) (.cmp .gt (.var 8) (.cst (.int 0)))))
noncomputable def mkA:Ss:=(.cons (.asg (.one 9) (.ix (.var 6) (.bin .mod (.var 10) (.bi .len (.cons (.var 6) .nil))))) (.cons (.ex (.meth .append (.var 4) (.cons (.tup (.cons (.cst (.str [115,104,97,114,112])) (.cons (.var 9) .nil))) .nil))) (.cons (.ex (.meth .append (.var 5) (.cons (.call "_law_sharp" (.ex (.ix (.var 5) (.var 9)) .nil)) .nil))) (.cons (.asg (.one 3) (.bin .sub (.var 3) (.cst (.int 1)))) .nil))))
noncomputable def mkB:Ss:=(.cons (.asg (.one 9) (.bi .min2 (.cons (.var 9) (.cons (.bin .sub (.var 7) (.cst (.int 1))) .nil)))) (.cons (.asg (.one 10) (.ite (.cmp .gt (.var 8) (.cst (.int 1))) (.bi .min2 (.cons (.var 10) (.cons (.bin .sub (.var 7) (.cst (.int 1))) .nil))) (.var 9))) (.cons (.ex (.meth .append (.var 4) (.cons (.tup (.cons (.cst (.str [112,97,105,114])) (.cons (.var 9) (.cons (.var 10) .nil)))) .nil))) (.cons (.ex (.meth .append (.var 5) (.cons (.call "_law_product" (.ex (.ix (.var 5) (.var 9)) (.ex (.ix (.var 5) (.var 10)) .nil))) .nil))) .nil))))
noncomputable def mkL:Ss:=(.cons (.asg (.one 11) (.ix (.cst (.str [97,98,99])) (.bin .mod (.var 9) (.ix (.var 1) (.cst (.int 0)))))) (.cons (.ex (.meth .append (.var 4) (.cons (.tup (.cons (.cst (.str [108,101,116,116,101,114])) (.cons (.var 11) .nil))) .nil))) (.cons (.ex (.meth .append (.var 5) (.cons (.call "_law_letter_signs" (.ex (.var 1) (.ex (.var 11) .nil))) .nil))) .nil)))
noncomputable def mkI:S:=.ite mkC mkA (.cons (.ite (.and (.cmp .gt (.var 7) (.cst (.int 0))) (.cmp .lt (.var 8) (.cst (.int 5)))) mkB mkL) .nil)
noncomputable def mkE:S:=.ite (.cmp .eq (.call "_law_product" (.ex (.ix (.var 5) (.var 7)) (.ex (.ix (.var 5) (.var 7)) .nil))) (.ix (.var 5) (.var 7))) (.cons (.ex (.meth .append (.var 6) (.cons (.var 7) .nil))) .nil) .nil
def an9 (m:Nat)(fs:List (Nat->Nat->Int))(C:List Nat):Prop:=∀ i∈C,∃ f,fs[i]?=some f/\EqG m (pr m f f) f
theorem an9.app {m:Nat}{fs:List (Nat->Nat->Int)}{C:List Nat}{g:Nat->Nat->Int}(h:an9 m fs C):an9 m (fs++[g]) C:=λ i p=>by
 obtain⟨f,e,q⟩:=h i p
 exact⟨f,by rw[aA (ae.mp e).1];exact e,q⟩
noncomputable def as3 (s:Sto)(r:Nat)(m:Mc)(most z:Int)(k:Option D)(x8 x9 x10 x11:Option D):Env:=[some (.ref r),some m.d,some (.int most),some (.int z),some (.ref s.length),some (.ref (s.length+1)),some (.ref (s.length+2)),k,x8,x9,x10,x11]
theorem bN8 {F:Fns}{s:Sto}{r:Nat}{m:Mc}{most z:Int}{k way one other:Nat}{x11:Option D}{b:Int}{A B C:List D}{T:Sto} :
  ∃(c:Bool) (p:Sto),ev F mkC (as3 s r m most z (some (.int k)) (some (.int way)) (some (.int one)) (some (.int other)) x11) (stM s r b A B C T)=.ok (.bl c) (stM s r b A B C p)/\(c=true->C≠[])/\(T.all O.ncl=true->p.all O.ncl=true):=by
 unfold mkC as3
 by_cases h1:(way:Int)<4
 ·by_cases h2:0<z
  ·by_cases h3:C=[]
   ·refine⟨false,T++[.lst []],?_,nofun,λ h=>by rw[eR,h];rfl⟩
    simp -implicitDefEqProofs [h1,h2,ay5,aw7]
    rw[aK2]
    simp -implicitDefEqProofs [h3]
   ·refine⟨decide (0<(way:Int)),T++[.lst []],?_,λ _=>h3,λ h=>by rw[eR,h];rfl⟩
    simp -implicitDefEqProofs [h1,h2,ay5,aw7]
    rw[aK2]
    simp -implicitDefEqProofs [h3]
  ·exact⟨false,T,by simp -implicitDefEqProofs [h1,h2],nofun,id⟩
 ·exact⟨false,T,by simp -implicitDefEqProofs [h1],nofun,id⟩
theorem ixm {l:List D}{s:Sto}{r:Nat}{i:Int}{j:Nat}{d:D}(h:s[r]?=some (.lst l))(e:i=(j:Int))(hj:l[j]?=some d):ixM (.ref r) (.int i) s=.ok d s:=by rw[e];exact qv h hj
theorem bP4 {P:Pr}[Has P ac4][Has P ab7][Has P ag5]{n:Nat}{s:Sto}{r:Nat}{m:Mc}(hm:m.Ok){most z:Int}{k way one other:Nat}{x11:Option D}{b:Int}{l:List Stp}{fs:List (Nat->Nat->Int)}{C:List Nat}{T:Sto}
  (hM:Mks m l fs) (hk:l.length=k) (b2:k<1000) (b0:one<k+1) (a6:other<k+1) (hC:an9 m.R fs C) :
  ∃(x:Stp) (f:Nat->Nat->Int) (z':Int) (x9 x10 a0:Option D) (p:Sto),Mks m (l++[x]) (fs++[f])/\(T.all O.ncl=true->p.all O.ncl=true) /\
   ex (aa1 P (n+1)) mkI (as3 s r m most z (some (.int k)) (some (.int way)) (some (.int one)) (some (.int other)) x11) (stM s r b (l.map Stp.d) (zF m.R fs) (zY C) T)
    = .ok (.next (as3 s r m most z' (some (.int k)) (some (.int way)) x9 x10 a0)) (stM s r b ((l++[x]).map Stp.d) (zF m.R (fs++[f])) (zY C) p):=by
 have b1:=hM.len
 have Y:(l.map Stp.d).length<LIM:=by unfold LIM;simp;omega
 have G:(zF m.R fs).length<LIM:=by unfold LIM zF;simp;omega
 obtain⟨c,p,ec,hc,hT⟩:=bN8 (F:=aa1 P (n+1)) (s:=s) (r:=r) (m:=m) (most:=most) (z:=z) (k:=k) (way:=way) (one:=one) (other:=other) (x11:=x11) (b:=b) (A:=l.map Stp.d) (B:=zF m.R fs) (C:=zY C) (T:=T)
 unfold mkI
 rw[ad0,ec,qd]
 cases c with
 | true =>
  have a1:=hc rfl
  have a5:0<C.length:=by
   cases C with
   | nil=>exact absurd rfl a1
   | cons _ _=>simp
  rw[if_pos rfl]
  have hq:other % C.length<C.length:=kD _ a5
  obtain⟨i,hi⟩:∃ i,C[other % C.length]?=some i:=⟨_,ah hq⟩
  obtain⟨f,hf,a4⟩:=hC i (bq hi)
  refine⟨.sharp i,sh m.R f,z - 1,some (.int i),some (.int other),x11,p,.sharp i f hM hf a4,hT,?_⟩
  have i1:∀ T,ixM (.ref (s.length+2)) (.int ((other:Int) % (C.length:Int))) (stM s r b (l.map Stp.d) (zF m.R fs) (zY C) T)=.ok (.int i) (stM s r b (l.map Stp.d) (zF m.R fs) (zY C) T):=λ T=>ixm bm8 (j:=other % C.length) (by simp) (by unfold zY;rw[ax,hi];rfl)
  have i2:∀ A T,ixM (.ref (s.length+1)) (.int (i:Int)) (stM s r b A (zF m.R fs) (zY C) T)=.ok (gd m.R f) (stM s r b A (zF m.R fs) (zY C) T):=λ A T=>qv aR6 (an6 hf)
  have l2:bi .len [.ref (s.length+2)] (stM s r b (l.map Stp.d) (zF m.R fs) (zY C) p)=.ok (.int C.length) (stM s r b (l.map Stp.d) (zF m.R fs) (zY C) p):=by rw[by9 bm8];simp[zY]
  unfold mkA as3
  simp -implicitDefEqProofs only[za,zu,qD,af9,jk,zq,jj,ag3,zx,zz,zr,zt,R.bind_ok,l2,ap7 (show(0:Int)<(C.length:Int)by omega),i1,zg,zZ,zM,aq,zB,ze,qH,ad1,zG,je,zI,bh0 Y,qk,z5,zQ,i2,bl9 n hm.R5,aX4 G,ab5]
  unfold zF;simp[Stp.d]
 | false =>
  rw[if_neg aW]
  by_cases hk0:0<k/\way<5
  ·obtain⟨h1,h2⟩:=hk0
   have y:∀ a:Nat,(if(k:Int) - 1<(a:Int)then(k:Int) - 1 else(a:Int))=((min a (k - 1):Nat):Int):=λ a=>by omega
   obtain⟨j,hj,hoj⟩:∃ j:Nat,j<k/\(if(1:Int)<(way:Int)then((min other (k - 1):Nat):Int)else((min one (k - 1):Nat):Int))=(j:Int):=by
    by_cases h:(1:Int)<(way:Int)
    ·exact⟨min other (k - 1),by omega,if_pos h⟩
    ·exact⟨min one (k - 1),by omega,if_neg h⟩
   have hi:min one (k - 1)<fs.length:=by omega
   have Z:j<fs.length:=by omega
   refine⟨.pair (min one (k - 1)) j,pr m.R fs[min one (k - 1)] fs[j],z,some (.int (min one (k - 1):Nat)),some (.int j),x11,p,.pair _ _ _ _ hM (ah hi) (ah Z),hT,?_⟩
   have i1:∀ A T,ixM (.ref (s.length+1)) (.int ((min one (k - 1):Nat):Int)) (stM s r b A (zF m.R fs) (zY C) T)=.ok (gd m.R fs[min one (k - 1)]) (stM s r b A (zF m.R fs) (zY C) T):=λ A T=>qv aR6 (an6 (ah hi))
   have i2:∀ A T,ixM (.ref (s.length+1)) (.int (j:Int)) (stM s r b A (zF m.R fs) (zY C) T)=.ok (gd m.R fs[j]) (stM s r b A (zF m.R fs) (zY C) T):=λ A T=>qv aR6 (an6 (ah Z))
   have a3:(0:Int)<(k:Int):=by omega
   have a2:(way:Int)<5:=by omega
   have eo:ev (aa1 P (n+1)) (.ite (.cmp .gt (.var 8) (.cst (.int 1))) (.bi .min2 (.cons (.var 10) (.cons (.bin .sub (.var 7) (.cst (.int 1))) .nil))) (.var 9)) (as3 s r m most z (some (.int k)) (some (.int way)) (some (.int (min one (k - 1):Nat))) (some (.int other)) x11) (stM s r b (l.map Stp.d) (zF m.R fs) (zY C) p)=.ok (.int j) (stM s r b (l.map Stp.d) (zF m.R fs) (zY C) p):=by
    rw[<-hoj]
    unfold as3
    by_cases h:(1:Int)<(way:Int)
    ·simp -implicitDefEqProofs only[ad8,qB,zq,zG,zI,zr,zt,R.bind_ok,ad3,qd,h,decide_true,if_true,ag3,zx,zz,jj,ab5,js,y]
    ·simp -implicitDefEqProofs only[ad8,qB,zq,zG,zI,zr,zt,R.bind_ok,ad3,qd,h,decide_false,if_false,au]
   unfold mkB
   unfold as3 at eo ⊢
   simp -implicitDefEqProofs only[za,zu,ad0,ae3,qB,zq,zG,zI,je,zr,zt,R.bind_ok,ad3,ae1,a3,a2,decide_true,qd,if_true,qD,ag3,zx,zz,jj,ab5,js,y,zg,zZ,zM,aq,zB,ze,eo,af9,qH,ad1,bh0 Y,qk,z5,zQ,jk,i1,i2,au8 n hm.R5,aX4 G]
   unfold zF;simp[Stp.d]
  ·have J:ev (aa1 P (n+1)) (.and (.cmp .gt (.var 7) (.cst (.int 0))) (.cmp .lt (.var 8) (.cst (.int 5)))) (as3 s r m most z (some (.int k)) (some (.int way)) (some (.int one)) (some (.int other)) x11) (stM s r b (l.map Stp.d) (zF m.R fs) (zY C) p)=.ok (.bl false) (stM s r b (l.map Stp.d) (zF m.R fs) (zY C) p):=by
    unfold as3
    by_cases h1:(0:Int)<(k:Int)
    ·have h2:¬(way:Int)<5:=λ h=>hk0 ⟨by omega,by omega⟩
     simp -implicitDefEqProofs only[ae3,qB,zq,zG,zI,zr,zt,R.bind_ok,ad3,ae1,h1,h2,decide_true,decide_false,qd,if_true]
    ·simp -implicitDefEqProofs only[ae3,qB,zq,zG,zI,zr,zt,R.bind_ok,ad3,ae1,h1,decide_false,qd,if_false,au]
   have hL:=hm.L1
   have b3:=hm.L3
   have hq:one % m.L<m.L:=kD _ hL
   refine⟨.let_ (97+one % m.L),sgM m (97+one % m.L),z,some (.int one),some (.int other),some (.str [97+one % m.L]),p,.let_ _ hM (by omega) (by omega),hT,?_⟩
   have em:((one:Int) % (m.L:Int))=((one % m.L:Nat):Int):=by simp
   rw[za,ad0,J]
   unfold mkL as3
   simp -implicitDefEqProofs only[qd,if_false,au,za,zu,qD,jk,zG,je,zI,jj,zq,zr,zt,R.bind_ok,ixL,ap7 (show(0:Int)<(m.L:Int)by omega),em,bd5 (show one % m.L<3 by omega),zg,zZ,zM,aq,zB,ze,af9,qH,ad1,zx,zz,bh0 Y,qk,z5,zQ,ap0 n hm,aX4 G]
   unfold zF;simp[Stp.d]
theorem bT4 {P:Pr}[Has P ac4]{n:Nat}{s:Sto}{r:Nat}{m:Mc}(hm:m.Ok){most z:Int}{k:Nat}{x8 x9 x10 x11:Option D}{b:Int}{A:List D}{fs:List (Nat->Nat->Int)}{C:List Nat}{T:Sto}
  (hk:fs.length=k+1) (a0:C.length<1000) (G:an9 m.R fs C) :
  ∃(y:List Nat),y.length<=C.length+1/\an9 m.R fs y /\
   ex (aa1 P (n+1)) mkE (as3 s r m most z (some (.int k)) x8 x9 x10 x11) (stM s r b A (zF m.R fs) (zY C) T)
    = .ok (.next (as3 s r m most z (some (.int k)) x8 x9 x10 x11)) (stM s r b A (zF m.R fs) (zY y) T):=by
 obtain⟨f,J⟩:∃ f,fs[k]?=some f:=⟨_,ah (by omega)⟩
 have Y:ixM (.ref (s.length+1)) (.int (k:Int)) (stM s r b A (zF m.R fs) (zY C) T)=.ok (gd m.R f) (stM s r b A (zF m.R fs) (zY C) T):=qv aR6 (an6 J)
 obtain⟨c,Z,hc⟩:=ca8 (s:=stM s r b A (zF m.R fs) (zY C) T) (m:=m.R) (f:=pr m.R f f) (g:=f)
 have p:ev (aa1 P (n+1)) (.cmp .eq (.call "_law_product" (.ex (.ix (.var 5) (.var 7)) (.ex (.ix (.var 5) (.var 7)) .nil))) (.ix (.var 5) (.var 7))) (as3 s r m most z (some (.int k)) x8 x9 x10 x11) (stM s r b A (zF m.R fs) (zY C) T)=.ok (.bl c) (stM s r b A (zF m.R fs) (zY C) T):=by
  unfold as3
  simp -implicitDefEqProofs only[qB,qk,z5,zQ,jk,zq,zr,zt,R.bind_ok,Y,au8 n hm.R5,Z]
 unfold mkE
 rw[ad0,p,qd]
 cases c with
 | false=>exact⟨C,by omega,G,rfl⟩
 | true =>
  refine⟨C++[k],by simp,λ i hi=>?_,?_⟩
  ·rcases cB.mp hi with h|h
   ·exact G i h
   ·rw[cx.mp h];exact⟨f,J,hc.mp rfl⟩
  ·rw[if_pos rfl]
   unfold as3
   simp -implicitDefEqProofs only[za,zu,af9,qH,zq,zx,zz,zr,zt,R.bind_ok,bW2 (show(zY C).length<LIM by unfold zY LIM;simp;omega),ze]
   unfold zY;simp
def MkR (s:Sto)(r:Nat)(m:Mc)(most:Nat)(x:R D):Prop:=∃(l:List Stp) (fs:List (Nat->Nat->Int)) (b:Int) (T:Sto) (p:Nat),Mks m l fs/\1<=l.length/\l.length<=most/\(s.set r (qt b)++T)[p]?=some (.lst (zF m.R fs))/\T.all O.ncl=true/\x=.ok (.tup [.tup (l.map Stp.d),.ref p]) (s.set r (qt b)++T)
theorem aS3 {P:Pr}[Has P ag9][Has P ac4][Has P ab7][Has P ag5][Has P ag7](n:Nat){s:Sto}{r:Nat}(hs:∃ b,s[r]?=some (qt b)){m:Mc}(hm:m.Ok)(most:Nat)(h0:1<=most)(h1:most<=500)(z:Int) :
  MkR s r m most ((aa1 P (n+2)).call "_law_makings" [.ref r,m.d,.int most,.int z] s):=by
 have e0:(aa1 P (n+2)).call "_law_makings" [.ref r,m.d,.int most,.int z] s=_:=zA ag7 (n:=n+1) rfl
 have Y:=aM8 hs
 obtain⟨Z,a3⟩:=hs
 have es:s=s.set r (qt Z):=by
  rw[show qt Z=s[r]from((ae.mp a3).2).symm,List.set_getElem_self]
 have eS:s++[O.lst [],O.lst [],O.lst []]=stM s r Z [] [] [] []:=by unfold stM;rw[<-es]
 obtain⟨d,b1,hd,ed⟩:=an4 (P:=P) n (s:=s) (b:=Z) (A:=[]) (B:=[]) (C:=[]) (T:=[]) Y most (by omega) (qh (by omega))
 rw[e0]
 have body:ag7.body=.cons (.asg (.one 4) (.lst .nil)) (.cons (.asg (.one 5) (.lst .nil)) (.cons (.asg (.one 6) (.lst .nil)) (.cons (.for_ (.one 7) (.rng1 (.bin .add (.cst (.int 1)) (.call "_law_draw" (.ex (.var 0) (.ex (.var 2) .nil))))) (.cons (.asg (.one 8) (.call "_law_draw" (.ex (.var 0) (.ex (.cst (.int 6)) .nil)))) (.cons (.asg (.one 9) (.call "_law_draw" (.ex (.var 0) (.ex (.bin .add (.var 7) (.cst (.int 1))) .nil)))) (.cons (.asg (.one 10) (.call "_law_draw" (.ex (.var 0) (.ex (.bin .add (.var 7) (.cst (.int 1))) .nil)))) (.cons mkI (.cons mkE .nil)))))) (.cons (.ret (.tup (.cons (.mk .tuple (.seq (.var 4))) (.cons (.var 5) .nil)))) .nil)))):=rfl
 rw[body,show(cH some [D.ref r,m.d,.int most,.int z]++av ag7.vs none)=[some (D.ref r),some m.d,some (.int most),some (.int z),none,none,none,none,none,none,none,none]from rfl]
 simp -implicitDefEqProofs only[za,zu,qD,ad7,zz,R.bind_ok,jy,zg,zZ,zM,aq,zB,ze,bw,d6,dq,aL,aY,cj,ad5,jv,jj,zG,zI,qk,z5,zQ,zq,zr,zt,eS,ed,ab4,cT]
 rw[qg (by unfold W62;omega) (by unfold W62;omega),show((1:Int)+(d:Int))=((d+1:Nat):Int)by omega]
 simp only[R.bind_ok,R.bind_assoc]
 refine qK (W:=MkR s r m most) (λ k ρ t=>∃(l:List Stp) (fs:List (Nat->Nat->Int)) (C:List Nat) (b:Int) (T:Sto) (z:Int) (x7 x8 x9 x10 x11:Option D),Mks m l fs/\l.length=k/\C.length<=k/\an9 m.R fs C/\T.all O.ncl=true/\ρ=as3 s r m most z x7 x8 x9 x10 x11/\t=stM s r b (l.map Stp.d) (zF m.R fs) (zY C) T) ⟨[],[],[],b1,[],z,none,none,none,none,none,.nil,rfl,am _,λ _ h=>(by cases h),rfl,rfl,rfl⟩ (λ _ _ _ _ _=>rfl) ?_ ?_
 ·rintro k dd ρ t hk ⟨l,fs,C,b,T,z,x7,x8,x9,x10,x11,J,hl,a4,hC,hT,rfl,rfl⟩
  have a5:=(qJ hk).1
  rw[(qJ hk).2]
  obtain⟨way,c1,_,f1⟩:=an4 (P:=P) n (s:=s) (b:=b) (A:=l.map Stp.d) (B:=zF m.R fs) (C:=zY C) (T:=T) Y 6 (by decide) (by decide)
  obtain⟨one,c2,ho,f2⟩:=an4 (P:=P) n (s:=s) (b:=c1) (A:=l.map Stp.d) (B:=zF m.R fs) (C:=zY C) (T:=T) Y ((k:Int)+1) (by omega) (qh (by omega))
  obtain⟨other,y,b2,f3⟩:=an4 (P:=P) n (s:=s) (b:=c2) (A:=l.map Stp.d) (B:=zF m.R fs) (C:=zY C) (T:=T) Y ((k:Int)+1) (by omega) (qh (by omega))
  obtain⟨x,f,z',y9,p,G,T',a2,a1,eI⟩:=bP4 (P:=P) (n:=n) (s:=s) (r:=r) hm (most:=most) (z:=z) (k:=k) (way:=way) (one:=one) (other:=other) (x11:=x11) (b:=y) (T:=T) J hl (by omega) (by omega) (by omega) hC
  obtain⟨C',a6,a0,eE⟩:=bT4 (P:=P) (n:=n) (s:=s) (r:=r) hm (most:=most) (z:=z') (k:=k) (x8:=some (.int way)) (x9:=y9) (x10:=p) (x11:=G) (b:=y) (A:=(l++[x]).map Stp.d) (T:=T') (C:=C) (fs:=fs++[f]) (by have:=J.len;simp;omega) (by omega) hC.app
  refine aE5 (ρ:=as3 s r m most z' (some (.int k)) (some (.int way)) y9 p G) (s:=stM s r y ((l++[x]).map Stp.d) (zF m.R (fs++[f])) (zY C') T') ?_ ⟨l++[x],fs++[f],C',y,T',z',_,_,_,_,_,a2,by simp;omega,by omega,a0,a1 hT,rfl,rfl⟩
  have st:turn (aa1 P (n+1)) (.one 7) (.cons (.asg (.one 8) (.call "_law_draw" (.ex (.var 0) (.ex (.cst (.int 6)) .nil)))) (.cons (.asg (.one 9) (.call "_law_draw" (.ex (.var 0) (.ex (.bin .add (.var 7) (.cst (.int 1))) .nil)))) (.cons (.asg (.one 10) (.call "_law_draw" (.ex (.var 0) (.ex (.bin .add (.var 7) (.cst (.int 1))) .nil)))) (.cons mkI (.cons mkE .nil))))) (.int k) (as3 s r m most z x7 x8 x9 x10 x11) (stM s r b (l.map Stp.d) (zF m.R fs) (zY C) T)
    = exs (aa1 P (n+1)) (.cons mkI (.cons mkE .nil)) (as3 s r m most z (some (.int k)) (some (.int way)) (some (.int one)) (some (.int other)) x11) (stM s r y (l.map Stp.d) (zF m.R fs) (zY C) T):=by
   unfold turn as3
   simp -implicitDefEqProofs only[zg,zZ,zM,aq,za (.asg _ _),qD,qk,z5,zQ,zq,jj,zG,zI,ab4,zr,zt,R.bind_ok,f1,f2,f3,zB,ze]
  rw[st,za,eI,R.bind_ok,ze,za,eE,R.bind_ok,ze,zu]
 ·rintro ρ t ⟨l,fs,C,b,T,z,x7,x8,x9,x10,x11,J,hl,a4,hC,hT,rfl,rfl⟩
  rw[qo]at hl
  unfold as3
  simp -implicitDefEqProofs only[ze,za,zu,ad4,ad1,zx,zz,ag1,ab9,zq,zr,zt,R.bind_ok,aT5,bK1,mk,ab1,ab0]
  refine⟨l,fs,b,.lst (l.map Stp.d)::.lst (zF m.R fs)::.lst (zY C)::T,s.length+1,J,by omega,by omega,aR6,by simp only[cZ,O.ncl,bm4,bh5,bh4,hT,Bool.and_self],?_⟩
  unfold af7
  rw[show stM s r b (l.map Stp.d) (zF m.R fs) (zY C) T=s.set r (qt b)++(.lst (l.map Stp.d)::.lst (zF m.R fs)::.lst (zY C)::T)from rfl,if_pos (ar1 s _ r (qt b) rfl)]
  have:(D.tup [.tup (l.map Stp.d),.ref (s.length+1)]).bnd s.length=false:=by
   unfold D.bnd D.bndL D.bndL D.bndL
   simp[D.bnd]
  simp only[this,if_false,au]
section
variable {m:Nat} {f:Nat->Nat->Int} {x:Int}
end
noncomputable def ci8 (k:Nat):Stp->Prop
 | .let_ _=>True
 | .pair i j=>i<k/\j<k/\(k<100\/(i=k - 1/\j=0))
 | .sharp i=>i<k/\k<100
def ah4 (l:List Stp):Prop:=∀ k x,l[k]?=some x->ci8 k x
theorem ah4.nil:ah4 []:=λ k x h=>by cases h
theorem ah4.snoc {l:List Stp}{x:Stp}(h:ah4 l)(hx:ci8 l.length x):ah4 (l++[x]):=λ k y e=>by
 by_cases hk:k<l.length
 ·rw[aA hk]at e;exact h k y e
 ·have p:=(ae.mp e).1
  simp at p
  have:k=l.length:=by omega
  subst this
  rw[ak (am _),dS]at e
  cases e;exact hx
theorem Mks.ok {m:Mc}{l:List Stp}{fs:List (Nat->Nat->Int)}(h:Mks m l fs):l.length<=100->ah4 l:=by
 induction h with
 | nil=>intro _;exact .nil
 | let_ c h _ _ ih=>intro hl;simp at hl;exact(ih (by omega)).snoc trivial
 | pair i j f g h e1 e2 ih =>
  intro hl;simp at hl
  have:=h.len
  have:=(ae.mp e1).1
  have:=(ae.mp e2).1
  exact(ih (by omega)).snoc ⟨by omega,by omega,.inl (by omega)⟩
 | sharp i f h e1 _ ih =>
  intro hl;simp at hl
  have:=h.len
  have:=(ae.mp e1).1
  exact(ih (by omega)).snoc ⟨by omega,by omega⟩
noncomputable def as4 (a c:Int)(vs:List Int):Stp->Int
 | .let_ _=>a
 | .pair i j=>vs.getD i 0+vs.getD j 0
 | .sharp i=>vs.getD i 0*c
noncomputable def vl (a c:Int)(l:List Stp):List Int:=l.foldl (λ vs x=>vs++[as4 a c vs x]) []
theorem bD3 {a c:Int}{l:List Stp}{x:Stp}:vl a c (l++[x])=vl a c l++[as4 a c (vl a c l) x]:=by unfold vl;rw[dW];rfl
theorem aA3 {α:Type}{l:List α}{k:Nat}{x:α}(h:l[k]?=some x):l.take (k+1)=l.take k++[x]:=by
 rw[List.take_succ,h];rfl
theorem aw3 {a c:Int}{l:List Stp}{k:Nat}{x:Stp}(h:l[k]?=some x):vl a c (l.take (k+1))=vl a c (l.take k)++[as4 a c (vl a c (l.take k)) x]:=by
 rw[aA3 h,bD3]
theorem ar6 {a c:Int}{l:List Stp}:∀ k,k<=l.length->(vl a c (l.take k)).length=k
 | 0,_=>by simp[vl]
 | k+1,h=>by
  rw[aw3 (ah (show k<l.length by omega)),aL,ar6 k (by omega)];rfl
noncomputable def TB:Int:=2^(2+104*99)
theorem aO5 (k:Nat):(2:Int)^(2+104*(k+1))=2^(2+104*k)*2^104:=by rw[show 2+104*(k+1)=2+104*k+104 by omega,Int.pow_add]
theorem qU {a b:Nat}(h:a<=b):(2:Int)^a<=2^b:=by
 have p:(2:Nat)^a<=2^b:=eF (by decide) h
 have:((2^a:Nat):Int)<=((2^b:Nat):Int):=by exact_mod_cast p
 simpa using this
theorem aN2 (a:Nat):(0:Int)<2^a:=Int.pow_pos (by decide)
theorem bU2 {a c:Int}(ha:0<=a)(Z:a<=3)(hc:0<=c)(J:c<=2^103){l:List Stp}(hl:ah4 l):∀ k:Nat,k<=l.length->∀(i:Nat) (v:Int),(vl a c (l.take k))[i]?=some v->0<=v/\(i<100->v<=2^(2+104*i))/\v<=TB+3*i/\(i=0->v=a)
 | 0,_,i,v,h=>by simp[vl]at h
 | k+1,hk,i,v,h=>by
  have ih:=bU2 ha Z hc J hl k (by omega)
  have hx:=ah (show k<l.length by omega)
  have G:=ar6 (a:=a) (c:=c) (l:=l) k (by omega)
  rw[aw3 hx]at h
  by_cases hi:i<k
  ·rw[aA (by omega)]at h
   exact ih i v h
  ·have a0:=(ae.mp h).1
   simp[G]at a0
   have:i=k:=by omega
   subst this
   rw[ak (by omega),G,dS]at h
   have hw:as4 a c (vl a c (l.take i)) l[i]=v:=aF h
   clear h
   have hok:=hl i _ hx
   have g:∀ j,j<i->0<=(vl a c (l.take i)).getD j 0/\(j<100->(vl a c (l.take i)).getD j 0<=2^(2+104*j))/\(vl a c (l.take i)).getD j 0<=TB+3*j/\(j=0->(vl a c (l.take i)).getD j 0=a):=λ j hj=>by
    have e:(vl a c (l.take i))[j]?=some ((vl a c (l.take i)).getD j 0):=by
     rw[aN,ah (by omega)];rfl
    exact ih j _ e
   have hT:∀ j,j<100->(2:Int)^(2+104*j)<=TB:=λ j hj=>by unfold TB;exact qU (by omega)
   have hp:(3:Int)<=2^(2+104*i):=cG (show(3:Int)<=2^2 by decide) (qU (by omega))
   have a1:(4:Int)<=TB:=by unfold TB;exact cG (show(4:Int)<=2^2 by decide) (qU (by omega))
   generalize vl a c (l.take i)=vs at hw g
   generalize l[i]=x at hw hok
   cases x with
   | let_ ch =>
    have hz:a=v:=hw
    exact⟨by omega,λ _=>by omega,by omega,λ _=>hz.symm⟩
   | pair p q =>
    have hz:vs.getD p 0+vs.getD q 0=v:=hw
    obtain⟨h1,h2,h3⟩:=hok
    obtain⟨p1,Y,p3,_⟩:=g p h1
    obtain⟨q1,q2,q3,q4⟩:=g q h2
    obtain⟨y,rfl⟩:∃ y,i=y+1:=⟨i - 1,by omega⟩
    by_cases hi100:y+1<100
    ·have p5:vs.getD p 0<=2^(2+104*y):=cG (Y (by omega)) (qU (by omega))
     have q5:vs.getD q 0<=2^(2+104*y):=cG (q2 (by omega)) (qU (by omega))
     have e:=aO5 y
     have b:v<=2^(2+104*(y+1)):=by
      rw[e,<-hz]
      have:(2:Int)^(2+104*y)*2<=2^(2+104*y)*2^104:=cN (by decide) (kU (aN2 _))
      omega
     have:=hT (y+1) hi100
     exact⟨by omega,λ _=>b,by omega,λ e=>by omega⟩
    ·rcases h3 with h3|⟨h3,h4⟩
     ·omega
     ·have:=q4 h4
      subst h4
      have e:p=y:=by omega
      subst e
      refine⟨by omega,λ e=>absurd e hi100,?_,λ e=>by omega⟩
      rw[<-hz,this]
      push_cast
      omega
   | sharp p =>
    have hz:vs.getD p 0*c=v:=hw
    obtain⟨h1,h2⟩:=hok
    obtain⟨p1,Y,p3,_⟩:=g p h1
    obtain⟨y,rfl⟩:∃ y,i=y+1:=⟨i - 1,by omega⟩
    have p5:vs.getD p 0<=2^(2+104*y):=cG (Y (by omega)) (qU (by omega))
    have b:v<=2^(2+104*(y+1)):=by
     rw[aO5 y,<-hz]
     exact Int.mul_le_mul p5 (cG J (by decide)) hc (kU (aN2 _))
    have:=hT (y+1) h2
    have:0<=v:=by rw[<-hz];exact Int.mul_nonneg p1 hc
    exact⟨this,λ _=>b,by omega,λ e=>by omega⟩
theorem bs6 {v:Int}(h0:0<=v)(h:v<=TB+100000):v.natAbs<BIG:=by
 have y:TB+100000<2^11000:=by unfold TB;decide +kernel
 have p:(2:Nat)^11000<=BIG:=by unfold BIG;exact eF (by decide) (by decide)
 have h3:((2^11000:Nat):Int)=(2:Int)^11000:=by push_cast;rfl
 omega
theorem cc1 {c:Int}(h0:0<=c)(h:c<=2^103):c.natAbs<BIG:=bs6 h0 (cG h (by
 have:(2:Int)^103<=TB:=by unfold TB;exact qU (by omega)
 omega))
theorem bG9 {a b:Int}(p:a.natAbs<BIG)(h:b.natAbs<BIG):mulOk a b=true:=by
 unfold mulOk;simp[p,h]
theorem be4 {a c:Int}{l:List Stp}{k i:Nat}(hk:k<=l.length)(h:i<k):(aL7 (vl a c (l.take k)))[i]?=some (.int ((vl a c (l.take k)).getD i 0)):=by
 have:=ar6 (a:=a) (c:=c) (l:=l) k hk
 unfold aL7
 rw[ax,aN,ah (by omega)];rfl
theorem dl0 {c:Nat}{s:Sto}:ixM (Stp.let_ c).d (.int 0) s=.ok (.str bJ5) s:=rfl
theorem dp0 {i j:Nat}{s:Sto}:ixM (Stp.pair i j).d (.int 0) s=.ok (.str az4) s:=rfl
theorem dp1 {i j:Nat}{s:Sto}:ixM (Stp.pair i j).d (.int 1) s=.ok (.int i) s:=rfl
theorem dp2 {i j:Nat}{s:Sto}:ixM (Stp.pair i j).d (.int 2) s=.ok (.int j) s:=rfl
theorem ds0 {i:Nat}{s:Sto}:ixM (Stp.sharp i).d (.int 0) s=.ok (.str at5) s:=rfl
theorem ds1 {i:Nat}{s:Sto}:ixM (Stp.sharp i).d (.int 1) s=.ok (.int i) s:=rfl
section
variable {F:Fns} {ρ:Env} {s:Sto}
noncomputable def apV (F:Fns)(d:D)(l:List D)(s:Sto):R D:=match d with
 | .fn f=>F.call f l s
 | .clo id cs=>F.lam id cs l s
 | _=>.bad
theorem aw5 {i:Nat}{d:D}(es:Es)(h:ρ[i]?=some (some d)):ev F (.callV i es) ρ s=(evs F es ρ s).bind λ l s=>apV F d l s:=by
 show(evs F es ρ s).bind (λ l s=>match ρ[i]? with
  | some (some (.fn f))=>F.call f l s
  | some (some (.clo id cs))=>F.lam id cs l s
  | _=>.bad)=_
 rw[h]
 cases d<;>rfl
theorem aN6 {id:String}{p:List Nat}{cs:List D}(y:As)(h:aj5 ρ p=some cs):al5 F (.lam id p y) ρ s=(al5 F y ρ s).bind λ l s=>.ok (.clo id cs::l) s:=by
 show(match aj5 ρ p with
  | some cs=>(al5 F y ρ s).bind λ l s=>R.ok (D.clo id cs::l) s
  | none=>.bad)=_
 rw[h]
end
theorem am9 {s:Sto}{o:O}(h:s.all O.ncl=true)(ho:o.ncl=true):(s++[o]).all O.ncl=true:=by rw[eR,h];simp[ho]
noncomputable def Stp.t (c:Int):Stp->D
 | .sharp i=>.tup [.str [116,105,109,101,115],.int i,.int c]
 | x=>x.d
theorem Stp.t_bnd (c:Int)(x:Stp)(n:Nat):(x.t c).bnd n=true:=by cases x<;>rfl
theorem Stp.t_ncl (c:Int)(x:Stp):(x.t c).ncl=true:=by cases x<;>rfl
theorem bq8 {l:List Stp}{c:Int}{n:Nat}:(O.lst (l.map (Stp.t c))).bnd n=true:=by
 unfold O.bnd
 exact qy (λ d hd n=>by obtain⟨x,_,rfl⟩:=aS.mp hd;exact x.t_bnd c n) n
theorem bs7 {l:List Stp}{c:Int}:(O.lst (l.map (Stp.t c))).ncl=true:=by
 unfold O.ncl
 exact qL λ d hd=>by obtain⟨x,_,rfl⟩:=aS.mp hd;exact x.t_ncl c
theorem ao5 {s:Sto}{o:O}(ho:o.bnd s.length=true):af7 s (.ref s.length) (s++[o])=.ok (.ref s.length) (s++[o]):=by
 have:=aB6 (s:=s) (t:=[]) (u:=[]) ho
 simpa using this
theorem aG4 {P:Pr}[Has P ad9](n:Nat){l:List Stp}(hl:l.length<=5100)(c:Int)(s:Sto) :
  (aa1 P (n+1)).call "as_times" [.tup (l.map Stp.d),.int c] s=.ok (.ref s.length) (s++[.lst (l.map (Stp.t c))]):=by
 have h:(aa1 P (n+1)).call "as_times" [.tup (l.map Stp.d),.int c] s=_:=zA ad9 (n:=n) rfl
 rw[h,show(cH some [D.tup (l.map Stp.d),.int c]++av ad9.vs none)=[some (D.tup (l.map Stp.d)),some (.int c)]from rfl]
 simp -implicitDefEqProofs only[ad9,za,zu,ad4,ag1,bl5,ac0,zq,zr,zt,R.bind_ok,ay2]
 rw[if_pos (by unfold LIM;rw[aC];omega)]
 obtain⟨ρ1,s1,e1,h1⟩:∃ ρ' s',jb (λ s1=>chk s s1 []) (al9 (aa1 P n) (.one 0) (.ite (.cmp .eq (.ix (.var 0) (.cst (.int 0))) (.cst (.str [115,104,97,114,112]))) (.tup (.cons (.cst (.str [116,105,109,101,115])) (.cons (.ix (.var 0) (.cst (.int 1))) (.cons (.var 1) .nil)))) (.var 0))) (l.map Stp.d) (qS [some (D.tup (l.map Stp.d)),some (.int c)] [none,some 1]) s=R.ok (l.map (Stp.t c)) s'/\s'=s/\∃ x:Option D,ρ'=[x,some (D.int c)]:=by
  have key:∀(l:List Stp) (ρ:Env),(∃ x:Option D,ρ=[x,some (D.int c)])->∃ ρ' s',jb (λ s1=>chk s s1 []) (al9 (aa1 P n) (.one 0) (.ite (.cmp .eq (.ix (.var 0) (.cst (.int 0))) (.cst (.str [115,104,97,114,112]))) (.tup (.cons (.cst (.str [116,105,109,101,115])) (.cons (.ix (.var 0) (.cst (.int 1))) (.cons (.var 1) .nil)))) (.var 0))) (l.map Stp.d) ρ s=.ok (l.map (Stp.t c)) s'/\s'=s/\∃ x:Option D,ρ'=[x,some (D.int c)]:=by
   intro l
   induction l with
   | nil=>rintro ρ ⟨x,rfl⟩;exact⟨[x,some (D.int c)],s,rfl,rfl,x,rfl⟩
   | cons y l ih =>
    rintro ρ ⟨x,rfl⟩
    obtain⟨ρ2,s2,e2,rfl,p⟩:=ih [some y.d,some (.int c)] ⟨_,rfl⟩
    refine⟨ρ2,_,?_,rfl,p⟩
    have st:al9 (aa1 P n) (.one 0) (.ite (.cmp .eq (.ix (.var 0) (.cst (.int 0))) (.cst (.str [115,104,97,114,112]))) (.tup (.cons (.cst (.str [116,105,109,101,115])) (.cons (.ix (.var 0) (.cst (.int 1))) (.cons (.var 1) .nil)))) (.var 0)) y.d [x,some (.int c)] s2=.ok (some (y.t c),[some y.d,some (.int c)]) s2:=by
     unfold al9
     cases y with
     | let_ ch=>simp -implicitDefEqProofs only[zg,zM,ad8,qB,jk,zq,zG,zI,je,zr,zt,R.bind_ok,dl0,qu,show(bJ5=[115,104,97,114,112])=False by decide,decide_false,qd,if_false,au];rfl
     | pair i j=>simp -implicitDefEqProofs only[zg,zM,ad8,qB,jk,zq,zG,zI,je,zr,zt,R.bind_ok,dp0,qu,show(az4=[115,104,97,114,112])=False by decide,decide_false,qd,if_false,au];rfl
     | sharp i=>simp -implicitDefEqProofs only[zg,zM,ad8,qB,jk,zq,zG,zI,je,zr,zt,R.bind_ok,ds0,ds1,qu,show(at5=[115,104,97,114,112])=True from eq_self _,decide_true,qd,if_true,ad1,zx,zz];rfl
    rw[aG,aG]
    unfold jb
    simp only[aX6,if_true]
    rw[st,R.bind_ok]
    simp only[aX6]at e2
    rw[e2];rfl
  exact key l _ ⟨none,rfl⟩
 obtain⟨rfl,_⟩:=h1
 rw[e1]
 simp -implicitDefEqProofs only[R.bind_ok,mk,jy,ab1,ab0]
 exact ao5 bq8
def InG (m:Nat)(f:Nat->Nat->Int):Prop:=∀ i j,i<m->j<m->0<=f i j/\f i j<=3
section
variable {P:Pr} [Has P qr] [Has P zE] [HasL P zv]
end
noncomputable def minO:Option Int->Option Int->Option Int
 | none,x=>x
 | some a,none=>some a
 | some a,some b=>if b<a then some b else some a
noncomputable def Dr.turn (x:Dr):Dr:=⟨x.b,x.l,x.a,x.t⟩
noncomputable def Mc.turn (m:Mc):Mc:=⟨m.L,m.R,m.en,m.bg,m.ds.map Dr.turn⟩
noncomputable def rowO (m:Nat)(f:Nat->Option Int):List D:=(aw m).map λ j=>bH3 (f j)
section
variable {P:Pr} [Has P qr]
end
section
variable {P:Pr} [Has P qr] [Has P qP] [Has P ab2] [Has P zR] [Has P zw] [HasL P zh]
end
theorem br5 {s:Sto}{r q:Nat}{C:List D}(p:s[r]?=some (.lst C))(h:s[q]?=some (.lst [])):qO .ne (.ref r) (.ref q) s=.ok (.bl (!decide (C=[]))) s:=by
 have:eqv s DEEP (.ref r) (.ref q)=some (decide (C=[])):=by
  show(match s[r]?,s[q]? with
   | some (O.lst l),some (O.lst m)=>if l.length=m.length then eqL (eqv s 29) l m else some false
   | _,_=>none)=_
  rw[p,h]
  cases C with
  | nil=>rfl
  | cons a l=>simp
 show(match eqv s DEEP (.ref r) (.ref q)with|some r=>R.ok (D.bl (!r)) s|none=>.bad)=_
 rw[this]
theorem bx0 {s:Sto}{r:Nat}{l:List D}{d:D}(h:s[r]?=some (.lst (l++[d]))):meth .pop (.ref r) [] s=.ok d (s.set r (.lst l)):=by
 show(match s[r]? with|some (.lst l)=>(match l.getLast? with|some d=>R.ok d (s.set r (.lst l.dropLast))|none=>.bad)|_=>.bad:R D)=_
 rw[h]
 show(match(l++[d]).getLast? with|some e=>R.ok e (s.set r (.lst (l++[d]).dropLast))|none=>.bad:R D)=_
 rw[List.getLast?_concat,List.dropLast_concat]
theorem cj3 {s:Sto}{a b:Nat}{l m:List D}(y:s[a]?=some (.lst l))(p:s[b]?=some (.lst m))(h:l.length+m.length<=LIM):qN .add (.ref a) (.ref b) s=.ok (.ref s.length) (s++[.lst (l++m)]):=by
 show(match s[a]?,s[b]? with|some (.lst l),some (.lst m)=>(if l.length+m.length<=LIM then ah2 (.lst (l++m)) s else .bad)|_,_=>.bad:R D)=_
 rw[y,p]
 exact if_pos h
theorem co0 {s:Sto}{a:Nat}{l:List D}{k:Nat}(y:s[a]?=some (.lst l))(h:k<=1000000)(p:l.length*k<=LIM):qN .mul (.ref a) (.int (k:Int)) s=.ok (.ref s.length) (s++[.lst (am8 k l)]):=by
 have e:(0:Int)<=(k:Int)/\(k:Int)<=1000000/\l.length*((k:Int)).toNat<=LIM:=⟨by omega,by omega,by simpa using p⟩
 show(match s[a]? with|some (.lst l)=>(if 0<=(k:Int)/\(k:Int)<=1000000/\l.length*((k:Int)).toNat<=LIM then ah2 (.lst (am8 ((k:Int)).toNat l)) s else .bad)|_=>.bad:R D)=_
 rw[y]
 show(if 0<=(k:Int)/\(k:Int)<=1000000/\l.length*((k:Int)).toNat<=LIM then ah2 (.lst (am8 ((k:Int)).toNat l)) s else .bad:R D)=_
 rw[if_pos e,ci]
 rfl
theorem aL6 {s:Sto}{o:O}:(s++[o])[s.length]?=some o:=by rw[ak (am _)];simp
theorem aU7 (n i:Nat):am8 n [D.int (i:Int)]=zY (av n i):=by
 induction n with
 | zero=>rfl
 | succ n ih=>show[D.int (i:Int)]++am8 n _=_;rw[ih,bE];rfl
theorem aj4 (a b:List Nat):zY (a++b)=zY a++zY b:=by unfold zY;exact bv
theorem bQ8 (a b:List Nat):sg (a++b)=sg a++sg b:=by unfold sg;exact bv
theorem aN4 (a:List Nat):(zY a).length=a.length:=by unfold zY;exact aC _
theorem bL1 (a:List Nat):(sg a).length=a.length:=by unfold sg;exact aC _
theorem aW4 {s0 s:Sto}{r:Nat}{o:O}(h:∃ t,s=s0++t)(p:s0.length<=r):∃ t,s.set r o=s0++t:=by
 obtain⟨t,rfl⟩:=h
 exact⟨t.set (r - s0.length) o,by rw[bC _ _ p]⟩
theorem al6 {s0 s t:Sto}(h:∃ t,s=s0++t):∃ t',s++t=s0++t':=by
 obtain⟨t',rfl⟩:=h
 exact⟨t'++t,by rw[bw]⟩
section
variable {P:Pr} [Has P qr] [Has P qP] [Has P qV] [Has P ab2] [Has P zR] [Has P zw] [HasL P zh] [Has P ja] [HasL P zT] [Has P qe] [HasL P zD] [Has P qb]
end
section
variable {P:Pr} [Has P qr] [Has P qP] [Has P qV] [Has P ab2] [Has P zR] [Has P zw] [HasL P zh] [Has P ja] [HasL P zT] [Has P qe] [HasL P zD] [Has P qb]
 [Has P cc8] [Has P bN0] [Has P bG6] [Has P bb4] [Has P bU3] [Has P bm9] [Has P aF3] [Has P aX5]
end
section
variable {P:Pr} [Has P jF] [Has P ap8] [Has P zV]
variable [Has P qr] [Has P qP] [Has P qV] [Has P ab2] [Has P zR] [Has P zw] [HasL P zh] [Has P ja] [HasL P zT] [Has P qe] [HasL P zD] [Has P qb] [Has P bc5]
end
def cl5 (m:Nat)(f:Nat->Nat->Int):Prop:=EqG m (pr m f f) f
section
variable {P:Pr} [Has P qr] [Has P zE] [HasL P zv] [Has P jE]
variable [Has P av3] [Has P ap4] [HasL P jz] [HasC P "FREE" (.int 0)] [HasC P "UNBOUND" (.int 2)] [HasC P "NONE" (.int 3)]
end
section
variable {P:Pr} [Has P qr] [Has P zE] [HasL P zv] [Has P jE] [Has P jA]
end
section
variable {P:Pr} [Has P ag9]
variable [Has P aG3]
end
section
variable {m:Nat} (hm:1<=m) {g:Nat->Nat->Int} (hg:InG m g) (hst:cl5 m g)
include hm hg hst
end
section
variable {P:Pr} [Has P ag9] [Has P qr] [Has P zE] [HasL P zv] [Has P jE] [Has P av3] [Has P ap4] [HasL P jz] [HasC P "FREE" (.int 0)] [HasC P "UNBOUND" (.int 2)] [HasC P "NONE" (.int 3)] [Has P jA] [Has P aI4] [Has P bv4]
variable [Has P aj8] [Has P aG3] [Has P aU2]
end
theorem ar8 {P:Pr}{n:Nat}{x:String}{d:D}[HasC P x d](ρ:Env)(s:Sto):ev (aa1 P n) (.glob x) ρ s=.ok d s:=by
 show(match(aa1 P n).con x with|some d=>R.ok d s|none=>.bad)=_
 rw[by8 (v:=d)]
noncomputable def un (i j:Nat):Int:=if i=j then 0 else 3
section
variable {m:Nat} (hm:1<=m)
end
section
variable {P:Pr} [Has P qr] [Has P ak7] [HasL P ji] [HasC P "FREE" (.int 0)] [HasC P "NONE" (.int 3)]
variable [Has P jt] [Has P zE] [HasL P zv]
variable [Has P am2] [HasC P "sign_product" (.fn "sign_product")]
end
section
variable {P:Pr} [Has P ac4] [Has P bf1] [Has P aW3]
end
section
variable {P:Pr} [Has P aj8] [Has P ag9] [Has P aG3] [Has P bt0] [Has P ac4] [Has P bf1] [Has P aW3] [Has P bD9] [Has P bg4] [Has P qr] [Has P jt] [Has P ak7] [HasL P ji] [Has P zE] [HasL P zv] [Has P am2] [HasC P "FREE" (.int 0)] [HasC P "NONE" (.int 3)] [HasC P "sign_product" (.fn "sign_product")]
end
section
variable {P:Pr} [HasC P "FREE" (.int 0)] [HasC P "SOME" (.int 1)] [HasC P "NONE" (.int 3)] [Has P aA0]
variable [Has P qr] [Has P aE6] [HasL P am1]
variable [Has P qP] [Has P qV] [Has P ab2] [Has P zR] [Has P zw] [HasL P zh] [Has P ja] [HasL P zT] [Has P qe] [HasL P zD] [Has P qb] [Has P am4]
variable [Has P jF] [Has P ap8] [Has P zV] [Has P au6]
end
inductive Rst where
 | let_ (c:Nat)|pair (i j:Nat)|times (i n:Nat)
noncomputable def Rst.d:Rst->D
 | .let_ c=>.tup [.str [108,101,116,116,101,114],.str [c]]
 | .pair i j=>.tup [.str [112,97,105,114],.int i,.int j]
 | .times i n=>.tup [.str [116,105,109,101,115],.int i,.int n]
theorem rl0 {ch:Nat}{s:Sto}:ixM (Rst.let_ ch).d (.int 0) s=.ok (.str bJ5) s:=rfl
theorem rl1 {ch:Nat}{s:Sto}:ixM (Rst.let_ ch).d (.int 1) s=.ok (.str [ch]) s:=rfl
theorem rp0 {i j:Nat}{s:Sto}:ixM (Rst.pair i j).d (.int 0) s=.ok (.str az4) s:=rfl
theorem rp1 {i j:Nat}{s:Sto}:ixM (Rst.pair i j).d (.int 1) s=.ok (.int i) s:=rfl
theorem rp2 {i j:Nat}{s:Sto}:ixM (Rst.pair i j).d (.int 2) s=.ok (.int j) s:=rfl
theorem rt0 {i n:Nat}{s:Sto}:ixM (Rst.times i n).d (.int 0) s=.ok (.str be9) s:=rfl
theorem rt1 {i n:Nat}{s:Sto}:ixM (Rst.times i n).d (.int 1) s=.ok (.int i) s:=rfl
theorem rt2 {i n:Nat}{s:Sto}:ixM (Rst.times i n).d (.int 2) s=.ok (.int n) s:=rfl
section
variable {P:Pr} [Has P ad6] [Has P qT] [HasL P z8] [HasL P z7] [HasL P qa]
end
theorem aZ2 {F:Fns}{ρ:Env}{s:Sto}:ev F (.neg (.cst (.int 1))) ρ s=.ok (.int (-1)) s:=rfl
theorem aL5 {s:Sto}{r:Nat}{l:List D}{d:D}(h:s[r]?=some (.lst l))(hd:l[l.length - 1]?=some d):ixM (.ref r) (.int (-1)) s=.ok d s:=by
 have hl:=(ae.mp hd).1
 have hx:ixn l.length (-1)=some (l.length - 1):=by
  unfold ixn
  rw[if_neg (by decide),if_pos (by omega)]
  congr 1;omega
 simp only[ixM,h,hx,aK,hd]
section
variable {P:Pr} [Has P ad6] [Has P qT] [HasL P z8] [HasL P z7] [HasL P qa] [Has P jG] [Has P qZ]
end
noncomputable def ce3:Ss:=(.cons (.ex (.meth .append (.var 3) (.cons (.tup (.cons (.cst (.str [112,97,105,114])) (.cons (.var 4) (.cons (.bin .sub (.var 4) (.call "_law_draw" (.ex (.var 0) (.ex (.bin .add (.bi .min2 (.cons (.var 4) (.cons (.cst (.int 1)) .nil))) (.cst (.int 1))) .nil)))) .nil)))) .nil))) .nil)
section
variable {α:Type} (d:α) (fl:Nat->α) (fp:α->α->α) (ft:α->Nat->α)
noncomputable def foV (vs:List α):Rst->α
 | .let_ c=>fl c
 | .pair i j=>fp (vs.getD i d) (vs.getD j d)
 | .times i n=>ft (vs.getD i d) n
noncomputable def foR (l:List Rst):List α:=l.foldl (λ vs x=>vs++[foV d fl fp ft vs x]) []
theorem aP5 {l:List Rst}{k:Nat}{x:Rst}(h:l[k]?=some x):foR d fl fp ft (l.take (k+1))=foR d fl fp ft (l.take k)++[foV d fl fp ft (foR d fl fp ft (l.take k)) x]:=by
 rw[aA3 h];unfold foR;rw[dW];rfl
theorem aJ6 {l:List Rst}:∀ k,k<=l.length->(foR d fl fp ft (l.take k)).length=k
 | 0,_=>by simp[foR]
 | k+1,h=>by
  rw[aP5 d fl fp ft (ah (show k<l.length by omega)),aL,aJ6 k (by omega)];rfl
theorem aM1:∀(l:List Rst) (vs:List α),∃ t,l.foldl (λ vs x=>vs++[foV d fl fp ft vs x]) vs=vs++t
 | [],vs=>⟨[],by simp⟩
 | x::l,vs=>by
  obtain⟨t,e⟩:=aM1 l (vs++[foV d fl fp ft vs x])
  exact⟨foV d fl fp ft vs x::t,by rw[b8,e];simp⟩
theorem av4 {l:List Rst}{k i:Nat}(hk:k<=l.length)(h:i<k):(foR d fl fp ft (l.take k)).getD i d=(foR d fl fp ft l).getD i d:=by
 obtain⟨t,e⟩:=aM1 d fl fp ft (l.drop k) (foR d fl fp ft (l.take k))
 have:foR d fl fp ft l=foR d fl fp ft (l.take k)++t:=by
  rw[<-e]
  conv=>lhs;rw[<-gP k l]
  unfold foR;rw[dW]
 have hl:=aJ6 d fl fp ft (l:=l) k hk
 rw[this,aN,aN,aA (by omega)]
theorem be0 {l:List Rst}{k:Nat}{x:Rst}(h:l[k]?=some x):(foR d fl fp ft l).getD k d=foV d fl fp ft (foR d fl fp ft (l.take k)) x:=by
 have hk:=(ae.mp h).1
 rw[<-av4 d fl fp ft (k:=k+1) (by omega) (db k),aP5 d fl fp ft h]
 have hl:=aJ6 d fl fp ft (l:=l) k (by omega)
 rw[aN,ak (by omega),hl,dS];rfl
theorem ce2 {l:List Rst}{k c:Nat}(h:l[k]?=some (.let_ c)):(foR d fl fp ft l).getD k d=fl c:=be0 d fl fp ft h
theorem ch1 {l:List Rst}{k i j:Nat}(h:l[k]?=some (.pair i j))(p:i<k)(hj:j<k):(foR d fl fp ft l).getD k d=fp ((foR d fl fp ft l).getD i d) ((foR d fl fp ft l).getD j d):=by
 have hk:=(ae.mp h).1
 rw[be0 d fl fp ft h,<-av4 d fl fp ft (k:=k) (by omega) p,<-av4 d fl fp ft (k:=k) (by omega) hj];rfl
theorem cd9 {l:List Rst}{k i n:Nat}(h:l[k]?=some (.times i n))(p:i<k):(foR d fl fp ft l).getD k d=ft ((foR d fl fp ft l).getD i d) n:=by
 have hk:=(ae.mp h).1
 rw[be0 d fl fp ft h,<-av4 d fl fp ft (k:=k) (by omega) p];rfl
end
noncomputable def wds (l:List Rst):List (List Nat):=foR [] (λ c=>[c]) (·++·) (λ w n=>rep n w) l
noncomputable def wd (l:List Rst)(k:Nat):List Nat:=(wds l).getD k []
theorem bR3 {l:List Rst}{k c:Nat}(h:l[k]?=some (.let_ c)):wd l k=[c]:=ce2 _ _ _ _ h
theorem bK7 {l:List Rst}{k i j:Nat}(h:l[k]?=some (.pair i j))(p:i<k)(hj:j<k):wd l k=wd l i++wd l j:=ch1 _ _ _ _ h p hj
theorem bT1 {l:List Rst}{k i n:Nat}(h:l[k]?=some (.times i n))(p:i<k):wd l k=rep n (wd l i):=cd9 _ _ _ _ h p
structure Wt (s0 s:Sto)(r q:Nat)(W u:List Nat):Prop where
 pre:∃ t,s=s0++t
 q0:s0.length<=q
 r0:s0.length<=r
 rq:r≠q
 gr:s[r]?=some (.lst (zY W))
 gq:s[q]?=some (.lst (sg u))
theorem aV9:∀ u:List Nat,am5 (sg u)=some (u.map λ c=>[c])
 | []=>rfl
 | a::u=>by show(am5 (sg u)).map ([a]::·)=_;rw[aV9 u];rfl
theorem bN1:∀ u:List Nat,(u.map λ c=>[c]).flatten=u
 | []=>rfl
 | a::u=>by rw[aG,cg,bN1 u];rfl
theorem bx4 {s:Sto}{q:Nat}{u:List Nat}(h:s[q]?=some (.lst (sg u)))(p:u.length<=LIM):aA6 (.str []) (.ref q) s=.ok (.str u) s:=by
 simp only[aA6,h,aV9,bN1,if_pos p]
theorem bx5 {F:Fns}{ρ:Env}{s:Sto}(o e:E):ev F (.join o e) ρ s=(ev F o ρ s).bind λ x s=>(ev F e ρ s).bind λ y s=>aA6 x y s:=rfl
theorem aH0 (w:List Nat)(b:Nat):∀ a,rep (a+b) w=rep a w++rep b w
 | 0=>by rw[cT];rfl
 | a+1=>by rw[Nat.succ_add];show w++rep (a+b) w=(w++rep a w)++rep b w;rw[aH0 w b a,bw]
theorem bL3 (w:List Nat):rep 1 w=w:=bo w
section
variable {P:Pr} [Has P qr] [Has P qP] [Has P qV] [Has P ja] [HasL P zT] [Has P qe] [HasL P zD] [Has P jt] [Has P ax6] [HasC P "product" (.fn "product")]
end
noncomputable def RsB (k:Nat):Rst->Prop
 | .let_ _=>True
 | .pair i j=>i<k/\j<k
 | .times i _=>i<k
def bJ1 (l:List Rst):Prop:=∀ k x,l[k]?=some x->RsB k x
theorem aS0 {P:Pr}[Has P ad6](n:Nat){l:List Rst}(hl:l.length<=5100)(hk:bJ1 l){s:Sto}{J:D}{src:List Nat}(hsr:∀ r∈src,r<s.length)(Z:∀ t,aF7 J (s++t)=.ok ⟨l.map Rst.d,src⟩ (s++t))(d1 y G:D)(W:Nat->D)(hW:∀ k n,(W k).bnd n=true)
  (h1:∀ k ch,l[k]?=some (.let_ ch)->apV (aa1 P n) d1 [.str [ch]] (s++[.lst ((aw k).map W)])=.ok (W k) (s++[.lst ((aw k).map W)]))
  (h2:∀ k i j,l[k]?=some (.pair i j)->apV (aa1 P n) y [W i,W j] (s++[.lst ((aw k).map W)])=.ok (W k) (s++[.lst ((aw k).map W)]))
  (h3:∀ k i m,l[k]?=some (.times i m)->apV (aa1 P n) G [W i,.int (m:Nat)] (s++[.lst ((aw k).map W)])=.ok (W k) (s++[.lst ((aw k).map W)])) :
  (aa1 P (n+1)).call "folded" [J,d1,y,G] s=.ok (.ref s.length) (s++[.lst ((aw l.length).map W)]):=by
 have e0:(aa1 P (n+1)).call "folded" [J,d1,y,G] s=_:=zA ad6 (n:=n) rfl
 rw[e0,show(cH some [J,d1,y,G]++av ad6.vs none)=[some J,some d1,some y,some G,none,none]from rfl]
 simp -implicitDefEqProofs only[ad6]
 simp -implicitDefEqProofs only[za,zu,qD,ad7,zz,R.bind_ok,jy,zg,zZ,zM,aq,zB,ze,ad5,ac0,zq,zr,zt]
 rw[Z]
 simp only[R.bind_ok]
 rw[R.bind_assoc]
 refine ak0 (λ k ρ t=>∃(x:Option D),ρ=[some J,some d1,some y,some G,some (.ref s.length),x]/\t=s++[.lst ((aw k).map W)]) ⟨none,rfl,rfl⟩ (λ _ _ _ _ h=>?_) ?_ ?_
 ·obtain⟨_,_,rfl⟩:=h
  unfold chk
  exact aO.mpr λ r hr=>by rw[aA (hsr r hr),aA (hsr r hr)];simp
 ·rintro k d ρ t hkk ⟨x,rfl,rfl⟩
  rw[ax]at hkk
  obtain⟨v,hv,hd⟩:∃ v,l[k]?=some v/\Rst.d v=d:=by
   cases e:l[k]? with
   | none=>rw[e]at hkk;cases hkk
   | some v=>rw[e]at hkk;exact⟨v,rfl,aF hkk⟩
  subst hd
  have a0:=(ae.mp hv).1
  have hok:=hk k v hv
  have L1:((aw k).map W).length<LIM:=by unfold LIM;rw[aC,fI];omega
  have g0:(s++[O.lst ((aw k).map W)])[s.length]?=some (.lst ((aw k).map W)):=by rw[ak (am _)];simp
  have gW:∀ i,i<k->ixM (.ref s.length) (.int (i:Int)) (s++[O.lst ((aw k).map W)])=.ok (W i) (s++[O.lst ((aw k).map W)]):=λ i Y=>qv g0 (by rw[ax,bN Y];rfl)
  refine aE5 (ρ:=[some J,some d1,some y,some G,some (.ref s.length),some v.d]) (s:=s++[.lst ((aw (k+1)).map W)]) ?_ ⟨_,rfl,rfl⟩
  rw[cY,bv]
  unfold turn
  cases v with
  | let_ ch =>
   have p:=h1 k ch hv
   simp -implicitDefEqProofs only[zg,zZ,zM,aq,za,zu,ad0,qB,jk,zq,zG,zI,je,zr,zt,R.bind_ok,rl0,qu,show(bJ5=[108,101,116,116,101,114])=True from eq_self _,decide_true,qd,if_true,af9,qH,zx,zz]
   rw[aw5 (d:=d1) _ rfl]
   simp -implicitDefEqProofs only[zx,zz,jk,zq,zG,zI,zr,zt,R.bind_ok,rl1,p]
   rw[jw L1];rfl
  | pair i j =>
   obtain⟨Y,hj⟩:=hok
   have p:=h2 k i j hv
   simp -implicitDefEqProofs only[zg,zZ,zM,aq,za,zu,ad0,qB,jk,zq,zG,zI,je,zr,zt,R.bind_ok,rp0,qu,show(az4=[108,101,116,116,101,114])=False by decide,show(az4=[112,97,105,114])=True from eq_self _,decide_true,decide_false,au,qd,if_true,if_false,af9,qH,zx,zz]
   rw[aw5 (d:=y) _ rfl]
   simp -implicitDefEqProofs only[zx,zz,jk,zq,zG,zI,zr,zt,R.bind_ok,rp1,rp2,gW i Y,gW j hj,p]
   rw[jw L1];rfl
  | times i m =>
   have Y:=hok
   have p:=h3 k i m hv
   simp -implicitDefEqProofs only[zg,zZ,zM,aq,za,zu,ad0,qB,jk,zq,zG,zI,je,zr,zt,R.bind_ok,rt0,qu,show(be9=[108,101,116,116,101,114])=False by decide,show(be9=[112,97,105,114])=False by decide,decide_false,au,qd,if_false,af9,qH,zx,zz]
   rw[aw5 (d:=G) _ rfl]
   simp -implicitDefEqProofs only[zx,zz,jk,zq,zG,zI,zr,zt,R.bind_ok,rt1,rt2,gW i Y,p]
   rw[jw L1];rfl
 ·rintro ρ t ⟨x,rfl,rfl⟩
  rw[aC]
  simp -implicitDefEqProofs only[ze,za,zu,ad4,zq,zr,zt,R.bind_ok,ab1,ab0]
  exact ao5 (by unfold O.bnd;exact qy (λ d hd n=>by obtain⟨x,_,rfl⟩:=aS.mp hd;exact hW x n) _)
theorem aU9 {a c:Int}:∀(l:List Stp) (vs:List Int),∃ t,l.foldl (λ vs x=>vs++[as4 a c vs x]) vs=vs++t
 | [],vs=>⟨[],by simp⟩
 | x::l,vs=>by
  obtain⟨t,e⟩:=aU9 l (vs++[as4 a c vs x])
  exact⟨as4 a c vs x::t,by rw[b8,e];simp⟩
theorem aK3 {a c:Int}{l:List Stp}{k i:Nat}(hk:k<=l.length)(h:i<k):(vl a c (l.take k)).getD i 0=(vl a c l).getD i 0:=by
 obtain⟨t,e⟩:=aU9 (a:=a) (c:=c) (l.drop k) (vl a c (l.take k))
 have:vl a c l=vl a c (l.take k)++t:=by
  rw[<-e]
  conv=>lhs;rw[<-gP k l]
  unfold vl;rw[dW]
 have hl:=ar6 (a:=a) (c:=c) (l:=l) k hk
 rw[this,aN,aN,aA (by omega)]
theorem cb7 {a c:Int}{l:List Stp}{k:Nat}{x:Stp}(h:l[k]?=some x):(vl a c l).getD k 0=as4 a c (vl a c (l.take k)) x:=by
 have hk:=(ae.mp h).1
 rw[<-aK3 (k:=k+1) (by omega) (db k),aw3 h]
 have hl:=ar6 (a:=a) (c:=c) (l:=l) k (by omega)
 rw[aN,ak (by omega),hl,dS];rfl
section
variable {P:Pr} [Has P ad6] [Has P qT] [HasL P z8] [HasL P z7] [HasL P qa] [Has P ad9]
end
section
variable {P:Pr} [Has P qr] [Has P qP] [Has P qV] [Has P ab2] [Has P zR] [Has P zw] [HasL P zh] [Has P ja] [HasL P zT] [Has P qe] [HasL P zD] [Has P jt] [Has P ax6] [HasC P "product" (.fn "product")] [HasC P "power" (.fn "power")] [Has P ad6] [Has P jr] [HasL P qG]
theorem bo5 {α:Type}{n:Nat}(h:1<=n)(W:Nat->α):((aw n).map W)[((aw n).map W).length - 1]?=some (W (n - 1)):=by
 rw[aC,fI,ax,bN (by omega)];rfl
theorem aY1 {s:Sto}(hs:s.all O.ncl=true){W:Nat->D}(h:∀ k,(W k).ncl=true)(k:Nat):(s++[O.lst ((aw k).map W)]).all O.ncl=true :=
 am9 hs (qL λ d hd=>by obtain⟨x,_,rfl⟩:=aS.mp hd;exact h x)
end
noncomputable def Stp.r (c:Nat):Stp->Rst
 | .let_ x=>.let_ x
 | .pair i j=>.pair i j
 | .sharp i=>.times i c
theorem Stp.t_r (c:Nat)(l:List Stp):l.map (Stp.t (c:Int))=(l.map (Stp.r c)).map Rst.d:=by
 rw[dU]
 exact dh λ x _=>by cases x<;>rfl
theorem ah4.b {l:List Stp}(h:ah4 l)(c:Nat):bJ1 (l.map (Stp.r c)):=λ k x e=>by
 rw[ax,bR]at e
 obtain⟨y,hy,rfl⟩:=e
 have:=h k y hy
 cases y with
 | let_ x=>trivial
 | pair i j=>exact⟨this.1,this.2.1⟩
 | sharp i=>exact this.1
section
variable {P:Pr} [Has P ad9] [Has P ab2] [Has P af2]
theorem ap1 (n:Nat){l:List Stp}(hl:l.length<=5100){m:Mc}(h:m.Ok)(q:Nat)(s:Sto) :
  (aa1 P (n+2)).call "unrolled" [m.d,.tup (l.map Stp.d),.int (q:Int)] s=.ok (.ref s.length) (s++[.lst ((l.map (Stp.r ((q+1)*m.R))).map Rst.d)]):=by
 have y:=h.R5
 have e2:(aa1 P (n+2)).call "unrolled" [m.d,.tup (l.map Stp.d),.int (q:Int)] s=_:=zA af2 (n:=n+1) rfl
 have p:mulOk ((q:Int)+1) (m.R:Int)=true:=av7 (by omega)
 have e:((q:Int)+1)*(m.R:Int)=(((q+1)*m.R:Nat):Int):=by rw[du];rfl
 rw[e2,show(cH some [m.d,D.tup (l.map Stp.d),D.int (q:Int)]++av af2.vs none)=[some m.d,some (D.tup (l.map Stp.d)),some (.int (q:Int))]from rfl]
 simp -implicitDefEqProofs only[af2,za,zu,ad4,qk,z5,zQ,zq,jj,zG,zI,zr,zt,R.bind_ok,ab4,aH9 n,ah3 p,aG4 n hl,ab1,ab0]
 rw[e,<-Stp.t_r]
 exact ao5 bq8
theorem bb5 {L:List D}{s:Sto}:∀ t,aF7 (.ref s.length) (s++[.lst L]++t)=.ok ⟨L,[s.length]⟩ (s++[.lst L]++t):=λ t=>by
 simp only[aF7,show(s++[O.lst L]++t)[s.length]?=some (.lst L)from zJ aL6]
variable [Has P qr] [Has P qP] [Has P qV] [Has P zR] [Has P zw] [HasL P zh] [Has P ja] [HasL P zT] [Has P qe] [HasL P zD] [Has P jt] [Has P ax6] [HasC P "product" (.fn "product")] [HasC P "power" (.fn "power")] [Has P ad6] [Has P jr] [HasL P qG] [Has P jh]
end
noncomputable def bg (w:List Nat):List Nat:=w.take 2001
theorem cd7 (w:List Nat):bg (bg w)=bg w:=by unfold bg;rw[hV];rfl
theorem bM2 (v w:List Nat):bg (bg v++bg w)=bg (v++w):=by
 unfold bg
 rw[jX,jX,hV,hV,br]
 by_cases h:v.length<=2001
 ·rw[show min (2001 - min 2001 v.length) 2001=2001 - v.length by omega];simp
 ·rw[show min (2001 - min 2001 v.length) 2001=2001 - v.length by omega];simp
theorem bM4 {w:List Nat}(h:1<=w.length){p:Nat}(y:1<=p):bg (rep (min p (2000 / (bg w).length+1)) (bg w))=bg (rep p w):=by
 by_cases hw:w.length<=2000
 ·have e:bg w=w:=b7 (by omega)
  rw[e]
  by_cases hm:p<=2000 / w.length+1
  ·rw[j8 hm]
  ·rw[fY (by omega)]
   obtain⟨t,rfl⟩:∃ t,p=(2000 / w.length+1)+t:=⟨p - (2000 / w.length+1),by omega⟩
   rw[aH0 w t (2000 / w.length+1)]
   unfold bg
   rw[cO]
   rw[rep_len,dD,Nat.mul_one]
   have:=Nat.div_add_mod 2000 w.length
   have:=kD 2000 (show w.length > 0 by omega)
   omega
 ·have e:(bg w).length=2001:=by unfold bg;rw[br];omega
  rw[e,show 2000 / 2001+1=1 from rfl,fY y,bL3,cd7]
  obtain⟨t,rfl⟩:∃ t,p=1+t:=⟨p - 1,by omega⟩
  rw[aH0,bL3]
  unfold bg
  rw[cO (by omega)]
section
variable {P:Pr} [HasC P "MOST_WRITTEN" (.int 2000)] [Has P ah6] [Has P ab8]
theorem aL0 (n:Nat)(w:List Nat)(s:Sto):(aa1 P (n+1)).call "begun" [.str w] s=.ok (.str (bg w)) s:=by
 have y:(aa1 P (n+1)).call "begun" [.str w] s=_:=zA ah6 (n:=n) rfl
 have g1:=λ ρ s=>ar8 (P:=P) (n:=n) (x := "MOST_WRITTEN") (d:=.int 2000) ρ s
 have p:∀ s,slM (.str w) none (some ((2000:Int)+1)) s=.ok (.str (bg w)) s:=λ s=>by
  show R.ok (D.str (aF2 w none (some ((2000:Int)+1)))) s=_
  congr 2
  unfold aF2 loB hiB sbd
  dsimp only
  rw[if_pos (by decide),kT,fu]
  unfold bg
  rw[show((2000:Int)+1).toNat=2001 from rfl]
  by_cases h:w.length<=2001
  ·rw[fY h,b7 (am _),b7 h]
  ·rw[j8 (by omega)]
 rw[y,show(cH some [D.str w]++av ah6.vs none)=[some (.str w)]from rfl,show ah6.body=(.cons (.ret (.slU (.var 0) (.bin .add (.glob "MOST_WRITTEN") (.cst (.int 1))))) .nil)from rfl]
 simp -implicitDefEqProofs only[za,zu,qD,ad0,ad4,af9,ad5,af5,aa5,ac9,ac8,af1,zq,zG,jj,af0,qB,ae3,ah1,ad8,ad1,ad7,jk,qk,ag3,ag1,ae7,af3,ac6,qH,af4,ac7,zz,zx,zQ,z5,ac0,jv,ab9,ah0,zI,ae9,je,R.bind_ok,zg,aa3,aa4,aa2,zZ,zM,aa6,aa9,zr,zt,aq,aK,zB,ze,ab1,aa7,ab0,aa8,ab4,ab5,ae1,ae4,ad3,ae6,ae5,ae8,jy,qd,if_true,if_false,au,decide_true,decide_false,aU,aR,bK3,g1,p]
 exact zU (λ _=>rfl) (by nofun)
theorem as5 (n:Nat){w:List Nat}(h:1<=w.length){p:Nat}(h1:1<=p)(s:Sto):(aa1 P (n+2)).call "begun_times" [.str (bg w),.int (p:Int)] s=.ok (.str (bg (rep p w))) s:=by
 have Y:(aa1 P (n+2)).call "begun_times" [.str (bg w),.int (p:Int)] s=_:=zA ab8 (n:=n+1) rfl
 have g1:=λ ρ s=>ar8 (P:=P) (n:=n+1) (x := "MOST_WRITTEN") (d:=.int 2000) ρ s
 have Z:1<=(bg w).length:=by unfold bg;rw[br];omega
 have a0:(bg w).length<=2001:=by unfold bg;rw[br];omega
 have hd:qN .fdiv (.int 2000) (.int ((bg w).length:Int)) s=.ok (.int ((2000 / (bg w).length:Nat):Int)) s:=by
  rw[az3 (by omega) (Int.lt_of_le_of_lt (show((bg w).length:Int)<=2001 by omega) (by decide))];rfl
 have y:(if(2000 / (bg w).length:Nat)+1<(p:Int)then((2000 / (bg w).length:Nat):Int)+1 else(p:Int))=((min p (2000 / (bg w).length+1):Nat):Int):=by
  split<;>omega
 have hq:2000 / (bg w).length<=2000:=Nat.div_le_self _ _
 have G:∀ s,qN .mul (.str (bg w)) (.int ((min p (2000 / (bg w).length+1):Nat):Int)) s=.ok (.str (rep (min p (2000 / (bg w).length+1)) (bg w))) s:=λ s=>by
  have hx:(bg w).length*min p (2000 / (bg w).length+1)<=10000:=by
   refine ao (Nat.mul_le_mul_left _ (fU _ _)) ?_
   rw[dD,Nat.mul_one]
   have:=Nat.mul_div_le 2000 (bg w).length
   omega
  have J:min p (2000 / (bg w).length+1)<=2001:=ao (fU _ _) (Nat.succ_le_succ hq)
  generalize min p (2000 / (bg w).length+1)=M at hx J ⊢
  rw[bv7 ⟨by omega,by omega,by rw[ci];unfold LIM;omega⟩,ci]
 have e1:=aL0 (P:=P) n (rep (min p (2000 / (bg w).length+1)) (bg w)) s
 rw[bM4 h h1]at e1
 rw[Y,show(cH some [D.str (bg w),D.int (p:Int)]++av ab8.vs none)=[some (.str (bg w)),some (.int (p:Int)),none]from rfl,show ab8.body=(.cons (.asg (.one 2) (.bin .add (.bin .fdiv (.glob "MOST_WRITTEN") (.bi .len (.cons (.var 0) .nil))) (.cst (.int 1)))) (.cons (.ret (.call "begun" (.ex (.bin .mul (.var 0) (.bi .min2 (.cons (.var 1) (.cons (.var 2) .nil)))) .nil))) .nil))from rfl]
 simp -implicitDefEqProofs only[za,zu,qD,ad0,ad4,af9,ad5,af5,aa5,ac9,ac8,af1,zq,zG,jj,af0,qB,ae3,ah1,ad8,ad1,ad7,jk,qk,ag3,ag1,ae7,af3,ac6,qH,af4,ac7,zz,zx,zQ,z5,ac0,jv,ab9,ah0,zI,ae9,je,R.bind_ok,zg,aa3,aa4,aa2,zZ,zM,aa6,aa9,zr,zt,aq,aK,zB,ze,ab1,aa7,ab0,aa8,ab4,ab5,ae1,ae4,ad3,ae6,ae5,ae8,jy,qd,if_true,if_false,au,decide_true,decide_false,aU,aR,g1,av8,hd,js,y,G,e1]
 exact zU (λ _=>rfl) (by nofun)
def bC8 (l:List Rst):Prop:=∀(k i n:Nat),l[k]?=some (Rst.times i n)->1<=n
theorem bX5 {l:List Rst}(hk:bJ1 l)(hn:bC8 l):∀ k,k<l.length->1<=(wd l k).length:=by
 intro k
 induction k using gF with
 | _ k ih =>
  intro h
  cases e:l[k]? with
  | none=>rw[ah h]at e;cases e
  | some x =>
   have hb:=hk k x e
   cases x with
   | let_ c=>rw[bR3 e];simp
   | pair i j=>rw[bK7 e hb.1 hb.2,aL];have:=ih i hb.1 (cR hb.1 h);omega
   | times i n =>
    have y:=hn k i n e
    have p:=ih i hb (cR hb h)
    rw[bT1 e hb,rep_len]
    exact ao p (Nat.le_mul_of_pos_right _ y)
variable [HasC P "begun_times" (.fn "begun_times")] [Has P ad6] [Has P ae0] [HasL P ac2] [HasL P ac1]
theorem aO7 (n:Nat){l:List Rst}(hl:l.length<=5100)(h1:1<=l.length)(hk:bJ1 l)(hn:bC8 l){s:Sto}(hs:s.all O.ncl=true){y:D}{src:List Nat}(hsr:∀ r∈src,r<s.length)(p:∀ t,aF7 y (s++t)=.ok ⟨l.map Rst.d,src⟩ (s++t)) :
  ex (aa1 P (n+3)) (.asg (.one 1) (.ix (.callC "folded" (.ex (.var 0) (.lam "last_word.1" [] (.lam "last_word.0" [] (.ex (.glob "begun_times") .nil))))) (.neg (.cst (.int 1))))) [some y,none] s=.ok (.next [some y,some (.str (bg (wd l (l.length - 1))))]) (s++[.lst ((aw l.length).map λ k=>D.str (bg (wd l k)))]):=by
 have G:=aY1 hs (W:=λ k=>.str (bg (wd l k))) (λ k=>rfl)
 have hf:=aS0 (P:=P) (n+2) hl hk hsr p (.clo "last_word.1" []) (.clo "last_word.0" []) (.fn "begun_times") (λ k=>.str (bg (wd l k))) (λ _ n=>rfl)
  (λ k ch hv=>by
   refine(aZ9 ac1 (n:=n+1) rfl rfl (by rw[G k];rfl)).trans ?_
   rw[show wd l k=[ch]from bR3 hv]
   exact zU (λ _=>rfl) (by nofun))
  (λ k i j hv=>by
   refine(aZ9 ac2 (n:=n+1) rfl rfl (by rw[G k];rfl)).trans ?_
   obtain⟨h,hj⟩:=hk k _ hv
   have e1:=aL0 (P:=P) n (bg (wd l i)++bg (wd l j)) (s++[.lst ((aw k).map λ k=>D.str (bg (wd l k)))])
   rw[bM2]at e1
   have hb:∀ v:List Nat,(bg v).length<=2001:=λ v=>by unfold bg;rw[br];omega
   have Z:∀ s,qN .add (.str (bg (wd l i))) (.str (bg (wd l j))) s=.ok (.str (bg (wd l i)++bg (wd l j))) s:=λ s=>aV3 (by have:=hb (wd l i);have:=hb (wd l j);unfold LIM;omega)
   rw[bK7 hv h hj]
   show(ev (aa1 P (n+1)) (.call "begun" (.ex (.bin .add (.var 0) (.var 1)) .nil)) [some (.str (bg (wd l i))),some (.str (bg (wd l j)))] _).bind (af7 _)=_
   simp -implicitDefEqProofs only[za,zu,qD,ad0,ad4,af9,ad5,af5,aa5,ac9,ac8,af1,zq,zG,jj,af0,qB,ae3,ah1,ad8,ad1,ad7,jk,qk,ag3,ag1,ae7,af3,ac6,qH,af4,ac7,zz,zx,zQ,z5,ac0,jv,ab9,ah0,zI,ae9,je,R.bind_ok,zg,aa3,aa4,aa2,zZ,zM,aa6,aa9,zr,zt,aq,aK,zB,ze,ab1,aa7,ab0,aa8,ab4,ab5,ae1,ae4,ad3,ae6,ae5,ae8,jy,qd,if_true,if_false,au,decide_true,decide_false,aU,aR,Z,e1]
   exact zU (λ _=>rfl) (by nofun))
  (λ k i q hv=>by
   have h:=hk k _ hv
   rw[bT1 hv h]
   have J:=(ae.mp hv).1
   exact as5 (P:=P) n (bX5 hk hn i (cR h J)) (hn k i q hv) _)
 have g1:=λ ρ s=>ar8 (P:=P) (n:=n+3) (x := "begun_times") (d:=.fn "begun_times") ρ s
 have Y:=aL5 (aL6 (s:=s)) (bo5 h1 λ k=>D.str (bg (wd l k)))
 simp -implicitDefEqProofs only[qD,jk,bi2,z5,zq,zr,zt,R.bind_ok]
 rw[aN6 (cs:=[]) _ rfl,aN6 (cs:=[]) _ rfl]
 simp -implicitDefEqProofs only[z5,zQ,g1,R.bind_ok,hf]
 rw[if_pos (by rw[G l.length];rfl)]
 simp -implicitDefEqProofs only[za,zu,qD,ad0,ad4,af9,ad5,af5,aa5,ac9,ac8,af1,zq,zG,jj,af0,qB,ae3,ah1,ad8,ad1,ad7,jk,qk,ag3,ag1,ae7,af3,ac6,qH,af4,ac7,zz,zx,zQ,z5,ac0,jv,ab9,ah0,zI,ae9,je,R.bind_ok,zg,aa3,aa4,aa2,zZ,zM,aa6,aa9,zr,zt,aq,aK,zB,ze,ab1,aa7,ab0,aa8,ab4,ab5,ae1,ae4,ad3,ae6,ae5,ae8,jy,qd,if_true,if_false,au,decide_true,decide_false,aU,aR,aZ2,Y]
theorem aB5 (n:Nat){l:List Rst}(hl:l.length<=5100)(J:1<=l.length)(hk:bJ1 l)(hn:bC8 l){s:Sto}(hs:s.all O.ncl=true){h:D}{src:List Nat}(hsr:∀ r∈src,r<s.length)(p:∀ t,aF7 h (s++t)=.ok ⟨l.map Rst.d,src⟩ (s++t))(hw:(wd l (l.length - 1)).length<=2000) :
  (aa1 P (n+4)).call "last_word" [h] s=.ok (.str (wd l (l.length - 1))) s:=by
 have y:(aa1 P (n+4)).call "last_word" [h] s=_:=zA ae0 (n:=n+3) rfl
 have e1:=aO7 (P:=P) n hl J hk hn hs hsr p
 have G:=λ ρ s=>ar8 (P:=P) (n:=n+3) (x := "MOST_WRITTEN") (d:=.int 2000) ρ s
 have eb:bg (wd l (l.length - 1))=wd l (l.length - 1):=b7 (by omega)
 rw[eb]at e1
 rw[y,show(cH some [h]++av ae0.vs none)=[some h,none]from rfl,show ae0.body=(.cons (.asg (.one 1) (.ix (.callC "folded" (.ex (.var 0) (.lam "last_word.1" [] (.lam "last_word.0" [] (.ex (.glob "begun_times") .nil))))) (.neg (.cst (.int 1))))) (.cons (.ite (.cmp .gt (.bi .len (.cons (.var 1) .nil)) (.glob "MOST_WRITTEN")) (.cons .raise .nil) .nil) (.cons (.ret (.var 1)) .nil)))from rfl,za,e1]
 simp -implicitDefEqProofs only[za,zu,qD,ad0,ad4,af9,ad5,af5,aa5,ac9,ac8,af1,zq,zG,jj,af0,qB,ae3,ah1,ad8,ad1,ad7,jk,qk,ag3,ag1,ae7,af3,ac6,qH,af4,ac7,zz,zx,zQ,z5,ac0,jv,ab9,ah0,zI,ae9,je,R.bind_ok,zg,aa3,aa4,aa2,zZ,zM,aa6,aa9,zr,zt,aq,aK,zB,ze,ab1,aa7,ab0,aa8,ab4,ab5,ae1,ae4,ad3,ae6,ae5,ae8,jy,qd,if_true,if_false,au,decide_true,decide_false,aU,aR,av8,G,show((2000:Int)<((wd l (l.length - 1)).length:Int))=False from eq_false (by omega)]
 exact qc (λ _=>rfl) (by nofun)
variable [Has P ad9] [Has P ab2] [Has P af2] [Has P ab3]
theorem jg (n:Nat){l:List Stp}(hl:l.length<=5100)(J:1<=l.length)(hk:ah4 l){m:Mc}(p:m.Ok)(q:Nat){s:Sto}(hs:s.all O.ncl=true)(hw:(wd (l.map (Stp.r ((q+1)*m.R))) (l.length - 1)).length<=2000) :
  (aa1 P (n+5)).call "word_unrolled" [m.d,.tup (l.map Stp.d),.int (q:Int)] s=.ok (.str (wd (l.map (Stp.r ((q+1)*m.R))) (l.length - 1))) s:=by
 have G:(aa1 P (n+5)).call "word_unrolled" [m.d,.tup (l.map Stp.d),.int (q:Int)] s=_:=zA ab3 (n:=n+4) rfl
 have e1:=ap1 (P:=P) (n+2) hl p q s
 have Y:(s++[O.lst ((l.map (Stp.r ((q+1)*m.R))).map Rst.d)]).all O.ncl=true:=by rw[<-Stp.t_r];exact am9 hs bs7
 have hn:bC8 (l.map (Stp.r ((q+1)*m.R))):=λ k i n e=>by
  rw[ax,bR]at e
  obtain⟨y,_,h⟩:=e
  cases y<;>cases h
  exact j2 (by omega) p.R1
 have e2:=aB5 (P:=P) n (l:=l.map (Stp.r ((q+1)*m.R))) (by rw[aC];exact hl) (by rw[aC];exact J) (hk.b _) hn Y (src:=[s.length]) (by simp) (bb5 (s:=s)) (by rw[aC];exact hw)
 rw[aC]at e2
 rw[G,show(cH some [m.d,D.tup (l.map Stp.d),D.int (q:Int)]++av ab3.vs none)=[some m.d,some (D.tup (l.map Stp.d)),some (.int (q:Int))]from rfl,show ab3.body=(.cons (.ret (.call "last_word" (.ex (.call "unrolled" (.ex (.var 0) (.ex (.var 1) (.ex (.var 2) .nil)))) .nil))) .nil)from rfl]
 simp -implicitDefEqProofs only[za,zu,qD,ad0,ad4,af9,ad5,af5,aa5,ac9,ac8,af1,zq,zG,jj,af0,qB,ae3,ah1,ad8,ad1,ad7,jk,qk,ag3,ag1,ae7,af3,ac6,qH,af4,ac7,zz,zx,zQ,z5,ac0,jv,ab9,ah0,zI,ae9,je,R.bind_ok,zg,aa3,aa4,aa2,zZ,zM,aa6,aa9,zr,zt,aq,aK,zB,ze,ab1,aa7,ab0,aa8,ab4,ab5,ae1,ae4,ad3,ae6,ae5,ae8,jy,qd,if_true,if_false,au,decide_true,decide_false,aU,aR,e1,e2]
 exact qc (λ _=>rfl) (by nofun)
end
section
variable {P:Pr} [Has P aj7] [Has P aw8]
end
section
variable {P:Pr} [Has P aj7] [Has P aw8] [Has P ao3]
end
noncomputable def bq3 (m:Nat)(f:Nat->Nat->Option Int):Sto:=(aw m).map λ i=>.lst (rowO m (f i))
@[simp] theorem bJ0 {m:Nat} {f:Nat->Nat->Option Int}:(bq3 m f).length=m:=by unfold bq3;simp
section
variable {P:Pr} [Has P aj7] [Has P aw8] [Has P ao3] [Has P jf] [Has P aY0]
end
structure Gx (ns:List Int)(r:Nat)(u:Sto):Prop where
 scr:u[0]?=some (.ro (ns.map D.int))
 ncl:u.all O.ncl=true
 box:∃ b,u[r]?=some (qt b)
 r0:r≠0
theorem Gx.put {ns:List Int}{r:Nat}{u:Sto}(h:Gx ns r u)(b:Int):Gx ns r (u.set r (qt b)):=⟨by rw[be h.r0];exact h.scr,bF6 h.ncl rfl,as1 (aM8 h.box),h.r0⟩
section
variable {P:Pr} [HasC P "FREE" (.int 0)] [HasC P "SOME" (.int 1)] [HasC P "NONE" (.int 3)] [Has P aA0] [Has P qr] [Has P aE6] [HasL P am1] [Has P qP] [Has P qV] [Has P ab2] [Has P zR] [Has P zw] [HasL P zh] [Has P ja] [HasL P zT] [Has P qe] [HasL P zD] [Has P qb] [Has P am4] [Has P jF] [Has P ap8] [Has P zV] [Has P au6] [Has P bc5] [Has P zE] [HasL P zv]
 [Has P aj8] [Has P ag9] [Has P bt0] [Has P ac4] [Has P bf1] [Has P af6] [Has P ab7] [Has P bd9]
end
section
variable {P:Pr} [Has P aT3] [Has P ay1] [Has P aF5] [HasC P "LETTERS" (.tup cl7)] [Has P aB1] [Has P aT2] [Has P am7] [Has P at2] [Has P aq0]
end
def cn9 (s:Sto)(r most:Nat)(x:R D):Prop:=∃(l:List Stp) (b:Int),ah4 l/\1<=l.length/\l.length<=most/\x=.ok (.tup (l.map Stp.d)) (s.set r (qt b))
theorem bk4 {P:Pr}[Has P ag9][Has P ag8](n:Nat){s:Sto}{r:Nat}(hs:∃ b,s[r]?=some (qt b)){L:Nat}(a1:1<=L)(a3:L<=3)(most:Nat)(h0:1<=most)(hm:most<=100):cn9 s r most ((aa1 P (n+2)).call "_law_tall" [.ref r,.int (L:Int),.int most] s):=by
 have e0:(aa1 P (n+2)).call "_law_tall" [.ref r,.int (L:Int),.int most] s=_:=zA ag8 (n:=n+1) rfl
 have body:ag8.body=.cons (.asg (.one 3) (.lst (.cons (.tup (.cons (.cst (.str [108,101,116,116,101,114])) (.cons (.ix (.cst (.str [97,98,99])) (.call "_law_draw" (.ex (.var 0) (.ex (.var 1) .nil)))) .nil))) .nil))) (.cons (.for_ (.one 4) (.rng1 (.call "_law_draw" (.ex (.var 0) (.ex (.var 2) .nil)))) ce3) (.cons (.ret (.mk .tuple (.seq (.var 3)))) .nil)):=rfl
 have hr:=aM8 hs
 obtain⟨c,b1,hc,e1⟩:=qE (P:=P) n hs (L:Int) (by omega) (qh (by omega))
 obtain⟨d,J,hd,e2⟩:=qR (P:=P) n (t:=[.lst ([Stp.let_ (97+c)].map Stp.d)]) hr b1 most (by omega) (qh (by omega))
 have key:=aI3 (ok:=λ s1=>chk (s.set r (qt J)++[O.lst ([Stp.let_ (97+c)].map Stp.d)]) s1 []) (g:=turn (aa1 P (n+1)) (.one 4) ce3) (λ k ρ t=>∃(l:List Stp) (b:Int) (x:Option D),ah4 l/\l.length=k+1/\ρ=[some (D.ref r),some (.int (L:Int)),some (.int (most:Int)),some (.ref s.length),x]/\t=s.set r (qt b)++[.lst (l.map Stp.d)]) (ai7 0 (d:Int)) 0 [some (D.ref r),some (.int (L:Int)),some (.int (most:Int)),some (.ref s.length),none] (s.set r (qt J)++[O.lst ([Stp.let_ (97+c)].map Stp.d)]) ⟨[.let_ (97+c)],J,none,ah4.nil.snoc (x:=.let_ (97+c)) trivial,rfl,rfl,rfl⟩ (λ _ _ _ _ _=>rfl) (by
  rintro k dd ρ t hk ⟨l,b,x,hl,h,rfl,rfl⟩
  have a2:=(qJ hk).1
  rw[(qJ hk).2]
  rw[cT]at h ⊢
  have Y:(if(1:Int)<(k:Int)then(1:Int)else(k:Int))+1=((min k 1+1:Nat):Int):=by omega
  obtain⟨q,G,hq,f1⟩:=qR (P:=P) n (t:=[.lst (l.map Stp.d)]) hr b ((min k 1+1:Nat):Int) (by omega) (qh (by omega))
  have Z:(k:Int) - (q:Int)=((k - q:Nat):Int):=by omega
  have ap:∀ v,meth .append (.ref s.length) [v] (s.set r (qt G)++[.lst (l.map Stp.d)])=.ok .non (s.set r (qt G)++[.lst (l.map Stp.d++[v])]):=λ v=>bI0 (by unfold LIM;rw[aC];omega)
  refine⟨[some (D.ref r),some (.int (L:Int)),some (.int (most:Int)),some (.ref s.length),some (.int (k:Int))],s.set r (qt G)++[.lst ((l++[Stp.pair k (k - q)]).map Stp.d)],.inl ?_,l++[Stp.pair k (k - q)],G,_,hl.snoc (x:=.pair k (k - q)) ⟨by omega,by omega,.inl (by omega)⟩,by simp[h],rfl,rfl⟩
  unfold turn ce3
  simp -implicitDefEqProofs only[zg,zZ,zM,aq,za,zu,af9,qH,zx,zz,ad1,zG,je,zI,zq,jj,qk,z5,zQ,ag3,zr,zt,R.bind_ok,js,ab4,Y,f1,ab5,Z,ap,ze,bv]
  rfl)
 obtain⟨ρ',s',ek,l,b,x,hl,h,rfl,rfl⟩:=key
 rw[qo,cT]at h
 have a0:(s.set r (qt b)++[O.lst (l.map Stp.d)])[s.length]?=some (.lst (l.map Stp.d)):=by rw[ak (by simp)];simp
 refine⟨l,b,hl,by omega,by omega,?_⟩
 rw[e0,body,show(cH some [D.ref r,.int (L:Int),.int most]++av ag8.vs none)=[some (D.ref r),some (.int (L:Int)),some (.int (most:Int)),none,none]from rfl]
 simp -implicitDefEqProofs only[za,zu,qD,ad7,zx,zz,ad1,zG,je,jk,qk,z5,zQ,zq,zr,zt,R.bind_ok,e1,bd5 (show c<3 by omega),jy,bJ,zg,zZ,zM,aq,zB,ze,ad5,jv]
 have p:[Stp.let_ (97+c)].map Stp.d=[D.tup [.str [108,101,116,116,101,114],.str [97+c]]]:=by simp only[aG,cF,Stp.d]
 rw[p]at e2 ek
 rw[e2]
 simp -implicitDefEqProofs only[R.bind_ok]
 rw[qg (by unfold W62;omega) (by unfold W62;omega)]
 simp -implicitDefEqProofs only[R.bind_ok]
 rw[ek]
 simp -implicitDefEqProofs only[R.bind_ok,ze,za,zu,ad4,ag1,ab9,zq,zr,zt,aT5,a0,mk,ab1,ab0]
 refine ao6 (λ m=>?_) (by nofun) rfl
 unfold D.bnd
 exact qy (λ x hx n=>by obtain⟨y,_,rfl⟩:=aS.mp hx;exact y.bnd n) m
section
variable {P:Pr} [Has P qr] [Has P qP] [Has P qV] [Has P ab2] [Has P zR] [Has P zw] [HasL P zh] [Has P ja] [HasL P zT] [Has P qe] [HasL P zD] [Has P jt] [Has P ax6] [HasC P "product" (.fn "product")] [HasC P "power" (.fn "power")] [Has P ad6] [Has P jr] [HasL P qG] [Has P qb]
 [Has P ad9] [Has P af2] [Has P jh] [Has P qT] [HasL P z8] [HasL P z7] [HasL P qa] [Has P bg3]
 [HasC P "MOST_WRITTEN" (.int 2000)] [Has P ah6] [Has P ab8] [HasC P "begun_times" (.fn "begun_times")] [Has P ae0] [HasL P ac2] [HasL P ac1] [Has P ab3]
 [Has P aj8] [Has P ag9] [Has P ac4] [Has P af6] [Has P ab7] [Has P ag5] [Has P ag7] [Has P aj7] [Has P aw8] [Has P ao3] [Has P jf] [Has P aY0] [Has P ag8] [Has P be1]
theorem cg2 {l:List Stp}(hk:ah4 l)(c:Nat):∀ k,k<l.length->(vl 1 (c:Int) l).getD k 0=((wd (l.map (Stp.r c)) k).length:Int):=by
 intro k
 induction k using gF with
 | _ k ih =>
  intro p
  have hx:l[k]?=some l[k]:=ah p
  have h:(l.map (Stp.r c))[k]?=some (l[k].r c):=by rw[ax,hx];rfl
  have ho:=hk k _ hx
  rw[cb7 hx]
  generalize l[k]=y at hx h ho
  cases y with
  | let_ ch=>rw[bR3 h];rfl
  | pair i j =>
   rw[bK7 h ho.1 ho.2.1,aL,show as4 1 (c:Int) (vl 1 (c:Int) (l.take k)) (.pair i j)=(vl 1 (c:Int) (l.take k)).getD i 0+(vl 1 (c:Int) (l.take k)).getD j 0 from rfl,aK3 (by omega) ho.1,aK3 (by omega) ho.2.1,ih i ho.1 (by have:=ho.1;omega),ih j ho.2.1 (by have:=ho.2.1;omega)]
   omega
  | sharp i =>
   rw[bT1 h ho.1,rep_len,show as4 1 (c:Int) (vl 1 (c:Int) (l.take k)) (.sharp i)=(vl 1 (c:Int) (l.take k)).getD i 0*(c:Int)from rfl,aK3 (by omega) ho.1,ih i ho.1 (by have:=ho.1;omega),du]
theorem Gx.more {ns:List Int}{r:Nat}{u:Sto}(h:Gx ns r u){T:Sto}(hT:T.all O.ncl=true):Gx ns r (u++T):=⟨zJ h.scr,by rw[eR,h.ncl,hT];rfl,by obtain⟨b,hb⟩:=h.box;exact⟨b,zJ hb⟩,h.r0⟩
end
theorem bp3 {s:Sto}{n:Nat}{a:List Nat}:eqv s n (.str a) (.str a)=some true:=by
 cases n with
 | zero=>show ai5 s (.str a) (.str a)=_;simp[ai5,aI6]
 | succ n=>show ai5 s (.str a) (.str a)=_;simp[ai5,aI6]
section
variable {P:Pr} [Has P aj8] [Has P ag9] [Has P aL1] [Has P aq9] [Has P aP6] [Has P ay4] [Has P ag8] [Has P aA9]
 [Has P ad6] [Has P qT] [HasL P z8] [HasL P z7] [HasL P qa] [Has P jG] [Has P qZ]
end
section
variable {P:Pr} [Has P aj8] [Has P ag9] [Has P aL1] [Has P aq9] [Has P aP6] [Has P ay4] [Has P ag8] [Has P aA9]
 [Has P ad6] [Has P qT] [HasL P z8] [HasL P z7] [HasL P qa] [Has P jG] [Has P qZ]
end
class HasX (P:Pr)(f:String)(d:Xf):Prop where
 at_:P.xf f=some d
class HasT (P:Pr)(f:String)(d:Tf):Prop where
 no:P.df f=none
 at_:P.tf f=some d
class HasE (P:Pr)(c:String)(ts:List String):Prop where
 at_:P.xc c=true
 ts:∀ t∈ts,P.xt t=true
theorem aB0 {P:Pr}{f:String}(d:Xf)[h:HasX P f d]{n:Nat}{l:List D}{s:Sto}(hl:l.length=d.ps):(aa1 P (n+1)).xcall f l s=xB (aa1 P n) d.body (l.map some++av d.vs none) s:=by
 show(match P.xf f with|some d=>if l.length=d.ps then xB (aa1 P n) d.body (l.map some++av d.vs none) s else none|none=>none)=_
 rw[h.at_]
 exact if_pos hl
theorem bE8 {P:Pr}{f:String}(d:Tf)[h:HasT P f d]{n:Nat}{l:List D}{s:Sto}(hl:l.length=d.ps):(aa1 P (n+1)).call f l s=bt4 (aa1 P n) d l s:=by
 have e:(aa1 P (n+1)).call f l s=match P.df f with
   | some d=>if l.length=d.ps then(exs (aa1 P n) d.body (l.map some++av d.vs none) s).bind λ c s'=>match c with
     | .ret v=>af7 s v s'
     | .next _=>af7 s .non s'
     | _=>.bad else .bad
   | none=>match P.tf f with
    | some d=>if l.length=d.ps then bt4 (aa1 P n) d l s else .bad
    | none=>.bad:=rfl
 rw[e,h.no]
 show(match P.tf f with|some d=>if l.length=d.ps then bt4 (aa1 P n) d l s else .bad|none=>.bad)=_
 rw[h.at_]
 exact if_pos hl
theorem bE4 {P:Pr}{n:Nat}:(aa1 P n).xc=P.xc/\(aa1 P n).xt=P.xt:=by cases n<;>exact⟨rfl,rfl⟩
noncomputable def ae2:Xf:=⟨1,1,.seq (.asg (.one 1) (.ix (.callC "folded" (.ex (.var 0) (.lam "last_word.1" [] (.lam "last_word.0" [] (.ex (.glob "begun_times") .nil))))) (.neg (.cst (.int 1))))) (.iteT (.cmp .gt (.bi .len (.cons (.var 1) .nil)) (.glob "MOST_WRITTEN")) (.rais "TooLong") .no)⟩
noncomputable def aH8:Xf:=⟨1,0,.call "last_word" (.ex (.var 0) .nil)⟩
noncomputable def aI7:Tf:=⟨1,1,.cons (.ex (.call "long_word" (.ex (.var 0) .nil))) .nil,.call "long_word" (.ex (.var 0) .nil), "TooLong",1,.ret (.not (.isi ["NoMaking", "NotSteady", "TooMuch"])),.cons (.ret (.cst (.bl false))) .nil⟩
section
variable {P:Pr} [HasC P "MOST_WRITTEN" (.int 2000)] [Has P ah6] [Has P ab8] [HasC P "begun_times" (.fn "begun_times")] [Has P ad6] [Has P ae0] [HasL P ac2] [HasL P ac1] [HasX P "last_word" ae2] [HasE P "TooLong" ["NoMaking", "NotSteady", "TooMuch"]]
theorem aH1 (n:Nat){l:List Rst}(hl:l.length<=5100)(J:1<=l.length)(hk:bJ1 l)(hn:bC8 l){s:Sto}(hs:s.all O.ncl=true){h:D}{src:List Nat}(hsr:∀ r∈src,r<s.length)(p:∀ t,aF7 h (s++t)=.ok ⟨l.map Rst.d,src⟩ (s++t))(hw:2000<(wd l (l.length - 1)).length) :
  (aa1 P (n+4)).xcall "last_word" [h] s=some ("TooLong",s++[.lst ((aw l.length).map λ k=>D.str (bg (wd l k)))]):=by
 have y:(aa1 P (n+4)).xcall "last_word" [h] s=_:=aB0 ae2 (n:=n+3) rfl
 have e1:=aO7 (P:=P) n hl J hk hn hs hsr p
 have G:=λ ρ s=>ar8 (P:=P) (n:=n+3) (x := "MOST_WRITTEN") (d:=.int 2000) ρ s
 have eb:(bg (wd l (l.length - 1))).length=2001:=by unfold bg;rw[br];omega
 have hx:(aa1 P (n+3)).xc "TooLong"=true:=by rw[bE4.1];exact HasE.at_ ["NoMaking", "NotSteady", "TooMuch"]
 generalize bg (wd l (l.length - 1))=w at e1 eb
 have e2:∀ s,ev (aa1 P (n+3)) (.cmp .gt (.bi .len (.cons (.var 1) .nil)) (.glob "MOST_WRITTEN")) [some h,some (.str w)] s=.ok (.bl true) s:=λ s=>by
  simp -implicitDefEqProofs only[za,zu,qD,ad0,ad4,af9,ad5,af5,aa5,ac9,ac8,af1,zq,zG,jj,af0,qB,ae3,ah1,ad8,ad1,ad7,jk,qk,ag3,ag1,ae7,af3,ac6,qH,af4,ac7,zz,zx,zQ,z5,ac0,jv,ab9,ah0,zI,ae9,je,R.bind_ok,zg,aa3,aa4,aa2,zZ,zM,aa6,aa9,zr,zt,aq,aK,zB,ze,ab1,aa7,ab0,aa8,ab4,ab5,ae1,ae4,ad3,ae6,ae5,ae8,jy,qd,if_true,if_false,au,decide_true,decide_false,aU,aR,av8,G,eb,show((2000:Int)<((2001:Nat):Int))=True from eq_true (by decide)]
 rw[y,show(cH some [h]++av ae2.vs none)=[some h,none]from rfl,show ae2.body=.seq (.asg (.one 1) (.ix (.callC "folded" (.ex (.var 0) (.lam "last_word.1" [] (.lam "last_word.0" [] (.ex (.glob "begun_times") .nil))))) (.neg (.cst (.int 1))))) (.iteT (.cmp .gt (.bi .len (.cons (.var 1) .nil)) (.glob "MOST_WRITTEN")) (.rais "TooLong") .no)from rfl]
 unfold xB
 rw[e1]
 show xB (aa1 P (n+3)) (.iteT (.cmp .gt (.bi .len (.cons (.var 1) .nil)) (.glob "MOST_WRITTEN")) (.rais "TooLong") .no) [some h,some (.str w)] _=_
 unfold xB
 rw[e2]
 exact if_pos hx
variable [Has P aI9] [HasX P "long_word" aH8] [HasT P "_law_refused" aI7]
variable [Has P aq9] [Has P ay4] [Has P aV4]
end
theorem aQ4 {P:Pr}[Has P ah9](n:Nat){l:List Stp}(hl:ah4 l)(h1:1<=l.length)(J:l.length<=5100){c:Int}(hc:0<=c)(h:c<=2^103)(s:Sto) :
  (aa1 P (n+1)).call "_law_length" [.tup (l.map Stp.d),.int c] s=.ok (.int ((vl 1 c l).getD (l.length - 1) 0)) s:=by
 have Z:(aa1 P (n+1)).call "_law_length" [.tup (l.map Stp.d),.int c] s=_:=zA ah9 (n:=n) rfl
 rw[Z,show(cH some [D.tup (l.map Stp.d),.int c]++av ah9.vs none)=[some (D.tup (l.map Stp.d)),some (.int c),none,none]from rfl]
 simp -implicitDefEqProofs only[ah9]
 simp -implicitDefEqProofs only[za,zu,qD,ad7,zz,R.bind_ok,jy,zg,zZ,zM,aq,zB,ze,ad5,ac0,zq,zr,zt,ay2]
 rw[R.bind_assoc]
 refine ak0 (λ k ρ t=>∃(x:Option D),ρ=[some (D.tup (l.map Stp.d)),some (.int c),some (.ref s.length),x]/\t=s++[.lst (aL7 (vl 1 c (l.take k)))]) ⟨none,rfl,rfl⟩ (λ _ _ _ _ _=>rfl) ?_ ?_
 ·rintro k d ρ t hk ⟨x,rfl,rfl⟩
  rw[ax]at hk
  obtain⟨v,hv,hd⟩:=bR.mp hk
  subst hd
  have a0:=(ae.mp hv).1
  have hok:=hl k v hv
  have p:=ar6 (a:=1) (c:=c) (l:=l) k (by omega)
  have L1:(aL7 (vl 1 c (l.take k))).length<LIM:=by unfold aL7 LIM;rw[aC];omega
  have g0:(s++[O.lst (aL7 (vl 1 c (l.take k)))])[s.length]?=some (.lst (aL7 (vl 1 c (l.take k)))):=aL6
  have B1:=bU2 (a:=1) (c:=c) (by decide) (by decide) hc h hl k (by omega)
  refine aE5 (ρ:=[some (D.tup (l.map Stp.d)),some (.int c),some (.ref s.length),some v.d]) (s:=s++[.lst (aL7 (vl 1 c (l.take (k+1))))]) ?_ ⟨_,rfl,rfl⟩
  rw[aw3 hv]
  unfold turn
  cases v with
  | let_ ch =>
   simp -implicitDefEqProofs only[za,zu,qD,ad0,ad4,af9,ad5,af5,aa5,ac9,ac8,af1,zq,zG,jj,af0,qB,ae3,ah1,ad8,ad1,ad7,jk,qk,ag3,ag1,ae7,af3,ac6,qH,af4,ac7,zz,zx,zQ,z5,ac0,jv,ab9,ah0,zI,ae9,je,R.bind_ok,zg,aa3,aa4,aa2,zZ,zM,aa6,aa9,zr,zt,aq,aK,zB,ze,ab1,aa7,ab0,aa8,ab4,ab5,ae1,ae4,ad3,ae6,ae5,ae8,jy,qd,if_true,if_false,au,decide_true,decide_false,aU,aR,dl0,qu,show(bJ5=[108,101,116,116,101,114])=True from eq_self _,jw L1]
   unfold aL7
   rw[bv]
   rfl
  | pair i j =>
   obtain⟨G,q2,_⟩:=hok
   have y:=qv g0 (be4 (by omega) G)
   have i2:=qv g0 (be4 (by omega) q2)
   simp -implicitDefEqProofs only[za,zu,qD,ad0,ad4,af9,ad5,af5,aa5,ac9,ac8,af1,zq,zG,jj,af0,qB,ae3,ah1,ad8,ad1,ad7,jk,qk,ag3,ag1,ae7,af3,ac6,qH,af4,ac7,zz,zx,zQ,z5,ac0,jv,ab9,ah0,zI,ae9,je,R.bind_ok,zg,aa3,aa4,aa2,zZ,zM,aa6,aa9,zr,zt,aq,aK,zB,ze,ab1,aa7,ab0,aa8,ab4,ab5,ae1,ae4,ad3,ae6,ae5,ae8,jy,qd,if_true,if_false,au,decide_true,decide_false,aU,aR,dp0,dp1,dp2,qu,show(az4=[108,101,116,116,101,114])=False by decide,show(az4=[112,97,105,114])=True from eq_self _,y,i2,jw L1]
   unfold aL7
   rw[bv]
   rfl
  | sharp i =>
   obtain⟨G,_⟩:=hok
   have y:=qv g0 (be4 (by omega) G)
   have hb:=B1 i ((vl 1 c (l.take k)).getD i 0) (by rw[aN,ah (by omega)];rfl)
   have Y:mulOk ((vl 1 c (l.take k)).getD i 0) c=true:=bG9 (bs6 hb.1 (cG hb.2.2.1 (by omega))) (cc1 hc h)
   simp -implicitDefEqProofs only[za,zu,qD,ad0,ad4,af9,ad5,af5,aa5,ac9,ac8,af1,zq,zG,jj,af0,qB,ae3,ah1,ad8,ad1,ad7,jk,qk,ag3,ag1,ae7,af3,ac6,qH,af4,ac7,zz,zx,zQ,z5,ac0,jv,ab9,ah0,zI,ae9,je,R.bind_ok,zg,aa3,aa4,aa2,zZ,zM,aa6,aa9,zr,zt,aq,aK,zB,ze,ab1,aa7,ab0,aa8,ab4,ab5,ae1,ae4,ad3,ae6,ae5,ae8,jy,qd,if_true,if_false,au,decide_true,decide_false,aU,aR,ds0,ds1,qu,show(at5=[108,101,116,116,101,114])=False by decide,show(at5=[112,97,105,114])=False by decide,y,ah3 Y,jw L1]
   unfold aL7
   rw[bv]
   rfl
 ·rintro ρ t ⟨x,rfl,rfl⟩
  rw[aC,jY]
  have p:=ar6 (a:=1) (c:=c) (l:=l) l.length (am _)
  rw[jY]at p
  have il:ixM (.ref s.length) (.int (-1)) (s++[O.lst (aL7 (vl 1 c l))])=.ok (.int ((vl 1 c l).getD (l.length - 1) 0)) (s++[O.lst (aL7 (vl 1 c l))]):=aL5 aL6 (by
   unfold aL7
   rw[aC,p,ax,aN,ah (by omega)];rfl)
  simp -implicitDefEqProofs only[za,zu,qD,ad0,ad4,af9,ad5,af5,aa5,ac9,ac8,af1,zq,zG,jj,af0,qB,ae3,ah1,ad8,ad1,ad7,jk,qk,ag3,ag1,ae7,af3,ac6,qH,af4,ac7,zz,zx,zQ,z5,ac0,jv,ab9,ah0,zI,ae9,je,R.bind_ok,zg,aa3,aa4,aa2,zZ,zM,aa6,aa9,zr,zt,aq,aK,zB,ze,ab1,aa7,ab0,aa8,ab4,ab5,ae1,ae4,ad3,ae6,ae5,ae8,jy,qd,if_true,if_false,au,decide_true,decide_false,aU,aR,aZ2,il]
  exact qc (λ _=>rfl) (by nofun)
noncomputable def bp0:E:=(.cmp .ne (.var 2) (.lst .nil))
noncomputable def bl4:Ss:=(.cons (.asg (.one 4) (.ix (.var 0) (.meth .pop (.var 2) .nil))) (.cons (.ite (.cmp .eq (.ix (.var 4) (.cst (.int 0))) (.cst (.str [108,101,116,116,101,114]))) (.cons (.ex (.meth .append (.var 3) (.cons (.ix (.var 4) (.cst (.int 1))) .nil))) .nil) (.cons (.ite (.cmp .eq (.ix (.var 4) (.cst (.int 0))) (.cst (.str [112,97,105,114]))) (.cons (.asg (.one 2) (.bin .add (.var 2) (.lst (.cons (.ix (.var 4) (.cst (.int 2))) (.cons (.ix (.var 4) (.cst (.int 1))) .nil))))) .nil) (.cons (.asg (.one 2) (.bin .add (.var 2) (.bin .mul (.lst (.cons (.ix (.var 4) (.cst (.int 1))) .nil)) (.var 1)))) .nil)) .nil)) .nil))
theorem bn0:ah8.body=(.cons (.asg (.one 2) (.lst (.cons (.bin .sub (.bi .len (.cons (.var 0) .nil)) (.cst (.int 1))) .nil))) (.cons (.asg (.one 3) (.lst .nil)) (.cons (.whl bp0 bl4) (.cons (.ret (.join (.cst (.str [])) (.var 3))) .nil)))):=rfl
theorem aX3 {F:Fns}{l:List Stp}{c:Nat}(hc:1<=c)(hl:ah4 l){s0:Sto}{q:Nat}:∀ k,k<l.length->∀(s:Sto) (r:Nat) (W u:List Nat) (G:Option D),Wt s0 s r q (W++[k]) u->W.length+(wd (l.map (Stp.r c)) k).length<=5000->u.length+(wd (l.map (Stp.r c)) k).length<=5000 ->
  ∃(s':Sto) (r':Nat) (y3:Option D),Wt s0 s' r' q W (u++wd (l.map (Stp.r c)) k)/\whl (ev F bp0) (exs F bl4) [some (.tup (l.map Stp.d)),some (.int (c:Int)),some (.ref r),some (.ref q),G] s=whl (ev F bp0) (exs F bl4) [some (.tup (l.map Stp.d)),some (.int (c:Int)),some (.ref r'),some (.ref q),y3] s':=by
 intro k
 have hN:bC8 (l.map (Stp.r c)):=λ k i n e=>by
  rw[ax,bR]at e
  obtain⟨y,_,h⟩:=e
  cases y<;>cases h
  exact hc
 have pos:∀ i,i<l.length->1<=(wd (l.map (Stp.r c)) i).length:=λ i J=>bX5 (hl.b c) hN i (by rw[aC];exact J)
 induction k using gF with
 | _ k ih =>
  intro hk s r W u G h hW hu
  have hx:=ah hk
  have hok:=hl k _ hx
  have hX:(l.map (Stp.r c))[k]?=some (l[k].r c):=by rw[ax,hx];rfl
  generalize l[k]=x at hok hx hX
  have p:∀ t,ixM (.tup (l.map Stp.d)) (.int (k:Int)) t=.ok x.d t:=λ t=>ix_tup (by rw[ax,hx];rfl)
  have hr:=(ae.mp h.gr).1
  have hq:=(ae.mp h.gq).1
  have a0:ev F bp0 [some (.tup (l.map Stp.d)),some (.int (c:Int)),some (.ref r),some (.ref q),G] s=.ok (.bl true) (s++[.lst []]):=by
   unfold bp0
   simp -implicitDefEqProofs only[za,zu,qD,ad0,ad4,af9,ad5,af5,aa5,ac9,ac8,af1,zq,zG,jj,af0,qB,ae3,ah1,ad8,ad1,ad7,jk,qk,ag3,ag1,ae7,af3,ac6,qH,af4,ac7,zz,zx,zQ,z5,ac0,jv,ab9,ah0,zI,ae9,je,R.bind_ok,zg,aa3,aa4,aa2,zZ,zM,aa6,aa9,zr,zt,aq,aK,zB,ze,ab1,aa7,ab0,aa8,ab4,ab5,ae1,ae4,ad3,ae6,ae5,ae8,jy,qd,if_true,if_false,au,decide_true,decide_false,aU,aR,br5 (zJ h.gr) aL6,show(zY (W++[k])=[])=False by rw[aj4];simp[zY]]
  have h9:s[r]?=some (O.lst (zY W++[D.int (k:Int)])):=by have:=h.gr;rwa [aj4]at this
  have hp:meth .pop (.ref r) [] (s++[O.lst []])=.ok (.int (k:Int)) ((s++[O.lst []]).set r (.lst (zY W))):=bx0 (zJ h9)
  generalize Z:(s++[O.lst []]).set r (.lst (zY W))=s2 at hp
  have l2:s2.length=s.length+1:=by rw[<-Z];simp
  have Y:Wt s0 s2 r q W u:=by
   refine⟨?_,h.q0,h.r0,h.rq,?_,?_⟩
   ·rw[<-Z];exact aW4 (al6 h.pre) h.r0
   ·rw[<-Z];exact aw9 (by simp;omega)
   ·rw[<-Z,be h.rq];exact zJ h.gq
  cases x with
  | let_ c' =>
   refine⟨s2.set q (O.lst (sg (u++[c']))),r,some (Stp.let_ c').d,⟨aW4 Y.pre h.q0,h.q0,h.r0,h.rq,?_,?_⟩,ax9 a0 ?_⟩
   ·rw[be (cy h.rq)];exact Y.gr
   ·rw[bR3 hX];exact aw9 (by omega)
   ·unfold bl4
    simp -implicitDefEqProofs only[za,zu,qD,ad0,ad4,af9,ad5,af5,aa5,ac9,ac8,af1,zq,zG,jj,af0,qB,ae3,ah1,ad8,ad1,ad7,jk,qk,ag3,ag1,ae7,af3,ac6,qH,af4,ac7,zz,zx,zQ,z5,ac0,jv,ab9,ah0,zI,ae9,je,R.bind_ok,zg,aa3,aa4,aa2,zZ,zM,aa6,aa9,zr,zt,aq,aK,zB,ze,ab1,aa7,ab0,aa8,ab4,ab5,ae1,ae4,ad3,ae6,ae5,ae8,jy,qd,if_true,if_false,au,decide_true,decide_false,aU,aR,hp,p,dl0,show ∀ s,ixM (Stp.let_ c').d (.int 1) s=.ok (.str [c']) s from λ _=>rfl,qu,show(bJ5=[108,101,116,116,101,114])=True from eq_self _,z9 Y.gq (by rw[bL1];unfold LIM;omega),bQ8]
    rfl
  | pair i j =>
   obtain⟨J,hj,_⟩:=hok
   rw[bK7 hX J hj,aL]at hW hu
   have b1:=pos i (by omega)
   have b2:=pos j (by omega)
   have g1:(s2++[O.lst [D.int (j:Int),D.int (i:Int)]]++[O.lst (zY W++[D.int (j:Int),D.int (i:Int)])])[(s2++[O.lst [D.int (j:Int),D.int (i:Int)]]).length]?=some (.lst (zY (W++[j]++[i]))):=by
    rw[aL6,aj4,aj4,bw];rfl
   have w3:Wt s0 (s2++[O.lst [D.int (j:Int),D.int (i:Int)]]++[O.lst (zY W++[D.int (j:Int),D.int (i:Int)])]) (s2++[O.lst [D.int (j:Int),D.int (i:Int)]]).length q (W++[j]++[i]) u:=⟨al6 (al6 Y.pre),h.q0,by have:=h.r0;simp;omega,by simp;omega,g1,zJ (zJ Y.gq)⟩
   obtain⟨s4,r4,y4,w4,e4⟩:=ih i J (by omega) _ _ _ _ (some (Stp.pair i j).d) w3 (by simp only[aL,aY,cj];omega) (by omega)
   obtain⟨s5,r5,y5,w5,e5⟩:=ih j hj (by omega) _ _ _ _ y4 w4 (by omega) (by rw[aL];omega)
   refine⟨s5,r5,y5,by rw[bK7 hX J hj,<-bw];exact w5,?_⟩
   rw[<-e5,<-e4]
   refine ax9 a0 ?_
   unfold bl4
   have ha:=cj3 (s:=s2++[O.lst [D.int (j:Int),D.int (i:Int)]]) (a:=r) (b:=s2.length) (zJ Y.gr) aL6 (by rw[aN4];unfold LIM;simp;omega)
   simp -implicitDefEqProofs only[za,zu,qD,ad0,ad4,af9,ad5,af5,aa5,ac9,ac8,af1,zq,zG,jj,af0,qB,ae3,ah1,ad8,ad1,ad7,jk,qk,ag3,ag1,ae7,af3,ac6,qH,af4,ac7,zz,zx,zQ,z5,ac0,jv,ab9,ah0,zI,ae9,je,R.bind_ok,zg,aa3,aa4,aa2,zZ,zM,aa6,aa9,zr,zt,aq,aK,zB,ze,ab1,aa7,ab0,aa8,ab4,ab5,ae1,ae4,ad3,ae6,ae5,ae8,jy,qd,if_true,if_false,au,decide_true,decide_false,aU,aR,hp,p,dp0,dp1,dp2,qu,show(az4=[108,101,116,116,101,114])=False by decide,show(az4=[112,97,105,114])=True from eq_self _,ha]
  | sharp i =>
   obtain⟨J,_⟩:=hok
   rw[bT1 hX J,rep_len]at hW hu
   have b1:=pos i (by omega)
   have bn:c<=(wd (l.map (Stp.r c)) i).length*c:=Nat.le_mul_of_pos_left c (by omega)
   have rl:(am8 c [D.int (i:Int)]).length=c:=by rw[aP2];simp
   have go:∀ m s r u G,Wt s0 s r q (W++av m i) u->W.length+m+(wd (l.map (Stp.r c)) i).length<=5001->u.length+(wd (l.map (Stp.r c)) i).length*m<=5000->m<=c ->
     ∃(s':Sto) (r':Nat) (y3:Option D),Wt s0 s' r' q W (u++rep m (wd (l.map (Stp.r c)) i))/\whl (ev F bp0) (exs F bl4) [some (.tup (l.map Stp.d)),some (.int (c:Int)),some (.ref r),some (.ref q),G] s=whl (ev F bp0) (exs F bl4) [some (.tup (l.map Stp.d)),some (.int (c:Int)),some (.ref r'),some (.ref q),y3] s':=by
    intro m
    induction m with
    | zero=>intro s r u G hw _ _ _;exact⟨s,r,G,by simpa [rep]using hw,rfl⟩
    | succ m ihm =>
     intro s r u G hw hb hu hm
     rw[List.replicate_succ',<-bw]at hw
     rw[kN]at hu
     obtain⟨s4,r4,y4,w4,e4⟩:=ih i J (by omega) _ _ _ _ G hw (by simp only[aL,gH];omega) (by omega)
     obtain⟨s5,r5,y5,w5,e5⟩:=ihm s4 r4 (u++wd (l.map (Stp.r c)) i) y4 w4 (by omega) (by rw[aL];omega) (by omega)
     exact⟨s5,r5,y5,by rw[show rep (m+1) (wd (l.map (Stp.r c)) i)=wd (l.map (Stp.r c)) i++rep m (wd (l.map (Stp.r c)) i)from rfl,<-bw];exact w5,e4.trans e5⟩
   have g1:(s2++[O.lst [D.int (i:Int)]]++[O.lst (am8 c [D.int (i:Int)])]++[O.lst (zY W++am8 c [D.int (i:Int)])])[(s2++[O.lst [D.int (i:Int)]]++[O.lst (am8 c [D.int (i:Int)])]).length]?=some (.lst (zY (W++av c i))):=by
    rw[aL6,aj4,aU7]
   have a1:(wd (l.map (Stp.r c)) i).length+c<=(wd (l.map (Stp.r c)) i).length*c+1:=by
    obtain⟨a,ha⟩:∃ a,(wd (l.map (Stp.r c)) i).length=a+1:=⟨_,(fZ b1).symm⟩
    obtain⟨b,hb⟩:∃ b,c=b+1:=⟨_,(fZ hc).symm⟩
    rw[ha,hb,Nat.add_mul,dD];omega
   obtain⟨s5,r5,y5,w5,e5⟩:=go c _ _ u (some (Stp.sharp i).d) ⟨al6 (al6 (al6 Y.pre)),h.q0,by have:=h.r0;simp;omega,by simp;omega,g1,zJ (zJ (zJ Y.gq))⟩ (by omega) (by omega) (am _)
   refine⟨s5,r5,y5,by rw[bT1 hX J];exact w5,?_⟩
   rw[<-e5]
   refine ax9 a0 ?_
   unfold bl4
   have hm:=co0 (s:=s2++[O.lst [D.int (i:Int)]]) (a:=s2.length) (k:=c) aL6 (by omega) (by unfold LIM;simp;omega)
   have ha:=cj3 (s:=s2++[O.lst [D.int (i:Int)]]++[O.lst (am8 c [D.int (i:Int)])]) (a:=r) (b:=(s2++[O.lst [D.int (i:Int)]]).length) (zJ (zJ Y.gr)) aL6 (by rw[aN4,rl];unfold LIM;omega)
   simp -implicitDefEqProofs only[za,zu,qD,ad0,ad4,af9,ad5,af5,aa5,ac9,ac8,af1,zq,zG,jj,af0,qB,ae3,ah1,ad8,ad1,ad7,jk,qk,ag3,ag1,ae7,af3,ac6,qH,af4,ac7,zz,zx,zQ,z5,ac0,jv,ab9,ah0,zI,ae9,je,R.bind_ok,zg,aa3,aa4,aa2,zZ,zM,aa6,aa9,zr,zt,aq,aK,zB,ze,ab1,aa7,ab0,aa8,ab4,ab5,ae1,ae4,ad3,ae6,ae5,ae8,jy,qd,if_true,if_false,au,decide_true,decide_false,aU,aR,hp,p,ds0,ds1,qu,show(at5=[108,101,116,116,101,114])=False by decide,show(at5=[112,97,105,114])=False by decide,hm,ha]
theorem bm5 {P:Pr}[Has P ah8](n:Nat){l:List Stp}(h1:1<=l.length)(hl:ah4 l){c:Nat}(hc:1<=c)(hL:(wd (l.map (Stp.r c)) (l.length - 1)).length<=2500)(s:Sto) :
  (aa1 P (n+1)).call "_law_word" [.tup (l.map Stp.d),.int (c:Int)] s=.ok (.str (wd (l.map (Stp.r c)) (l.length - 1))) s:=by
 have Z:(aa1 P (n+1)).call "_law_word" [.tup (l.map Stp.d),.int (c:Int)] s=_:=zA ah8 (n:=n) rfl
 have Y:Wt s (s++[O.lst [D.int ((l.length - 1:Nat):Int)]]++[O.lst []]) s.length (s++[O.lst [D.int ((l.length - 1:Nat):Int)]]).length ([]++[l.length - 1]) []:=⟨⟨_,bw _ _ _⟩,by simp,am _,by simp,zJ (by rw[aL6];rfl),by rw[aL6];rfl⟩
 obtain⟨s',J,G,p,e'⟩:=aX3 (F:=aa1 P n) hc hl (l.length - 1) (by omega) _ _ _ _ none Y (by rw[cj];omega) (by rw[cj];omega)
 rw[dq]at p
 have h:whl (ev (aa1 P n) bp0) (exs (aa1 P n) bl4) [some (.tup (l.map Stp.d)),some (.int (c:Int)),some (.ref J),some (.ref (s++[O.lst [D.int ((l.length - 1:Nat):Int)]]).length),G] s'=.ok (.next [some (.tup (l.map Stp.d)),some (.int (c:Int)),some (.ref J),some (.ref (s++[O.lst [D.int ((l.length - 1:Nat):Int)]]).length),G]) (s'++[.lst []]):=by
  refine bE3 ?_
  unfold bp0
  simp -implicitDefEqProofs only[za,zu,qD,ad0,ad4,af9,ad5,af5,aa5,ac9,ac8,af1,zq,zG,jj,af0,qB,ae3,ah1,ad8,ad1,ad7,jk,qk,ag3,ag1,ae7,af3,ac6,qH,af4,ac7,zz,zx,zQ,z5,ac0,jv,ab9,ah0,zI,ae9,je,R.bind_ok,zg,aa3,aa4,aa2,zZ,zM,aa6,aa9,zr,zt,aq,aK,zB,ze,ab1,aa7,ab0,aa8,ab4,ab5,ae1,ae4,ad3,ae6,ae5,ae8,jy,qd,if_true,if_false,au,decide_true,decide_false,aU,aR,br5 (zJ p.gr) aL6,show(zY []=([]:List D))=True from eq_self _]
 have y:((l.length:Int) - 1)=((l.length - 1:Nat):Int):=by omega
 rw[Z,bn0,show(cH some [D.tup (l.map Stp.d),D.int (c:Int)]++av ah8.vs none)=[some (D.tup (l.map Stp.d)),some (.int (c:Int)),none,none,none]from rfl]
 simp -implicitDefEqProofs only[za,zu,qD,ad0,ad4,af9,ad5,af5,aa5,ac9,ac8,af1,zq,zG,jj,af0,qB,ae3,ah1,ad8,ad1,ad7,jk,qk,ag3,ag1,ae7,af3,ac6,qH,af4,ac7,zz,zx,zQ,z5,ac0,jv,ab9,ah0,zI,ae9,je,R.bind_ok,zg,aa3,aa4,aa2,zZ,zM,aa6,aa9,zr,zt,aq,aK,zB,ze,ab1,aa7,ab0,aa8,ab4,ab5,ae1,ae4,ad3,ae6,ae5,ae8,jy,qd,if_true,if_false,au,decide_true,decide_false,aU,aR,bC3,aC,y]
 rw[e',h]
 simp -implicitDefEqProofs only[za,zu,qD,ad0,ad4,af9,ad5,af5,aa5,ac9,ac8,af1,zq,zG,jj,af0,qB,ae3,ah1,ad8,ad1,ad7,jk,qk,ag3,ag1,ae7,af3,ac6,qH,af4,ac7,zz,zx,zQ,z5,ac0,jv,ab9,ah0,zI,ae9,je,R.bind_ok,zg,aa3,aa4,aa2,zZ,zM,aa6,aa9,zr,zt,aq,aK,zB,ze,ab1,aa7,ab0,aa8,ab4,ab5,ae1,ae4,ad3,ae6,ae5,ae8,jy,qd,if_true,if_false,au,decide_true,decide_false,aU,aR,bx5,bx4 (zJ p.gq) (show(wd (l.map (Stp.r c)) (l.length - 1)).length<=LIM by unfold LIM;omega)]
 obtain⟨t,rfl⟩:=p.pre
 rw[bw]
 exact qc (λ _=>rfl) (by nofun)
noncomputable def ab6:Xf:=⟨3,0,.call "last_word" (.ex (.call "unrolled" (.ex (.var 0) (.ex (.var 1) (.ex (.var 2) .nil)))) .nil)⟩
noncomputable def ac3:Tf:=⟨3,1,.cons (.ex (.call "word_unrolled" (.ex (.var 0) (.ex (.var 1) (.ex (.var 2) .nil))))) .nil,.call "word_unrolled" (.ex (.var 0) (.ex (.var 1) (.ex (.var 2) .nil))), "TooLong",3,.ret (.not (.isi ["NoMaking", "NotSteady", "TooMuch"])),.cons (.ret (.cst (.bl false))) .nil⟩
section
variable {P:Pr} [HasC P "MOST_WRITTEN" (.int 2000)] [Has P ah6] [Has P ab8] [HasC P "begun_times" (.fn "begun_times")] [Has P ad6] [Has P ae0] [HasL P ac2] [HasL P ac1] [HasX P "last_word" ae2] [HasE P "TooLong" ["NoMaking", "NotSteady", "TooMuch"]]
 [Has P ad9] [Has P ab2] [Has P af2] [Has P ab3] [HasX P "word_unrolled" ab6] [HasT P "_law_refused" ac3]
theorem aC8 (n:Nat){l:List Stp}(hl:l.length<=5100)(h1:1<=l.length)(hk:ah4 l){m:Mc}(J:m.Ok)(q:Nat){s:Sto}(hs:s.all O.ncl=true)(hw:2000<(wd (l.map (Stp.r ((q+1)*m.R))) (l.length - 1)).length) :
  (aa1 P (n+6)).call "_law_refused" [m.d,.tup (l.map Stp.d),.int (q:Int)] s=.ok (.bl true) s:=by
 have Y:(aa1 P (n+6)).call "_law_refused" [m.d,.tup (l.map Stp.d),.int (q:Int)] s=_:=bE8 ac3 (n:=n+5) rfl
 have e1:=ap1 (P:=P) (n+2) hl J q s
 have nc:(s++[O.lst ((l.map (Stp.r ((q+1)*m.R))).map Rst.d)]).all O.ncl=true:=by rw[<-Stp.t_r];exact am9 hs bs7
 have hn:bC8 (l.map (Stp.r ((q+1)*m.R))):=λ k i n e=>by
  rw[ax,bR]at e
  obtain⟨y,_,h⟩:=e
  cases y<;>cases h
  exact j2 (by omega) J.R1
 have e2:=aH1 (P:=P) n (l:=l.map (Stp.r ((q+1)*m.R))) (by rw[aC];exact hl) (by rw[aC];exact h1) (hk.b _) hn nc (src:=[s.length]) (by simp) (bb5 (s:=s)) (by rw[aC];exact hw)
 generalize (O.lst ((aw (l.map (Stp.r ((q+1)*m.R))).length).map λ k=>D.str (bg (wd (l.map (Stp.r ((q+1)*m.R))) k))))=o2 at e2
 have e3:al5 (aa1 P (n+4)) (.ex (.call "unrolled" (.ex (.var 0) (.ex (.var 1) (.ex (.var 2) .nil)))) .nil) [some m.d,some (.tup (l.map Stp.d)),some (.int (q:Int))] s=.ok [.ref s.length] (s++[O.lst ((l.map (Stp.r ((q+1)*m.R))).map Rst.d)]):=by
  simp -implicitDefEqProofs only[za,zu,qD,ad0,ad4,af9,ad5,af5,aa5,ac9,ac8,af1,zq,zG,jj,af0,qB,ae3,ah1,ad8,ad1,ad7,jk,qk,ag3,ag1,ae7,af3,ac6,qH,af4,ac7,zz,zx,zQ,z5,ac0,jv,ab9,ah0,zI,ae9,je,R.bind_ok,zg,aa3,aa4,aa2,zZ,zM,aa6,aa9,zr,zt,aq,aK,zB,ze,ab1,aa7,ab0,aa8,ab4,ab5,ae1,ae4,ad3,ae6,ae5,ae8,jy,qd,if_true,if_false,au,decide_true,decide_false,aU,aR,e1]
 have p:(aa1 P (n+5)).xcall "word_unrolled" [m.d,.tup (l.map Stp.d),.int (q:Int)] s=_:=aB0 ab6 (n:=n+4) rfl
 rw[show(cH some [m.d,D.tup (l.map Stp.d),D.int (q:Int)]++av ab6.vs none)=[some m.d,some (.tup (l.map Stp.d)),some (.int (q:Int))]from rfl,show ab6.body=.call "last_word" (.ex (.call "unrolled" (.ex (.var 0) (.ex (.var 1) (.ex (.var 2) .nil)))) .nil)from rfl]at p
 unfold xB at p
 rw[e3]at p
 have p:=p.trans e2
 have Z:xB (aa1 P (n+5)) ac3.xb ([m.d,.tup (l.map Stp.d),.int (q:Int)].map some++av ac3.vs none) s=_:=p
 rw[Y]
 unfold bt4
 rw[Z]
 have G:=HasE.ts (P:=P) (c := "TooLong") (ts:=["NoMaking", "NotSteady", "TooMuch"])
 have hx:(aa1 P (n+5)).xc "TooLong"=true:=by rw[bE4.1];exact HasE.at_ ["NoMaking", "NotSteady", "TooMuch"]
 have ht:ac3.h.ok (aa1 P (n+5)).xt=true:=by
  rw[bE4.2]
  exact aO.mpr G
 show(if "TooLong"=ac3.c/\(aa1 P (n+5)).xc "TooLong"=true/\ac3.h.ok (aa1 P (n+5)).xt=true then af7 s (.bl (ac3.h.val "TooLong")) _ else .bad)=_
 rw[if_pos ⟨rfl,hx,ht⟩,bw]
 exact qc (d:=.bl true) (λ _=>rfl) (by nofun)
end
noncomputable def bY9:S:=.ite (.cmp .eq (.call "_law_draw" (.ex (.var 2) (.ex (.cst (.int 8)) .nil))) (.cst (.int 3))) (.cons (.asg (.one 4) (.call "_law_tall" (.ex (.var 2) (.ex (.ix (.var 3) (.cst (.int 0))) (.ex (.cst (.int 99)) .nil))))) .nil) .nil
noncomputable def bZ7:S:=.ite (.cmp .eq (.call "_law_draw" (.ex (.var 2) (.ex (.cst (.int 8)) .nil))) (.cst (.int 5))) (.cons (.asg (.one 5) (.call "_law_draw" (.ex (.var 2) (.ex (.bin .add (.bin .pow (.cst (.int 10)) (.cst (.int 30))) (.cst (.int 1))) .nil)))) .nil) .nil
noncomputable def cg9:S:=.ite (.cmp .gt (.call "_law_length" (.ex (.var 4) (.ex (.var 6) .nil))) (.cst (.int 2000))) (.cons (.ite (.not (.call "_law_refused" (.ex (.var 3) (.ex (.var 4) (.ex (.var 5) .nil))))) (.cons (.ret (.cst (.bl false))) .nil) .nil) .nil) (.cons (.ite (.cmp .ne (.call "word_unrolled" (.ex (.var 3) (.ex (.var 4) (.ex (.var 5) .nil)))) (.call "_law_word" (.ex (.var 4) (.ex (.var 6) .nil)))) (.cons (.ret (.cst (.bl false))) .nil) .nil) .nil)
noncomputable def r31:Ss:=.cons (.asg (.one 6) (.bin .mul (.bin .add (.var 5) (.cst (.int 1))) (.ix (.var 3) (.cst (.int 1))))) (.cons cg9 (.cons (.asg (.one 7) (.bin .add (.var 4) (.tup (.cons (.tup (.cons (.cst (.str [108,101,116,116,101,114])) (.cons (.cst (.str [97])) .nil))) .nil)))) (.cons (.ite (.cmp .ne (.call "word_unrolled" (.ex (.var 3) (.ex (.var 7) (.ex (.var 5) .nil)))) (.cst (.str [97]))) (.cons (.ret (.cst (.bl false))) .nil) .nil) .nil)))
noncomputable def b31:Ss:=.cons (.asg (.one 2) (.call "_law_box" (.ex (.var 0) (.ex (.var 1) .nil)))) (.cons (.asg (.one 3) (.call "_law_machine" (.ex (.var 2) .nil))) (.cons (.asg (.one 4) (.ix (.call "_law_makings" (.ex (.var 2) (.ex (.var 3) (.ex (.cst (.int 8)) (.ex (.cst (.int 3)) .nil))))) (.cst (.int 0)))) (.cons bY9 (.cons (.asg (.one 5) (.call "_law_draw" (.ex (.var 2) (.ex (.cst (.int 5)) .nil)))) (.cons bZ7 r31)))))
theorem bY1:ag4.body=(.cons (.for_ (.one 1) (.rng1 (.bin .add (.bi .min2 (.cons (.cst (.int 8)) (.cons (.bi .len (.cons (.var 0) .nil)) .nil))) (.cst (.int 1)))) b31) (.cons (.ret (.cst (.bl true))) .nil)):=rfl
theorem ah4.let_ {l:List Stp}(h:ah4 l)(c:Nat):ah4 (l++[.let_ c]):=λ k x e=>by
 by_cases hk:k<l.length
 ·rw[aA hk]at e;exact h k x e
 ·have p:=(ae.mp e).1
  rw[aL,cb]at p
  have:k=l.length:=by omega
  subst this
  simp at e
  subst e
  trivial
theorem ba9 {s:Sto}{w:List Nat}:qO .ne (.str w) (.str w) s=.ok (.bl false) s:=by
 show(match eqv s DEEP (.str w) (.str w)with|some r=>R.ok (D.bl (!r)) s|none=>.bad)=_
 rw[bp3];rfl
section
variable {P:Pr} [HasC P "MOST_WRITTEN" (.int 2000)] [Has P ah6] [Has P ab8] [HasC P "begun_times" (.fn "begun_times")] [Has P ad6] [Has P ae0] [HasL P ac2] [HasL P ac1] [HasX P "last_word" ae2] [HasE P "TooLong" ["NoMaking", "NotSteady", "TooMuch"]]
 [Has P ad9] [Has P ab2] [Has P af2] [Has P ab3] [HasX P "word_unrolled" ab6] [HasT P "_law_refused" ac3]
 [Has P aj8] [Has P ag9] [Has P ac4] [Has P af6] [Has P ab7] [Has P ag5] [Has P ag7] [Has P ah9] [Has P ah8] [Has P ag8] [Has P ag4]
theorem bx2 (n:Nat){ns:List Int}{r:Nat}{u:Sto}(h:Gx ns r u){m:Mc}(hm:m.Ok){l:List Stp}(hl:l.length<=100)(h1:1<=l.length)(hk:ah4 l)(Y x1 x5 x6 x7:Option D) :
  ∃(p:List Stp) (Z:Sto),p.length<=100/\1<=p.length/\ah4 p/\Gx ns r Z/\ex (aa1 P (n+2)) bY9 [Y,x1,some (.ref r),some m.d,some (.tup (l.map Stp.d)),x5,x6,x7] u=.ok (.next [Y,x1,some (.ref r),some m.d,some (.tup (p.map Stp.d)),x5,x6,x7]) Z:=by
 obtain⟨q,b1,hq,e1⟩:=qE (P:=P) (n+1) h.box 8 (by decide) (by decide)
 have J:=h.put b1
 by_cases h3:(q:Int)=3
 ·obtain⟨p,b,G,y,a0,e2⟩:=bk4 (P:=P) n J.box hm.L1 hm.L3 99 (by decide) (by decide)
  refine⟨p,_,by omega,y,G,J.put b,?_⟩
  rw[show((99:Nat):Int)=99 from rfl]at e2
  unfold bY9
  simp -implicitDefEqProofs only[za,zu,qD,ad0,ad4,af9,ad5,af5,aa5,ac9,ac8,af1,zq,zG,jj,af0,qB,ae3,ah1,ad8,ad1,ad7,jk,qk,ag3,ag1,ae7,af3,ac6,qH,af4,ac7,zz,zx,zQ,z5,ac0,jv,ab9,ah0,zI,ae9,je,R.bind_ok,zg,aa3,aa4,aa2,zZ,zM,aa6,aa9,zr,zt,aq,aK,zB,ze,ab1,aa7,ab0,aa8,ab4,ab5,ae1,ae4,ad3,ae6,ae5,ae8,jy,qd,if_true,if_false,au,decide_true,decide_false,aU,aR,e1,h3,ixL,e2]
 ·refine⟨l,_,hl,h1,hk,J,?_⟩
  unfold bY9
  simp -implicitDefEqProofs only[za,zu,qD,ad0,ad4,af9,ad5,af5,aa5,ac9,ac8,af1,zq,zG,jj,af0,qB,ae3,ah1,ad8,ad1,ad7,jk,qk,ag3,ag1,ae7,af3,ac6,qH,af4,ac7,zz,zx,zQ,z5,ac0,jv,ab9,ah0,zI,ae9,je,R.bind_ok,zg,aa3,aa4,aa2,zZ,zM,aa6,aa9,zr,zt,aq,aK,zB,ze,ab1,aa7,ab0,aa8,ab4,ab5,ae1,ae4,ad3,ae6,ae5,ae8,jy,qd,if_true,if_false,au,decide_true,decide_false,aU,aR,e1,h3]
theorem bC0 (n:Nat){ns:List Int}{r:Nat}{u:Sto}(h:Gx ns r u){q:Nat}(hq:q<=10^30)(Z x1 x3 x4 Y J:Option D) :
  ∃(y:Nat) (u':Sto),y<=10^30/\Gx ns r u'/\ex (aa1 P (n+1)) bZ7 [Z,x1,some (.ref r),x3,x4,some (.int (q:Int)),Y,J] u=.ok (.next [Z,x1,some (.ref r),x3,x4,some (.int (y:Int)),Y,J]) u':=by
 obtain⟨v,b1,hv,e1⟩:=qE (P:=P) n h.box 8 (by decide) (by decide)
 have G:=h.put b1
 by_cases h3:(v:Int)=5
 ·obtain⟨y,b2,a0,e2⟩:=qE (P:=P) n G.box (10^30+1) (by decide) (by decide)
  have p:∀ s:Sto,qN .pow (.int 10) (.int 30) s=.ok (.int (10^30)) s:=λ s=>aG9 (by decide)
  refine⟨y,_,by omega,G.put b2,?_⟩
  unfold bZ7
  simp -implicitDefEqProofs only[za,zu,qD,ad0,ad4,af9,ad5,af5,aa5,ac9,ac8,af1,zq,zG,jj,af0,qB,ae3,ah1,ad8,ad1,ad7,jk,qk,ag3,ag1,ae7,af3,ac6,qH,af4,ac7,zz,zx,zQ,z5,ac0,jv,ab9,ah0,zI,ae9,je,R.bind_ok,zg,aa3,aa4,aa2,zZ,zM,aa6,aa9,zr,zt,aq,aK,zB,ze,ab1,aa7,ab0,aa8,ab4,ab5,ae1,ae4,ad3,ae6,ae5,ae8,jy,qd,if_true,if_false,au,decide_true,decide_false,aU,aR,e1,h3,p,e2]
 ·refine⟨q,_,hq,G,?_⟩
  unfold bZ7
  simp -implicitDefEqProofs only[za,zu,qD,ad0,ad4,af9,ad5,af5,aa5,ac9,ac8,af1,zq,zG,jj,af0,qB,ae3,ah1,ad8,ad1,ad7,jk,qk,ag3,ag1,ae7,af3,ac6,qH,af4,ac7,zz,zx,zQ,z5,ac0,jv,ab9,ah0,zI,ae9,je,R.bind_ok,zg,aa3,aa4,aa2,zZ,zM,aa6,aa9,zr,zt,aq,aK,zB,ze,ab1,aa7,ab0,aa8,ab4,ab5,ae1,ae4,ad3,ae6,ae5,ae8,jy,qd,if_true,if_false,au,decide_true,decide_false,aU,aR,e1,h3]
theorem bL5 (n:Nat){u:Sto}(hn:u.all O.ncl=true){m:Mc}(p:m.Ok){l:List Stp}(hl:l.length<=100)(y:1<=l.length)(hk:ah4 l){q:Nat}(hq:q<=10^30)(x0 x1 x2 x6 x7:Option D) :
  ∃(y6 y7:Option D),exs (aa1 P (n+6)) r31 [x0,x1,x2,some m.d,some (.tup (l.map Stp.d)),some (.int (q:Int)),x6,x7] u=.ok (.next [x0,x1,x2,some m.d,some (.tup (l.map Stp.d)),some (.int (q:Int)),y6,y7]) u:=by
 have Y:=p.R1
 have a0:=p.R5
 have mo:mulOk ((q:Int)+1) (m.R:Int)=true:=av7 (by omega)
 have ec:((q:Int)+1)*(m.R:Int)=(((q+1)*m.R:Nat):Int):=by rw[du];rfl
 have J:1<=(q+1)*m.R:=j2 (by omega) Y
 have a1:(q+1)*m.R<=(10^30+1)*5:=Nat.mul_le_mul (by omega) a0
 have Z:(((q+1)*m.R:Nat):Int)<=2^103:=by omega
 have e1:=aQ4 (P:=P) (n+5) hk y (by omega) (c:=(((q+1)*m.R:Nat):Int)) (by omega) Z u
 rw[cg2 hk ((q+1)*m.R) (l.length - 1) (by omega)]at e1
 have eM:(aa1 P (n+6)).call "word_unrolled" [m.d,.tup ((l++[Stp.let_ 97]).map Stp.d),.int (q:Int)] u=.ok (.str [97]) u:=by
  have hx:((l++[Stp.let_ 97]).map (Stp.r ((q+1)*m.R)))[(l++[Stp.let_ 97]).length - 1]?=some (.let_ 97):=by
   rw[ax,aL,cb,Nat.add_sub_cancel,ak (am _)];simp[Stp.r]
  have hw:=bR3 hx
  have:=jg (P:=P) (n+1) (l:=l++[Stp.let_ 97]) (by simp;omega) (by simp) (hk.let_ 97) p q hn (by rw[hw];decide)
  rw[hw]at this
  exact this
 have ea:∀ s:Sto,qN .add (.tup (l.map Stp.d)) (.tup [.tup [.str [108,101,116,116,101,114],.str [97]]]) s=.ok (.tup ((l++[Stp.let_ 97]).map Stp.d)) s:=λ s=>by
  rw[bC9 (by unfold LIM;simp;omega),bv];rfl
 refine⟨some (.int (((q+1)*m.R:Nat):Int)),some (.tup ((l++[Stp.let_ 97]).map Stp.d)),?_⟩
 generalize G:(q+1)*m.R=C at *
 by_cases h:(2000:Int)<((wd (l.map (Stp.r C)) (l.length - 1)).length:Int)
 ·have e2:=aC8 (P:=P) n (by omega) y hk p q hn (by rw[G];omega)
  unfold r31 cg9
  simp -implicitDefEqProofs only[za,zu,qD,ad0,ad4,af9,ad5,af5,aa5,ac9,ac8,af1,zq,zG,jj,af0,qB,ae3,ah1,ad8,ad1,ad7,jk,qk,ag3,ag1,ae7,af3,ac6,qH,af4,ac7,zz,zx,zQ,z5,ac0,jv,ab9,ah0,zI,ae9,je,R.bind_ok,zg,aa3,aa4,aa2,zZ,zM,aa6,aa9,zr,zt,aq,aK,zB,ze,ab1,aa7,ab0,aa8,ab4,ab5,ae1,ae4,ad3,ae6,ae5,ae8,jy,qd,if_true,if_false,au,decide_true,decide_false,aU,aR,ixR,ah3 mo,ec,e1,h,e2,ea,eM,ba9]
 ·have e2:=jg (P:=P) (n+1) (by omega) y hk p q hn (by rw[G];omega)
  rw[G]at e2
  have e3:=bm5 (P:=P) (n+5) y hk J (by omega) u
  unfold r31 cg9
  simp -implicitDefEqProofs only[za,zu,qD,ad0,ad4,af9,ad5,af5,aa5,ac9,ac8,af1,zq,zG,jj,af0,qB,ae3,ah1,ad8,ad1,ad7,jk,qk,ag3,ag1,ae7,af3,ac6,qH,af4,ac7,zz,zx,zQ,z5,ac0,jv,ab9,ah0,zI,ae9,je,R.bind_ok,zg,aa3,aa4,aa2,zZ,zM,aa6,aa9,zr,zt,aq,aK,zB,ze,ab1,aa7,ab0,aa8,ab4,ab5,ae1,ae4,ad3,ae6,ae5,ae8,jy,qd,if_true,if_false,au,decide_true,decide_false,aU,aR,ixR,ah3 mo,ec,e1,h,e2,e3,ea,eM,ba9]
theorem ch7 (n:Nat):cc9 P (n+7):=by
 intro ns hl
 have e0:(aa1 P (n+7)).call "law" [.ref 0] [.ro (ns.map D.int)]=_:=zA ag4 (n:=n+6) rfl
 rw[e0,bY1,show(cH some [D.ref 0]++av ag4.vs none)=[some (.ref 0),none,none,none,none,none,none,none]from rfl]
 have a1:([.ro (ns.map D.int)]:Sto)[0]?=some (.ro (ns.map D.int)):=rfl
 have Y:bi .len [.ref 0] [.ro (ns.map D.int)]=.ok (.int ns.length) [.ro (ns.map D.int)]:=by rw[br2 a1,aC]
 have hk:(if(ns.length:Int)<8 then(ns.length:Int)else 8)+1=((min ns.length 8+1:Nat):Int):=by omega
 simp -implicitDefEqProofs only[za,zu,qD,ad0,ad4,af9,ad5,af5,aa5,ac9,ac8,af1,zq,zG,jj,af0,qB,ae3,ah1,ad8,ad1,ad7,jk,qk,ag3,ag1,ae7,af3,ac6,qH,af4,ac7,zz,zx,zQ,z5,ac0,jv,ab9,ah0,zI,ae9,je,R.bind_ok,zg,aa3,aa4,aa2,zZ,zM,aa6,aa9,zr,zt,aq,aK,zB,ze,ab1,aa7,ab0,aa8,ab4,ab5,ae1,ae4,ad3,ae6,ae5,ae8,jy,qd,if_true,if_false,au,decide_true,decide_false,aU,aR,Y,js,hk]
 rw[qg (by unfold W62;omega) (by unfold W62;omega)]
 simp only[R.bind_ok]
 rw[R.bind_assoc]
 refine qK (W:=Yes) (λ j ρ t=>t[0]?=some (.ro (ns.map D.int))/\t.all O.ncl=true/\∃ x1 x2 x3 x4 x5 G J,ρ=[some (.ref 0),x1,x2,x3,x4,x5,G,J]) ⟨rfl,by
   simp only[cZ,kP,iD];exact bi8,_,_,_,_,_,_,_,rfl⟩ (λ _ _ _ _ _=>rfl) ?_ ?_
 ·rintro j d ρ t hj ⟨Z,hn,x1,x2,x3,x4,x5,G,J,rfl⟩
  have hd:=(qJ hj).2
  subst hd
  have b0:0<t.length:=(ae.mp Z).1
  obtain⟨N0,h⟩:=bW1 (P:=P) (n+5) ns j Z
  have G0:Gx ns t.length (t++[qt N0]):=⟨zJ Z,am9 hn rfl,⟨_,aL6⟩,by omega⟩
  generalize t++[qt N0]=S at h G0
  generalize t.length=r at h G0
  obtain⟨m,b1,hm,em⟩:=aK0 (P:=P) (n+4) G0.box
  have G1:=G0.put b1
  obtain⟨l,fs,b2,T,p,a2,h1,h2,hp,hT,y⟩:=aS3 (P:=P) (n+4) G1.box hm 8 (by decide) (by decide) 3
  have G3:=(G1.put b2).more hT
  generalize (S.set r (qt b1)).set r (qt b2)++T=U at y G3
  obtain⟨l',u4,a6,a3,a5,G4,e4⟩:=bx2 (P:=P) (n+4) G3 hm (l:=l) (by omega) h1 (a2.ok (by omega)) (some (.ref 0)) (some (.int (j:Int))) x5 G J
  obtain⟨q,b5,hq,e5⟩:=qE (P:=P) (n+5) G4.box 5 (by decide) (by decide)
  have G5:=G4.put b5
  obtain⟨q',u6,a0,G6,e6⟩:=bC0 (P:=P) (n+5) G5 (q:=q) (by omega) (some (.ref 0)) (some (.int (j:Int))) (some m.d) (some (.tup (l'.map Stp.d))) G J
  obtain⟨y6,y7,e7⟩:=bL5 (P:=P) n G6.ncl hm a6 a3 a5 a0 (some (.ref 0)) (some (.int (j:Int))) (some (.ref r)) G J
  have a4:∀(a b:D) (s:Sto),ixM (.tup [a,b]) (.int 0) s=.ok a s:=λ _ _ _=>rfl
  refine aE5 (ρ:=[some (.ref 0),some (.int (j:Int)),some (.ref r),some m.d,some (.tup (l'.map Stp.d)),some (.int (q':Int)),y6,y7]) (s:=u6) ?_ ⟨G6.scr,G6.ncl,_,_,_,_,_,_,_,rfl⟩
  rw[show((8:Nat):Int)=8 from rfl]at y
  unfold turn b31
  simp -implicitDefEqProofs only[zg,zZ,zM,aq,za,zu,qD,jk,qk,z5,zQ,zq,jj,zr,zt,R.bind_ok,h,em,zB,ze,zG,zI,y,a4,e4,e5,e6]
  exact e7
 ·rintro ρ t ⟨Z,hn,x1,x2,x3,x4,x5,G,J,rfl⟩
  simp -implicitDefEqProofs only[za,zu,qD,ad0,ad4,af9,ad5,af5,aa5,ac9,ac8,af1,zq,zG,jj,af0,qB,ae3,ah1,ad8,ad1,ad7,jk,qk,ag3,ag1,ae7,af3,ac6,qH,af4,ac7,zz,zx,zQ,z5,ac0,jv,ab9,ah0,zI,ae9,je,R.bind_ok,zg,aa3,aa4,aa2,zZ,zM,aa6,aa9,zr,zt,aq,aK,zB,ze,ab1,aa7,ab0,aa8,ab4,ab5,ae1,ae4,ad3,ae6,ae5,ae8,jy,qd,if_true,if_false,au,decide_true,decide_false,aU,aR]
  exact aV8 _ _
end
end DV
end
local macro_rules | `(tactic| walk_at "sc") => `(tactic| exact ⟨rfl, rfl, rfl, by decide +kernel, rfl, by decide +kernel, by decide +kernel⟩)
local macro_rules | `(tactic| walk_at "df") => `(tactic| (dsimp only; exact ⟨_, _, _, _, _, _, _, _, _, _, by k_is, by k_is, by k_is, by k_is⟩))
noncomputable section
namespace My
open PySem L2
noncomputable def top (i:Nat):Stmt:=PySem.Challenge.pw_leasttolls_k31_words_unrolled.main.body.getD i (.Pass ⟨0,0,0,0⟩)
theorem ck8:aP8 ["letter"]:=λ params h _ _ _ _ _ _ _ _ us hl=>by
 obtain⟨args,rfl,ha⟩:=jB h
 revert us
 refine bd1 ?_
 intro p
 rcases args with _|⟨⟨a0,_,_⟩,_|⟨_,_⟩⟩
 all_goals simp only[aG,cF,j9,and_true,and_false,reduceCtorEq]at ha
 obtain rfl:=ha
 exact⟨rfl,λ _ _=>rfl⟩
theorem ci1:aP8 ["one", "other"]:=λ params h _ _ _ _ _ _ _ _ us hl=>by
 obtain⟨args,rfl,ha⟩:=jB h
 revert us
 refine bd2 ?_
 intro y G
 rcases args with _|⟨⟨a0,_,_⟩,_|⟨⟨p,_,_⟩,_|⟨_,_⟩⟩⟩
 all_goals simp only[aG,cF,j9,and_true,and_false,reduceCtorEq]at ha
 obtain⟨rfl,rfl⟩:=ha
 exact⟨rfl,λ _ _=>rfl⟩
noncomputable def aj3:List Str:=["last_word"]
noncomputable abbrev at8:Stmt:=top 7
noncomputable abbrev at7:Stmt:=top 9
noncomputable abbrev aO1:Stmt:=top 10
noncomputable abbrev au9:Stmt:=top 13
noncomputable abbrev bd7:Stmt:=top 14
noncomputable abbrev ai3:Stmt:=top 15
noncomputable abbrev ah5:Stmt:=top 16
noncomputable abbrev ag0:Stmt:=top 17
noncomputable abbrev au3:Stmt:=top 19
noncomputable abbrev ar4:Stmt:=top 20
noncomputable abbrev aj0:Stmt:=top 21
noncomputable abbrev aj2:Stmt:=top 22
noncomputable abbrev s__law_letter_signs:Stmt:=top 23
noncomputable abbrev am0:Stmt:=top 24
noncomputable abbrev aj1:Stmt:=top 25
noncomputable abbrev al1:Stmt:=top 26
noncomputable abbrev ar2:Stmt:=top 27
noncomputable abbrev ai0:Stmt:=top 28
noncomputable abbrev ar0:Stmt:=top 29
noncomputable abbrev aB2:Stmt:=top 30
noncomputable def tb:List (String×mB×Stmt):=[("rooms_of",DV.ab2,at8),("as_times",DV.ad9,at7),("folded",DV.ad6,aO1),("unrolled",DV.af2,au9),("begun",DV.ah6,bd7),("begun_times",DV.ab8,ai3),("last_word",DV.ae0,ah5),("word_unrolled",DV.ab3,ag0),("_law_box",DV.aj8,au3),("_law_draw",DV.ag9,ar4),("_law_product",DV.ac4,aj0),("_law_machine",DV.af6,aj2),("_law_letter_signs",DV.ab7,s__law_letter_signs),("_law_sharp",DV.ag5,am0),("_law_makings",DV.ag7,aj1),("_law_length",DV.ah9,al1),("_law_word",DV.ah8,ar2),("_law_tall",DV.ag8,ar0),("law",DV.ag4,aB2)]
noncomputable def ca9:List (String×li):=[("MOST_WRITTEN",.int (2000)),("begun_times",.fn "begun_times")]
noncomputable def cn2:List (String×mz):=[("last_word.0",DV.ac2),("last_word.1",DV.ac1)]
noncomputable def tbl:List (String×mB):=tb.map λ p=>(p.1,p.2.1)
noncomputable def xtb:List (String×DV.Xf):=[("last_word",DV.ae2),("word_unrolled",DV.ab6)]
noncomputable def ttb:List (String×DV.Tf):=[("_law_refused",DV.ac3)]
noncomputable def dl:List (String×Stmt):=[("last_word",ah5),("word_unrolled",ag0),("_law_refused",ai0)]
noncomputable def xcs:List String:=["TooLong"]
noncomputable def xts:List String:=["NoMaking", "NotSteady", "TooMuch"]
noncomputable def P:ly:=⟨λ f=>tbl.lookup f,λ f=>cn2.lookup f,λ x=>ca9.lookup x,λ f=>xtb.lookup f,λ f=>ttb.lookup f,λ c=>xcs.contains c,λ c=>xts.contains c⟩
instance:DV.HasX P "last_word" DV.ae2:=⟨rfl⟩
instance:DV.HasX P "word_unrolled" DV.ab6:=⟨rfl⟩
instance:DV.HasT P "_law_refused" DV.ac3:=⟨rfl,rfl⟩
instance:DV.HasE P "TooLong" ["NoMaking", "NotSteady", "TooMuch"]:=⟨rfl,by decide⟩
instance:DV.HasL P DV.ac2:=⟨rfl⟩
instance:DV.HasL P DV.ac1:=⟨rfl⟩
instance:DV.HasC P "MOST_WRITTEN" (.int (2000)):=⟨rfl⟩
instance:DV.HasC P "begun_times" (.fn "begun_times"):=⟨rfl⟩
instance:DV.Has P DV.ab2:=⟨rfl⟩
instance:DV.Has P DV.ad9:=⟨rfl⟩
instance:DV.Has P DV.ad6:=⟨rfl⟩
instance:DV.Has P DV.af2:=⟨rfl⟩
instance:DV.Has P DV.ah6:=⟨rfl⟩
instance:DV.Has P DV.ab8:=⟨rfl⟩
instance:DV.Has P DV.ae0:=⟨rfl⟩
instance:DV.Has P DV.ab3:=⟨rfl⟩
instance:DV.Has P DV.aj8:=⟨rfl⟩
instance:DV.Has P DV.ag9:=⟨rfl⟩
instance:DV.Has P DV.ac4:=⟨rfl⟩
instance:DV.Has P DV.af6:=⟨rfl⟩
instance:DV.Has P DV.ab7:=⟨rfl⟩
instance:DV.Has P DV.ag5:=⟨rfl⟩
instance:DV.Has P DV.ag7:=⟨rfl⟩
instance:DV.Has P DV.ah9:=⟨rfl⟩
instance:DV.Has P DV.ah8:=⟨rfl⟩
instance:DV.Has P DV.ag8:=⟨rfl⟩
instance:DV.Has P DV.ag4:=⟨rfl⟩
theorem aQ8:DT aj3 P "rooms_of" DV.ab2 at8:=⟨["machine"],["machine"],by walk_at "sc",rfl,rfl,λ _ _ _ _ _ _=>bd1 (λ _=>rfl),.inl (by decide +kernel)⟩
theorem aR5:DT aj3 P "as_times" DV.ad9 at7:=⟨["makings", "many"],["makings", "many"],by walk_at "sc",rfl,rfl,λ _ _ _ _ _ _=>bd2 (λ _ _=>rfl),.inl (by decide +kernel)⟩
theorem bn7:DT aj3 P "folded" DV.ad6 aO1:=⟨["steps", "of_letter", "of_pair", "of_times", "values", "step"],["steps", "of_letter", "of_pair", "of_times"],by walk_at "sc",rfl,rfl,λ _ _ _ _ _ _=>bd4 (λ _ _ _ _=>rfl),.inl (by decide +kernel)⟩
theorem aR1:DT aj3 P "unrolled" DV.af2 au9:=⟨["machine", "makings", "n"],["machine", "makings", "n"],by walk_at "sc",rfl,rfl,λ _ _ _ _ _ _=>bd3 (λ _ _ _=>rfl),.inl (by decide +kernel)⟩
theorem bC1:DT aj3 P "begun" DV.ah6 bd7:=⟨["word"],["word"],by walk_at "sc",rfl,rfl,λ _ _ _ _ _ _=>bd1 (λ _=>rfl),.inl (by decide +kernel)⟩
theorem aw6:DT aj3 P "begun_times" DV.ab8 ai3:=⟨["word", "many", "enough"],["word", "many"],by walk_at "sc",rfl,rfl,λ _ _ _ _ _ _=>bd2 (λ _ _=>rfl),.inl (by decide +kernel)⟩
theorem aF6:DT aj3 P "last_word" DV.ae0 ah5:=⟨["steps", "word"],["steps"],by walk_at "sc",rfl,rfl,λ _ _ _ _ _ _=>bd1 (λ _=>rfl),.inr ⟨by decide,[("last_word.0",DV.ac2,["one", "other"],[]),("last_word.1",DV.ac1,["letter"],[])],by decide +kernel,by decide +kernel,λ p hp=>by
 simp only[aE,bL,or_false]at hp
 rcases hp with rfl|rfl
 ·exact⟨rfl,ci1⟩
 ·exact⟨rfl,ck8⟩⟩⟩
theorem an8:DT aj3 P "word_unrolled" DV.ab3 ag0:=⟨["machine", "makings", "n"],["machine", "makings", "n"],by walk_at "sc",rfl,rfl,λ _ _ _ _ _ _=>bd3 (λ _ _ _=>rfl),.inl (by decide +kernel)⟩
theorem aQ6:DT aj3 P "_law_box" DV.aj8 au3:=⟨["_law_script", "_law_at", "_law_cell", "_law_number", "_law_j", "_law_part"],["_law_script", "_law_at"],by walk_at "sc",rfl,rfl,λ _ _ _ _ _ _=>bd2 (λ _ _=>rfl),.inl (by decide +kernel)⟩
theorem aG6:DT aj3 P "_law_draw" DV.ag9 ar4:=⟨["_law_box_here", "_law_many", "_law_found"],["_law_box_here", "_law_many"],by walk_at "sc",rfl,rfl,λ _ _ _ _ _ _=>bd2 (λ _ _=>rfl),.inl (by decide +kernel)⟩
theorem as7:DT aj3 P "_law_product" DV.ac4 aj0:=⟨["_law_one", "_law_other", "_law_found", "_law_line", "_law_new", "_law_k"],["_law_one", "_law_other"],by walk_at "sc",rfl,rfl,λ _ _ _ _ _ _=>bd2 (λ _ _=>rfl),.inl (by decide +kernel)⟩
theorem at1:DT aj3 P "_law_machine" DV.af6 aj2:=⟨["_law_box_here", "_law_letters", "_law_rooms", "_law_many", "_law_high", "_law_doors", "_law_k", "_law_start", "_law_goal", "_law_letter", "_law_bits", "_law_begins", "_law_ends"],["_law_box_here"],by walk_at "sc",rfl,rfl,λ _ _ _ _ _ _=>bd1 (λ _=>rfl),.inl (by decide +kernel)⟩
theorem jC:DT aj3 P "_law_letter_signs" DV.ab7 s__law_letter_signs:=⟨["_law_machine_here", "_law_letter", "_law_rooms", "_law_lines", "_law_start", "_law_sign", "_law_goal", "_law_cost"],["_law_machine_here", "_law_letter"],by walk_at "sc",rfl,rfl,λ _ _ _ _ _ _=>bd2 (λ _ _=>rfl),.inl (by decide +kernel)⟩
theorem aC0:DT aj3 P "_law_sharp" DV.ag5 am0:=⟨["_law_signs", "_law_size", "_law_found", "_law_i", "_law_line", "_law_j", "_law_best", "_law_k", "_law_here"],["_law_signs"],by walk_at "sc",rfl,rfl,λ _ _ _ _ _ _=>bd1 (λ _=>rfl),.inl (by decide +kernel)⟩
theorem as8:DT aj3 P "_law_makings" DV.ag7 aj1:=⟨["_law_box_here", "_law_machine_here", "_law_most", "_law_sharps", "_law_steps", "_law_tables", "_law_steady", "_law_k", "_law_way", "_law_one", "_law_other", "_law_letter"],["_law_box_here", "_law_machine_here", "_law_most", "_law_sharps"],by walk_at "sc",rfl,rfl,λ _ _ _ _ _ _=>bd4 (λ _ _ _ _=>rfl),.inl (by decide +kernel)⟩
theorem av6:DT aj3 P "_law_length" DV.ah9 al1:=⟨["_law_makings_here", "_law_copies", "_law_found", "_law_step"],["_law_makings_here", "_law_copies"],by walk_at "sc",rfl,rfl,λ _ _ _ _ _ _=>bd2 (λ _ _=>rfl),.inl (by decide +kernel)⟩
theorem aJ2:DT aj3 P "_law_word" DV.ah8 ar2:=⟨["_law_makings_here", "_law_copies", "_law_waiting", "_law_word_here", "_law_step"],["_law_makings_here", "_law_copies"],by walk_at "sc",rfl,rfl,λ _ _ _ _ _ _=>bd2 (λ _ _=>rfl),.inl (by decide +kernel)⟩
theorem aJ0:DT aj3 P "_law_tall" DV.ag8 ar0:=⟨["_law_box_here", "_law_letters", "_law_most", "_law_steps", "_law_k"],["_law_box_here", "_law_letters", "_law_most"],by walk_at "sc",rfl,rfl,λ _ _ _ _ _ _=>bd3 (λ _ _ _=>rfl),.inl (by decide +kernel)⟩
theorem bs2:FnScope ["_law_script", "_law_k", "_law_box_here", "_law_machine_here", "_law_makings_here", "_law_n", "_law_copies", "_law_more"] ["_law_script"] (defScope aB2):=by walk_at "sc"
theorem bL8:mSs ⟨["_law_script", "_law_k", "_law_box_here", "_law_machine_here", "_law_makings_here", "_law_n", "_law_copies", "_law_more"],defScope aB2,λ _ _ _=>false⟩ DV.ag4.body (zK aB2)=true:=by decide +kernel
theorem bS3:cl2 "law" aB2 ["_law_script"]:=λ _ _ _ _ _ _=>bd1 λ _=>rfl
theorem cd8:DT aj3 P "law" DV.ag4 aB2:=⟨_,_,bs2,rfl,rfl,bS3,.inl bL8⟩
theorem aJ3:DTB aj3 P "last_word" DV.ae2.ps DV.ae2.vs (λ h S=>mX h DV.ae2.body S) ah5:=⟨["steps", "word"],["steps"],by walk_at "sc",rfl,rfl,λ _ _ _ _ _ _=>bd1 (λ _=>rfl),.inr ⟨by decide,[("last_word.0",DV.ac2,["one", "other"],[]),("last_word.1",DV.ac1,["letter"],[])],by decide +kernel,by decide +kernel,λ p hp=>by
 simp only[aE,bL,or_false]at hp
 rcases hp with rfl|rfl
 ·exact⟨rfl,ci1⟩
 ·exact⟨rfl,ck8⟩⟩⟩
theorem ap6:DTB aj3 P "word_unrolled" DV.ab6.ps DV.ab6.vs (λ h S=>mX h DV.ab6.body S) ag0:=⟨["machine", "makings", "n"],["machine", "makings", "n"],by walk_at "sc",rfl,rfl,λ _ _ _ _ _ _=>bd3 (λ _ _ _=>rfl),.inl (by decide +kernel)⟩
theorem as6:DTB aj3 P "_law_refused" DV.ac3.ps DV.ac3.vs (λ h S=>mT h DV.ac3 S) ai0:=⟨["_law_machine_here", "_law_makings_here", "_law_n", "e"],["_law_machine_here", "_law_makings_here", "_law_n"],by walk_at "sc",rfl,rfl,λ _ _ _ _ _ _=>bd3 (λ _ _ _=>rfl),.inl (by decide +kernel)⟩
theorem cf0:∀ p∈tb,DT aj3 P p.1 p.2.1 p.2.2:=by
 intro p hp
 unfold tb at hp
 simp only[aE,bL,or_false]at hp
 rcases hp with rfl|rfl|rfl|rfl|rfl|rfl|rfl|rfl|rfl|rfl|rfl|rfl|rfl|rfl|rfl|rfl|rfl|rfl|rfl
 ·exact aQ8
 ·exact aR5
 ·exact bn7
 ·exact aR1
 ·exact bC1
 ·exact aw6
 ·exact aF6
 ·exact an8
 ·exact aQ6
 ·exact aG6
 ·exact as7
 ·exact at1
 ·exact jC
 ·exact aC0
 ·exact as8
 ·exact av6
 ·exact aJ2
 ·exact aJ0
 ·exact cd8
theorem bO7 {l:cU}{w:World}{K:ac}{h:Heap}{mg:Str->Option Value}{fa:Addr}(X:K.In h)(G:h.Ns a7 mg)(J:mg "law"=some (.ref fa))(hD:∀ p∈tb,ca2 K p.1 p.2.2)(hz:∀ x∈bNames,cc K a7 x=some none)
  {y:Tok} (gc_MOST_WRITTEN:cc K a7 "MOST_WRITTEN"=some (some (.int (2000) y)))
  (hT:∀ x∈aj3,(bh K x).isSome=true) (tnd:decide (((bu8 aj3 K).map (·.1)).Nodup)=true) (hDx:∀ p∈dl,ca2 K p.1 p.2) (hcl:bA1 K xcs xts=true)
  : ∃ Y:bu,(∀(s:af) (v:Value),ke s Y ⟨[v],[]⟩ [("_law_script",v)])/\∀ base:Heap,K.In base->base.Ns a7 mg->BM mg base->bG1 K aj3 base->FnOk l.prog w K mg base CX0 45 fa Y ["_law_script"] (spB aj3 K):=by
 have hP:PrOk (bb6 aj3 P K) (bH2 aj3 K) P mg:=by
  refine⟨λ f d h=>aM3 (tbl:=tbl) (λ p hp=>?_) f d h,λ x d h=>aZ5 (tbl:=ca9) ?_ x d h,λ x hx=>PySem.W.mg_none_of X G (hz x hx),ch9 X G,ce7,of_decide_eq_true tnd,aJ8 (tbl:=xtb) (λ p hp=>?_),aJ8 (tbl:=ttb) (λ p hp=>?_),(bd8 X G hcl).1,(bd8 X G hcl).2.1,(bd8 X G hcl).2.2⟩
  ·obtain⟨r,Z,rfl⟩:=aS.mp hp
   exact good_of X G hT (hD r Z) (cf0 r Z)
  ·intro p hp
   unfold ca9 at hp
   simp only[aE,bL,or_false]at hp
   rcases hp with rfl|rfl
   ·exact bH9 (bW X G gc_MOST_WRITTEN)
   ·obtain⟨_,_,_,_,_,_,_,_,_,_,a,l,_⟩:=hD ("begun_times",DV.ab8,ai3) (by unfold tb;simp)
    exact bV4 X G a l
  ·unfold xtb at hp
   simp only[aE,bL,or_false]at hp
   rcases hp with rfl|rfl
   ·exact an0 X G hT (hDx ("last_word",ah5) (by unfold dl;simp)) aJ3
   ·exact an0 X G hT (hDx ("word_unrolled",ag0) (by unfold dl;simp)) ap6
  ·unfold ttb at hp
   simp only[aE,bL,or_false]at hp
   subst hp
   ·exact an0 X G hT (hDx ("_law_refused",ai0) (by unfold dl;simp)) as6
 obtain⟨f,od,an,sl,oc,kV,dc,pm,cd,ct,a,l0,c,k⟩:=hD ("law",DV.ag4,aB2) (by unfold tb;simp)
 have e:=J.symm.trans (bW X G a)
 cases e
 have F:=bu0 (st:=aB2) l0 c k
 refine⟨_,λ s v=>.of_eq rfl,λ base _ _ bm hk=>(bT8 hP (bs8 hT bm hk) 13 (bw1 hP (bs8 hT bm hk) 13) (d:=DV.ag4) (f := "law") rfl ⟨F,bW X G a,F.binds bS3⟩ bs2 rfl rfl bL8 bf8).imp (λ vs H Q E q=>bY6 (λ ns h=>DV.ch7 (P:=P) 7 ns h) vs H Q E (bk3 hT q))⟩
end My
end
open PySem PySem.W PyProof.Rows
set_option maxRecDepth 100000 in
set_option maxHeartbeats 0 in
theorem PySem.Challenge.cw_leasttolls_k31_words_unrolled_holds : PySem.Challenge.rw_leasttolls_k31_words_unrolled.Holds := by
 refine My.GT.2 ?_
 delta My.GT
 dsimp only
 k_fill
 refine L2.bc4 (l:=PySem.Challenge.rw_leasttolls_k31_words_unrolled) (n:=63) (k:=45) (x := "_law_script") (sp:=L2.spB My.aj3) My.aj3 rfl (by decide) rfl ⟨rfl,by decide,by decide⟩ (λ w h Y=>⟨PySem.W.km_in_of Y,PySem.W.km_tabs_of Y⟩) (λ w=>?R) (λ w=>?NT) ?F (λ K H a ns hl hB hS hF=>L2.bR4 hl hB hS hF)
 case R=>kernel_rfl
 case NT=>kernel_rfl
 case F =>
  intro w mg fa h KX G hmg
  refine' My.bO7 KX G hmg ?hD ?hz ?gc_MOST_WRITTEN ?hT ?tnd ?hDx ?hcl
  case hD =>
   intro p hp
   unfold My.tb at hp
   simp only[aE,bL,or_false]at hp
   rcases hp with rfl|rfl|rfl|rfl|rfl|rfl|rfl|rfl|rfl|rfl|rfl|rfl|rfl|rfl|rfl|rfl|rfl|rfl|rfl
   all_goals walk_at "df"
  case hz =>
   intro x hx
   unfold L2.bNames at hx
   simp only[aE,bL,or_false]at hx
   rcases hx with rfl|rfl|rfl|rfl|rfl|rfl|rfl|rfl|rfl|rfl|rfl|rfl|rfl|rfl|rfl|rfl|rfl|rfl<;>k_is
  (case gc_MOST_WRITTEN=>k_is)
  case hT =>
   intro x hx
   simp only[My.aj3,aE,bL,or_false]at hx
   subst hx<;>kernel_rfl
  (case tnd=>kernel_rfl)
  case hDx =>
   intro p hp
   unfold My.dl at hp
   simp only[aE,bL,or_false]at hp
   rcases hp with rfl|rfl|rfl
   all_goals walk_at "df"
  (case hcl=>kernel_rfl)
