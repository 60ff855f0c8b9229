import PyProof.Rows.All
import Wide.All
import OpenK.AllK
import Wide.FinOn
import PyProof.EqAt
import PyProof.EqKinds
import PyProof.TupleCall
import PyProof.MinMaxWalk
import PyProof.WalkInts
import PyProof.NeKinds
import PyProof.SliceStr2
import PyProof.StrBlockI
import PyProof.MaxThree
import PyProof.ZipIter
import PyProof.Draws
import PyProof.EnumMake
import PyProof.ListMulRoad
import PyProof.Rows.StrRev
import PyProof.DictItems
import PyProof.ListRange
import PyProof.AutoIntG2
import PyProof.FactsAll.int_6
import KE.KMinKey
import KE.IntBitsLaws
import PySem.Challenge.RW_leasttolls_k06_a_road_of_least_toll
set_option Elab.async false
set_option linter.all false
set_option maxRecDepth 100000
set_option maxHeartbeats 4000000
open List renaming getElem?_eq_some_iff->ac,getElem?_eq_getElem->ag,mem_cons_of_mem->ak,mem_cons_self->aq,size_toArray->ar,length_map->aw,mem_cons->ax,getElem?_map->aB,replicate->aE,getD_eq_getElem?_getD->aG,getElem?_append_left->aJ,length_cons->aK,getElem?_set_self->aL,mem_append_right->aN,filterMap_cons->aO,getElem?_set_ne->aP,length_append->aR,mem_map->aS,all_eq_true->aU,map_cons->aV,mem_of_getElem?->aX,lookup_cons->aZ,getElem?_append_right->a8,append_assoc->be,range->bf,not_mem_nil->bp,mem_map_of_mem->bv,mem_append->bw,length_set->bA,mem_singleton->bE,replicate_succ->bH,getElem?_toArray->bI,getElem?_replicate->bK,mem_range->bL,append_nil->bQ,getElem?_eq_none->bS,length_singleton->b9,mem_filterMap->cb,take_append_getElem->cf,mem_iff_getElem->cq,filterMap_map->cE,drop_eq_getElem_cons->cG,mem_append_left->cJ,reverse_cons->cL,length_eq_zero_iff->cS,getElem?_cons_succ->cV,set_set->c8,foldl_cons->db,find?_cons->di,flatten_cons->du,length_take->dz,map_nil->dA,take_length->dE,length_reverse->dF,getElem?_range->dH,all_cons->dM,nodup_cons->dN,of_mem_zip->dP,filterMap_eq_map->ed,set_getElem_self->eg,cons_append->eA,getElem_mem->eF,any_cons->eI,getElem?_of_mem->eS,nil_append->eX,length_nil->eZ,map_append->e7,drop_zero->fw,mem_or_eq_of_mem_set->fB,drop_eq_nil_of_le->gB,mem_filter->gE,set_append->gG,forIn_nil->gW,take_zero->hX,length_pos_iff->io,getElem?_take->iX,length_range->je,map_map->jg,any_eq_true->jr,mem_reverse->jv,drop_length->jx,forIn_cons->jC,take_left'->jG,foldl->jP,map_take->j1,all_nil->ki,map_set->ko,length->kr,lookup->kt
open PySem.W renaming Frag->ae,tabIn->a7,kla_fn->bn,kia_one->bz,CodeHd->bG,findIn->bM,kitOne->bN,keepIn->ci,fnOf->c5,envX->c6,OpenLaw->c9,specialIn->d3,KitX->d9,Looks->eJ,mg_of->eK,looks_findIn->eQ,takesIn->eV,codeIn->fq,tabObj->fu,methodObj->fC,fnX->fI,mroIn->fR,cellsFrom_some->gf,nsIn->gC,instObj->gD,lookIn->gR,kla_callFunE->hJ,kla_codeExpr->hU,kitAny->hV,kitx_tuple->iM,kitx_list->i4,kitx_dict->i5,plainGet->jk,codeHdIn->jt,TabsAt->jV,noTabs->jW,WalkO->jY
open PySem renaming Shared->af,wpAny_bind->ah,wpAny_pure->aA,Program->aD,mem_of_lookup->aF,sizeLine->aH,cellsFrom->aI,Around->aM,bootBuiltins->a9,wpAny_mono->bj,starEach->bq,wpAny_truthy_bool->br,argBest->bu,mainGlobals->bC,Arguments->bD,FuncData->bF,wpAny_holding->bT,wpAny_tryCatch->bU,binaryOp->bZ,wpAny_newObj_type->b7,NameKind->cj,compareOp->cr,wpAny_loadPart'->cu,assignEach->cy,wpAny_Call_Name_kw->cz,wpAny_seqItems->cB,wpAny_passesOwn->cH,codeAny_builtin->cI,wpAny_pyIter_list->cK,wpAny_field->cN,behindInMarks->cO,plainId_quiet->cQ,wpAny_callSpecial?_slot->cT,wpAny_letGo->cY,wpAny_setField_rec->c7,wpAny_execs_nil->da,pushCells_keeps->dg,wpAny_updateSeq->dh,rawInt->dj,foldedSetIterable->dq,sysModules->dv,bindArgs->dw,wpAny_call_entry->dC,isTrue->dQ,tupleKind_room_in1->dS,codeAmong->dX,codeAny->d4,pushCells->eB,seqItems?->eD,relabel->eG,sizeLine_eq->eN,backTo->eT,letOwnedTupleGo->eU,swapsWith->fh,pyNext->fj,recursionLimit->fo,newFunctionEnv->ft,wpAny_binaryOp_repeat_ref->fy,holding->fD,InCallC->fF,Paired->fQ,attributeBase->fT,wpAny_comprehension_free->fU,wpAny_attempt->fV,ExceptHandler->fW,noFill_tuple_add->fX,builtinsNs->f9,assign->gd,name_of_addr->gh,typeIs_int->gj,call_meets->gm,codeAny_compStart_list->gv,wpAny_storeName_local->gH,wpAny_isTrue_Compare1->gI,codeAny_call_function->gJ,wpAny_storeName_cell->gP,wpAny_loadName_local->gQ,wpAny_of_eq->gX,strIterType->gY,IsEnum->gZ,codeAny_call_builtin->g7,tupleKind->hZ,storeName->ic,callerA->ie,valueAt->ig,wpAny_standAt->iw,swappedStores->iy,seq_tuple_add->iz,wpAny_Name->iJ,wpAny_Constant_int->iK,wpAny_pyIter_tuple->iL,wpAny_call->iO,wpAny_rule->iR,wpAny_assign_Name->i0,codeAny_mono->i6,concat_meets->i7,seqIndex_neg->i8,getItem->i9,slot_list_getitem->ja,notedBy->jb,wpAny_pyIter_enum->jd,wpAny_execs_cons->jh,pyIter->ji,Result->jl,typeOf->jm,noteFrame->jo,updateSeq->jp,TriplesOk->js,seqSlot_of->ju,wpAny_Try_except->jw,seqIndex_of->jy,slicePicked->jB,BindsTo->jH,Keyword->jI,call->jK,typeIs_str->jN,PlainAttrs->jO,defaultsOf->jR,lastMarks->j3,seqIndex?->j5,IsEnumOut->j6,setFlight->j7,Within->ka,Builtin->kg
open PySem.Heap renaming get?_push_of_some->ai,lt_size->az,get?_push_size->aC,get?_update_other->aY,size_push->bP,SameBut->bV,get?_update_self->b8,get?_none_of_le->eM,ExtBut->jz
open Bool renaming and_eq_true->aj,false_ne_true->aQ,false_eq_true->bO,or_eq_true->bW,or_eq_false_iff->eP,eq_iff_iff->e6,not_eq_true'->fM,and_eq_true_iff->gO,false_or->iA,and_true->iD,true_and->iE,not_true->j0
open Nat renaming le_refl->am,lt_of_lt_of_le->ao,le_trans->av,ne_of_lt->ay,lt_irrefl->bo,le_succ->cM,ne_of_gt->cZ,lt_succ_self->dB,le_of_lt->dZ,zero_add->d8,zero_le->eO,lt_trans->fc,le_of_succ_le->fG,lt_succ_of_lt->fH,lt_trichotomy->fL,add_comm->gu,pow_le_pow_right->hW,le_of_not_lt->jn,succ_ne_self->jq,mul_add->jA,not_lt->jQ,mul_comm->ke,lt_or_ge->kj,add_zero->kn
open Option.some renaming inj->au
open PySem.Str renaming ofString->aW
open PySem.F renaming plain_min_loop->bh,slot_tuple_iterator_next->cD,entry_min_loop->cR,slot_enumerate_next->dk,args_tuple_add_2->dI,slot_int_rmul->dR,entry_tuple_add->dU,slot_tuple_add->d5,slot_tuple_mul->d7,attrBase_ValueError->ee,args_tuple_iterator_next_1->eY,entry_tuple_iterator_next->fe,slot_dict_getitem->fA,args_enumerate_next_1->fY,slot_tuple_rmul->fZ,plainAttrs_list->f7,slot_list_reverse->gq,entry_enumerate_next->gy,typeCall_enumerate_1->gz,slot_list_append->gK,newCall_enumerate_1->gL,entry_enumerate_new->gM,args_int_rmul_2->gU,args_object_init_2->g6,excBase_ValueError->g9,slot_int_index->ik,entry_int_rmul->il,fills_int_mul->iQ,called_enumerate->iV
open False renaming elim->bB
open Int renaming toNat_natCast->bJ,le_refl->dW,mul_le_mul_of_nonneg_left->eR,toNat_of_nonneg->e8,zero_add->fg,fdiv_eq_ediv_of_nonneg->fm,one_mul->fN,ofNat_lt->jc,sub_zero->jf,natCast_mul->jD,le_antisymm->jE,le_total->km
open PySem.Builtin.SmallTypes renaming nextOf->bR,ownedTupleHandOut->dG,ownedTupleIsFree->dL
open Ne renaming symm->bX
open PySem.Around renaming under_plainId->cn,frames_deeper->gS
open Option renaming map_some->cw,isSome_some->cA,isSome_none->cC,isSome_map->fJ,isSome_iff_exists->fS,map_eq_some_iff->gx,map->kC
open PySem.Builtin.Builtins renaming bindParams->cx
open PySem.W.Looks renaming andThen->cF,now->fK,tag->kD,ld->kF
open PySem.Builtin.Getset_descriptor renaming descrCheckInstance->cU,descrOwnerAndName->cX,descrGetter->dD,descrNameAndClass->f8,descrGetArgs->g8
open List.Nodup renaming length_le_of_subset->cW
open PyProof.Rows renaming callWith_type1->dm,subscriptTail_builtinR->d6,kindOf->et,envOfC->eW,AllBare->e9,Constant_none->iu,slot_tuple_getitem->iP,IntsAre->jJ,Subscript_->jL,tail_any->jM
open PySem.Builtin.List renaming listTooLong->dJ
open PySem.Builtin.ObjectAttr renaming find->dY
open PySem.Calls renaming Name_function_global->fi,callWith_builtin->gk,evalArgs_plain->gT
open PySem.Builtin.Tuple renaming tupleTooMany->fv,tupleItemsOf->jS,tupleIsExact->jT
open Prod renaming fst->fx
open PySem.W.OpenLaw renaming wellSaid->fO
open Classical renaming propDecidable->f6
open PySem.Obj renaming mapSeq->gi,data_mapFields->iU
open PySem.SeqAt renaming EqAt->gA,RcNeAt->kh,RcAt->kB
open PySem.SeqAt.EqAt renaming same->gF,int_str->iG,str_int->iH,of_refs->iY
open Array renaming getElem?_mapIdx->gN,length_toList->ii,toList_append->iq,append_assoc->iI,toList->iZ
open PySem.Heap.SameBut renaming update->ip
open PySem.Paired renaming length->ir,snoc->kz
open PySem.CmpOf renaming ints_lt->iB
open Function renaming comp->iC
open PySem.Walks renaming list->iT
open PySem.W.KF renaming slot_gs->iW
open PySem.PassesOwn renaming never->jF
open PySem.Builtin renaming bitAnd->jU
open PySem.Builtin.Str renaming tooLong->jX
open PySem.Value renaming isStrOf->jZ,isInt->kq
open PySem.Builtin.Range renaming rangeSize->j2
open PyProof.Rows.IsTup renaming new->j4
open PySem.StrLaws renaming found_one->j8
open PySem.W.OpenRow renaming toRowW->j9
open PySem.Heap.Ns renaming new->ku
open List.Pairwise renaming filter->kA
open Iff renaming rfl->kE
noncomputable section
namespace L2
open PySem PySem.Spec PyProof.Rows
theorem head_of {l:c9}{q:aD}{loose:List Str}{H:PySem.W.Hook}{N:Nat}{d:DefRec}{h:List (Str×Expr)}
  (left:PySem.W.LeftO l.row.prog q loose (λ s=>PySem.W.xlAt q [] s&&PySem.W.recOk (PySem.W.RowW.records (j9 l.row)) s) H.obs H.val N)
  (F:PySem.W.defOf q l.row.name=some (d,h)) (hp:l.row.prog.theDef l.row.name=some (d.params,d.body,d.scope)) (hk:PySem.W.kwWritten? d.params.kwonlyargs d.params.kw_defaults=some h) (G:(!l.row.writes||l.row.records.isEmpty)=true)
  (k1:l.row.wellSaid=true) (ok:(PySem.W.chainsOk q&&PySem.W.opensWell l.row.prog&&(PySem.W.frees l.row.toRowW&&l.row.within.isEmpty))=true) (hb:l.row.prog.bare) (hw:l.row.toRowW.promised)
  (call:jY q loose (PySem.W.XL q []) H.says l.row.toRowW d h λ f vs=>jK f vs):l.row.Holds :=
 PySem.W.holds_open left H.of H.keeps (λ s e=>PySem.W.xl_of s (gO.mp e).1) PySem.W.XL.keeps F hp hk (λ s e=>PySem.W.recFacts_of (gO.mp e).2) G k1 ok hb hw call
end L2
end
noncomputable section
namespace My
open PySem L2
noncomputable def nmS:Stmt->Bool
 | .Assign [.Name x _] _ _=>decide (x=("__name__":Str))
 | _=>false
noncomputable def vq:aD:={ PySem.Challenge.pw_leasttolls_k06_a_road_of_least_toll with main:={ (PySem.Challenge.pw_leasttolls_k06_a_road_of_least_toll).main with body:=(PySem.Challenge.pw_leasttolls_k06_a_road_of_least_toll).main.body.filter λ s=>!nmS s } }
inductive IsL:c9->Prop|mk:IsL PySem.Challenge.rw_leasttolls_k06_a_road_of_least_toll
theorem bH2 {l:c9}(h:IsL l):PySem.Challenge.rw_leasttolls_k06_a_road_of_least_toll=l:=by cases h;rfl
noncomputable def lwp:{ l:c9 // IsL l }:=by
 refine⟨?p,?h⟩
 case h =>
  have e:PySem.Challenge.rw_leasttolls_k06_a_road_of_least_toll=?p:=by
   conv=>lhs;reduce
  exact e▸IsL.mk
theorem ws1:fO lwp.1=true:=by k_qdec
theorem ws:fO PySem.Challenge.rw_leasttolls_k06_a_road_of_least_toll=true:=by
 rw[bH2 lwp.2];exact ws1
end My
end
section
open PySem PySem.W PyProof.Rows
local macro_rules | `(tactic| o_head $H) => `(tactic| refine L2.head_of (q := My.vq) (loose := []) (H := $H) (N := 4000) (λ w => by kernel_rfl) (by rfl) (by rfl) (by rfl) rfl (by assumption) (by decide +kernel) ⟨rfl, rfl, rfl, rfl, rfl, by decide +kernel⟩ ?_ ?_)
set_option maxRecDepth 100000 in
set_option maxHeartbeats 0 in
noncomputable def My.GT:{ G:Prop // G->PySem.Challenge.rw_leasttolls_k06_a_road_of_least_toll.Holds }:=by
 refine⟨?G,?h⟩
 case h =>
  intro g
  w_on;refine holds_law My.ws λ said=>?_;k_head;(focus w_witness2)
  exact g
end
noncomputable section
namespace L2
open PySem PySem.Spec PyProof.Rows
noncomputable abbrev Key:=Sum Int Str
noncomputable def aH4:Key->Value->Bool
 | .inl k,v=>kq k v
 | .inr x,v=>jZ x v
noncomputable def bV0 (w:World):Key->Int
 | .inl k=>hashInt k
 | .inr x=>hashStr w x
theorem zo:∀ {k:Key} {v:Value},aH4 k v=true->(∃ i t,k=Sum.inl i/\v=Value.int i t)\/(∃ x t,k=Sum.inr x/\v=Value.str x t)
 | .inl i,v,h=>by
  obtain⟨t,e⟩:=Value.isInt_shape (k:=i) (v:=v) h
  exact .inl ⟨i,t,rfl,e⟩
 | .inr x,v,h=>by
  obtain⟨t,e⟩:=Value.isStrOf_shape (x:=x) (v:=v) h
  exact .inr ⟨x,t,rfl,e⟩
theorem aT5 (i:Int)(t:Tok):aH4 (.inl i) (.int i t)=true:=by simp[aH4,kq]
theorem aK5 (x:Str)(t:Tok):aH4 (.inr x) (.str x t)=true:=by simp[aH4,jZ]
theorem by7 (a b:Int):decide ((Sum.inl a:Key)=Sum.inl b)=(a==b):=by
 by_cases e:a=b
 ·subst e;simp
 ·have h:¬(Sum.inl a:Key)=Sum.inl b:=λ q=>e (Sum.inl.inj q)
  rw[decide_eq_false h]
  exact(beq_eq_false_iff_ne.mpr e).symm
theorem bz3 (a b:Str):decide ((Sum.inr a:Key)=Sum.inr b)=decide (a=b):=by
 by_cases e:a=b
 ·subst e;simp
 ·have h:¬(Sum.inr a:Key)=Sum.inr b:=λ q=>e (Sum.inr.inj q)
  rw[decide_eq_false h,decide_eq_false e]
theorem bw5 (a:Int)(b:Str):decide ((Sum.inl a:Key)=Sum.inr b)=false:=decide_eq_false (λ q=>nomatch q)
theorem bD6 (a:Str)(b:Int):decide ((Sum.inr a:Key)=Sum.inl b)=false:=decide_eq_false (λ q=>nomatch q)
noncomputable def zB (prog:aD)(w:World):PySem.KeyKind prog w Key where
 is:=aH4
 hash:=bV0 w
 inj:=λ v a b ha hb=>by
  rcases zo ha with⟨i,t,rfl,rfl⟩|⟨x,t,rfl,rfl⟩
  ·rcases zo hb with⟨j,u,rfl,e⟩|⟨y,u,rfl,e⟩
   ·injection e with e1 _;rw[e1]
   ·exact nomatch e
  ·rcases zo hb with⟨j,u,rfl,e⟩|⟨y,u,rfl,e⟩
   ·exact nomatch e
   ·injection e with e1 _;rw[e1]
 byValue:=λ k v h=>by
  rcases zo h with⟨i,t,rfl,rfl⟩|⟨x,t,rfl,rfl⟩<;>rfl
 pyHash:=λ hv h=>by
  rcases zo hv with⟨i,t,rfl,rfl⟩|⟨x,t,rfl,rfl⟩
  ·exact wpAny_pyHash_int h
  ·exact wpAny_pyHash_str h
 eqBool:=λ hu hv h=>by
  rcases zo hu with⟨i,t,rfl,rfl⟩|⟨x,t,rfl,rfl⟩
  ·rcases zo hv with⟨j,u,rfl,rfl⟩|⟨y,u,rfl,rfl⟩
   ·rw[by7]at h;exact wpAny_eqBool_int h
   ·rw[bw5]at h;exact iG i t y u _ _ _ _ h
  ·rcases zo hv with⟨j,u,rfl,rfl⟩|⟨y,u,rfl,rfl⟩
   ·rw[bD6]at h;exact iH x t j u _ _ _ _ h
   ·rw[bz3]at h;exact wpAny_eqBool_str h
 «strs»:=λ k x t v h=>by
  rcases zo h with⟨i,u,rfl,e⟩|⟨y,u,rfl,e⟩
  ·exact nomatch e
  ·injection e with e1 _
   subst e1
   cases v<;>rfl
theorem ay7 (prog:aD)(w:World)(i:Int)(t:Tok):(zB prog w).is (.inl i) (.int i t)=true:=aT5 i t
theorem ay2 (prog:aD)(w:World)(x:Str)(t:Tok):(zB prog w).is (.inr x) (.str x t)=true:=aK5 x t
inductive V where
 | non|bl (b:Bool)|int (i:Int)|str (x:Str)|byt (b:Array UInt8)|flt (b:UInt64)|ref (a:Addr)|ty (n:String)
 deriving DecidableEq
noncomputable def RelV:V->Value->Prop
 | .non,u=>u=Value.none
 | .bl b,u=>u=Value.bool b
 | .int i,u=>∃ t,u=Value.int i t
 | .str x,u=>∃ t,u=Value.str x t
 | .byt b,u=>∃ t,u=Value.bytes b t
 | .flt b,u=>∃ t,u=Value.float b t
 | .ref a,u=>u=Value.ref a
 | .ty n,u=>u=Value.type n
abbrev Vals:List V->List Value->Prop:=fQ RelV
theorem Vals.length {h:List V}{us:List Value}(r:Vals h us):h.length=us.length:=ir r
theorem Vals.get:∀ {h:List V} {us:List Value} {i:Nat} {x:V},Vals h us->h[i]?=some x->∃ u,us[i]?=some u/\RelV x u
 | _,_,_,_,.nil,e=>by simp at e
 | _,_,0,_,.cons r _,e=>by simp at e;subst e;exact⟨_,rfl,r⟩
 | _,_,i+1,x,.cons _ t,e=>by
  obtain⟨u,G,F⟩:=Vals.get (i:=i) (x:=x) t (by simpa using e)
  exact⟨u,by simpa using G,F⟩
theorem Vals.set {x:V}{u:Value}(r:RelV x u):∀ {h:List V} {us:List Value} (i:Nat),Vals h us->Vals (h.set i x) (us.set i u)
 | _,_,_,.nil=>.nil
 | _,_,0,.cons _ t=>.cons r t
 | _,_,i+1,.cons q t=>.cons q (Vals.set r i t)
theorem Vals.append:∀ {h ys:List V} {us ws:List Value},Vals h us->Vals ys ws->Vals (h++ys) (us++ws)
 | _,_,_,_,.nil,s=>s
 | _,_,_,_,.cons r t,s=>.cons r (Vals.append t s)
theorem Vals.take:∀ {h:List V} {us:List Value} (n:Nat),Vals h us->Vals (h.take n) (us.take n)
 | _,_,0,_=>.nil
 | _,_,_+1,.nil=>.nil
 | _,_,n+1,.cons r t=>.cons r (Vals.take n t)
theorem Vals.drop:∀ {h:List V} {us:List Value} (n:Nat),Vals h us->Vals (h.drop n) (us.drop n)
 | _,_,0,r=>r
 | _,_,_+1,.nil=>.nil
 | _,_,n+1,.cons _ t=>Vals.drop n t
noncomputable def aI1:Option V->Option Value->Prop
 | some v,some u=>RelV v u
 | none,none=>True
 | _,_=>False
def KV {κ:Type}:List (κ×V)->List (κ×Value)->Prop:=fQ λ(p:κ×V) (q:κ×Value)=>p.1=q.1/\RelV p.2 q.2
noncomputable def kV:Key->V
 | .inl i=>.int i
 | .inr x=>.str x
inductive HO where
 | lst (xs:List V)
 | tup (xs:List V)
 | dK (kvs:List (Key×V))|dT (kvs:List (List Key×V))
 | set (S:Int->Bool) (n:Nat)
 | ins (C dx:Addr) (fs:List (Str×V))
 | own (x:Addr)
 | xd (fs:List (Str×V))
 | met (f x:Addr)
 | rng (lo hi:Int)
 | frz (o:Obj) (u:HO)
 | tbl (ps:Array Value)
 | ext (φ:Heap->Prop)
noncomputable abbrev Hp:=Addr->Option HO
noncomputable def upd (H:Hp)(a:Addr)(o:HO):Hp:=λ b=>if b=a then some o else H b
theorem zg {H:Hp}{a:Addr}{o:HO}:upd H a o a=some o:=by unfold upd;rw[if_pos rfl]
theorem zb {H:Hp}{a b:Addr}{o:HO}(h:b≠a):upd H a o b=H b:=by unfold upd;rw[if_neg h]
theorem bM9 {H:Hp}{a b:Addr}{o u:HO}(h:H a=some o)(h':H b=some u)(d:o≠u):a≠b:=by
 intro e;subst e;rw[h]at h';exact d (au h')
theorem zm {H:Hp}{a b:Addr}{o:HO}(h:H a=some o)(h':H b=none):a≠b:=by
 intro e;subst e;rw[h]at h';cases h'
section
variable (P:aD) (w:World)
noncomputable def aa8 (H:Hp)(h:Heap)(a:Addr):HO->Prop
 | .lst xs=>xs.length<=aH/\∃(its:List Value) (n:Nat),Vals xs its/\h.get? a=some { cls:=.type "list",data:=.seq its.toArray n }
 | .tup xs=>xs.length<=aH/\∃ its:List Value,Vals xs its/\IsTup h a its.toArray
 | .dK kvs=>kvs.length<=aH/\(a==dv)=false/\∃ vs,KV kvs vs/\h.DictOf (zB P w) a vs
 | .dT kvs=>kvs.length<=aH/\(a==dv)=false/\∃ xs:List (List Key×Addr×Value),
   fQ (λ(p:List Key×V) (q:List Key×Addr×Value)=>p.1=q.1/\H q.2.1=some (.tup (p.1.map kV))/\RelV p.2 q.2.2) kvs xs /\
   ∃ o es ep,h.get? a=some o/\o.ExactDict/\o.data=.dict es ep/\es.toList=xs.map (entryOfKey (hZ (zB P w)))/\(xs.map (·.1)).Nodup
 | .set S n=>h.SetOf (intKind P w) a S n
 | .ins C dx fs=>H dx=some (.own a)/\fs.length<=1000/\dx≠a/\h.get? a=some (gD C dx) /\
   ∃ mA,h.Ns1 dx mA/\(∀ f,aI1 (fs.lookup f) (mA f))/\ka mA (fs.map (·.1))
 | .own _=>∃ o,h.get? a=some o
 | .xd fs=>∃ mA,h.Ns1 a mA/\∀ f,aI1 (fs.lookup f) (mA f)
 | .rng lo hi=>∃ t u v,h.get? a=some { cls:=.type "range",data:=.fields #[.int lo t,.int hi u,.int 1 v] }
 | .frz o u=>h.get? a=some o/\aa8 H h a u
 | .tbl ps=>h.get? a=some { cls:=.none,data:=.fields ps }
 | .met f x=>h.get? a=some (fC (.ref f) (.ref x))
 | .ext φ=>φ h/\(∃ o,h.get? a=some o)/\∀ h1 h2:Heap,φ h1->(∀ o,h1.get? a=some o->h2.get? a=some o)->φ h2
def HOk (H:Hp)(h:Heap):Prop:=∀ a o,H a=some o->aa8 P w H h a o
end
section
variable {P:aD} {w:World} {H H':Hp} {h h':Heap} {a:Addr} {o:HO}
theorem aa8.lt (x:aa8 P w H h a o):a<h.objs.size:=by
 cases o with
 | lst xs=>obtain⟨_,_,_,_,e⟩:=x;exact az e
 | tup xs=>obtain⟨_,_,_,p⟩:=x;exact p.lt
 | dK kvs=>obtain⟨_,_,_,_,o,_,_,e,_⟩:=x;exact az e
 | dT kvs=>obtain⟨_,_,_,_,o,_,_,e,_⟩:=x;exact az e
 | set S n=>obtain⟨o,_,_,_,e,_⟩:=x;exact az e
 | ins C dx fs=>obtain⟨_,_,_,e,_⟩:=x;exact az e
 | own y=>obtain⟨_,e⟩:=x;exact az e
 | xd fs=>obtain⟨_,⟨_,_,_,e,_⟩,_⟩:=x;exact az e
 | rng lo hi=>obtain⟨_,_,_,e⟩:=x;exact az e
 | frz ob u=>obtain⟨e,_⟩:=x;exact az e
 | tbl ps=>exact az (show h.get? a=some _ from x)
 | met f y=>exact az (show h.get? a=some _ from x)
 | ext φ=>obtain⟨_,⟨_,e⟩,_⟩:=x;exact az e
theorem fQ.mapP {α β:Type}{F G:α->β->Prop}:∀ {h:List α} {l₂:List β},fQ F h l₂->(∀ a b,F a b->G a b)->fQ G h l₂
 | _,_,.nil,_=>.nil
 | _,_,.cons r t,f=>.cons (f _ _ r) (fQ.mapP t f)
theorem aa8.stay (x:aa8 P w H h a o)(k:∀ b u,(b=a\/H b=some (.own a))->h.get? b=some u->h'.get? b=some u)
  (ho:∀ b,H b=some (.own a)->H' b=some (.own a)) (Y:∀ b G,H b=some (.tup G)->H' b=some (.tup G)):aa8 P w H' h' a o:=by
 induction o with
 | lst G=>obtain⟨z,its,n,r,e⟩:=x;exact⟨z,its,n,r,k _ _ (.inl rfl) e⟩
 | tup G=>obtain⟨z,its,r,ob,e,c⟩:=x;exact⟨z,its,r,ob,k _ _ (.inl rfl) e,c⟩
 | dK kvs=>obtain⟨z,y,vs,r,ob,es,F,e,c⟩:=x;exact⟨z,y,vs,r,ob,es,F,k _ _ (.inl rfl) e,c⟩
 | dT kvs =>
  obtain⟨z,y,G,r,ob,es,F,e,c⟩:=x
  exact⟨z,y,G,fQ.mapP r λ p q z=>⟨z.1,Y _ _ z.2.1,z.2.2⟩,ob,es,F,k _ _ (.inl rfl) e,c⟩
 | set S n=>obtain⟨ob,es,F,t,e,c⟩:=x;exact⟨ob,es,F,t,k _ _ (.inl rfl) e,c⟩
 | ins C dx fs =>
  obtain⟨d,z,ne,e,J,⟨od,es,F,e2,c⟩,r⟩:=x
  exact⟨ho _ d,z,ne,k _ _ (.inl rfl) e,J,⟨od,es,F,k _ _ (.inr d) e2,c⟩,r⟩
 | own y=>obtain⟨ob,e⟩:=x;exact⟨ob,k _ _ (.inl rfl) e⟩
 | xd fs=>obtain⟨J,⟨od,es,F,e,c⟩,r⟩:=x;exact⟨J,⟨od,es,F,k _ _ (.inl rfl) e,c⟩,r⟩
 | rng lo hi=>obtain⟨t,u,v,e⟩:=x;exact⟨t,u,v,k _ _ (.inl rfl) e⟩
 | frz ob u ih=>obtain⟨e,q⟩:=x;exact⟨k _ _ (.inl rfl) e,ih q⟩
 | tbl ps =>
  have e:h.get? a=some { cls:=.none,data:=.fields ps }:=x
  show h'.get? a=some { cls:=.none,data:=.fields ps }
  exact k a _ (.inl rfl) e
 | met f y =>
  have e:h.get? a=some (fC (.ref f) (.ref y)):=x
  show h'.get? a=some (fC (.ref f) (.ref y))
  exact k a _ (.inl rfl) e
 | ext φ=>obtain⟨p,⟨o,e⟩,st⟩:=x;exact⟨st _ _ p λ o q=>k _ _ (.inl rfl) q,⟨o,k _ _ (.inl rfl) e⟩,st⟩
theorem HOk.lt (x:HOk P w H h)(e:H a=some o):a<h.objs.size:=(x a o e).lt
theorem HOk.fresh (x:HOk P w H h)(e:h.objs.size<=a):H a=none:=by
 cases q:H a with
 | none=>rfl
 | some u=>exact absurd (ao (x.lt q) e) (bo _)
theorem HOk.kept (x:HOk P w H h)(k:∀ b u,h.get? b=some u->h'.get? b=some u):HOk P w H h':=λ a o e =>
 (x a o e).stay (λ b u _ q=>k b u q) (λ _ q=>q) λ _ _ q=>q
theorem HOk.laid (x:HOk P w H h)(k:∀ b u,h.get? b=some u->h'.get? b=some u)(hp:h.objs.size<=a)(new:aa8 P w (upd H a o) h' a o):HOk P w (upd H a o) h':=λ b u e=>by
 have hn:=x.fresh hp
 by_cases hb:b=a
 ·subst hb;rw[zg]at e;cases e;exact new
 ·rw[zb hb]at e
  exact(x b u e).stay (λ c v _ q=>k c v q) (λ c q=>by rw[zb (zm q hn)];exact q) λ c F q=>by rw[zb (zm q hn)];exact q
end
def Rd (H:Hp)(a:Addr)(u:HO):Prop:=H a=some u\/∃ o,H a=some (.frz o u)
theorem Rd.ok {P:aD}{w:World}{H:Hp}{h:Heap}{a:Addr}{u:HO}(r:Rd H a u)(x:HOk P w H h):aa8 P w H h a u:=by
 rcases r with r|⟨o,r⟩
 ·exact x a u r
 ·obtain⟨_,q⟩:=x a _ r
  exact q
noncomputable def Mut:Option HO->Prop
 | some (.lst _)=>True
 | some (.dK _)=>True
 | some (.dT _)=>True
 | some (.set _ _)=>True
 | some (.ins _ _ _)=>True
 | some (.ext _)=>True
 | _=>False
section
variable {P:aD} {w:World} {H:Hp} {h h':Heap} {x e:Addr} {o':HO}
theorem HOk.write (ok:HOk P w H h)(mu:Mut (H x))(he:e=x\/H e=some (.own x))(k:∀ b u,b≠e->h.get? b=some u->h'.get? b=some u)(Y:∃ u,h'.get? e=some u)
  (new:aa8 P w (upd H x o') h' x o'):HOk P w (upd H x o') h':=λ b u q=>by
 have F:∀ c y,H c=some (.own y)->c≠x:=λ c y r z=>by subst z;rw[r]at mu;exact mu
 have G:∀ c J,H c=some (.tup J)->c≠x:=λ c J r z=>by subst z;rw[r]at mu;exact mu
 by_cases hb:b=x
 ·subst hb;rw[zg]at q;cases q;exact new
 ·rw[zb hb]at q
  by_cases hbe:b=e
  ·have Z:H b=some (.own x):=by
    rcases he with z|z
    ·exact absurd (hbe.trans z) hb
    ·rw[hbe];exact z
   rw[q]at Z;cases Z
   obtain⟨v,hv⟩:=Y
   exact⟨v,by rw[hbe];exact hv⟩
  ·refine(ok b u q).stay (λ c v hc r=>k c v ?_ r) (λ c r=>by rw[zb (F c b r)];exact r) λ c J r=>by rw[zb (G c J r)];exact r
   rcases hc with rfl|hc
   ·exact hbe
   ·rintro rfl
    rcases he with z|z
    ·exact F c b hc z
    ·rw[hc]at z;cases z;exact hb rfl
end
structure Un (fs ex:List Addr)(H H':Hp)(h h':Heap):Prop where
 keep:∀ b o,h.get? b=some o->H b=none->b ∉ fs->b ∉ ex->h'.get? b=some o
 slot:∀ b o,h.get? b=some o->H b=none->b∈fs->b ∉ ex->∃ sl,h'.get? b=some { o with slots:=sl }
 free:∀ b o,h.get? b=some o->H b=none->b ∉ ex->H' b=none
 there:∀ b o,h.get? b=some o->b ∉ ex->∃ o',h'.get? b=some o'
 tups:∀ b xs,H b=some (.tup xs)->H' b=some (.tup xs)
 frzs:∀ b o u,H b=some (.frz o u)->H' b=some (.frz o u)
 tbls:∀ b ps,H b=some (.tbl ps)->∃ more,H' b=some (.tbl (ps++more))
section
variable {fs fs' ex ex':List Addr} {H H1 H2:Hp} {h h1 h2 h':Heap} {a x e:Addr} {o:HO}
theorem Un.any (u:Un fs ex H H1 h h1){b:Addr}{ob:Obj}(q:h.get? b=some ob)(n:H b=none)(hx:b ∉ ex):∃ sl,h1.get? b=some { ob with slots:=sl }:=by
 by_cases hb:b∈fs
 ·exact u.slot b ob q n hb hx
 ·exact⟨ob.slots,u.keep b ob q n hb hx⟩
theorem Un.kept (k:∀ b u,h.get? b=some u->h'.get? b=some u):Un fs ex H H h h' :=
 ⟨λ b ob q _ _ _=>k b ob q,λ b ob q _ _ _=>⟨ob.slots,k b ob q⟩,λ _ _ _ n _=>n,λ b ob q _=>⟨ob,k b ob q⟩,λ _ _ q=>q,λ _ _ _ q=>q,λ _ ps q=>⟨#[],by rw[q];simp⟩⟩
theorem Un.refl:Un fs ex H H h h:=Un.kept λ _ _ q=>q
theorem Un.laid (k:∀ b u,h.get? b=some u->h'.get? b=some u)(hp:h.objs.size<=a)(hn:H a=none):Un fs ex H (upd H a o) h h' where
 keep:=λ b u q _ _ _=>k b u q
 slot:=λ b u q _ _ _=>⟨u.slots,k b u q⟩
 free:=λ b u q n _=>by rw[zb (ay (ao (az q) hp))];exact n
 there:=λ b u q _=>⟨u,k b u q⟩
 tups:=λ b F q=>by rw[zb (zm q hn)];exact q
 frzs:=λ b u F q=>by rw[zb (zm q hn)];exact q
 tbls:=λ b ps q=>⟨#[],by rw[zb (zm q hn),q];simp⟩
theorem Un.write (mu:Mut (H x))(he:e=x\/H e=some (.own x))(k:∀ b u,b≠e->h.get? b=some u->h'.get? b=some u)(G:∃ u,h'.get? e=some u):Un fs ex H (upd H x o) h h':=by
 have hx:∀ b,H b=none->b≠x:=λ b n z=>by subst z;rw[n]at mu;exact mu
 have hb:∀ b,H b=none->b≠e:=λ b n z=>by
  subst z
  rcases he with r|r
  ·exact hx b n r
  ·rw[n]at r;cases r
 have F:∀ b u,H b=some u->¬ Mut (some u)->b≠x:=λ b u q nm z=>by subst z;rw[q]at mu;exact nm mu
 refine⟨λ b u q n _ _=>k b u (hb b n) q,λ b u q n _ _=>⟨u.slots,k b u (hb b n) q⟩,λ b u q n _=>by rw[zb (hx b n)];exact n,λ b u q _=>?_,
  λ b J q=>by rw[zb (F b _ q λ z=>z)];exact q,λ b u J q=>by rw[zb (F b _ q λ z=>z)];exact q,λ b ps q=>⟨#[],by rw[zb (F b _ q λ z=>z),q];simp⟩⟩
 by_cases hbe:b=e
 ·subst hbe;exact G
 ·exact⟨u,k b u hbe q⟩
end
noncomputable def trk (h:Heap)(H:Hp):List Addr:=(bf h.objs.size).filter λ a=>(H a).isSome
noncomputable def aV5 (h:Heap)(H:Hp):Heap:=PySem.W.hideAll h (trk h H)
theorem aU2 (h:Heap)(H:Hp):(aV5 h H).objs.size=h.objs.size:=PySem.W.hideAll_size _ _
theorem ah3 {h:Heap}{H:Hp}{b:Addr}{o:Obj}(e:h.get? b=some o)(n:H b=none):(aV5 h H).get? b=some o :=
 PySem.W.hideAll_get _ e λ F=>by
  have q:(H b).isSome=true:=(gE.mp F).2
  rw[n]at q;simp at q
theorem bs7 {h:Heap}{H:Hp}{b:Addr}{o:Obj}(e:(aV5 h H).get? b=some o):h.get? b=some o/\H b=none:=by
 have e':h.get? b=some o:=PySem.W.of_hideAll (trk h H) e
 refine⟨e',?_⟩
 cases q:H b with
 | none=>rfl
 | some x =>
  have F:b∈trk h H:=gE.mpr ⟨bL.mpr (az e'),by simp[q]⟩
  have z:(aV5 h H).get? b=none:=PySem.W.hideAll_none (trk h H) F
  rw[z]at e;cases e
noncomputable def bj2 (g h:Heap)(L:Addr):List (Addr×Obj):=(bf h.objs.size).filterMap λ a=>if a=L\/(g.get? a).isSome=true then none else(h.get? a).map λ o=>(a,o)
noncomputable def rest (g h:Heap)(L d:Addr):List (Addr×Obj):=(bj2 g h L).filter λ p=>decide (p.1≠d)
structure Mod (K:ae)(mg:Str->Option Value)(base:Heap):Prop where
 kin:K.In base
 glob:base.Ns bC mg
 blt:∃ mb,base.Ns f9 mb/\∀ x:Str,x ≠ "__name__"->mb x=a9 x
 nolimit:base.NoLimit
structure Cx where
 prog:aD
 w:World
 K:ae
 mg:Str->Option Value
 base:Heap
 A:aM
 N:List Str
 s₀:af
 H₀:Hp
 env:Env
 outer:List Env
 stack:List Env
 ex:List Addr
 fn:Str->Bool
 calm:Bool
 pn:List (Addr×Obj)
 xe:Value->af->Prop
noncomputable def frs (l:List Env):List Addr:=l.filterMap (·.frame)
noncomputable abbrev Cx.fs (X:Cx):List Addr:=frs X.outer
def Vis (sc:Scope)(x:Str):Prop:=sc.names.lookup x=some .local\/sc.names.lookup x=some .cell\/sc.names.lookup x=some .free
def Loc (sc:Scope)(x:Str):Prop:=sc.names.lookup x=some .local\/sc.names.lookup x=some .cell
def Look (env:Env)(h:Heap)(m:Str->Option Value)(x:Str)(u:Value):Prop :=
 (env.kindOf x=some .local/\m x=some u)\/((env.kindOf x=some .cell\/env.kindOf x=some .free)/\∃ c,env.cells.lookup x=some c/\h.IsCell c (some u))
structure Cx.Ok (X:Cx):Prop where
 mod:Mod X.K X.mg X.base
 kind:X.env.scope.kind=.function
 glob:X.env.globals=bC
 blt:X.env.builtins=f9
 above:X.s₀.heap.objs.size<=X.env.locals
 inj:∀ x y c,X.env.cells.lookup x=some c->X.env.cells.lookup y=some c->x=y
 has:∀ x,(X.env.kindOf x=some .cell\/X.env.kindOf x=some .free)->∃ c,X.env.cells.lookup x=some c
 cab:∀ x c,X.fn x=true->X.env.cells.lookup x=some c->X.s₀.heap.objs.size<=c
 hd:X.calm=true->X.A.handled=none
 frames:X.A.frames=some X.stack
 stk:X.stack=X.outer\/(X.stack=X.env::X.outer/\X.env.frame=some X.env.locals)
 exf:∀ b∈X.ex,b≠X.env.locals/\∀ x c,X.env.cells.lookup x=some c->c≠b
 bs:∀ b o,X.base.get? b=some o->X.s₀.heap.get? b=some o/\X.H₀ b=none
 bsz:X.base.objs.size<=X.s₀.heap.objs.size
 noex:∀ b o,X.base.get? b=some o->b ∉ X.ex
 exfs:∀ b∈X.ex,b ∉ X.fs
 funs:X.s₀.heap.FunFrames X.base X.outer
 frf:∀ b∈X.fs,X.H₀ b=none
structure Inv (X:Cx)(pins:List (Addr×Obj))(σ:List (Option V))(H:Hp)(s:af):Prop where
 ok:X.Ok
 os:s.os=X.s₀.os
 bare:e9 s.gens
 base:Un X.fs X.ex X.H₀ H X.s₀.heap s.heap
 loc:∃ m,s.heap.Ns X.env.locals m/\∀(i:Nat) (x:Str) (v:V),X.N[i]?=some x->σ[i]?=some (some v)->Vis X.env.scope x->∃ u,RelV v u/\Look X.env s.heap m x u
 cell:∀ x c,X.env.cells.lookup x=some c->∃ v,s.heap.IsCell c v
 free:H X.env.locals=none
 freeC:∀ x c,X.env.cells.lookup x=some c->H c=none
 pin:∀ p∈X.pn++pins,s.heap.get? p.1=some p.2/\H p.1=none/\p.1≠X.env.locals/\p.1 ∉ X.fs/\∀ v,p.2.data≠.cell v
 hok:HOk X.prog X.w H s.heap
 len:σ.length=X.N.length
section
variable {X:Cx} {pins:List (Addr×Obj)} {σ:List (Option V)} {H H':Hp} {s:af} {h':Heap}
theorem Cx.Ok.nofr (ok:X.Ok){b:Addr}{o:Obj}(e:X.base.get? b=some o):b ∉ X.fs:=λ hb=>by
 have:=(ok.funs.mem hb).1
 rw[e]at this;cases this
theorem Inv.bs (I:Inv X pins σ H s):∀ b o,X.base.get? b=some o->s.heap.get? b=some o/\H b=none:=λ b o e =>
 ⟨I.base.keep b o (I.ok.bs b o e).1 (I.ok.bs b o e).2 (I.ok.nofr e) (I.ok.noex b o e),I.base.free b o (I.ok.bs b o e).1 (I.ok.bs b o e).2 (I.ok.noex b o e)⟩
theorem Inv.bk (I:Inv X pins σ H s):∀ b o,X.base.get? b=some o->s.heap.get? b=some o:=λ b o e=>(I.bs b o e).1
theorem Inv.mod (I:Inv X pins σ H s):Mod X.K X.mg X.base:=I.ok.mod
theorem Inv.kIn (I:Inv X pins σ H s):X.K.In s.heap:=I.ok.mod.kin.keeps I.bk
theorem Inv.nolimit (I:Inv X pins σ H s):s.heap.NoLimit:=I.ok.mod.nolimit.keeps I.bk
theorem Inv.lt (I:Inv X pins σ H s):X.env.locals<s.heap.objs.size:=let⟨_,hn,_⟩:=I.loc;hn.lt
theorem Inv.sz (I:Inv X pins σ H s):X.s₀.heap.objs.size<=s.heap.objs.size:=av I.ok.above (dZ I.lt)
theorem Inv.nofs (I:Inv X pins σ H s){a:Addr}(h:s.heap.objs.size<=a):a ∉ X.fs:=λ hb=>by
 obtain⟨_,o,ho,_⟩:=I.ok.funs.mem hb
 exact absurd (ao (az ho) (av I.sz h)) (bo _)
theorem Inv.cne (I:Inv X pins σ H s):∀ x c,X.env.cells.lookup x=some c->c≠X.env.locals:=λ x c e z=>by
 obtain⟨v,o,ho,hd⟩:=I.cell x c e
 obtain⟨m,⟨G,es,J,F,h,_⟩,_⟩:=I.loc
 rw[z,F]at ho;cases ho;rw[h]at hd;cases hd
theorem Inv.funs (I:Inv X pins σ H s):s.heap.FunFrames X.base X.outer:=by
 have all:∀(l:List Env),(∀ b∈frs l,b∈X.fs)->X.s₀.heap.FunFrames X.base l->s.heap.FunFrames X.base l:=by
  intro l
  induction l with
  | nil=>intro _ _;trivial
  | cons env r ih =>
   intro hs hl
   obtain⟨hk,⟨L,o,h,hn,ho,hd⟩,F⟩:=hl
   have hL:L∈X.fs:=hs L (by unfold frs;rw[aO,h];exact aq)
   obtain⟨sl,e⟩:=I.base.slot L o ho (I.ok.frf L hL) hL λ z=>I.ok.exfs L z hL
   exact⟨hk,⟨L,_,h,hn,e,hd⟩,ih (λ b hb=>hs b (by unfold frs;rw[aO,h];exact ak _ hb)) F⟩
 exact all X.outer (λ _ hb=>hb) I.ok.funs
theorem Inv.stack (I:Inv X pins σ H s):s.heap.FunFrames X.base X.stack:=by
 rcases I.ok.stk with e|⟨e,h⟩
 ·rw[e];exact I.funs
 ·rw[e]
  obtain⟨m,hn,_⟩:=I.loc
  refine .cons (by rw[I.ok.kind];decide) h hn ?_ I.funs
  exact eM (av I.ok.bsz I.ok.above)
theorem Inv.stkSub (I:Inv X pins σ H s):∀ b∈frs X.stack,b∈X.env.locals::X.fs:=λ b hb=>by
 rcases I.ok.stk with e|⟨e,h⟩
 ·rw[e]at hb;exact ak _ hb
 ·rw[e]at hb
  unfold frs at hb
  rw[aO,h]at hb
  exact hb
theorem Inv.stkFree (I:Inv X pins σ H s):∀ b∈frs X.stack,H b=none:=λ b hb=>by
 rcases ax.mp (I.stkSub b hb)with e|hb
 ·rw[e];exact I.free
 ·obtain⟨_,o,ho,_⟩:=I.ok.funs.mem hb
  exact I.base.free b o ho (I.ok.frf b hb) λ z=>I.ok.exfs b z hb
theorem Inv.step {g':Array GenState}{t':Nat}{d':Drawn}{ch:List Addr}(I:Inv X pins σ H s)
  (h:∀ b∈ch,(b∈X.ex\/X.s₀.heap.objs.size<=b)/\b≠X.env.locals/\(∀ x c,X.env.cells.lookup x=some c->c≠b)/\∀ p∈X.pn++pins,p.1≠b)
  (keep:∀ b o,b≠X.env.locals->b ∉ X.fs->b ∉ ch->s.heap.get? b=some o->H b=none->h'.get? b=some o)
  (slot:∀ b o,b≠X.env.locals->b∈X.fs->b ∉ ch->s.heap.get? b=some o->H b=none->∃ sl,h'.get? b=some { o with slots:=sl }) (free:∀ b o,b ∉ ch->s.heap.get? b=some o->H b=none->H' b=none)
  (there:∀ b o,b ∉ ch->s.heap.get? b=some o->∃ o',h'.get? b=some o')
  (tups:∀ b Y,H b=some (.tup Y)->H' b=some (.tup Y)) (frzs:∀ b o u,H b=some (.frz o u)->H' b=some (.frz o u)) (tbls:∀ b ps,H b=some (.tbl ps)->∃ Z,H' b=some (.tbl (ps++Z)))
  (ns:∀ m,s.heap.Ns X.env.locals m->h'.Ns X.env.locals m) (hok:HOk X.prog X.w H' h') (hg:e9 g') :
  Inv X pins σ H' { s with heap:=h',gens:=g',drawn:=d',toks:=t' }:=by
 have a0:∀ b o,X.s₀.heap.get? b=some o->b≠X.env.locals:=λ b o e=>ay (ao (az e) I.ok.above)
 have J:∀ b o,X.s₀.heap.get? b=some o->b ∉ X.ex->b ∉ ch:=λ b o e hx hb=>by
  rcases(h b hb).1 with z|z
  ·exact hx z
  ·exact absurd (ao (az e) z) (bo _)
 have F:∀ x c,X.env.cells.lookup x=some c->∀ v,s.heap.IsCell c v->h'.IsCell c v:=λ x c e v ⟨o,ho,hd⟩=>by
  have G:c ∉ ch:=λ z=>(h c z).2.2.1 x c e rfl
  by_cases hc:c∈X.fs
  ·obtain⟨sl,q⟩:=slot c o (I.cne x c e) hc G ho (I.freeC x c e)
   exact⟨_,q,hd⟩
  ·exact⟨o,keep c o (I.cne x c e) hc G ho (I.freeC x c e),hd⟩
 refine⟨I.ok,I.os,hg,⟨λ b o e n hb hx=>?_,λ b o e n hb hx=>?_,λ b o e n hx=>?_,λ b o e hx=>?_,λ b Y e=>tups b Y (I.base.tups b Y e),λ b o Y e=>frzs b o Y (I.base.frzs b o Y e),λ b ps e=>?_⟩,?_,λ x c e=>?_,?_,λ x c e=>?_,λ p hp=>?_,hok,I.len⟩
 ·exact keep b o (a0 b o e) hb (J b o e hx) (I.base.keep b o e n hb hx) (I.base.free b o e n hx)
 ·obtain⟨sl,e1⟩:=I.base.slot b o e n hb hx
  obtain⟨a1,e2⟩:=slot b _ (a0 b o e) hb (J b o e hx) e1 (I.base.free b o e n hx)
  exact⟨a1,e2⟩
 ·obtain⟨o',e1⟩:=I.base.there b o e hx
  exact free b o' (J b o e hx) e1 (I.base.free b o e n hx)
 ·obtain⟨o',e1⟩:=I.base.there b o e hx
  exact there b o' (J b o e hx) e1
 ·obtain⟨m1,e1⟩:=I.base.tbls b ps e
  obtain⟨m2,e2⟩:=tbls b _ e1
  exact⟨m1++m2,by rw[e2,iI]⟩
 ·obtain⟨m,hn,hl⟩:=I.loc
  refine⟨m,ns m hn,λ i x v e1 e2 e3=>?_⟩
  obtain⟨u,r,l⟩:=hl i x v e1 e2 e3
  refine⟨u,r,?_⟩
  rcases l with l|⟨k,c,e,z⟩
  ·exact .inl l
  ·exact .inr ⟨k,c,e,F x c e _ z⟩
 ·obtain⟨v,z⟩:=I.cell x c e
  exact⟨v,F x c e v z⟩
 ·obtain⟨m,⟨o,_,_,ho,_⟩,_⟩:=I.loc
  exact free _ o (λ z=>(h _ z).2.1 rfl) ho I.free
 ·obtain⟨v,o,ho,hd⟩:=I.cell x c e
  exact free c o (λ z=>(h c z).2.2.1 x c e rfl) ho (I.freeC x c e)
 ·obtain⟨e,n,ne,nf,d⟩:=I.pin p hp
  have G:p.1 ∉ ch:=λ z=>(h p.1 z).2.2.2 p hp rfl
  exact⟨keep p.1 p.2 ne nf G e n,free p.1 p.2 G e n,ne,nf,d⟩
theorem Inv.un {t':Nat}(I:Inv X pins σ H s)(u:Un X.fs [] H H' s.heap h')(hok:HOk X.prog X.w H' h'):Inv X pins σ H' { s with heap:=h',toks:=t' }:=by
 obtain⟨m,⟨o,es,ep,ho,r⟩,_⟩:=id I.loc
 obtain⟨sl,hL⟩:=u.any ho I.free (by simp)
 exact I.step (g':=s.gens) (d':=s.drawn) (ch:=[]) (λ _ z=>nomatch z) (λ b o _ hb _ e n=>u.keep b o e n hb (by simp)) (λ b o _ hb _ e n=>u.slot b o e n hb (by simp)) (λ b o _ e n=>u.free b o e n (by simp)) (λ b o _ e=>u.there b o e (by simp)) u.tups u.frzs u.tbls (λ m' J=>by
  obtain⟨Z,F,G,h,Y⟩:=J
  rw[ho]at h;cases h
  exact⟨_,F,G,hL,Y⟩) hok I.bare
theorem Inv.call {g':Array GenState}{t':Nat}{d':Drawn}{ch:List Addr}(I:Inv X pins σ H s)(u:Un (frs X.stack) ch H H' s.heap h')(hok:HOk X.prog X.w H' h')(hg:e9 g')
  (h:∀ b∈ch,(b∈X.ex\/X.s₀.heap.objs.size<=b)/\b≠X.env.locals/\(∀ x c,X.env.cells.lookup x=some c->c≠b)/\∀ p∈X.pn++pins,p.1≠b) :
  Inv X pins σ H' { s with heap:=h',gens:=g',drawn:=d',toks:=t' }:=by
 obtain⟨m,⟨o,es,ep,ho,r⟩,_⟩:=id I.loc
 obtain⟨sl,hL⟩:=u.any ho I.free λ z=>(h _ z).2.1 rfl
 exact I.step (ch:=ch) h (λ b o hL hb hc e n=>u.keep b o e n (λ z=>(ax.mp (I.stkSub b z)).elim hL hb) hc) (λ b o _ _ hc e n=>u.any e n hc) (λ b o hc e n=>u.free b o e n hc) (λ b o hc e=>u.there b o e hc) u.tups u.frzs u.tbls (λ m' Y=>by
  obtain⟨o',G,J,F,Z⟩:=Y
  rw[ho]at F;cases F
  exact⟨_,G,J,hL,Z⟩) hok hg
theorem Inv.turned {t':Nat}{it:Addr}(I:Inv X pins σ H s)(k:∀ b o,b≠it->s.heap.get? b=some o->h'.get? b=some o)(hn:H it=none)(hL:it≠X.env.locals)
  (Y:it∈X.ex\/X.s₀.heap.objs.size<=it) (Z:∀ x c,X.env.cells.lookup x=some c->c≠it) (F:∀ p∈X.pn++pins,p.1≠it):Inv X pins σ H { s with heap:=h',toks:=t' }:=by
 have h:∀ b u,H b=some u->b≠it:=λ b u e z=>by rw[z,hn]at e;cases e
 refine I.step (g':=s.gens) (d':=s.drawn) (ch:=[it]) (λ b hb=>?_) (λ b o _ _ hc e _=>k b o (λ z=>hc (by simp[z])) e) (λ b o _ _ hc e _=>⟨o.slots,k b o (λ z=>hc (by simp[z])) e⟩) (λ _ _ _ _ n=>n)
  (λ b o hc e=>⟨o,k b o (λ z=>hc (by simp[z])) e⟩) (λ _ _ e=>e) (λ _ _ _ e=>e) (λ b ps e=>⟨#[],by rw[e];simp⟩) (λ m G=>?_) (λ b u e=>?_) I.bare
 ·have e:b=it:=by simpa using hb
  subst e
  exact⟨Y,hL,Z,F⟩
 ·obtain⟨o,es,J,ho,r⟩:=G
  exact⟨o,es,J,k _ o (bX hL) ho,r⟩
 ·refine(I.hok b u e).stay (λ c v hc q=>k c v ?_ q) (λ _ q=>q) λ _ _ q=>q
  rcases hc with z|z
  ·rw[z];exact h b u e
  ·exact h c _ z
theorem Inv.tok (I:Inv X pins σ H s)(t:Nat):Inv X pins σ H { s with toks:=t }:=I.un (h':=s.heap) (t':=t) Un.refl I.hok
theorem Inv.kept {t':Nat}(I:Inv X pins σ H s)(k:∀ b u,s.heap.get? b=some u->h'.get? b=some u):Inv X pins σ H { s with heap:=h',toks:=t' }:=I.un (Un.kept k) (I.hok.kept k)
theorem Inv.laid {a:Addr}{o:HO}{t':Nat}(I:Inv X pins σ H s)(k:∀ b u,s.heap.get? b=some u->h'.get? b=some u)(hp:s.heap.objs.size<=a)(new:aa8 X.prog X.w (upd H a o) h' a o) :
  Inv X pins σ (upd H a o) { s with heap:=h',toks:=t' }:=I.un (Un.laid k hp (I.hok.fresh hp)) (I.hok.laid k hp new)
theorem Inv.write {x e:Addr}{o:HO}{t':Nat}(I:Inv X pins σ H s)(mu:Mut (H x))(he:e=x\/H e=some (.own x))(k:∀ b u,b≠e->s.heap.get? b=some u->h'.get? b=some u)(h:∃ u,h'.get? e=some u)
  (new:aa8 X.prog X.w (upd H x o) h' x o):Inv X pins σ (upd H x o) { s with heap:=h',toks:=t' }:=I.un (Un.write mu he k h) (I.hok.write mu he k h new)
theorem Inv.pins_of {F:List (Addr×Obj)}(I:Inv X pins σ H s)(h:∀ p∈F,s.heap.get? p.1=some p.2/\H p.1=none/\p.1≠X.env.locals/\p.1 ∉ X.fs/\∀ v,p.2.data≠.cell v):Inv X F σ H s :=
 ⟨I.ok,I.os,I.bare,I.base,I.loc,I.cell,I.free,I.freeC,λ p hp=>(bw.mp hp).elim (λ z=>I.pin p (cJ _ z)) (h p),I.hok,I.len⟩
theorem an6 {N:List Str}(hN:N.Nodup){i j:Nat}{x:Str}(a:N[i]?=some x)(b:N[j]?=some x):i=j:=by
 obtain⟨F,e1⟩:=ac.mp a
 obtain⟨h,e2⟩:=ac.mp b
 exact(List.getElem_inj hN).mp (e1.trans e2.symm)
theorem aq3 {M:Model}{A:aM}{E:Value->af->Prop}{i:Nat}{x:Str}{v:V}{u:Value}{Q:Unit->af->Prop}(I:Inv X pins σ H s)(hN:X.N.Nodup)(hi:X.N[i]?=some x)(hx:Loc X.env.scope x)(r:RelV v u)
  (h:∀ s',Inv X pins (σ.set i (some v)) H s'->(∃ a,bV a s.heap s'.heap/\(a=X.env.locals\/X.env.cells.lookup x=some a))->Q () s') (hf:X.fn x=true\/X.env.scope.names.lookup x=some .local:=by first|exact .inl rfl|exact .inr rfl|assumption):wpAny M A (ic X.env x u) Q E s:=by
 obtain⟨m,hn,hl⟩:=id I.loc
 have Z:(X.env.scope.kind==.class||(X.env.scope.kind==.module&&X.env.locals != X.env.globals))=false:=by rw[I.ok.kind];rfl
 have a2:i < σ.length:=by rw[I.len];exact(ac.mp hi).1
 have cne:=I.cne
 have F:∀ {a:Addr} {h':Heap},(∃ o,s.heap.get? a=some o/\H a=none)->bV a s.heap h'->HOk X.prog X.w H h':=λ {a h'} ha hs b ob e=>by
  obtain⟨_,_,G⟩:=ha
  refine(I.hok b ob e).stay (λ c w' hc q=>(hs.2 c ?_).trans q) (λ _ q=>q) λ _ _ q=>q
  rintro rfl
  rcases hc with rfl|hc
  ·rw[G]at e;cases e
  ·rw[G]at hc;cases hc
 rcases hx with hk|hk
 ·refine gH hk hn (λ h' a3 hs=>?_) Z
  obtain⟨oL,_,_,a4,_⟩:=id hn
  refine h _ ⟨I.ok,I.os,I.bare,⟨λ b o e n hb hx=>?_,λ b o e n hb hx=>?_,I.base.free,λ b o e hx=>?_,I.base.tups,I.base.frzs,I.base.tbls⟩,⟨_,a3,λ j y v' e1 e2 e3=>?_⟩,λ y c e=>?_,I.free,I.freeC,λ p hp=>?_,F ⟨oL,a4,I.free⟩ hs,by simpa using I.len⟩ ⟨_,hs,.inl rfl⟩
  ·exact(hs.2 b (ay (ao (az e) I.ok.above))).trans (I.base.keep b o e n hb hx)
  ·obtain⟨sl,e1⟩:=I.base.slot b o e n hb hx
   exact⟨sl,(hs.2 b (ay (ao (az e) I.ok.above))).trans e1⟩
  ·obtain⟨o',e1⟩:=I.base.there b o e hx
   exact⟨o',(hs.2 b (ay (ao (az e) I.ok.above))).trans e1⟩
  ·by_cases hj:j=i
   ·subst hj
    rw[hi]at e1;cases e1
    rw[aL a2]at e2
    cases e2
    exact⟨u,r,.inl ⟨hk,by simp⟩⟩
   ·rw[aP (bX hj)]at e2
    obtain⟨u',r',q⟩:=hl j y v' e1 e2 e3
    refine⟨u',r',?_⟩
    rcases q with⟨k,e⟩|⟨k,c,e,z⟩
    ·refine .inl ⟨k,?_⟩
     have:y≠x:=λ e=>hj (an6 hN e1 (e▸hi))
     simp[this,e]
    ·exact .inr ⟨k,c,e,z.sameBut hs (cne y c e)⟩
  ·obtain⟨w',z⟩:=I.cell y c e
   exact⟨w',z.sameBut hs (cne y c e)⟩
  ·obtain⟨e,n,ne,nf,d⟩:=I.pin p hp
   exact⟨(hs.2 p.1 ne).trans e,n,ne,nf,d⟩
 ·have J:X.fn x=true:=by
   rcases hf with z|z
   ·exact z
   ·rw[z]at hk;cases hk
  obtain⟨c,hc⟩:=I.ok.has x (.inl hk)
  obtain⟨w',z⟩:=I.cell x c hc
  refine gP I.ok.kind hk hc z (λ h' a0 hs=>?_)
  obtain⟨oc,Y,a1⟩:=id z
  refine h { s with heap:=h' } ⟨I.ok,I.os,I.bare,⟨λ b o e n hb hx=>?_,λ b o e n hb hx=>?_,I.base.free,λ b o e hx=>?_,I.base.tups,I.base.frzs,I.base.tbls⟩,⟨m,hn.sameBut hs (bX (cne x c hc)),λ j y v' e1 e2 e3=>?_⟩,λ y c' e=>?_,I.free,I.freeC,λ p hp=>?_,F ⟨oc,Y,I.freeC x c hc⟩ hs,by simpa using I.len⟩ ⟨c,hs,.inr hc⟩
  ·exact(hs.2 b (ay (ao (az e) (I.ok.cab x c J hc)))).trans (I.base.keep b o e n hb hx)
  ·obtain⟨sl,e1⟩:=I.base.slot b o e n hb hx
   exact⟨sl,(hs.2 b (ay (ao (az e) (I.ok.cab x c J hc)))).trans e1⟩
  ·obtain⟨o',e1⟩:=I.base.there b o e hx
   exact⟨o',(hs.2 b (ay (ao (az e) (I.ok.cab x c J hc)))).trans e1⟩
  ·by_cases hj:j=i
   ·subst hj
    rw[hi]at e1;cases e1
    rw[aL a2]at e2
    cases e2
    exact⟨u,r,.inr ⟨.inl hk,c,hc,a0⟩⟩
   ·rw[aP (bX hj)]at e2
    obtain⟨u',r',q⟩:=hl j y v' e1 e2 e3
    refine⟨u',r',?_⟩
    rcases q with q|⟨k,c',e,z'⟩
    ·exact .inl q
    ·refine .inr ⟨k,c',e,z'.sameBut hs ?_⟩
     rintro rfl
     exact hj (an6 hN e1 (I.ok.inj _ _ _ e hc▸hi))
  ·by_cases hcc:c'=c
   ·subst hcc;exact⟨_,a0⟩
   ·obtain⟨w2,z2⟩:=I.cell y c' e
    exact⟨w2,z2.sameBut hs hcc⟩
  ·obtain⟨e,n,ne,nf,d⟩:=I.pin p hp
   refine⟨(hs.2 p.1 ?_).trans e,n,ne,nf,d⟩
   intro q
   rw[q,Y]at e
   have q':oc=p.2:=au e
   exact d w' (by rw[<-q'];exact a1)
theorem ag7 {M:Model}{A:aM}{E:Value->af->Prop}{i:Nat}{x:Str}{v:V}{u:Value}{Q:Unit->af->Prop}(I:Inv X pins σ H s)(hN:X.N.Nodup)(hi:X.N[i]?=some x)(hx:Loc X.env.scope x)(r:RelV v u)
  (h:∀ s',Inv X pins (σ.set i (some v)) H s'->Q () s') (G:X.fn x=true\/X.env.scope.names.lookup x=some .local:=by first|exact .inl rfl|exact .inr rfl|assumption):wpAny M A (ic X.env x u) Q E s :=
 aq3 I hN hi hx r (λ s' F _=>h s' F) G
theorem Inv.call' {s':af}{ch:List Addr}(I:Inv X pins σ H s)(ho:s'.os=s.os)(u:Un (frs X.stack) ch H H' s.heap s'.heap)(hok:HOk X.prog X.w H' s'.heap)(hg:e9 s'.gens)
  (h:∀ b∈ch,(b∈X.ex\/X.s₀.heap.objs.size<=b)/\b≠X.env.locals/\(∀ x c,X.env.cells.lookup x=some c->c≠b)/\∀ p∈X.pn++pins,p.1≠b):Inv X pins σ H' s':=by
 obtain⟨h',g',d',t',F⟩:=s'
 have e:F=s.os:=ho
 subst e
 exact I.call (g':=g') (t':=t') (d':=d') u hok hg h
end
abbrev XK:=Value->Option Addr->Hp->Prop
noncomputable abbrev St:=List (Option V)
abbrev VK:=V->Hp->Prop
abbrev TE:=St->Hp->VK->Prop
abbrev TT:=St->Hp->(Bool->Hp->Prop)->Prop
abbrev TA:=St->Hp->(List V->Hp->Prop)->Prop
structure Ends where
 nx:St->Hp->Prop
 rt:VK
 bk:St->Hp->Prop:=λ _ _=>False
 ct:St->Hp->Prop:=λ _ _=>False
abbrev TS:=Ends->St->Hp->Prop
def EP (X:Cx)(pins:List (Addr×Obj))(σ:St)(Q:VK)(u:Value)(s':af):Prop:=∃ v H',Inv X pins σ H' s'/\RelV v u/\Q v H'
def TP (X:Cx)(pins:List (Addr×Obj))(σ:St)(Q:Bool->Hp->Prop)(b:Bool)(s':af):Prop:=∃ H',Inv X pins σ H' s'/\Q b H'
def AP (X:Cx)(pins:List (Addr×Obj))(σ:St)(Q:List V->Hp->Prop)(us:List Value)(s':af):Prop:=∃ vs H',Inv X pins σ H' s'/\Vals vs us/\Q vs H'
def SP (X:Cx)(pins:List (Addr×Obj))(D:Ends)(f:Flow)(s':af):Prop :=
 match f with
 | .next=>∃ σ' H',Inv X pins σ' H' s'/\D.nx σ' H'
 | .brk=>∃ σ' H',Inv X pins σ' H' s'/\D.bk σ' H'
 | .cont=>∃ σ' H',Inv X pins σ' H' s'/\D.ct σ' H'
 | .ret u=>∃ v σ' H',Inv X pins σ' H' s'/\RelV v u/\D.rt v H'
def PE (X:Cx)(e:Expr)(t:TE):Prop :=
 ∀(pins:List (Addr×Obj)) (s:af) (σ:St) (H:Hp) (Q:VK),Inv X pins σ H s->t σ H Q->wpAny (model X.prog X.w) X.A (eval e X.env) (EP X pins σ Q) X.xe s
def PT (X:Cx)(e:Expr)(t:TT):Prop :=
 ∀(pins:List (Addr×Obj)) (s:af) (σ:St) (H:Hp) (Q:Bool->Hp->Prop),Inv X pins σ H s->t σ H Q->wpAny (model X.prog X.w) X.A (dQ e X.env (eval e X.env)) (TP X pins σ Q) X.xe s
def PW (X:Cx)(e:Expr)(t:TT):Prop :=
 ∀(whole:Sem Value) (pins:List (Addr×Obj)) (s:af) (σ:St) (H:Hp) (Q:Bool->Hp->Prop),Inv X pins σ H s->t σ H Q->wpAny (model X.prog X.w) X.A (dQ e X.env whole) (TP X pins σ Q) X.xe s
theorem PW.pt {X:Cx}{e:Expr}{t:TT}(h:PW X e t):PT X e t:=h _
def PA (X:Cx)(es:List Expr)(t:TA):Prop :=
 ∀(pos:Pos) (pins:List (Addr×Obj)) (s:af) (σ:St) (H:Hp) (Q:List V->Hp->Prop),Inv X pins σ H s->t σ H Q->wpAny (model X.prog X.w) X.A (spliced (eT pos (bq es X.env))) (AP X pins σ Q) X.xe s
def PS (X:Cx)(st:Stmt)(t:TS):Prop :=
 ∀(pins:List (Addr×Obj)) (s:af) (σ:St) (H:Hp) (D:Ends),Inv X pins σ H s->t D σ H->wpAny (model X.prog X.w) X.A (exec st X.env) (SP X pins D) X.xe s
def PSs (X:Cx)(st:List Stmt)(t:TS):Prop :=
 ∀(pins:List (Addr×Obj)) (s:af) (σ:St) (H:Hp) (D:Ends),Inv X pins σ H s->t D σ H->wpAny (model X.prog X.w) X.A (execs st X.env) (SP X pins D) X.xe s
theorem thn {α:Type}{t:Sem α}{Q F:α->af->Prop}{M:Model}{A:aM}{E:Value->af->Prop}{s:af}(h:wpAny M A t Q E s)(G:∀ a s,Q a s->F a s):wpAny M A t F E s:=bj h G λ _ _ x=>x
section
variable {X:Cx}
theorem bin {a b:Expr}{Y tb:TE}(ha:PE X a Y)(hb:PE X b tb){F:List (Addr×Obj)}{s:af}{σ:St}{H:Hp}{R:V->V->Hp->Prop}(I:Inv X F σ H s)(h:Y σ H λ x J=>tb σ J λ y G=>R x y G)
  {α:Type} {Q:α->af->Prop} {f:Value->Value->Sem α}
  (hf:∀ v u s2 x y G,Inv X F σ G s2->RelV x v->RelV y u->R x y G->wpAny (model X.prog X.w) X.A (f v u) Q X.xe s2) :
  wpAny (model X.prog X.w) X.A (eval a X.env) (λ v s₁=>wpAny (model X.prog X.w) X.A (eval b X.env) (λ u Z=>wpAny (model X.prog X.w) X.A (f v u) Q X.xe Z) X.xe s₁) X.xe s:=by
 refine thn (ha F s σ H _ I h) λ v s1 ⟨x,J,I1,r1,q1⟩=>?_
 refine thn (hb F s1 σ J _ I1 q1) λ u s2 ⟨y,G,I2,r2,q2⟩=>?_
 exact hf v u s2 x y G I2 r1 r2 q2
def bJ0 (i:Nat):TE:=λ σ H Q=>∃ v,σ[i]?=some (some v)/\Q v H
def tC (v:V):TE:=λ _ H Q=>Q v H
theorem aP6 {i:Nat}{x:Str}{pos:Pos}(hN:X.N[i]?=some x)(hv:Vis X.env.scope x)(hd:(x==("__debug__":Str))=false:=by decide)(G:(x==("__classdict__":Str))=false:=by decide):PE X (.Name x pos) (bJ0 i):=by
 intro F s σ H Q I h
 obtain⟨v,e,h⟩:=h
 obtain⟨m,hn,hl⟩:=I.loc
 obtain⟨u,r,l⟩:=hl i x v hN e hv
 have fin:EP X F σ Q u s:=⟨v,H,I,r,h⟩
 rcases l with⟨hk,J⟩|⟨hk,c,hc,hcell⟩
 ·exact iJ (gQ I.ok.kind hk hn J fin) hd
 ·rcases hk with hk|hk
  ·exact iJ (wpAny_loadName_cell I.ok.kind hk hc hcell fin) hd
  ·exact iJ (wpAny_loadName_free I.ok.kind hk hc hcell fin G) hd
theorem bh0 {i j pos}:PE X (.Constant (.int i) j pos) (tC (.int i)):=λ _ _ _ H _ I h=>iK ⟨.int i,H,I.tok _,⟨_,rfl⟩,h⟩
theorem bA3 {b j pos}:PE X (.Constant (.bool b) j pos) (tC (.bl b)):=λ _ _ _ H _ I h=>Constant_bool ⟨.bl b,H,I,rfl,h⟩
theorem bG7 {j pos}:PE X (.Constant .none j pos) (tC .non):=λ _ _ _ H _ I h=>iu ⟨.non,H,I,rfl,h⟩
theorem bh6 {x j pos}:PE X (.Constant (.str x) j pos) (tC (.str x)):=λ _ _ _ H _ I h=>Calls.Constant_str ⟨.str x,H,I.tok _,⟨_,rfl⟩,h⟩
def Gl (X:Cx)(x:Str):Prop:=X.env.kindOf x=some .globalImplicit
theorem av7 {E:Value->af->Prop}{F:List (Addr×Obj)}{s:af}{σ:St}{H:Hp}{x:Str}{u:Value}{pos:Pos}{Q:Value->af->Prop}(I:Inv X F σ H s)(hg:Gl X x)(G:X.mg x=some u)(h:Q u s)
  (hd:(x==("__debug__":Str))=false:=by decide):wpAny (model X.prog X.w) X.A (eval (.Name x pos) X.env) Q E s :=
 fi I.ok.kind hg (Calls.loadGlobal_global (by rw[I.ok.glob];exact I.mod.glob.keeps I.bk) G h) hd
theorem ai7 {E:Value->af->Prop}{F:List (Addr×Obj)}{s:af}{σ:St}{H:Hp}{x:Str}{u:Value}{pos:Pos}{Q:Value->af->Prop}(I:Inv X F σ H s)(hg:Gl X x)(J:X.mg x=none)(hv:a9 x=some u)(h:Q u s)
  (hn:x ≠ "__name__":=by decide) (hd:(x==("__debug__":Str))=false:=by decide):wpAny (model X.prog X.w) X.A (eval (.Name x pos) X.env) Q E s:=by
 obtain⟨Z,Y,G⟩:=I.mod.blt
 exact fi I.ok.kind hg (Calls.loadGlobal_builtin (by rw[I.ok.glob];exact I.mod.glob.keeps I.bk) J (by rw[I.ok.blt];exact Y.keeps I.bk) ((G x hn).trans hv) h) hd
theorem ak6 {x:Str}{v:V}{u:Value}{pos:Pos}(hg:Gl X x)(F:X.mg x=some u)(r:RelV v u)(hd:(x==("__debug__":Str))=false:=by decide):PE X (.Name x pos) (tC v) :=
 λ _ _ _ H _ I h=>av7 I hg F ⟨v,H,I,r,h⟩ hd
theorem bk1 {x:Str}{v:V}{u:Value}{pos:Pos}(hg:Gl X x)(F:X.mg x=none)(hv:a9 x=some u)(r:RelV v u)(hn:x ≠ "__name__":=by decide)(hd:(x==("__debug__":Str))=false:=by decide):PE X (.Name x pos) (tC v) :=
 λ _ _ _ H _ I h=>ai7 I hg F hv ⟨v,H,I,r,h⟩ hn hd
variable {a b:Expr} {ta tb:TE} {pos:Pos}
def PC (X:Cx)(op:CmpOp)(a b:Expr)(t:TE):Prop :=
 ∀(pins:List (Addr×Obj)) (s:af) (σ:St) (H:Hp) (Q:VK),Inv X pins σ H s->t σ H Q ->
  wpAny (model X.prog X.w) X.A (eval a X.env) (λ v s₁=>wpAny (model X.prog X.w) X.A (eval b X.env) (λ u s₂=>wpAny (model X.prog X.w) X.A (cr op v u) (EP X pins σ Q) X.xe s₂) X.xe s₁) X.xe s
theorem aD8 (b:Expr){op:CmpOp}(h:op≠.In)(F:op≠.NotIn):cO op b=false:=by
 have e1:(op==CmpOp.In)=false:=by cases op<;>first|rfl|exact absurd rfl h
 have e2:(op==CmpOp.NotIn)=false:=by cases op<;>first|rfl|exact absurd rfl F
 cases b<;>simp[cO,e1,e2]
def bR5 (ta:TE):TE:=λ σ H Q=>ta σ H λ x H1=>Q (.bl (decide (x=.non))) H1
def bD0 (ta:TE):TE:=λ σ H Q=>ta σ H λ x H1=>Q (.bl (!decide (x=.non))) H1
theorem RelV.none_iff {x:V}{v:Value}(r:RelV x v):(v==Value.none)=decide (x=.non):=by
 cases x with
 | non=>cases r;rfl
 | bl _=>cases r;rfl
 | int _=>obtain⟨t,rfl⟩:=r;rfl
 | str _=>obtain⟨t,rfl⟩:=r;rfl
 | byt _=>obtain⟨t,rfl⟩:=r;rfl
 | flt _=>obtain⟨t,rfl⟩:=r;rfl
 | ref _=>cases r;rfl
 | ty _=>cases r;rfl
theorem bh4 {j pos'}(ha:PE X a ta):PC X .Is a (.Constant .none j pos') (bR5 ta):=by
 intro F s σ H Q I h
 refine thn (ha F s σ H _ I h) λ v s1 ⟨x,Y,J,r1,G⟩=>?_
 exact iu (is_none_gen ⟨.bl _,Y,J,by rw[r1.none_iff];rfl,G⟩)
theorem aN5 {j pos'}(ha:PE X a ta):PC X .IsNot a (.Constant .none j pos') (bD0 ta):=by
 intro F s σ H Q I h
 refine thn (ha F s σ H _ I h) λ v s1 ⟨x,Y,J,r1,G⟩=>?_
 exact iu (isnot_none_gen ⟨.bl _,Y,J,by rw[r1.none_iff];rfl,G⟩)
def tB (t:TE):TT:=λ σ H Q=>t σ H λ x H1=>∃ c,x=.bl c/\Q c H1
theorem be0 {op:CmpOp}{t:TE}(h:PC X op a b t)(G:cO op b=false:=by first|exact aD8 _ (by decide) (by decide)|rfl):PE X (.Compare a [op] [b] pos) t:=λ F s σ H Q I hw=>wpAny_Compare1 (h F s σ H Q I hw) G
theorem bg5 {op:CmpOp}{t:TE}(h:PC X op a b t)(G:cO op b=false:=by first|exact aD8 _ (by decide) (by decide)|rfl):PT X (.Compare a [op] [b] pos) (tB t):=by
 intro F s σ H Q I hw
 refine gI (thn (h F s σ H _ I hw) λ v s1 G=>thn G λ u s2 J=>thn J λ c s3 ⟨x,H1,Z,r1,Y⟩=>?_) G
 obtain⟨d,rfl,q⟩:=Y
 cases r1
 exact br ⟨H1,Z,q⟩
theorem aM0 {e:Expr}{t:TE}(h:PE X e t)(he:∀ F,dQ e X.env F=(do let v <- F;standAt e.pos;fD [v] (truthy v)):=by intro _;rfl):PT X e (tB t):=by
 intro G s σ H Q I hw
 refine isTrue_plain (thn (h G s σ H _ I hw) λ v s1 ⟨x,Z,Y,r1,J⟩=>?_) (he _)
 obtain⟨d,rfl,q⟩:=J
 cases r1
 exact br ⟨Z,Y,q⟩
variable {tA tB':TT} {rest:List Expr}
def bR4 (t u:TT):TT:=λ σ H Q=>t σ H λ c H1=>if c=true then u σ H1 Q else Q false H1
def tOr (t u:TT):TT:=λ σ H Q=>t σ H λ c H1=>if c=true then Q true H1 else u σ H1 Q
def bS4 (t:TT):TT:=λ σ H Q=>t σ H λ c H1=>Q (!c) H1
theorem bp6 (ha:PT X a tA):PW X (.BoolOp .And [a] pos) tA:=by
 intro G F s σ H Q I h
 refine isTrue_and (thn (ha F s σ H Q I h) λ c s1 e=>?_)
 cases c with
 | true=>exact isTrue_and_nil e
 | false=>exact e
theorem be1 (ha:PT X a tA):PW X (.BoolOp .Or [a] pos) tA:=by
 intro G F s σ H Q I h
 refine isTrue_or (thn (ha F s σ H Q I h) λ c s1 e=>?_)
 cases c with
 | false=>exact isTrue_or_nil e
 | true=>exact e
theorem bh8 (ha:PT X a tA)(hb:PW X (.BoolOp .And (b::rest) pos) tB'):PW X (.BoolOp .And (a::b::rest) pos) (bR4 tA tB'):=by
 intro Z F s σ H Q I h
 refine isTrue_and (thn (ha F s σ H _ I h) λ c s1 ⟨Y,J,G⟩=>?_)
 cases c with
 | true=>exact hb Z F s1 σ Y Q J G
 | false=>exact⟨Y,J,G⟩
theorem br1 (ha:PT X a tA)(hb:PW X (.BoolOp .Or (b::rest) pos) tB'):PW X (.BoolOp .Or (a::b::rest) pos) (tOr tA tB'):=by
 intro Z F s σ H Q I h
 refine isTrue_or (thn (ha F s σ H _ I h) λ c s1 ⟨Y,J,G⟩=>?_)
 cases c with
 | true=>exact⟨Y,J,G⟩
 | false=>exact hb Z F s1 σ Y Q J G
theorem bf0 (ha:PT X a tA):PT X (.UnaryOp .Not a pos) (bS4 tA):=by
 intro F s σ H Q I h
 exact isTrue_not (ha F s σ H (λ c G=>Q (!c) G) I h)
def bv9 (ta tb:TE):TE:=λ σ H Q=>ta σ H λ x H1=>∃ c,x=.bl c/\if c=true then tb σ H1 Q else Q (.bl false) H1
def bT5 (ta tb:TE):TE:=λ σ H Q=>ta σ H λ x H1=>∃ c,x=.bl c/\if c=true then Q (.bl true) H1 else tb σ H1 Q
def bz8 (ta:TE):TE:=λ σ H Q=>ta σ H λ x H1=>∃ c,x=.bl c/\Q (.bl (!c)) H1
theorem aU0 {op}{t:TE}(h:PE X a t):PE X (.BoolOp op [a] pos) t:=λ F s σ H Q I hw=>BoolOp_one (h F s σ H Q I hw)
theorem be8 (ha:PE X a ta)(hb:PE X (.BoolOp .And (b::rest) pos) tb):PE X (.BoolOp .And (a::b::rest) pos) (bv9 ta tb):=by
 intro F s σ H Q I h
 refine BoolOp_and (thn (ha F s σ H _ I h) λ v s1 ⟨x,Y,J,r1,G⟩=>?_)
 obtain⟨c,rfl,G⟩:=G
 cases r1
 refine br ?_
 cases c with
 | true=>exact hb F s1 σ Y Q J G
 | false=>exact⟨.bl false,Y,J,rfl,G⟩
theorem bl3 (ha:PE X a ta)(hb:PE X (.BoolOp .Or (b::rest) pos) tb):PE X (.BoolOp .Or (a::b::rest) pos) (bT5 ta tb):=by
 intro F s σ H Q I h
 refine BoolOp_or (thn (ha F s σ H _ I h) λ v s1 ⟨x,Y,J,r1,G⟩=>?_)
 obtain⟨c,rfl,G⟩:=G
 cases r1
 refine br ?_
 cases c with
 | false=>exact hb F s1 σ Y Q J G
 | true=>exact⟨.bl true,Y,J,rfl,G⟩
theorem bf3 (ha:PE X a ta):PE X (.UnaryOp .Not a pos) (bz8 ta):=by
 intro F s σ H Q I h
 refine UnaryOp_ (thn (ha F s σ H _ I h) λ v s1 ⟨x,Y,J,r1,G⟩=>?_)
 obtain⟨c,rfl,G⟩:=G
 cases r1
 exact not_of (br ⟨.bl (!c),Y,J,rfl,G⟩)
def tIf (t:TT)(ta tb:TE):TE:=λ σ H Q=>t σ H λ c H1=>if c=true then ta σ H1 Q else tb σ H1 Q
theorem bd6 {c:Expr}(hc:PT X c tA)(ha:PE X a ta)(hb:PE X b tb):PE X (.IfExp c a b pos) (tIf tA ta tb):=by
 intro F s σ H Q I h
 refine wpAny_IfExp (thn (hc F s σ H _ I h) λ d s1 ⟨Y,J,G⟩=>?_)
 cases d with
 | true=>exact ha F s1 σ Y Q J G
 | false=>exact hb F s1 σ Y Q J G
end
def SqL (K:ae)(H:Hp)(a:Addr)(xs:List V):Prop :=
 Rd H a (.lst xs) \/
  ∃(o:Obj) (its:Array Value) (n:Nat),K.lookup a=some o/\o.cls=.type "list"/\o.dict=none/\o.data=.seq its n/\its.size<=aH/\Vals xs its.toList
def SqT (K:ae)(H:Hp)(a:Addr)(xs:List V):Prop :=
 Rd H a (.tup xs) \/
  ∃(o:Obj) (its:Array Value) (n:Nat),K.lookup a=some o/\o.cls=.type "tuple"/\o.data=.seq its n/\its.size<=aH/\Vals xs its.toList
noncomputable def bV6:Value->Option V
 | .none=>some .non
 | .bool b=>some (.bl b)
 | .int i _=>some (.int i)
 | .str x _=>some (.str x)
 | .bytes b _=>some (.byt b)
 | .float b _=>some (.flt b)
 | .ref a=>some (.ref a)
 | .type n=>some (.ty n)
 | _=>none
theorem RelV.abs {x:V}{u:Value}(r:RelV x u):bV6 u=some x:=by
 cases x with
 | non=>cases r;rfl
 | bl _=>cases r;rfl
 | int _=>obtain⟨t,rfl⟩:=r;rfl
 | str _=>obtain⟨t,rfl⟩:=r;rfl
 | byt _=>obtain⟨t,rfl⟩:=r;rfl
 | flt _=>obtain⟨t,rfl⟩:=r;rfl
 | ref _=>cases r;rfl
 | ty _=>cases r;rfl
theorem RelV.inj {x y:V}{u:Value}(r:RelV x u)(q:RelV y u):x=y:=au (r.abs.symm.trans q.abs)
theorem Vals.inj:∀ {h ys:List V} {us:List Value},Vals h us->Vals ys us->h=ys
 | _,_,_,.nil,.nil=>rfl
 | _,_,_,.cons r t,.cons r' t'=>by rw[r.inj r',Vals.inj t t']
section
variable {X:Cx} {pins:List (Addr×Obj)} {σ:St} {H:Hp} {s:af} {a:Addr} {xs ys:List V}
theorem SqL.of {K:ae}(h:H a=some (.lst xs)):SqL K H a xs:=.inl (.inl h)
theorem SqT.of {K:ae}(h:H a=some (.tup xs)):SqT K H a xs:=.inl (.inl h)
theorem Inv.list (I:Inv X pins σ H s)(h:SqL X.K H a xs):∃ its:List Value,Vals xs its/\PlainL s.heap a its.toArray/\xs.length<=aH:=by
 rcases h with h|⟨o,its,n,hk,hc,hd,hs,hz,r⟩
 ·obtain⟨z,its,n,r,e⟩:=h.ok I.hok
  exact⟨its,r,⟨_,n,e,rfl,rfl,rfl⟩,z⟩
 ·refine⟨its.toList,r,⟨o,n,I.kIn a o hk,hc,hd,by simpa using hs⟩,?_⟩
  have e:=r.length
  simp only[ii]at e
  omega
theorem Inv.tuple (I:Inv X pins σ H s)(h:SqT X.K H a xs):∃ its:List Value,Vals xs its/\IsTup s.heap a its.toArray/\xs.length<=aH:=by
 rcases h with h|⟨o,its,n,hk,hc,hs,hz,r⟩
 ·obtain⟨z,its,r,p⟩:=h.ok I.hok
  exact⟨its,r,p,z⟩
 ·refine⟨its.toList,r,⟨o,I.kIn a o hk,hc,n,by simpa using hs⟩,?_⟩
  have e:=r.length
  simp only[ii]at e
  omega
theorem Inv.list_inj (I:Inv X pins σ H s)(h:SqL X.K H a xs)(h':SqL X.K H a ys):xs=ys:=by
 obtain⟨its,r,⟨o,n,e,_,_,d⟩,_⟩:=I.list h
 obtain⟨its',F,⟨G,J,e',_,_,d'⟩,_⟩:=I.list h'
 rw[e]at e';cases e'
 rw[d]at d'
 injection d' with d1 _
 have:its=its':=by simpa using congrArg iZ d1
 subst this
 exact r.inj F
theorem Inv.tuple_inj (I:Inv X pins σ H s)(h:SqT X.K H a xs)(h':SqT X.K H a ys):xs=ys:=by
 obtain⟨its,r,⟨o,e,_,n,d⟩,_⟩:=I.tuple h
 obtain⟨its',F,⟨G,e',_,J,d'⟩,_⟩:=I.tuple h'
 rw[e]at e';cases e'
 rw[d]at d'
 injection d' with d1 _
 have:its=its':=by simpa using congrArg iZ d1
 subst this
 exact r.inj F
end
noncomputable abbrev Cx.wish (X:Cx)(E:Value->af->Prop):Cx:={ X with xe:=E }
noncomputable abbrev Cx.nox (X:Cx):Cx:=X.wish λ _ _=>False
theorem Cx.Ok.wish {X:Cx}(ok:X.Ok)(E:Value->af->Prop):(X.wish E).Ok :=
 ⟨ok.mod,ok.kind,ok.glob,ok.blt,ok.above,ok.inj,ok.has,ok.cab,ok.hd,ok.frames,ok.stk,ok.exf,ok.bs,ok.bsz,ok.noex,ok.exfs,ok.funs,ok.frf⟩
theorem Cx.Ok.unwish {X:Cx}{E:Value->af->Prop}(ok:(X.wish E).Ok):X.Ok :=
 ⟨ok.mod,ok.kind,ok.glob,ok.blt,ok.above,ok.inj,ok.has,ok.cab,ok.hd,ok.frames,ok.stk,ok.exf,ok.bs,ok.bsz,ok.noex,ok.exfs,ok.funs,ok.frf⟩
section
variable {X:Cx} {pins:List (Addr×Obj)} {σ:St} {H:Hp} {s:af} {E:Value->af->Prop}
theorem Inv.wish (I:Inv X pins σ H s)(E:Value->af->Prop):Inv (X.wish E) pins σ H s:=⟨I.ok.wish E,I.os,I.bare,I.base,I.loc,I.cell,I.free,I.freeC,I.pin,I.hok,I.len⟩
theorem Inv.unwish (I:Inv (X.wish E) pins σ H s):Inv X pins σ H s:=⟨I.ok.unwish,I.os,I.bare,I.base,I.loc,I.cell,I.free,I.freeC,I.pin,I.hok,I.len⟩
theorem SP.unwish {D:Ends}{f:Flow}{s':af}(h:SP (X.wish E) pins D f s'):SP X pins D f s':=by
 cases f with
 | next=>obtain⟨σ',H',I,q⟩:=h;exact⟨σ',H',I.unwish,q⟩
 | brk=>obtain⟨σ',H',I,q⟩:=h;exact⟨σ',H',I.unwish,q⟩
 | cont=>obtain⟨σ',H',I,q⟩:=h;exact⟨σ',H',I.unwish,q⟩
 | ret u=>obtain⟨v,σ',H',I,r,q⟩:=h;exact⟨v,σ',H',I.unwish,r,q⟩
theorem PT.nox {e:Expr}{t:TT}(h:PT X.nox e t):PT X e t:=λ F s σ H Q I hw =>
 bj (h F s σ H Q (I.wish _) hw) (λ _ _ ⟨H',G,q⟩=>⟨H',G.unwish,q⟩) λ _ _ z=>bB z
theorem PSs.nox {st:List Stmt}{t:TS}(h:PSs X.nox st t):PSs X st t:=λ F s σ H D I hw =>
 bj (h F s σ H D (I.wish _) hw) (λ _ _ q=>q.unwish) λ _ _ z=>bB z
end
section
variable {X:Cx} {st:Stmt} {rest:List Stmt} {t u:TS} {e:Expr} {te:TE} {pos:Pos}
def bC6:TS:=λ D σ H=>D.nx σ H
noncomputable def bS2 (t u:TS):TS:=λ D σ H=>t { D with nx:=u D } σ H
theorem an8:PSs X [] bC6:=λ _ _ σ H _ I h=>da ⟨σ,H,I,h⟩
theorem zH (J:PS X st t)(G:PSs X rest u):PSs X (st::rest) (bS2 t u):=by
 intro F s σ H D I h
 refine jh (thn (J F s σ H { D with nx:=u D } I h) λ f s1 q=>?_)
 cases f with
 | next =>
  obtain⟨σ',H',Y,q⟩:=q
  exact G F s1 σ' H' D Y q
 | ret v=>exact q
 | brk=>exact q
 | cont=>exact q
theorem aK7 (G:PS X st t):PSs X [st] t:=by
 intro F s σ H D I h
 refine jh (thn (G F s σ H D I h) λ f s1 q=>?_)
 cases f with
 | next=>exact da q
 | ret v=>exact q
 | brk=>exact q
 | cont=>exact q
def by5:TS:=λ D σ H=>D.ct σ H
theorem ax0:PS X (.Continue pos) by5:=λ _ _ σ H _ I h=>wpAny_Continue ⟨σ,H,I,h⟩
theorem Inv.quiet {h:List (Addr×Obj)}{σ:St}{H:Hp}{s:af}(I:Inv X h σ H s):interactive X.env=false:=by simp[interactive,I.ok.kind]
def bF1 (te:TE):TS:=λ D σ H=>te σ H λ _ H1=>D.nx σ H1
theorem aP5 (he:PE X e te)(hs:fh e none pos.line X.env=pure false:=by rfl):PS X (.Expr e pos) (bF1 te):=by
 intro F s σ H D I h
 exact wpAny_Expr_any (thn (he F s σ H _ I h) λ v s1 ⟨x,Y,J,r1,G⟩=>⟨σ,Y,J,G⟩) I.quiet hs
def bS0 (te:TE):TS:=λ D σ H=>te σ H D.rt
theorem ar6 (he:PE X e te):PS X (.Return (some e) pos) (bS0 te):=by
 intro F s σ H D I h
 exact wpAny_Return_some (thn (he F s σ H _ I h) λ v s1 ⟨x,Y,J,r1,G⟩=>⟨x,σ,Y,J,r1,G⟩)
def bS5 (c:TT)(t u:TS):TS:=λ D σ H=>c σ H λ b H1=>if b=true then t D σ H1 else u D σ H1
theorem bi6 {c:Expr}{a b:List Stmt}{J:TT}(hc:PT X c J)(ha:PSs X a t)(hb:PSs X b u):PS X (.If c a b pos) (bS5 J t u):=by
 intro F s σ H D I h
 refine wpAny_If (thn (hc F s σ H _ I h) λ d s1 ⟨Z,Y,G⟩=>?_)
 cases d with
 | true=>exact ha F s1 σ Z D Y G
 | false=>exact hb F s1 σ Z D Y G
def bh1:TS:=λ _ _ _=>False
theorem aW0:PS X st bh1:=λ _ _ _ _ _ _ h=>h.elim
theorem ad9 {F:List Stmt}:PSs X F bh1:=λ _ _ _ _ _ _ h=>h.elim
end
abbrev TG:=V->St->Hp->(St->Hp->Prop)->Prop
abbrev TGs:=List V->St->Hp->(St->Hp->Prop)->Prop
def PG (X:Cx)(target:Expr)(t:TG):Prop :=
 ∀(pins:List (Addr×Obj)) (s:af) (σ:St) (H:Hp) (v:V) (u:Value) (Q:St->Hp->Prop),Inv X pins σ H s->RelV v u->t v σ H Q ->
  wpAny (model X.prog X.w) X.A (gd target X.env u) (λ _ s'=>∃ σ' H',Inv X pins σ' H' s'/\Q σ' H') X.xe s
def PGs (X:Cx)(ts:List Expr)(t:TGs):Prop :=
 ∀(pins:List (Addr×Obj)) (s:af) (σ:St) (H:Hp) (vs:List V) (us:List Value) (Q:St->Hp->Prop),Inv X pins σ H s->Vals vs us->t vs σ H Q ->
  wpAny (model X.prog X.w) X.A (assignInOrder ((cy ts X.env).map (·.2)) us) (λ _ s'=>∃ σ' H',Inv X pins σ' H' s'/\Q σ' H') X.xe s
abbrev bJ6:=V->V->V->Hp->(Hp->Prop)->Prop
def bQ6 (X:Cx)(t:bJ6):Prop :=
 ∀(pins:List (Addr×Obj)) (s:af) (σ:St) (H:Hp) (o i v:V) (ov iv u:Value) (Q:Hp->Prop),Inv X pins σ H s->RelV o ov->RelV i iv->RelV v u->t o i v H Q ->
  wpAny (model X.prog X.w) X.A (setItem ov iv u) (λ _ s'=>∃ H',Inv X pins σ H' s'/\Q H') X.xe s
section
variable {X:Cx} {pos:Pos}
def as8 (i:Nat):TG:=λ v σ H Q=>Q (σ.set i (some v)) H
theorem aR8 {i:Nat}{x:Str}(hN:X.N.Nodup)(hi:X.N[i]?=some x)(hx:Loc X.env.scope x)(J:X.fn x=true\/X.env.scope.names.lookup x=some .local:=by first|exact .inl rfl|exact .inr rfl|assumption):PG X (.Name x pos) (as8 i):=by
 intro F s σ H v u Q I r h
 exact i0 (ag7 I hN hi hx r (λ s' G=>⟨_,H,G,h⟩) J)
def bS3:TGs:=λ vs σ H Q=>vs=[]/\Q σ H
def bG0 (t:TG)(u:TGs):TGs:=λ vs σ H Q=>∃ v r,vs=v::r/\t v σ H λ σ' H'=>u r σ' H' Q
theorem bi8:PGs X [] bS3:=by
 intro F s σ H vs us Q I r h
 obtain⟨e,h⟩:=h
 subst e
 cases r
 exact assignInOrder_nil ⟨σ,H,I,h⟩
theorem aZ4 {e:Expr}{es:List Expr}{t:TG}{u:TGs}(G:PG X e t)(Y:PGs X es u)
  (hs:(cy (e::es) X.env).map (·.2)=gd e X.env::(cy es X.env).map (·.2):=by rfl):PGs X (e::es) (bG0 t u):=by
 intro F s σ H vs us Q I r h
 obtain⟨v,vr,e1,h⟩:=h
 subst e1
 cases r with
 | cons r rr =>
  rw[hs]
  refine assignInOrder_cons (thn (G F s σ H _ _ _ I r h) λ _ s1 ⟨σ1,J,I1,Z⟩=>?_)
  exact Y F s1 σ1 J _ _ Q I1 rr Z
def bK8 (K:ae)(n:Nat)(t:TGs):TG:=λ v σ H Q=>∃ a xs,v=.ref a/\SqT K H a xs/\xs.length=n/\t xs σ H Q
theorem bw1 {es:List Expr}{k:Nat}{t:TGs}{n:Nat}(hc:X.calm=true)(h:PGs X es t)
  (hn:(cy es X.env).length=n:=by rfl) (G:(cy es X.env).findIdx? (·.1)=none:=by rfl):PG X (.Tuple es k pos) (bK8 X.K n t):=by
 intro F s σ H v u Q I r hw
 obtain⟨a,Y,e1,hq,hl,hw⟩:=hw
 subst e1
 cases r
 obtain⟨its,J,Z,hz⟩:=I.tuple hq
 refine assign_Tuple_tuple (I.ok.hd hc) Z (by simp[hn,<-hl,J.length]) G λ h' hx=>?_
 have I1:Inv X F σ H { s with heap:=h' }:=I.kept (t':=s.toks) λ b o e=>hx b o (ay (az e)) e
 exact h F _ σ H Y _ Q I1 (by simpa using J) hw
def bR7 (to ti:TE)(t:bJ6):TG:=λ v σ H Q=>to σ H λ o H1=>ti σ H1 λ i H2=>t o i v H2 λ H3=>Q σ H3
theorem bz9 {o i:Expr}{Y Z:TE}{t:bJ6}(ho:PE X o Y)(hi:PE X i Z)(hs:bQ6 X t)
  (ha:∀ v,gd (.Subscript o i pos) X.env v=(do
   let G <- fD [v] (eval o X.env)
   let J <- fD [v,G] (eval i X.env)
   standAt pos
   fD [v,G,J] (setItem G J v)
   release [v,G,J] []):=by intro _;rfl):PG X (.Subscript o i pos) (bR7 Y Z t):=by
 intro F s σ H v u Q I r h
 rw[ha]
 refine ah (bT (thn (ho F s σ H _ I h) λ G s1 ⟨x,H1,I1,r1,q1⟩=>?_))
 refine ah (bT (thn (hi F s1 σ H1 _ I1 q1) λ J s2 ⟨y,H2,I2,r2,q2⟩=>?_))
 refine ah (iw (ah (bT (thn (hs F s2 σ H2 x y v G J u _ I2 r1 r2 r q2) λ _ s3 ⟨H3,I3,q3⟩=>?_))))
 exact wpAny_release ⟨σ,H3,I3,q3⟩
def aY1 (te:TE)(g:TG):TS:=λ D σ H=>te σ H λ x H1=>g x σ H1 D.nx
theorem be7 {tg e:Expr}{G:TE}{g:TG}(he:PE X e G)(hg:PG X tg g)(hs:swapsWithSole [tg] e pos.line X.env=pure false:=by rfl)(hw:iy [tg] e X.env=pure none:=by rfl)
  (Y:(cy [tg] X.env).map (·.2)=[gd tg X.env]:=by rfl):PS X (.Assign [tg] e pos) (aY1 G g):=by
 intro F s σ H D I h
 refine wpAny_Assign_stores (thn (he F s σ H _ I h) λ v s1 ⟨x,H1,Z,r1,J⟩=>?_) hs hw
 rw[Y]
 exact thn (hg F s1 σ H1 x v _ Z r1 J) λ _ s2 q=>q
theorem bf2 {i:Nat}{x:Str}{e:Expr}{J:TE}{F:Pos}(hN:X.N.Nodup)(hi:X.N[i]?=some x)(hx:Loc X.env.scope x)(he:PE X e J)(hs:fh e (some (.Name x F)) pos.line X.env=pure false:=by rfl)(hf:X.fn x=true\/X.env.scope.names.lookup x=some .local:=by first|exact .inl rfl|exact .inr rfl|assumption) :
  PS X (.Assign [.Name x F] e pos) (aY1 J (as8 i)):=by
 intro G s σ H D I h
 refine wpAny_Assign_Name (thn (he G s σ H _ I h) λ v s1 ⟨y,Y,I1,r1,Z⟩=>?_) hs
 exact ag7 I1 hN hi hx r1 (λ s2 I2=>⟨_,Y,I2,Z⟩) hf
end
section
variable {X:Cx} {pos:Pos}
def bf9 (c:TT)(tb:TS):TS:=λ D σ H=>∃ W:Nat->St->Hp->Prop,(∃ m,W m σ H)/\∀ m σ H,W m σ H ->
 c σ H λ b H1=>if b=true then ∃ N:St->Hp->Prop,(∀ σ' H',N σ' H'->∃ m',m'<m/\W m' σ' H')/\tb { D with nx:=N,ct:=N,bk:=D.nx } σ H1 else D.nx σ H1
theorem bb8 {c:Expr}{body:List Stmt}{tc:TT}{tb:TS}(hp:PassesOwn (model X.prog X.w) X.A X.env X.xe)(hc:PT X c tc)(hb:PSs X body tb):PS X (.While c body [] pos) (bf9 tc tb):=by
 intro F s σ H D I h
 obtain⟨W,⟨m0,w0⟩,turn⟩:=h
 refine wpAny_While (codeAny_whileLoop (λ n s'=>∃ σ' H',Inv X F σ' H' s'/\W n σ' H') ?_ m0 ⟨σ,H,I,w0⟩)
 rintro n s1 ⟨σ1,H1,I1,w1⟩
 refine cH hp (thn (hc F s1 σ1 H1 _ I1 (turn n σ1 H1 w1)) λ b s2 ⟨H2,I2,q2⟩=>?_)
 cases b with
 | true =>
  obtain⟨N,hN,q2⟩:=q2
  rw[if_pos rfl]
  refine cH hp (thn (hb F s2 σ1 H2 _ I2 q2) λ f s3 q3=>?_)
  cases f with
  | next =>
   obtain⟨σ3,G,Z,Y⟩:=q3
   obtain⟨m',J,w3⟩:=hN σ3 G Y
   exact⟨m',J,σ3,G,Z,w3⟩
  | cont =>
   obtain⟨σ3,G,Z,Y⟩:=q3
   obtain⟨m',J,w3⟩:=hN σ3 G Y
   exact⟨m',J,σ3,G,Z,w3⟩
  | brk=>exact q3
  | ret v=>exact q3
 | false =>
  rw[if_neg aQ]
  exact da ⟨σ1,H2,I2,q2⟩
end
structure It where
 go:Nat->Hp->Prop
 yld:Nat->Hp->V->Hp->Prop
 stop:Nat->Hp->Prop
def FpOk (X:Cx)(pins:List (Addr×Obj))(H:Hp)(b:Addr):Prop :=
 H b=none/\b≠X.env.locals/\b ∉ X.fs/\(b∈X.ex\/X.s₀.heap.objs.size<=b)/\(∀ x c,X.env.cells.lookup x=some c->c≠b)/\∀ p∈X.pn++pins,p.1≠b
theorem Inv.fpOk {X:Cx}{h:List (Addr×Obj)}{σ:St}{H H':Hp}{s:af}{b:Addr}(I:Inv X h σ H s)(hb:s.heap.objs.size<=b)(hn:H' b=none):FpOk X h H' b:=by
 refine⟨hn,cZ (ao I.lt hb),I.nofs hb,.inr (av I.sz hb),λ x c e z=>?_,λ p hp z=>?_⟩
 ·obtain⟨v,q⟩:=I.cell x c e
  exact absurd (ao q.lt (by rw[z];exact hb)) (bo _)
 ·exact absurd (ao (az (I.pin p hp).1) (by rw[z];exact hb)) (bo _)
structure Turn (P:aD)(w:World)(K:ae)(tg:Expr)(J:It)(fp:List Addr)(it:Addr)(tn:Nat->Heap->Prop):Prop where
 mem:it∈fp
 obj:∀ i h,tn i h->∀ b∈fp,∃ o,h.get? b=some o/\∀ v,o.data≠.cell v
 keep:∀ i h h',tn i h->(∀ b∈fp,∀ o,h.get? b=some o->h'.get? b=some o)->tn i h'
 item:∀(X:Cx),X.prog=P->X.w=w->X.K=K->X.calm=true->∀(i:Nat) (pins:List (Addr×Obj)) (s:af) (σ:St) (H:Hp) (E:Value->af->Prop),Inv X pins σ H s->(∀ b∈fp,FpOk X pins H b)->tn i s.heap->J.go i H ->
  wpAny (model P w) X.A (fj (.ref it)) (λ r s1=>∃ u,r=some u /\
   wpAny (model P w) X.A (eU tg (.ref it) u) (λ _ s2=>∃ x H',Inv X pins σ H' s2/\RelV x u/\J.yld i H x H'/\tn (i+1) s2.heap/\∀ b∈fp,H' b=none) E s1) E s
 done:∀(X:Cx),X.prog=P->X.w=w->X.K=K->X.calm=true->∀(i:Nat) (pins:List (Addr×Obj)) (s:af) (σ:St) (H:Hp) (E:Value->af->Prop),Inv X pins σ H s->(∀ b∈fp,FpOk X pins H b)->tn i s.heap->J.stop i H ->
  wpAny (model P w) X.A (fj (.ref it)) (λ r s1=>r=none/\Inv X pins σ H s1) E s
 self:∀(A:aM) (i:Nat) (s:af) (Q:Value->af->Prop) (E:Value->af->Prop),tn i s.heap->Q (.ref it) s->wpAny (model P w) A (ji (.ref it)) Q E s
abbrev TI:=St->Hp->(It->Hp->Prop)->Prop
def PIE (X:Cx)(pins:List (Addr×Obj))(σ:St)(tg:Expr)(R:It->Hp->Prop)(itv:Value)(s2:af):Prop :=
 ∃(it:Addr) (fp:List Addr) (tn:Nat->Heap->Prop) (J:It) (H':Hp),itv=.ref it/\Inv X pins σ H' s2/\Turn X.prog X.w X.K tg J fp it tn/\tn 0 s2.heap/\(∀ b∈fp,FpOk X pins H' b)/\R J H'
def PI (X:Cx)(tg iter:Expr)(wi:TI):Prop :=
 ∀(pins:List (Addr×Obj)) (s:af) (σ:St) (H:Hp) (R:It->Hp->Prop),Inv X pins σ H s->wi σ H R ->
  wpAny (model X.prog X.w) X.A (eval iter X.env) (λ v s1=>wpAny (model X.prog X.w) X.A (ji v) (PIE X pins σ tg R) X.xe s1) X.xe s
theorem aW2 {M : Model} {A : Around} {E : Value -> Shared -> Prop} {s : Shared} {tg : Expr} {it : Addr} {u : Value} {o : Obj} {n : String} {vs : Array Value} {Q : Unit -> Shared -> Prop} (ho : s.heap.get? it = some o) (hc : o.cls = .type n) (hd : o.data = .fields vs)
    (hn : ["enumerate", "zip", "dict_itemiterator", "dict_reverseitemiterator", "odict_iterator", "itertools.zip_longest", "itertools.pairwise"].contains n = false) (hQ : Q () s) : wpAny M A (eU tg (.ref it) u) Q E s := by
  unfold eU
  cases tg <;> first
    | exact aA hQ
    | (cases u <;> first
        | exact aA hQ
        | (refine ah (wpAny_load ho ?_)
           rw[hc, hd]
           show wpAny M A (if(["enumerate", "zip", "dict_itemiterator", "dict_reverseitemiterator", "odict_iterator", "itertools.zip_longest", "itertools.pairwise"].contains n && vs[0]? == some (dj _)) = true then _ else _) Q E s
           rw[if_neg (by intro h; rw[hn, Bool.false_and]at h; cases h)]
           exact aA hQ))
noncomputable def Itl (K:ae)(a:Addr):It :=
 ⟨λ i H=>∃ xs x,SqL K H a xs/\xs[i]?=some x,λ i H x H'=>H'=H/\∀ xs,SqL K H a xs->xs[i]?=some x,λ i H=>∃ xs,SqL K H a xs/\xs.length<=i⟩
noncomputable def Itt (K:ae)(a:Addr):It :=
 ⟨λ i H=>∃ xs x,SqT K H a xs/\xs[i]?=some x,λ i H x H'=>H'=H/\∀ xs,SqT K H a xs->xs[i]?=some x,λ i H=>∃ xs,SqT K H a xs/\xs.length<=i⟩
noncomputable def Itr (lo:Int)(n:Nat):It:=⟨λ i _=>i<n,λ i H x H'=>H'=H/\x=.int (lo+i),λ i _=>n<=i⟩
theorem aP8 {P:aD}{w:World}{K:ae}{tg:Expr}(a it:Addr):Turn P w K tg (Itl K a) [it] it (λ i h=>h.IsListIter it a i) where
 mem:=by simp
 obj:=λ i h st b hb=>by
  have e:b=it:=by simpa using hb
  subst e
  obtain⟨o,e,c,d⟩:=st
  exact⟨o,e,λ v z=>by rw[d]at z;cases z⟩
 keep:=λ i h h' st k=>st.at λ o e=>k it (by simp) o e
 item:=by
  intro X hP hw hK hc i F s σ H E I J st hg
  subst hP hw hK
  obtain⟨xs,x,hq,hx⟩:=hg
  obtain⟨its,rv,p,hz⟩:=I.list hq
  obtain⟨u,hu,ru⟩:=rv.get hx
  obtain⟨Z,f1,f2,f3,Y,f5⟩:=J it (by simp)
  refine wpAny_pyNext_list_item st p.isList (x:=u) (by simpa using hu) λ h' G sb=>?_
  have I1:Inv X F σ H { s with heap:=h' }:=I.turned (t':=s.toks) (λ b o hb e=>(sb.2 b hb).trans e) Z f1 f3 Y f5
  obtain⟨o,e,c,d⟩:=id G
  exact⟨u,rfl,aW2 (s:={ s with heap:=h' }) e c d (by decide) ⟨x,H,I1,ru,⟨rfl,λ ys hy=>by rw[I.list_inj hy hq];exact hx⟩,G,λ b hb=>(J b hb).1⟩⟩
 done:=by
  intro X hP hw hK hc i F s σ H E I J st hg
  subst hP hw hK
  obtain⟨xs,hq,hx⟩:=hg
  obtain⟨its,rv,p,hz⟩:=I.list hq
  obtain⟨Z,f1,f2,f3,Y,f5⟩:=J it (by simp)
  have hl:=rv.length
  exact wpAny_pyNext_list_end (I.ok.hd hc) st p.isList (by simp;omega) λ h' eb=>⟨rfl,I.turned (t':=s.toks) (λ b o hb e=>eb b o hb e) Z f1 f3 Y f5⟩
 self:=λ _ _ _ _ _ st h=>wpAny_pyIter_listiter st h
theorem aF4 {P:aD}{w:World}{K:ae}{tg:Expr}(a it:Addr):Turn P w K tg (Itt K a) [it] it (λ i h=>h.IsTupleIter it a i) where
 mem:=by simp
 obj:=λ i h st b hb=>by
  have e:b=it:=by simpa using hb
  subst e
  obtain⟨o,e,c,d⟩:=st
  exact⟨o,e,λ v z=>by rw[d]at z;cases z⟩
 keep:=λ i h h' st k=>st.at λ o e=>k it (by simp) o e
 item:=by
  intro X hP hw hK hc i F s σ H E I J st hg
  subst hP hw hK
  obtain⟨xs,x,hq,hx⟩:=hg
  obtain⟨its,rv,p,hz⟩:=I.tuple hq
  obtain⟨u,hu,ru⟩:=rv.get hx
  obtain⟨Z,f1,f2,f3,Y,f5⟩:=J it (by simp)
  refine wpAny_pyNext_tuple_item st (show s.heap.IsTuple a its.toArray from p) (x:=u) (by simpa using hu) λ h' G sb=>?_
  have I1:Inv X F σ H { s with heap:=h' }:=I.turned (t':=s.toks) (λ b o hb e=>(sb.2 b hb).trans e) Z f1 f3 Y f5
  obtain⟨o,e,c,d⟩:=id G
  exact⟨u,rfl,aW2 (s:={ s with heap:=h' }) e c d (by decide) ⟨x,H,I1,ru,⟨rfl,λ ys hy=>by rw[I.tuple_inj hy hq];exact hx⟩,G,λ b hb=>(J b hb).1⟩⟩
 done:=by
  intro X hP hw hK hc i F s σ H E I J st hg
  subst hP hw hK
  obtain⟨xs,hq,hx⟩:=hg
  obtain⟨its,rv,p,hz⟩:=I.tuple hq
  obtain⟨Z,f1,f2,f3,Y,f5⟩:=J it (by simp)
  have hl:=rv.length
  exact wpAny_pyNext_tuple_end (I.ok.hd hc) st (show s.heap.IsTuple a its.toArray from p) (by simp;omega) λ h' eb=>⟨rfl,I.turned (t':=s.toks) (λ b o hb e=>eb b o hb e) Z f1 f3 Y f5⟩
 self:=λ _ _ _ _ _ st h=>wpAny_pyIter_tupleiter st h
theorem aG9 {P:aD}{w:World}{K:ae}{tg:Expr}(it:Addr)(lo:Int)(n:Nat):Turn P w K tg (Itr lo n) [it] it (λ i h=>IsRangeIter h it (lo+(i:Nat)*1) ((n:Int) - (i:Nat)) 1) where
 mem:=by simp
 obj:=λ i h st b hb=>by
  have e:b=it:=by simpa using hb
  subst e
  exact⟨_,st,λ v z=>by
   have z':Data.fields _=Data.cell v:=z
   cases z'⟩
 keep:=λ i h h' st k=>k it (by simp) _ st
 item:=by
  intro X hP hw hK hc i F s σ H E I J st hg
  subst hP hw hK
  obtain⟨Z,f1,f2,f3,Y,f5⟩:=J it (by simp)
  have W:=Walks.range (prog:=X.prog) (w:=X.w) (I.ok.hd hc) it lo 1 n
  refine W.item i s _ _ hg st λ v h' tk hv G kk=>?_
  obtain⟨t,rfl⟩:=hv
  have I1:Inv X F σ H { s with heap:=h',toks:=tk }:=I.turned (λ b o hb e=>kk b o (by simpa using hb) e) Z f1 f3 Y f5
  refine⟨_,rfl,aW2 (s:={ s with heap:=h',toks:=tk }) (n := "range_iterator") G rfl rfl (by decide) ⟨.int (lo+i),H,I1,⟨t,?_⟩,⟨rfl,rfl⟩,G,λ b hb=>(J b hb).1⟩⟩
  rw[Int.mul_one]
 done:=by
  intro X hP hw hK hc i F s σ H E I J st hg
  subst hP hw hK
  obtain⟨Z,f1,f2,f3,Y,f5⟩:=J it (by simp)
  exact wpAny_pyNext_range_end (I.ok.hd hc) st (by have:n<=i:=hg;omega) λ h' eb=>⟨rfl,I.turned (t':=s.toks) (λ b o hb e=>eb b o hb e) Z f1 f3 Y f5⟩
 self:=λ _ _ _ _ _ st h=>wpAny_pyIter_rangeiter st h
section
variable {X:Cx} {tg:Expr}
def bm0 (K:ae)(tl:TE):TI:=λ σ H R=>tl σ H λ x H1=>∃ a,x=.ref a/\(∃ xs,SqL K H1 a xs)/\R (Itl K a) H1
def bO0 (K:ae)(tl:TE):TI:=λ σ H R=>tl σ H λ x H1=>∃ a,x=.ref a/\(∃ xs,SqT K H1 a xs)/\R (Itt K a) H1
theorem bi7 {l:Expr}{J:TE}(hl:PE X l J):PI X tg l (bm0 X.K J):=by
 intro F s σ H R I h
 refine thn (hl F s σ H _ I h) λ v s1 ⟨x,Y,G,r1,Z⟩=>?_
 obtain⟨a,e,⟨xs,hq⟩,q⟩:=Z
 subst e
 cases r1
 obtain⟨its,rv,p,hz⟩:=G.list hq
 refine cK p.isList ?_
 refine⟨s1.heap.objs.size,[s1.heap.objs.size],_,_,Y,rfl,G.kept (t':=s1.toks) λ b o e=>ai _ e,aP8 a _,⟨_,aC _ rfl,rfl,rfl⟩,λ b hb=>?_,q⟩
 have e:b=s1.heap.objs.size:=by simpa using hb
 subst e
 exact G.fpOk (am _) (G.hok.fresh (am _))
theorem bB0 {l:Expr}{J:TE}(hl:PE X l J):PI X tg l (bO0 X.K J):=by
 intro F s σ H R I h
 refine thn (hl F s σ H _ I h) λ v s1 ⟨x,Y,G,r1,Z⟩=>?_
 obtain⟨a,e,⟨xs,hq⟩,q⟩:=Z
 subst e
 cases r1
 obtain⟨its,rv,p,hz⟩:=G.tuple hq
 refine iL (show s1.heap.IsTuple a its.toArray from p) ?_
 refine⟨s1.heap.objs.size,[s1.heap.objs.size],_,_,Y,rfl,G.kept (t':=s1.toks) λ b o e=>ai _ e,aF4 a _,⟨_,aC _ rfl,rfl,rfl⟩,λ b hb=>?_,q⟩
 have e:b=s1.heap.objs.size:=by simpa using hb
 subst e
 exact G.fpOk (am _) (G.hok.fresh (am _))
theorem aV9 {h:List (Addr×Obj)}{σ:St}{H:Hp}{s:af}{R:It->Hp->Prop}{E:Value->af->Prop}{lo hi:Int}{t u v:Tok}{tk:Nat}(I:Inv X h σ H s)(J:-(2^62)<=lo)(Z:lo<2^62)(G:-(2^62)<=hi)(Y:hi<2^62)
  (q:R (Itr lo (hi - lo).toNat) H):wpAny (model X.prog X.w) X.A (ji (.ref s.heap.objs.size)) (PIE X h σ tg R) E { s with heap:=s.heap.push { cls:=.type "range",data:=.fields #[.int lo t,.int hi u,.int 1 v] },toks:=tk }:=by
 refine wpAny_pyIter_range (IsRange.new ..) (small_one J Z G Y) ?_
 have F:Inv X h σ H { s with heap:=s.heap.push { cls:=.type "range",data:=.fields #[.int lo t,.int hi u,.int 1 v] },toks:=tk }:=I.kept λ b o e=>ai _ e
 refine⟨(s.heap.push { cls:=.type "range",data:=.fields #[.int lo t,.int hi u,.int 1 v] }).objs.size,[(s.heap.push { cls:=.type "range",data:=.fields #[.int lo t,.int hi u,.int 1 v] }).objs.size],_,_,H,rfl,
  F.kept (t':=tk) λ b o e=>ai _ e,aG9 _ lo (hi - lo).toNat,?_,λ b hb=>?_,q⟩
 ·have e1:lo+((0:Nat):Int)*1=lo:=by simp
  have e2:(((hi - lo).toNat:Nat):Int) - ((0:Nat):Int)=j2 lo hi 1:=by rw[rangeSize_one];split<;>omega
  show IsRangeIter _ _ (lo+((0:Nat):Int)*1) ((((hi - lo).toNat:Nat):Int) - ((0:Nat):Int)) 1
  rw[e1,e2]
  exact aC _ rfl
 ·have e:b=(s.heap.push { cls:=.type "range",data:=.fields #[.int lo t,.int hi u,.int 1 v] }).objs.size:=by simpa using hb
  subst e
  exact F.fpOk (am _) (F.hok.fresh (am _))
def bC2 (ta:TA):TI:=λ σ H R=>ta σ H λ vs H1=>∃ j:Int,vs=[.int j]/\-(2^62)<=j/\j<2^62/\R (Itr 0 j.toNat) H1
theorem aK1 {a:Expr}{J:TA}{p pos:Pos}(hg:Gl X "range")(Y:X.mg "range"=none)(ha:PA X [a] J)(hs:bq [a] X.env=[(false,eval a X.env)]:=by rfl):PI X tg (.Call (.Name "range" p) [a] [] pos) (bC2 J):=by
 intro F s σ H R I h
 refine Call_ (ai7 I hg Y boot_range (dm (thn (ha pos F s σ H _ I h) λ us s1 ⟨vs,H1,Z,r1,G⟩=>?_) hs rfl))
 obtain⟨j,e,G,q2,q⟩:=G
 subst e
 cases r1 with
 | cons r rr =>
  cases rr
  obtain⟨t,rfl⟩:=r
  exact call_range_1 (aV9 Z (by omega) (by omega) G q2 (by simpa using q))
def bS9 (wi:TI)(g:TG)(tb:TS):TS:=λ D σ H=>wi σ H λ J H1=>∃ W:Nat->Nat->St->Hp->Prop,(∃ m,W 0 m σ H1)/\∀ i m σ H,W i m σ H ->
 (J.stop i H/\D.nx σ H)\/(J.go i H/\∃ N:St->Hp->Prop,(∀ σ' H',N σ' H'->∃ m',m'<m/\W (i+1) m' σ' H')/\∀ x H',J.yld i H x H'->g x σ H' λ σ2 H2=>tb { D with nx:=N,ct:=N,bk:=D.nx } σ2 H2)
noncomputable def aq2 (fp:List Addr)(h:Heap):List (Addr×Obj):=fp.filterMap λ b=>(h.get? b).map λ o=>(b,o)
theorem qx {F:List Addr}{h:Heap}{b:Addr}{o:Obj}(hb:b∈F)(e:h.get? b=some o):(b,o)∈aq2 F h:=cb.mpr ⟨b,hb,by rw[e];rfl⟩
theorem aL5 {F:List Addr}{h:Heap}{p:Addr×Obj}(hp:p∈aq2 F h):p.1∈F/\h.get? p.1=some p.2:=by
 obtain⟨b,hb,e⟩:=cb.mp hp
 cases q:h.get? b with
 | none=>rw[q]at e;cases e
 | some o =>
  rw[q]at e
  have e':(b,o)=p:=au e
  subst e'
  exact⟨hb,q⟩
theorem Inv.pinned {h:List (Addr×Obj)}{σ:St}{H:Hp}{s:af}{F:List Addr}(I:Inv X h σ H s)(Z:∀ b∈F,FpOk X h H b)(ho:∀ b∈F,∃ o,s.heap.get? b=some o/\∀ v,o.data≠.cell v):Inv X (h++aq2 F s.heap) σ H s :=
 I.pins_of λ p hp=>(bw.mp hp).elim (λ z=>I.pin p (aN _ z)) λ z=>by
  obtain⟨hb,e⟩:=aL5 z
  obtain⟨Y,G,J,_⟩:=Z p.1 hb
  obtain⟨o,e',d⟩:=ho p.1 hb
  rw[e]at e';cases e'
  exact⟨e,Y,G,J,d⟩
theorem Inv.unpinned {h F:List (Addr×Obj)}{σ:St}{H:Hp}{s:af}(I:Inv X (h++F) σ H s):Inv X h σ H s:=I.pins_of λ p hp=>I.pin p (aN _ (cJ _ hp))
theorem bC9 {iter:Expr}{body:List Stmt}{wi:TI}{g:TG}{tb:TS}{pos:Pos}(hp:PassesOwn (model X.prog X.w) X.A X.env X.xe)(hc:X.calm=true)(hi:PI X tg iter wi)(hg:PG X tg g)(hb:PSs X body tb)
  (hs:∀ x,dq iter X.env x=pure x:=by intro _;rfl):PS X (.For tg iter body [] pos) (bS9 wi g tb):=by
 intro F s σ H D I h
 refine wpAny_For (thn (hi F s σ H _ I h) λ v s1 h1=>thn h1 λ a6 s2 h2=>?_) hs
 obtain⟨it,fp,tn,J,H2,e,I2,T,a4,f2,W,⟨m0,w0⟩,turn⟩:=h2
 subst e
 have G:∀ {H':Hp},(∀ b∈fp,H' b=none)->∀ b∈fp,FpOk X F H' b:=λ hn b hb=>⟨hn b hb,(f2 b hb).2⟩
 refine codeAny_forLoop_any (λ n s'=>∃ i σ' H',Inv X F σ' H' s'/\tn i s'.heap/\(∀ b∈fp,H' b=none)/\W i n σ' H') ?_ m0 ⟨0,σ,H2,I2,a4,λ b hb=>(f2 b hb).1,w0⟩
 rintro n s3 ⟨i,σ3,H3,I3,a1,a2,w3⟩
 rcases turn i n σ3 H3 w3 with⟨stop,qn⟩|⟨go,N,hN,step⟩
 ·refine cH hp (thn (T.done X rfl rfl rfl hc i F s3 σ3 H3 X.xe I3 (G a2) a1 stop) λ r s4 ⟨hr,I4⟩=>?_)
  subst hr
  exact da ⟨σ3,H3,I4,qn⟩
 ·refine cH hp (thn (T.item X rfl rfl rfl hc i F s3 σ3 H3 X.xe I3 (G a2) a1 go) λ r s4 ⟨u,hr,h4⟩=>?_)
  subst hr
  refine cH hp (thn h4 λ _ s5 ⟨x,H5,I5,r5,y5,a0,a3⟩=>?_)
  have a5:=I5.pinned (G a3) (T.obj _ _ a0)
  refine cH hp (thn (hg _ s5 σ3 H5 x u _ a5 r5 (step x H5 y5)) λ _ s6 ⟨σ6,H6,I6,q6⟩=>?_)
  refine cH hp (thn (hb _ s6 σ6 H6 _ I6 q6) λ f s7 q7=>?_)
  have again:∀ {σ7:St} {Y:Hp},Inv X (F++aq2 fp s5.heap) σ7 Y s7->N σ7 Y->∃ m,m<n/\∃ i σ' H',Inv X F σ' H' s7/\tn i s7.heap/\(∀ b∈fp,H' b=none)/\W i m σ' H':=λ {σ7 Y} Z n7=>by
   obtain⟨m',hm,w7⟩:=hN σ7 Y n7
   refine⟨m',hm,i+1,σ7,Y,Z.unpinned,T.keep _ _ _ a0 λ b hb o e=>(Z.pin (b,o) (aN _ (aN _ (qx hb e)))).1,λ b hb=>?_,w7⟩
   obtain⟨o,e,d⟩:=T.obj _ _ a0 b hb
   exact(Z.pin (b,o) (aN _ (aN _ (qx hb e)))).2.1
  cases f with
  | next=>obtain⟨σ7,Y,Z,n7⟩:=q7;exact again Z n7
  | cont=>obtain⟨σ7,Y,Z,n7⟩:=q7;exact again Z n7
  | brk=>obtain⟨σ7,Y,Z,q7⟩:=q7;exact⟨σ7,Y,Z.unpinned,q7⟩
  | ret v=>obtain⟨x7,σ7,Y,Z,r7,q7⟩:=q7;exact⟨x7,σ7,Y,Z.unpinned,r7,q7⟩
end
abbrev R2:=V->V->Hp->VK->Prop
def OpR (X:Cx)(f:Value->Value->Sem Value)(r:R2):Prop :=
 ∀(pins:List (Addr×Obj)) (s:af) (σ:St) (H:Hp) (x y:V) (v u:Value) (Q:VK),Inv X pins σ H s->RelV x v->RelV y u->r x y H Q ->
  wpAny (model X.prog X.w) X.A (f v u) (EP X pins σ Q) X.xe s
def UnR (X:Cx)(f:Value->Sem Value)(r:V->Hp->VK->Prop):Prop :=
 ∀(pins:List (Addr×Obj)) (s:af) (σ:St) (H:Hp) (x:V) (v:Value) (Q:VK),Inv X pins σ H s->RelV x v->r x H Q ->
  wpAny (model X.prog X.w) X.A (f v) (EP X pins σ Q) X.xe s
def ab1 (X:Cx)(f:Value)(r:List V->Hp->VK->Prop):Prop :=
 ∀(pins:List (Addr×Obj)) (s:af) (σ:St) (H:Hp) (xs:List V) (us:List Value) (Q:VK),Inv X pins σ H s->Vals xs us->r xs H Q ->
  wpAny (model X.prog X.w) X.A (call f us) (EP X pins σ Q) X.xe s
def tOp (r:R2)(ta tb:TE):TE:=λ σ H Q=>ta σ H λ x H1=>tb σ H1 λ y H2=>r x y H2 Q
def tUn (r:V->Hp->VK->Prop)(ta:TE):TE:=λ σ H Q=>ta σ H λ x H1=>r x H1 Q
def rI (C:Int->Int->Prop)(g:Int->Int->V):R2:=λ x y H Q=>∃ i j,x=.int i/\y=.int j/\C i j/\Q (g i j) H
def rI0 (g:Int->Int->V):R2:=λ x y H Q=>∃ i j,x=.int i/\y=.int j/\Q (g i j) H
def rU (g:Int->V):V->Hp->VK->Prop:=λ x H Q=>∃ i,x=.int i/\Q (g i) H
section
variable {X:Cx} {a b c:Expr} {ta tb tc:TE} {pos:Pos}
theorem bQ0 (ha:PE X a ta)(hb:PE X b tb){F:List (Addr×Obj)}{s:af}{σ:St}{H:Hp}{R:V->V->Hp->Prop}(I:Inv X F σ H s)
  (h:ta σ H λ x J=>tb σ J λ y G=>R x y G) {Q:Value->af->Prop} {f:Value->Value->Sem Value}
  (hf:∀ v u s2 x y G,Inv X F σ G s2->RelV x v->RelV y u->R x y G->wpAny (model X.prog X.w) X.A (f v u) Q X.xe s2) :
  wpAny (model X.prog X.w) X.A (eval a X.env) (λ v Z=>wpAny (model X.prog X.w) X.A (eval b X.env) (λ u Y=>wpAny (model X.prog X.w) X.A (f v u) Q X.xe Y) X.xe Z) X.xe s:=by
 refine thn (ha F s σ H _ I h) λ v s1 ⟨x,J,I1,r1,q1⟩=>?_
 refine thn (hb F s1 σ J _ I1 q1) λ u s2 ⟨y,G,I2,r2,q2⟩=>?_
 exact hf v u s2 x y G I2 r1 r2 q2
theorem bP8 {op:Operator}{r:R2}(ho:OpR X (bZ op) r)(ha:PE X a ta)(hb:PE X b tb):PE X (.BinOp a op b pos) (tOp r ta tb):=by
 intro F s σ H Q I h
 exact wpAny_BinOp (bQ0 ha hb I h λ v u s2 x y G Z Y J q=>ho F s2 σ G x y v u Q Z Y J q)
theorem bN7 {op:UnaryOp}{r:V->Hp->VK->Prop}(ho:UnR X (unaryOp op) r)(ha:PE X a ta):PE X (.UnaryOp op a pos) (tUn r ta):=by
 intro F s σ H Q I h
 exact UnaryOp_ (thn (ha F s σ H _ I h) λ v s1 ⟨x,Y,J,r1,G⟩=>ho F s1 σ Y x v Q J r1 G)
theorem opI {f:Value->Value->Sem Value}{C:Int->Int->Prop}{g:Int->Int->Int}
  (rule:∀(i j:Int) (t u:Tok) (s:af) (Q:Value->af->Prop) (E:Value->af->Prop),C i j->Q (.int (g i j) s.toks) { s with toks:=s.toks+1 }->wpAny (model X.prog X.w) X.A (f (.int i t) (.int j u)) Q E s) :
  OpR X f (rI C λ i j=>.int (g i j)):=by
 intro F s σ H x y v u Q I G J h
 obtain⟨i,j,rfl,rfl,hc,q⟩:=h
 obtain⟨t,rfl⟩:=G
 obtain⟨t',rfl⟩:=J
 exact rule i j t t' s _ _ hc ⟨.int (g i j),H,I.tok _,⟨_,rfl⟩,q⟩
theorem bQ9 {f:Value->Value->Sem Value}{g:Int->Int->Int}
  (rule:∀(i j:Int) (t u:Tok) (s:af) (Q:Value->af->Prop) (E:Value->af->Prop),Q (.int (g i j) s.toks) { s with toks:=s.toks+1 }->wpAny (model X.prog X.w) X.A (f (.int i t) (.int j u)) Q E s) :
  OpR X f (rI0 λ i j=>.int (g i j)):=by
 intro F s σ H x y v u Q I J G h
 obtain⟨i,j,rfl,rfl,q⟩:=h
 obtain⟨t,rfl⟩:=J
 obtain⟨t',rfl⟩:=G
 exact rule i j t t' s _ _ ⟨.int (g i j),H,I.tok _,⟨_,rfl⟩,q⟩
theorem bI5 {f:Value->Value->Sem Value}{g:Int->Int->Bool}
  (rule:∀(i j:Int) (t u:Tok) (s:af) (Q:Value->af->Prop) (E:Value->af->Prop),Q (.bool (g i j)) s->wpAny (model X.prog X.w) X.A (f (.int i t) (.int j u)) Q E s) :
  OpR X f (rI0 λ i j=>.bl (g i j)):=by
 intro F s σ H x y v u Q I J G h
 obtain⟨i,j,rfl,rfl,q⟩:=h
 obtain⟨t,rfl⟩:=J
 obtain⟨t',rfl⟩:=G
 exact rule i j t t' s _ _ ⟨.bl (g i j),H,I,rfl,q⟩
def bT9 (i j:Int):Prop:=0<=j/\j<=1000000/\i.natAbs<2^64
def bK2 (i j:Int):Prop:=(-(2^64)<i/\i<2^64)\/(-(2^64)<j/\j<2^64)
theorem bK2.ok {i j:Int}(h:bK2 i j):IntMulOk i j:=by
 rcases h with⟨F,G⟩|⟨F,G⟩
 ·exact .of_left (intBits_le_64 F G)
 ·exact .of_right (intBits_le_64 F G)
theorem aI7 (k:Nat):(0:Int)<=2^k:=by
 rw[two_pow_cast]
 exact Int.natCast_nonneg _
theorem bE1:OpR X (bZ .Add) (rI0 λ i j=>.int (i+j)):=bQ9 λ _ _ _ _ _ _ _ q=>add_int q
theorem bw8:OpR X (bZ .Sub) (rI0 λ i j=>.int (i - j)):=bQ9 λ _ _ _ _ _ _ _ q=>sub_int q
theorem bG2:OpR X (bZ .Mod) (rI (λ _ j=>0<j) λ i j=>.int (i % j)):=opI λ i j _ _ _ _ _ hc q=>by
 have h:(0:Int)<j:=hc
 exact mod_int' (by omega) (by rw[Int.fmod_eq_emod_of_nonneg i (by omega)];exact q)
theorem bG6:OpR X (bZ .Pow) (rI bT9 λ i j=>.int (i^j.toNat)):=opI λ _ _ _ _ _ _ _ hc q=>pow_int_small hc.1 hc.2.1 hc.2.2 q
theorem bz6:OpR X (bZ .LShift) (rI bT9 λ i j=>.int (i*2^j.toNat)):=opI λ _ _ _ _ _ _ _ hc q=>lshift_int_small hc.1 hc.2.1 hc.2.2 q
theorem bC4:OpR X (bZ .RShift) (rI (λ _ j=>0<=j) λ i j=>.int (i / 2^j.toNat)):=opI λ i j _ _ _ _ _ hc q =>
 rshift_int hc (by rw[fm i (aI7 _)];exact q)
theorem unI {f:Value->Sem Value}{g:Int->Int}
  (rule:∀(i:Int) (t:Tok) (s:af) (Q:Value->af->Prop) (E:Value->af->Prop),Q (.int (g i) s.toks) { s with toks:=s.toks+1 }->wpAny (model X.prog X.w) X.A (f (.int i t)) Q E s) :
  UnR X f (rU λ i=>.int (g i)):=by
 intro F s σ H x v Q I G h
 obtain⟨i,rfl,q⟩:=h
 obtain⟨t,rfl⟩:=G
 exact rule i t s _ _ ⟨.int (g i),H,I.tok _,⟨_,rfl⟩,q⟩
theorem by0:UnR X (unaryOp .USub) (rU λ i=>.int (-i)):=unI λ _ _ _ _ _ q=>neg_int q
end
section
variable {X:Cx} {a b c:Expr} {ta tb tc:TE} {pos:Pos}
theorem bN0:OpR X (cr .Lt) (rI0 λ i j=>.bl (decide (i<j))):=bI5 λ _ _ _ _ _ _ _ q=>lt_int q
theorem bQ7:OpR X (cr .LtE) (rI0 λ i j=>.bl (decide (i<=j))):=bI5 λ _ _ _ _ _ _ _ q=>le_int q
theorem bQ8:OpR X (cr .Gt) (rI0 λ i j=>.bl (decide (j<i))):=bI5 λ _ _ _ _ _ _ _ q=>gt_int q
theorem bP1:OpR X (cr .GtE) (rI0 λ i j=>.bl (decide (j<=i))):=bI5 λ _ _ _ _ _ _ _ q=>ge_int q
theorem bk9 {op:CmpOp}{r:R2}(ho:OpR X (cr op) r)(ha:PE X a ta)(hb:PE X b tb)(G:cO op b=false):PE X (.Compare a [op] [b] pos) (tOp r ta tb):=by
 intro F s σ H Q I h
 exact wpAny_Compare1 (bQ0 ha hb I h λ v u s2 x y J I2 Z Y q=>ho F s2 σ J x y v u Q I2 Z Y q) G
def bm8 (t:TE):TT:=λ σ H Q=>t σ H λ x H'=>∃ k,x=.bl k/\Q k H'
theorem bu5 {op:CmpOp}{r:R2}(ho:OpR X (cr op) r)(ha:PE X a ta)(hb:PE X b tb)(G:cO op b=false):PT X (.Compare a [op] [b] pos) (bm8 (tOp r ta tb)):=by
 intro F s σ H Q I h
 refine gI (thn (ha F s σ H _ I h) λ v s1 ⟨x,Y,I1,r1,Z⟩=>thn (hb F s1 σ Y _ I1 Z) λ u s2 ⟨y,J,I2,r2,q2⟩ =>
  thn (ho F s2 σ J x y v u _ I2 r1 r2 q2) λ c s3 ⟨z,H3,I3,r3,k,e,q3⟩=>?_) G
 subst e
 cases r3
 exact br ⟨H3,I3,q3⟩
def aP3 (r r':R2)(ta tb tc:TE):TE:=λ σ H Q=>ta σ H λ x H1=>tb σ H1 λ y H2=>r x y H2 λ z H3=>∃ k,z=.bl k /\
 (if k=true then tc σ H3 λ w' H4=>r' y w' H4 Q else Q (.bl false) H3)
theorem aX3 {op G:CmpOp}{r r':R2}(ho:OpR X (cr op) r)(J:OpR X (cr G) r')(ha:PE X a ta)(hb:PE X b tb)(hc:PE X c tc)
  (hm:j3 [op,G] [b,c]=false:=by with_unfolding_all rfl):PE X (.Compare a [op,G] [b,c] pos) (aP3 r r' ta tb tc):=by
 intro F s σ H Q I h
 refine Compare_chain (thn (ha F s σ H _ I h) λ v s1 ⟨x,H1,I1,r1,q1⟩=>chain_link (thn (hb F s1 σ H1 _ I1 q1) λ u s2 ⟨y,H2,I2,r2,q2⟩ =>
  thn (ho F s2 σ H2 x y v u _ I2 r1 r2 q2) λ d s3 ⟨z,Y,Z,r3,k,e,q3⟩=>?_)) hm
 subst e
 cases r3
 refine br ?_
 cases k with
 | false=>exact ite_ff ⟨.bl false,Y,Z,rfl,q3⟩
 | true=>exact ite_tt (chain_last (thn (hc F s3 σ Y _ Z q3) λ w' s4 ⟨z',H4,I4,r4,q4⟩=>J F s4 σ H4 y z' u w' Q I4 r2 r4 q4))
theorem aX4 {op G:CmpOp}{r r':R2}(ho:OpR X (cr op) r)(J:OpR X (cr G) r')(ha:PE X a ta)(hb:PE X b tb)(hc:PE X c tc)
  (hm:j3 [op,G] [b,c]=false:=by with_unfolding_all rfl):PT X (.Compare a [op,G] [b,c] pos) (bm8 (aP3 r r' ta tb tc)):=by
 intro F s σ H Q I h
 refine isTrue_chain (thn (ha F s σ H _ I h) λ v s1 ⟨x,H1,I1,r1,q1⟩=>test_link (thn (hb F s1 σ H1 _ I1 q1) λ u s2 ⟨y,H2,I2,r2,q2⟩ =>
  thn (ho F s2 σ H2 x y v u _ I2 r1 r2 q2) λ d s3 ⟨z,Y,Z,r3,k,e,q3⟩=>?_)) hm
 subst e
 cases r3
 refine br ?_
 cases k with
 | false =>
  obtain⟨k',e',q'⟩:=q3
  cases e'
  exact ite_ff ⟨Y,Z,q'⟩
 | true =>
  refine ite_tt (test_last (thn (hc F s3 σ Y _ Z q3) λ w' s4 ⟨z',H4,I4,r4,q4⟩=>thn (J F s4 σ H4 y z' u w' _ I4 r2 r4 q4) λ d' s5 ⟨z2,H5,I5,r5,k2,e2,q5⟩=>?_))
  subst e2
  cases r5
  exact br ⟨H5,I5,q5⟩
theorem ag0:(aH:Nat)<2^63:=by rw[eN];decide
theorem aJ3:OpR X (bZ .Add) (λ x y H Q=>∃ i j,x=.str i/\y=.str j/\i.length+j.length<=aH/\Q (.str (i++j)) H):=by
 intro F s σ H x y v u Q I J G h
 obtain⟨i,j,rfl,rfl,hz,q⟩:=h
 obtain⟨t,rfl⟩:=J
 obtain⟨t',rfl⟩:=G
 exact add_str (λ t' tk=>⟨.str (i++j),H,I.tok _,⟨_,rfl⟩,q⟩) hz
theorem af3 {x:V}{us:List Value}(r:Vals [x] us):∃ u,us=[u]/\RelV x u:=by
 cases r with
 | cons r1 r2=>cases r2;exact⟨_,rfl,r1⟩
theorem aV7 {x y:V}{us:List Value}(r:Vals [x,y] us):∃ u w',us=[u,w']/\RelV x u/\RelV y w':=by
 cases r with
 | cons r1 r2 =>
  cases r2 with
  | cons r3 r4=>cases r4;exact⟨_,_,rfl,r1,r3⟩
theorem aZ1:ab1 X (.builtin "abs") (λ F H Q=>∃ i,F=[.int i]/\Q (.int (if i<0 then -i else i)) H):=by
 intro G s σ H F us Q I r h
 obtain⟨i,rfl,q⟩:=h
 obtain⟨u,rfl,t,rfl⟩:=af3 r
 exact call_abs_int λ u tk=>⟨.int (if i<0 then -i else i),H,I.tok _,⟨_,rfl⟩,q⟩
theorem aM3 (hc:X.calm=true):ab1 X (.builtin "max") (λ F H Q=>∃ i j,F=[.int i,.int j]/\Q (.int (if j > i then j else i)) H):=by
 intro G s σ H F us Q I r h
 obtain⟨i,j,rfl,q⟩:=h
 obtain⟨u,w',rfl,⟨t,rfl⟩,⟨t',rfl⟩⟩:=aV7 r
 refine max_two_ints (I.ok.hd hc) λ h' tk k=>⟨_,H,I.kept k,?_,q⟩
 by_cases hj:j > i
 ·rw[if_pos hj,if_pos hj];exact⟨_,rfl⟩
 ·rw[if_neg hj,if_neg hj];exact⟨_,rfl⟩
theorem aQ2 (hc:X.calm=true):ab1 X (.builtin "min") (λ F H Q=>∃ i j,F=[.int i,.int j]/\Q (.int (if j<i then j else i)) H):=by
 intro G s σ H F us Q I r h
 obtain⟨i,j,rfl,q⟩:=h
 obtain⟨u,w',rfl,⟨t,rfl⟩,⟨t',rfl⟩⟩:=aV7 r
 refine min_two_ints (I.ok.hd hc) λ h' tk k=>⟨_,H,I.kept k,?_,q⟩
 by_cases hj:j<i
 ·rw[if_pos hj,if_pos hj];exact⟨_,rfl⟩
 ·rw[if_neg hj,if_neg hj];exact⟨_,rfl⟩
theorem aL9:ab1 X (.type "int") (λ F H Q=>(∃ i,F=[.int i]/\Q (.int i) H)\/∃ k,F=[.bl k]/\Q (.int (if k then 1 else 0)) H):=by
 intro G s σ H F us Q I r h
 rcases h with⟨i,rfl,q⟩|⟨k,rfl,q⟩
 ·obtain⟨u,rfl,t,rfl⟩:=af3 r
  exact call_int_int ⟨.int i,H,I,⟨_,rfl⟩,q⟩
 ·obtain⟨u,rfl,r1⟩:=af3 r
  cases r1
  exact call_int_bool ⟨.int (if k then 1 else 0),H,I.tok _,⟨_,rfl⟩,q⟩
end
structure ObjM (h:Heap)(x dx C:Addr)(mA:Str->Option Value):Prop where
 obj:h.get? x=some (gD C dx)
 ns:h.Ns1 dx mA
 ne:dx≠x
theorem aL1 {h:Heap}{G:Addr}{J:Str->Option Value}(n:h.Ns1 G J):∃ od,h.get? G=some od/\∀ name,gR name od=some (J name):=by
 obtain⟨o,es,ep,ho,hd,hk,_,Y⟩:=n
 refine⟨o,ho,λ name=>?_⟩
 have e:=Y name
 unfold nsFind findBy at e
 rw[<-Array.find?_toList]at e
 unfold gR
 rw[hd]
 dsimp only
 split
 ·rename_i y q
  rw[q]at e
  exact congrArg some e
 ·rename_i q
  rw[q]at e
  have a:es.toList.any (·.refKey)=false:=by
   rw[List.any_eq_false]
   intro y hy
   obtain⟨z,t,F⟩:=hk y (Array.mem_toList_iff.mp hy)
   simp[DictEntry.refKey,F]
  have Z:¬ es.toList.any (·.refKey)=true:=by rw[a];exact aQ
  rw[if_neg Z]
  exact congrArg some e
theorem ObjM.look {h:Heap}{x F C:Addr}{G:Str->Option Value}(I:ObjM h x F C G):∃ od,PySem.W.InstAt h x (gD C F) C (some od)/\∀ name,gR name od=some (G name) :=
 let⟨od,ho,hl⟩:=aL1 I.ns
 ⟨od,⟨I.obj,rfl,rfl,ho⟩,hl⟩
section
variable {prog:aD} {w:World} {A:aM} {E:Value->af->Prop} {s:af} {K:ae} {x dx C f:Addr} {mA:Str->Option Value} {name:Str} {v:Value}
end
theorem aI1.some_of {v:V}{o:Option Value}(r:aI1 (some v) o):∃ u,o=some u/\RelV v u:=by
 cases o with
 | none=>exact(show False from r).elim
 | some u=>exact⟨u,rfl,r⟩
section
variable {P:aD} {w:World} {H H':Hp} {h h':Heap} {a C dx:Addr} {fs fs':List (Str×V)}
theorem bj0 (hok:HOk P w H h)(e:H a=some (.ins C dx fs)):∃ F,ObjM h a dx C F/\(∀ f,aI1 (fs.lookup f) (F f))/\ka F (fs.map (·.1))/\fs.length<=1000/\H dx=some (.own a):=by
 obtain⟨d,z,ne,ob,F,n,r,q⟩:=(show aa8 P w H h a (.ins C dx fs)from hok a _ e)
 exact⟨F,⟨ob,n,ne⟩,r,q,z,d⟩
end
structure Cls (K:ae)(C:Addr):Prop where
 pg:jk K C Str.empty=true
 hd:PySem.W.hasDictIn K C=true
 po:PySem.W.plainOver K C=true
 sa:bM K (.ref C) "__setattr__"=some (some (.builtin "object.__setattr__"))
theorem Cls.get {K:ae}{C:Addr}(c:Cls K C)(f:Str):jk K C f=true:=c.pg
section
variable {X:Cx} {pins:List (Addr×Obj)} {σ:St} {H:Hp} {s:af} {a C dx:Addr} {fs:List (Str×V)} {f:Str} {v:V} {A:aM} {E:Value->af->Prop}
end
section
variable {X:Cx} {o e value:Expr} {f:Str} {pos pos' tpos:Pos} {ta tv:TE}
end
section
variable {X:Cx} {pins:List (Addr×Obj)} {σ:St} {H:Hp} {s:af} {A:aM} {E:Value->af->Prop} {Q:Value->af->Prop} {c:Value} {b:Bool}
inductive TyOf (K:ae)(H:Hp):V->Value->Prop where
 | non:TyOf K H .non (.type "NoneType")
 | bl (x:Bool):TyOf K H (.bl x) (.type "bool")
 | int (i:Int):TyOf K H (.int i) (.type "int")
 | str (x:Str):TyOf K H (.str x) (.type "str")
 | flt (x:UInt64):TyOf K H (.flt x) (.type "float")
 | lst {a:Addr} {xs:List V} (e:H a=some (.lst xs)):TyOf K H (.ref a) (.type "list")
 | frz {a:Addr} {o:Obj} {xs:List V} (e:H a=some (.frz o (.lst xs))):TyOf K H (.ref a) (.type "list")
 | tup {a:Addr} {xs:List V} (e:H a=some (.tup xs)):TyOf K H (.ref a) (.type "tuple")
 | dK {a:Addr} {kvs:List (Key×V)} (e:H a=some (.dK kvs)):TyOf K H (.ref a) (.type "dict")
 | dT {a:Addr} {kvs:List (List Key×V)} (e:H a=some (.dT kvs)):TyOf K H (.ref a) (.type "dict")
 | ins {a C dx:Addr} {fs:List (Str×V)} (e:H a=some (.ins C dx fs)) (cl:Cls K C) (ha:bM K (.ref C) "__class__"=some (some (.builtin "object.__class__")))
   (hn:d3 K (.builtin "object.__class__") "__get__"=some (some (.builtin "getset_descriptor.__get__"))) (htk:eV K (.builtin "object.__class__")=some true)
   (hm:fR K C (.type "object")=some true):TyOf K H (.ref a) (.ref C)
theorem qo {x:V}{u t:Value}(I:Inv X pins σ H s)(F:RelV x u)(ty:TyOf X.K H x t)(e:bN X.K t c=some b)(h:∀ tk,Q (.bool b) { s with toks:=tk }) :
  wpAny (model X.prog X.w) A (call (.builtin "isinstance") [u,c]) Q E s:=by
 cases ty with
 | non=>cases(show u=Value.none from F);exact bz PySem.W.kitx_none I.kIn True.intro e (λ z=>nomatch z) h
 | bl y=>cases(show u=Value.bool y from F);exact bz PySem.W.kitx_bool I.kIn True.intro e (λ z=>nomatch z) h
 | int i=>obtain⟨t,q⟩:=(show ∃ t,u=Value.int i t from F);cases q;exact bz PySem.W.kitx_int I.kIn True.intro e (λ z=>nomatch z) h
 | str y=>obtain⟨t,q⟩:=(show ∃ t,u=Value.str y t from F);cases q;exact bz PySem.W.kitx_str I.kIn True.intro e (λ z=>nomatch z) h
 | flt y=>obtain⟨t,q⟩:=(show ∃ t,u=Value.float y t from F);cases q;exact bz PySem.W.kitx_float I.kIn True.intro e (λ z=>nomatch z) h
 | @lst a Y ea =>
  cases(show u=Value.ref a from F)
  obtain⟨_,_,n,_,G⟩:=(show aa8 X.prog X.w H s.heap a (.lst Y)from I.hok a _ ea)
  exact bz i4 I.kIn ⟨_,G,rfl⟩ e (λ z=>nomatch z) h
 | @frz a ob Y ea =>
  cases(show u=Value.ref a from F)
  obtain⟨_,_,_,n,_,G⟩:=(show aa8 X.prog X.w H s.heap a (.frz ob (.lst Y))from I.hok a _ ea)
  exact bz i4 I.kIn ⟨_,G,rfl⟩ e (λ z=>nomatch z) h
 | @tup a Y ea =>
  cases(show u=Value.ref a from F)
  obtain⟨_,_,_,p⟩:=(show aa8 X.prog X.w H s.heap a (.tup Y)from I.hok a _ ea)
  obtain⟨o,G,Z,_⟩:=p
  exact bz iM I.kIn ⟨o,G,Z⟩ e (λ z=>nomatch z) h
 | @dK a kvs ea =>
  cases(show u=Value.ref a from F)
  obtain⟨_,_,vs,_,p⟩:=(show aa8 X.prog X.w H s.heap a (.dK kvs)from I.hok a _ ea)
  obtain⟨o,es,ep,G,Z,_⟩:=p
  exact bz i5 I.kIn ⟨o,G,Z.1⟩ e (λ z=>nomatch z) h
 | @dT a kvs ea =>
  cases(show u=Value.ref a from F)
  obtain⟨_,_,Y,_,o,es,ep,G,Z,_⟩:=(show aa8 X.prog X.w H s.heap a (.dT kvs)from I.hok a _ ea)
  exact bz i5 I.kIn ⟨o,G,Z.1⟩ e (λ z=>nomatch z) h
 | @ins a C dx fs ea cl ha hn htk hm =>
  cases(show u=Value.ref a from F)
  obtain⟨mA,O,_⟩:=bj0 I.hok ea
  obtain⟨od,J,_⟩:=O.look
  exact bz (PySem.W.kitx_own (cl.get _) cl.hd ha hn htk hm) I.kIn J e (λ z=>nomatch z) h
end
structure Room (k:Nat)(A:aM):Prop where
 hd:A.handled=none
 dp:A.depth+3*k+5<fo
 un:A.units+16*k+200<cLine
theorem Room.mono {j k:Nat}{A:aM}(r:Room k A)(h:j<=k):Room j A:=⟨r.hd,by have:=r.dp;omega,by have:=r.un;omega⟩
theorem Room.deeper {k:Nat}{A:aM}(r:Room (k+1) A)(env:Env):Room k (A.deeper env) :=
 ⟨r.hd,by have:=r.dp;show A.depth+1+3*k+5<_;omega,by have:=r.un;show A.units+3+16*k+200<_;omega⟩
theorem Room.in1 {k:Nat}{A:aM}(r:Room (k+1) A):Room k A.in1 :=
 ⟨r.hd,by have:=r.dp;show A.depth+3*k+5<_;omega,by have:=r.un;show A.units+1+16*k+200<_;omega⟩
theorem Room.depth {k:Nat}{A:aM}(r:Room k A):A.depth<fo:=by have:=r.dp;omega
theorem Room.units {k:Nat}{A:aM}(r:Room k A):A.units+64<cLine:=by have:=r.un;omega
theorem Room.units0 {k:Nat}{A:aM}(r:Room k A):A.units<cLine:=by have:=r.un;omega
def aK9:TA:=λ _ H Q=>Q [] H
def al6 (ta:TE)(tr:TA):TA:=λ σ H Q=>ta σ H λ x H1=>tr σ H1 λ xs H2=>Q (x::xs) H2
section
variable {X:Cx} {e:Expr} {es:List Expr} {te:TE} {t:TA} {pos:Pos}
theorem ab6:PA X [] aK9:=λ _ _ _ _ H Q I h=>Calls.spliced_nil ⟨[],H,I,.nil,h⟩
theorem zw (ha:PE X e te)(hr:PA X es t)(hs:bq (e::es) X.env=(false,eval e X.env)::bq es X.env:=by rfl):PA X (e::es) (al6 te t):=by
 intro pos F s σ H Q I h
 rw[hs]
 show wpAny _ _ (spliced ((false,eval e X.env)::eT pos (bq es X.env))) _ _ s
 refine Calls.spliced_cons (thn (ha F s σ H _ I h) λ u s1 ⟨x,H1,I1,r1,G⟩=>?_)
 exact thn (hr pos F s1 σ H1 _ I1 G) λ us s2 ⟨J,Y,I2,Z,q2⟩=>⟨x::J,Y,I2,.cons r1 Z,q2⟩
def bR6 (t:TA):TE:=λ σ H Q=>t σ H λ xs H1=>xs.length<=aH/\∀ p,H1 p=none->Q (.ref p) (upd H1 p (.tup xs))
def bV8 (t:TA):TE:=λ σ H Q=>t σ H λ xs H1=>xs.length<=aH/\∀ p,H1 p=none->Q (.ref p) (upd H1 p (.lst xs))
theorem bg6 {x1}(h:PA X es t):PE X (.Tuple es x1 pos) (bR6 t):=by
 intro F s σ H Q I hq
 refine wpAny_Tuple_spliced (thn (h pos F s σ H _ I hq) λ us s1 ⟨Y,J,G,r,z,q⟩=>⟨by rw[<-r.length];exact z,?_⟩)
 have Z:J s1.heap.objs.size=none:=G.hok.fresh (am _)
 refine⟨.ref s1.heap.objs.size,upd J s1.heap.objs.size (.tup Y),G.laid (t':=s1.toks) (λ b u e=>ai _ e) (am _) ?_,rfl,q _ Z⟩
 exact⟨z,us,r,⟨_,aC _ rfl,rfl,_,rfl⟩⟩
theorem be2 (h:PA X es t):PE X (.List es pos) (bV8 t):=by
 intro F s σ H Q I hq
 refine wpAny_List_spliced (thn (h pos F s σ H _ I hq) λ us s1 ⟨Y,J,G,r,z,q⟩=>⟨by rw[<-r.length];exact z,?_⟩)
 have Z:J s1.heap.objs.size=none:=G.hok.fresh (am _)
 refine⟨.ref s1.heap.objs.size,upd J s1.heap.objs.size (.lst Y),G.laid (t':=s1.toks) (λ b u e=>ai _ e) (am _) ?_,rfl,q _ Z⟩
 exact⟨z,us,0,r,aC _ rfl⟩
end
abbrev Sp:=List V->Hp->VK->XK->Prop
abbrev CXT:=List Env->Hp->af->XK->Value->af->Prop
structure Env0 (P:aD)(w:World)(K:ae)(mg:Str->Option Value)(base:Heap)(A:aM)(outer:List Env)(s:af)(H:Hp):Prop where
 frames:A.frames=some outer
 mod:Mod K mg base
 bs:∀ b o,base.get? b=some o->s.heap.get? b=some o/\H b=none
 bsz:base.objs.size<=s.heap.objs.size
 funs:s.heap.FunFrames base outer
 frf:∀ b∈frs outer,H b=none
 hok:HOk P w H s.heap
 bare:e9 s.gens
def CE (outer:List Env)(P:aD)(w:World)(H:Hp)(s:af)(Q:VK)(u:Value)(s':af):Prop :=
 ∃ v H',s'.os=s.os/\e9 s'.gens/\Un (frs outer) [] H H' s.heap s'.heap/\HOk P w H' s'.heap/\RelV v u/\Q v H'
def CR (CX:CXT)(outer:List Env)(P:aD)(w:World)(H:Hp)(s:af)(Q:VK)(E:XK)(r:jl)(s':af):Prop :=
 match r with
 | .ok (.ret u)=>CE outer P w H s Q u s'
 | .ok _=>False
 | .error e=>CX outer H s E e s'
structure FnOk (P:aD)(w:World)(K:ae)(mg:Str->Option Value)(base:Heap)(CX:CXT)(k:Nat)(f:Addr)(fd:bF)(ps:List Str)(sp:Sp):Prop where
 len:∀ vs H Q E,sp vs H Q E->vs.length=ps.length
 run:∀(A:aM) (outer:List Env) (s:af) (H:Hp) (args:Args) (us:List Value) (vs:List V) (Q:VK) (E:XK),Room k A->Env0 P w K mg base A outer s H->jH s fd args (ps.zip us)->Vals vs us->sp vs H Q E ->
  d4 (model P w) A (.call (.ref f) args) (CR CX outer P w H s Q E) s
theorem FnOk.imp {P:aD}{w:World}{K:ae}{mg:Str->Option Value}{base:Heap}{Z:CXT}{k:Nat}{f:Addr}{Y:bF}{ps:List Str}{sp J:Sp}(F:FnOk P w K mg base Z k f Y ps sp)
  (h:∀ vs H Q E,J vs H Q E->sp vs H Q E):FnOk P w K mg base Z k f Y ps J :=
 ⟨λ vs H Q E q=>F.len vs H Q E (h _ _ _ _ q),λ A G s H args us vs Q E hr he hb hv hs=>F.run A G s H args us vs Q E hr he hb hv (h _ _ _ _ hs)⟩
section
variable {X:Cx} {pins:List (Addr×Obj)} {σ:St} {H:Hp} {s s':af}
theorem Inv.env0 (I:Inv X pins σ H s):Env0 X.prog X.w X.K X.mg X.base X.A X.stack s H :=
 ⟨I.ok.frames,I.ok.mod,I.bs,av I.ok.bsz I.sz,I.stack,I.stkFree,I.hok,I.bare⟩
theorem Inv.after {Q:VK}{u:Value}(I:Inv X pins σ H s)(h:CE X.stack X.prog X.w H s Q u s'):EP X pins σ Q u s':=by
 obtain⟨v,H',os,bare,un,hok,r,q⟩:=h
 obtain⟨G,g,d,t,F⟩:=s'
 obtain rfl:F=s.os:=os
 exact⟨v,H',I.call (h':=G) (g':=g) (d':=d) (t':=t) (ch:=[]) un hok bare (λ b z=>absurd z (by simp)),r,q⟩
end
def aF6 (sp:Sp)(dvs:List V)(E:XK)(t:TA):TE:=λ σ H Q=>t σ H λ vs H1=>sp (vs++dvs) H1 Q E
def Binds (K:ae)(fd:bF)(ps:List Str)(ds:List Value):Prop :=
 ∀(s:af) (us:List Value),K.In s.heap->(us++ds).length=ps.length->jH s fd ⟨us,[]⟩ (ps.zip (us++ds))
theorem Binds.all {K:ae}{F:bF}{ps:List Str}(h:∀ us:List Value,us.length=ps.length->dw F ⟨us,[]⟩=pure (ps.zip us)):Binds K F ps []:=λ s us _ hl=>by
 rw[bQ]at hl ⊢
 exact .of_eq (h us hl)
def ad2 (CX:CXT)(X:Cx)(E:XK):Prop:=∀(pins:List (Addr×Obj)) (σ:St) (H:Hp) (s:af) (e:Value) (s':af),Inv X pins σ H s->CX X.stack H s E e s'->X.xe e s'
section
variable {X:Cx} {CX:CXT} {k:Nat} {f C:Addr} {fd:bF} {ps:List Str} {sp:Sp} {dvs:List V} {ds:List Value} {E:XK} {x m:Str} {p pos apos:Pos} {e o:Expr} {es:List Expr} {ta:TE} {t:TA}
theorem bg7 {G:List (Addr×Obj)}{σ:St}{H:Hp}{s:af}{Q:VK}{us:List Value}{vs:List V}(F:FnOk X.prog X.w X.K X.mg X.base CX k f fd ps sp)(Y:Room k X.A)(hb:Binds X.K fd ps ds)(hd:Vals dvs ds)(hx:ad2 CX X E)
  (I:Inv X G σ H s) (r:Vals vs us) (h:sp (vs++dvs) H Q E):wpAny (model X.prog X.w) X.A (call (.ref f) us) (EP X G σ Q) X.xe s:=by
 have J:Vals (vs++dvs) (us++ds):=r.append hd
 have hl:(us++ds).length=ps.length:=by rw[<-J.length];exact F.len _ _ _ _ h
 refine iO (i6 (F.run X.A X.stack s H ⟨us,[]⟩ (us++ds) (vs++dvs) Q E Y I.env0 (hb s us I.kIn hl) J h) λ r s' hq=>?_)
 cases r with
 | error e=>exact hx G σ H s e s' I hq
 | ok fl =>
  cases fl with
  | ret u=>exact I.after hq
  | next=>exact bB hq
  | brk=>exact bB hq
  | cont=>exact bB hq
theorem aT7 (F:FnOk X.prog X.w X.K X.mg X.base CX k f fd ps sp)(hr:Room k X.A)(hg:Gl X x)(Z:X.mg x=some (.ref f))(hk:ci X.K (.ref f)=true)(hb:Binds X.K fd ps ds)(hd:Vals dvs ds)(hx:ad2 CX X E)
  (ha:PA X (e::es) t) (J:(x==("__debug__":Str))=false:=by decide) (he:bq (e::es) X.env=(false,eval e X.env)::bq es X.env:=by rfl) (hpl:(eT pos (bq es X.env)).any (·.1)=false:=by rfl) :
  PE X (.Call (.Name x p) (e::es) [] pos) (aF6 sp dvs E t):=by
 intro G s σ H Q I h
 refine cz (av7 I hg Z ?_ J)
 refine PySem.W.callWith_K (h₀:=X.base) I.ok.mod.kin hk (thn (ha pos G s σ H _ I h) λ us s1 ⟨vs,H1,Y,r,q⟩=>⟨Y.kIn,?_⟩) he hpl
 exact bg7 F hr hb hd hx Y r q
theorem bc4 (F:FnOk X.prog X.w X.K X.mg X.base CX k f fd ps sp)(Z:Room k X.A)(hg:Gl X x)(Y:X.mg x=some (.ref f))(hk:ci X.K (.ref f)=true)(hb:Binds X.K fd ps ds)(hd:Vals dvs ds)(hx:ad2 CX X E)
  (G:(x==("__debug__":Str))=false:=by decide):PE X (.Call (.Name x p) [] [] pos) (aF6 sp dvs E aK9):=by
 intro J s σ H Q I h
 refine cz (av7 I hg Y ?_ G)
 exact PySem.W.callWith_K0 I.kIn hk (bg7 (us:=[]) F Z hb hd hx I .nil h)
structure Mk (K:ae)(C f:Addr):Prop where
 makes:PySem.W.makesIn K C=true
 init:bM K (.ref C) "__init__"=some (some (.ref f))
 fn:PySem.W.isFn K (.ref f)=true
 kp:ci K (.ref C)=true
end
section
variable {X:Cx} {CX:CXT} {k:Nat} {f C:Addr} {fd:bF} {ps ks:List Str} {sp:Sp} {E:XK} {x m:Str} {p pos apos kpos:Pos} {e o:Expr} {es:List Expr} {kws:List jI} {te ta:TE} {t tk:TA} {nm:Option Str}
variable {g:List Value->List Value->List Value} {gV:List V->List V->List V}
end
structure FnScope (N P:List Str)(sc:Scope):Prop where
 kind:sc.kind=.function
 co:sc.isCoroutine=false
 gen:sc.isGenerator=false
 nd:N.Nodup
 pre:N.take P.length=P
 par:∀ x∈P,sc.names.lookup x=some .local\/sc.names.lookup x=some .cell
 nofree:∀ y∈sc.names,y.2≠.free
theorem aq8 {et:Str->Option cj}{x:Str}:∀ {binds:List (Str×Value)} {m:Str->Option Value},(∀ v,(x,v) ∉ binds)->bindL et binds m x=m x
 | [],_,_=>rfl
 | (n,v)::r,m,h=>by
  unfold bindL
  rw[aq8 λ w hw=>h w (ak _ hw)]
  split
  ·have:x≠n:=by rintro rfl;exact h v aq
   simp[this]
  ·rfl
theorem as1 {et:Str->Option cj}{x:Str}:∀ {binds:List (Str×Value)} {m:Str->Option Value},(∀ v,(x,v) ∉ binds)->bindC et binds m x=m x
 | [],_,_=>rfl
 | (n,v)::r,m,h=>by
  unfold bindC
  rw[as1 λ w hw=>h w (ak _ hw)]
  split
  ·rfl
  ·have:x≠n:=by rintro rfl;exact h v aq
   simp[this]
theorem ad3 {et:Str->Option cj}{x:Str}{v:Value}:∀ {P:List Str} {vs:List Value} {i:Nat} {m:Str->Option Value},P.Nodup->P[i]?=some x->vs[i]?=some v->et x=some .local ->
  bindL et (P.zip vs) m x=some v
 | [],_,_,_,_,h,_,_=>by simp at h
 | _::_,[],_,_,_,_,h,_=>by simp at h
 | p::P,w::vs,0,m,nd,h1,h2,hk=>by
  simp at h1 h2;subst h1;subst h2
  show bindL et ((p,w)::P.zip vs) m p=_
  unfold bindL
  rw[aq8 λ v hv=>(dN.mp nd).1 (dP hv).1,if_pos hk]
  simp
 | p::P,w::vs,i+1,m,nd,h1,h2,hk=>by
  show bindL et ((p,w)::P.zip vs) m x=_
  unfold bindL
  exact ad3 (i:=i) (dN.mp nd).2 (by simpa using h1) (by simpa using h2) hk
theorem aj6 {et:Str->Option cj}{x:Str}{v:Value}:∀ {P:List Str} {vs:List Value} {i:Nat} {m:Str->Option Value},P.Nodup->P[i]?=some x->vs[i]?=some v->et x≠some .local ->
  bindC et (P.zip vs) m x=some v
 | [],_,_,_,_,h,_,_=>by simp at h
 | _::_,[],_,_,_,_,h,_=>by simp at h
 | p::P,w::vs,0,m,nd,h1,h2,hk=>by
  simp at h1 h2;subst h1;subst h2
  show bindC et ((p,w)::P.zip vs) m p=_
  unfold bindC
  rw[as1 λ v hv=>(dN.mp nd).1 (dP hv).1,if_neg hk]
  simp
 | p::P,w::vs,i+1,m,nd,h1,h2,hk=>by
  show bindC et ((p,w)::P.zip vs) m x=_
  unfold bindC
  exact aj6 (i:=i) (dN.mp nd).2 (by simpa using h1) (by simpa using h2) hk
noncomputable def ad7 (N:List Str)(vs:List V):St:=vs.map some++aE (N.length - vs.length) none
noncomputable def ap7 (CX:CXT)(P:aD)(w:World)(K:ae)(mg:Str->Option Value)(base:Heap)(N:List Str)(qual:Str)(scope:Scope)(f:Addr)(cd:Value)(A:aM)(outer:List Env)(s:af)(H:Hp)(E:XK):Cx where
 prog:=P
 w:=w
 K:=K
 mg:=mg
 base:=base
 A:=A.deeper (eW qual scope s.heap.objs.size f cd)
 N:=N
 s₀:=s
 H₀:=H
 env:=eW qual scope s.heap.objs.size f cd
 outer:=outer
 stack:=eW qual scope s.heap.objs.size f cd::outer
 ex:=[]
 calm:=true
 fn:=λ _=>true
 pn:=[]
 xe:=λ e s'=>wpAny (model P w) (A.deeper (eW qual scope s.heap.objs.size f cd)) (leaving (eW qual scope s.heap.objs.size f cd) e) (λ _ s''=>CX outer H s E e s'') (λ e' s''=>CX outer H s E e' s'') s'
theorem zI {sc:Scope}{n:Nat}{x:Str}(h:sc.names.lookup x=some .cell):∃ c,(aI n sc.names []).lookup x=some c:=by
 have q:=gf sc.names n [] (.inl h)
 exact fS.mp q
theorem aS6 {CX:CXT}{P:aD}{w:World}{K:ae}{mg:Str->Option Value}{base:Heap}{N ps:List Str}{qual:Str}{scope:Scope}{f:Addr}{cd:Value}{A:aM}{F:List Env}{s s1:af}{H:Hp}{E:XK}{us:List Value}{vs:List V}
  (S:FnScope N ps scope) (hd:A.handled=none) (J:Env0 P w K mg base A F s H) (hl:vs.length=ps.length) (r:Vals vs us)
  (x:fF s s.heap.objs.size (bindL (eW qual scope s.heap.objs.size f cd).kindOf (ps.zip us) λ _=>none) (aI (s.heap.objs.size+1) scope.names []) (bindC (eW qual scope s.heap.objs.size f cd).kindOf (ps.zip us) λ _=>none) s1) :
  Inv (ap7 CX P w K mg base N qual scope f cd A F s H E) [] (ad7 N vs) H s1:=by
 have hpl:ps.length<=N.length:=by have:=congrArg kr S.pre;rw[dz]at this;omega
 obtain⟨h1,tk,rfl,hk⟩:=x.done
 have Y:∀ b:Addr,b ∉ (ap7 CX P w K mg base N qual scope f cd A F s H E).ex:=λ b z=>absurd (show b∈([]:List Addr)from z) (by simp)
 refine⟨⟨J.mod,S.kind,rfl,rfl,am _,λ y z c h1 G=>?_,λ y hy=>?_,λ y c _ h=>?_,λ _=>hd,gS J.frames,.inr ⟨rfl,rfl⟩,λ b z=>absurd z (Y b),J.bs,J.bsz,λ b _ _=>Y b,λ b z=>absurd z (Y b),J.funs,J.frf⟩,
  rfl,J.bare,Un.kept hk,⟨_,x.toInCall.ns,λ i y v h1 G h3=>?_⟩,λ y c h=>⟨_,x.cell y c h⟩,J.hok.fresh (am _),λ y c h=>?_,λ p hp=>absurd (show p∈([]:List (Addr×Obj))from hp) (by simp),J.hok.kept hk,?_⟩
 ·exact gh x.apart (aF h1) (aF G)
 ·have hy:scope.names.lookup y=some .cell\/scope.names.lookup y=some .free:=hy
  rcases hy with hy|hy
  ·exact zI hy
  ·exact absurd rfl (S.nofree _ (aF hy))
 ·exact dZ (x.above y c (aF h))
 ·have hi:i<vs.length:=by
   unfold ad7 at G
   by_cases hi:i<vs.length
   ·exact hi
   ·rw[a8 (by simpa using hi)]at G
    rw[bK]at G
    split at G<;>cases G
  have ha:vs[i]?=some v:=by
   unfold ad7 at G
   rw[aJ (by simpa using hi),aB]at G
   cases e:vs[i]? with
   | none=>rw[e]at G;cases G
   | some a=>rw[e]at G;cases G;rfl
  obtain⟨u,hu,rv⟩:=r.get ha
  have hp:ps[i]?=some y:=by
   rw[<-S.pre,List.getElem?_take_of_lt (by omega)];exact h1
  have Z:ps.Nodup:=by rw[<-S.pre];exact S.nd.sublist (List.take_sublist _ _)
  refine⟨u,rv,?_⟩
  rcases S.par y (aX hp)with k|k
  ·exact .inl ⟨k,ad3 Z hp hu k⟩
  ·obtain⟨c,e⟩:=zI (n:=s.heap.objs.size+1) k
   refine .inr ⟨.inl k,c,e,?_⟩
   have q:=x.cell y c e
   rw[aj6 Z hp hu (by show scope.names.lookup y≠_;rw[k];decide)]at q
   exact q
 ·exact J.hok.fresh (dZ (x.above y c (aF h)))
 ·unfold ad7
  show _=N.length
  rw[aR,aw,List.length_replicate]
  omega
theorem bo0 {CX:CXT}{P:aD}{w:World}{K:ae}{mg:Str->Option Value}{base:Heap}{k:Nat}{f:Addr}{name qual:Str}{params:bD}{body:List Stmt}{scope:Scope}{dV kV Z pm F ct oc:Value}{an od:Option Addr}
  {a3:Array (Option Value)} {N ps:List Str} {sp:Sp} (lk:K.lookup f=some ⟨oc,od,.func (c5 name qual params body scope dV kV Z pm an F ct),a3⟩) (a2:fq K F qual=true) (S:FnScope N ps scope)
  (len:∀ vs H Q E,sp vs H Q E->vs.length=ps.length)
  (Y:∀(A:aM) (h:List Env) (s:af) (H:Hp) (vs:List V) (Q:VK) (E:XK),Room k (A.deeper (eW qual scope s.heap.objs.size f F))->sp vs H Q E ->
   ∃ t,PSs (ap7 CX P w K mg base N qual scope f F A h s H E) body t/\t { nx:=λ _ H'=>Q .non H',rt:=Q } (ad7 N vs) H) :
  FnOk P w K mg base CX (k+1) f (c5 name qual params body scope dV kV Z pm an F ct) ps sp:=by
 refine⟨len,λ A h s H args us vs Q E hr e0 hb r a0=>?_⟩
 have hl:=len _ _ _ _ a0
 have KX:K.In s.heap:=e0.mod.kin.keeps λ b o e=>(e0.bs b o e).1
 have a1:s.heap.NoLimit:=e0.mod.nolimit.keeps λ b o e=>(e0.bs b o e).1
 have G:∀ y∈ps.zip us,scope.names.lookup y.1=some .local\/(scope.names.lookup y.1=some .cell/\((aI (s.heap.objs.size+1) scope.names []).lookup y.1).isSome=true):=λ⟨n,v⟩ hy=>by
  rcases S.par n (dP hy).1 with q|q
  ·exact .inl q
  ·exact .inr ⟨q,gf _ _ _ (.inl q)⟩
 refine gJ hr.depth (KX _ _ lk) rfl S.co S.gen rfl (PySem.W.codeRec_of KX a2) (hb _ _ _ _ ?_)
 refine wpAny_newFunctionEnv_cells S.kind G λ env he s1 x=>?_
 subst he
 refine⟨a1.keeps x.toInCall.keep,codeAny_func ?_⟩
 obtain⟨t,ht,hq⟩:=Y A h s H vs Q E (hr.deeper _) a0
 have I:Inv (ap7 CX P w K mg base N qual scope f F A h s H E) [] (ad7 N vs) H s1:=aS6 S hr.hd e0 hl r x
 refine bj (ht [] s1 (ad7 N vs) H _ I hq) (λ fl s' hs=>?_) λ e s' hs=>hs
 have fin:∀ {σ':St} {H':Hp} {v:V} {u:Value},Inv (ap7 CX P w K mg base N qual scope f F A h s H E) [] σ' H' s'->RelV v u->Q v H'->CE h P w H s Q u s' :=
  λ {σ' H' v u} J rv q=>⟨v,H',J.os,J.bare,J.base,J.hok,rv,q⟩
 cases fl with
 | ret u =>
  obtain⟨v,σ',H',J,rv,q⟩:=hs
  exact fin J rv q
 | next =>
  obtain⟨σ',H',J,q⟩:=hs
  exact fin (v:=V.non) (u:=Value.none) J rfl q
 | brk =>
  obtain⟨_,_,_,q⟩:=hs
  exact bB q
 | cont =>
  obtain⟨_,_,_,q⟩:=hs
  exact bB q
section
variable {X:Cx} {x:Str} {p pos:Pos} {e:Expr} {es:List Expr} {t:TA} {id T:String} {r:List V->Hp->VK->Prop}
def tCB (r:List V->Hp->VK->Prop)(t:TA):TE:=λ σ H Q=>t σ H λ vs H1=>r vs H1 Q
theorem ae0 (hc:ab1 X (.builtin id) r)(hg:Gl X x)(Y:X.mg x=none)(hv:a9 x=some (.builtin id))(ha:PA X (e::es) t)(hn:x ≠ "__name__":=by decide)(G:(x==("__debug__":Str))=false:=by decide)
  (he:bq (e::es) X.env=(false,eval e X.env)::bq es X.env:=by rfl) (hpl:(eT pos (bq es X.env)).any (·.1)=false:=by rfl):PE X (.Call (.Name x p) (e::es) [] pos) (tCB r t):=by
 intro F s σ H Q I h
 refine cz (ai7 I hg Y hv ?_ hn G)
 exact PyProof.Rows.callWith_builtin1 (thn (ha pos F s σ H _ I h) λ us s1 ⟨vs,H1,Z,r1,J⟩=>hc F s1 σ H1 vs us Q Z r1 J) he hpl
theorem ai4 (hc:ab1 X (.type T) r)(hg:Gl X x)(Y:X.mg x=none)(hv:a9 x=some (.type T))(ha:PA X (e::es) t)(hn:x ≠ "__name__":=by decide)(G:(x==("__debug__":Str))=false:=by decide)
  (he:bq (e::es) X.env=(false,eval e X.env)::bq es X.env:=by rfl) (hpl:(eT pos (bq es X.env)).any (·.1)=false:=by rfl):PE X (.Call (.Name x p) (e::es) [] pos) (tCB r t):=by
 intro F s σ H Q I h
 refine cz (ai7 I hg Y hv ?_ hn G)
 exact dm (thn (ha pos F s σ H _ I h) λ us s1 ⟨vs,H1,Z,r1,J⟩=>hc F s1 σ H1 vs us Q Z r1 J) he hpl
end
end L2
end
noncomputable section
namespace HT
open PySem PyProof.Rows
section
open PySem.SeqAt
open PySem.AutoSeq1 (wpAny_loadPart')
open PySem.MeetsSeq PySem.MeetsSeq2 PySem.MeetsSeq3
end
section
variable {prog:aD} {w:World} {A:aM} {E:Value->af->Prop} {s:af}
theorem cat_tup {t b:Addr}{vs ws:List Value}{Q:Value->af->Prop}(ht:IsTup s.heap t vs.toArray)(hb:IsTup s.heap b ws.toArray)(hv:vs≠[])
  (h1:ws=[]->Q (.ref t) s) (h2:ws≠[]->Q (.ref s.heap.objs.size) { s with heap:=s.heap.push { cls:=.type "tuple",data:=.seq (vs++ws).toArray } })
  (hsz:vs.length+ws.length<=aH):wpAny (model prog w) A (bZ .Add (.ref t) (.ref b)) Q E s:=by
 obtain⟨⟨cls,dd,data,sl⟩,ho,hc,n,hd⟩:=id ht
 obtain⟨⟨a0,J,Z,G⟩,h,Y,n2,F⟩:=id hb
 simp only at hc hd Y F
 subst hc hd Y F
 have e:vs.toArray++ws.toArray=(vs++ws).toArray:=by simp
 by_cases hw:ws=[]
 ·exact i7 ⟨_,ho,rfl⟩ ⟨_,h,rfl⟩ fX iz d5 dU (dI _ _)
   (tuple_addW1 t b vs.toArray ws.toArray n n2 dd J sl G (by simpa using hv) (by simp[hw])) ⟨ho,h,h1 hw⟩
 ·refine i7 ⟨_,ho,rfl⟩ ⟨_,h,rfl⟩ fX iz d5 dU (dI _ _)
   (tuple_addW2 t b vs.toArray ws.toArray n n2 dd J sl G (by simpa using hv) (by simpa using hw) (by rw[ar,ar];exact hsz)) ⟨ho,h,?_⟩
  rw[e]
  exact h2 hw
end
end HT
noncomputable section
namespace L2
open PySem PySem.Spec PyProof.Rows
abbrev TO:=St->Hp->(Option Int->Hp->Prop)->Prop
section
variable {X:Cx} {e:Expr} {te:TE} {lo hi:Option Expr} {tl th:TO} {pos p2:Pos}
def bM0 (K:ae):R2:=λ x y H Q=>∃ a b xs ys,x=.ref a/\y=.ref b/\SqT K H a xs/\SqT K H b ys/\xs≠[]/\xs.length+ys.length<=aH /\
 (ys=[]->Q (.ref a) H)/\(ys≠[]->∀ p,H p=none->Q (.ref p) (upd H p (.tup (xs++ys))))
theorem Vals.nil_iff {h:List V}{us:List Value}(r:Vals h us):us=[]↔h=[]:=by
 cases r with
 | nil=>simp
 | cons _ _=>simp
theorem bu1:OpR X (bZ .Add) (bM0 X.K):=by
 intro J s σ H x y v u Q I rx ry h
 obtain⟨a,b,Z,ys,rfl,rfl,ha,hb,hx,hz,q1,q2⟩:=h
 cases rx
 cases ry
 obtain⟨its,r1,p1,_⟩:=I.tuple ha
 obtain⟨G,F,Y,_⟩:=I.tuple hb
 refine HT.cat_tup p1 Y (λ z=>hx (r1.nil_iff.mp z)) (λ z=>⟨.ref a,H,I,rfl,q1 (F.nil_iff.mp z)⟩) (λ z=>?_) (by rw[<-r1.length,<-F.length];exact hz)
 refine⟨.ref s.heap.objs.size,_,I.laid (t':=s.toks) (o:=.tup (Z++ys)) (λ b ob q=>ai _ q) (am _) ?_,rfl,q2 (λ w=>z (F.nil_iff.mpr w)) _ (I.hok.fresh (am _))⟩
 exact⟨by rw[aR];exact hz,_,r1.append F,j4 _ _⟩
end
noncomputable def ixN (n:Nat)(i:Int):Option Nat:=if 0<=i then(if i<n then some i.toNat else none)else if -(n:Int)<=i then some (i+n).toNat else none
noncomputable def atI {α:Type}(xs:List α)(i:Int):Option α:=(ixN xs.length i).bind λ j=>xs[j]?
theorem aO3 {n:Nat}{i:Int}{j:Nat}(h:ixN n i=some j):j5 i n=some j/\j<n/\-(n:Int)<=i/\i<n:=by
 unfold ixN at h
 by_cases h0:0<=i
 ·rw[if_pos h0]at h
  by_cases h1:i<n
  ·rw[if_pos h1]at h
   have e:i.toNat=j:=au h
   exact⟨by rw[jy h0 h1,e],by omega,by omega,h1⟩
  ·rw[if_neg h1]at h;cases h
 ·rw[if_neg h0]at h
  by_cases h1:-(n:Int)<=i
  ·rw[if_pos h1]at h
   have e:(i+n).toNat=j:=au h
   exact⟨by rw[i8 (by omega) h1,e],by omega,h1,by omega⟩
  ·rw[if_neg h1]at h;cases h
theorem ao7 {α:Type}{F:List α}{i:Int}{v:α}(h:atI F i=some v):∃ j,j5 i F.length=some j/\F[j]?=some v/\j<F.length/\-(F.length:Int)<=i/\i<F.length:=by
 unfold atI at h
 cases e:ixN F.length i with
 | none=>rw[e]at h;cases h
 | some j =>
  rw[e]at h
  obtain⟨Y,J,G,Z⟩:=aO3 e
  exact⟨j,Y,h,J,G,Z⟩
def aO5 (b:Expr):Prop:=∀ o i,subscripted b false o i=operate [o,i] (i9 o i)
def IxR (X:Cx)(r:R2):Prop :=
 ∀(value slice:Expr) (pins:List (Addr×Obj)) (s:af) (σ:St) (H:Hp) (x y:V) (v u:Value) (Q:VK),Inv X pins σ H s->RelV x v->RelV y u->r x y H Q ->
  subscripted slice false v u=operate [v,u] (i9 v u)->wpAny (model X.prog X.w) X.A (subscriptTail value slice v u) (EP X pins σ Q) X.xe s
def MtR (X:Cx)(id:String)(r:V->List V->Hp->VK->Prop):Prop :=
 ∀(pins:List (Addr×Obj)) (s:af) (σ:St) (H:Hp) (x:V) (xs:List V) (v:Value) (us:List Value) (Q:VK),Inv X pins σ H s->RelV x v->Vals xs us->r x xs H Q ->
  wpAny (model X.prog X.w) X.A (call (.builtin id) (v::us)) (EP X pins σ Q) X.xe s
section
variable {X:Cx} {a b:Expr} {ta tb:TE} {pos:Pos}
theorem bP5 {r:R2}(J:IxR X r)(ha:PE X a ta)(hb:PE X b tb)(hs:aO5 b):PE X (.Subscript a b pos) (tOp r ta tb):=by
 intro F s σ H Q I h
 exact jL (bQ0 ha hb I h λ v u s2 x y G I2 Z Y q=>J a b F s2 σ G x y v u Q I2 Z Y q (hs _ _))
def bR2 (K:ae):R2:=λ x y H Q=>∃ p xs i v,x=.ref p/\y=.int i/\SqL K H p xs/\atI xs i=some v/\Q v H
def bT4 (K:ae):R2:=λ x y H Q=>∃ p xs i v,x=.ref p/\y=.int i/\SqT K H p xs/\atI xs i=some v/\Q v H
def bV3:R2:=λ x y H Q=>∃ z i c,x=.str z/\y=.int i/\z.length<=aH/\atI z.cps.toList i=some c/\Q (.str ⟨#[c]⟩) H
theorem br6:IxR X (bR2 X.K):=by
 intro J a0 F s σ H x y v u Q I rx ry h hs
 obtain⟨p,xs,i,z,rfl,rfl,hq,he,q⟩:=h
 cases rx
 obtain⟨t,rfl⟩:=ry
 obtain⟨its,r,Y,hz⟩:=I.list hq
 obtain⟨j,G,h2,h3,h4,h5⟩:=ao7 he
 obtain⟨w,ew,Z⟩:=r.get h2
 have hl:=r.length
 have hn:=ag0
 have fin:EP X F σ Q w s:=⟨z,H,I,Z,q⟩
 by_cases h0:0<=i
 ·have hj:i.toNat=j:=by
   rw[jy h0 h5]at G
   exact au G
  exact item_listR Y.isList h0 (by omega) (by rw[hj];simpa using ew) fin hs
 ·have hj:(i+(its.toArray.size:Int)).toNat=j:=by
   rw[i8 (by omega) h4]at G
   rw[ar,<-hl]
   exact au G
  exact d6 (x:=w) Y.isList.typeIs ja.lookup
   (wpAny_getItem_list_neg (Q:=λ r s'=>r=w/\EP X F σ Q r s') Y.isList (by omega) (by rw[ar]<;>omega) (by omega) (by rw[hj];simpa using ew) ⟨rfl,fin⟩) hs
theorem ix_tup:IxR X (bT4 X.K):=by
 intro G Y F s σ H x y v u Q I rx ry h hs
 obtain⟨p,xs,i,z,rfl,rfl,hq,he,q⟩:=h
 cases rx
 obtain⟨t,rfl⟩:=ry
 obtain⟨its,r,Z,hz⟩:=I.tuple hq
 obtain⟨j,h1,h2,h3,h4,h5⟩:=ao7 he
 obtain⟨w,ew,J⟩:=r.get h2
 have hl:=r.length
 have hn:=ag0
 have fin:EP X F σ Q w s:=⟨z,H,I,J,q⟩
 exact d6 (x:=w) Z.typeIs iP.lookup
  (getItem_tuple (j:=j) (Q:=λ r s'=>r=w/\EP X F σ Q r s') Z (by omega) (by omega) (by rw[ar,<-hl];exact h1) (by simpa using ew) ⟨rfl,fin⟩) hs
theorem ix_str:IxR X bV3:=by
 intro F G Y s σ H x y v u Q I Z ry h hs
 obtain⟨z,i,c,rfl,rfl,hz,he,q⟩:=h
 obtain⟨t,rfl⟩:=Z
 obtain⟨t',rfl⟩:=ry
 obtain⟨j,J,h2,h3,h4,h5⟩:=ao7 he
 have hl:z.cps.toList.length=z.length:=by simp[Str.length]
 rw[hl]at J h4 h5
 have hn:=ag0
 exact jM (jN s z t) slot_str_getitem.lookup (getItem_str (c:=c) (by
  have e1:decide (i < -(2^63:Int))=false:=decide_eq_false (by omega)
  have e2:decide (i ≥ 2^63)=false:=decide_eq_false (by omega)
  rw[e1,e2,Bool.or_false]) (by rw[J];simpa using h2) ⟨.str ⟨#[c]⟩,H,I.tok _,⟨_,rfl⟩,q⟩) hs
theorem aG5 (its:List Value)(n j:Nat)(u:Value):gi (·.setIfInBounds j u) { cls:=.type "list",data:=.seq its.toArray n }={ cls:=.type "list",data:=.seq (its.set j u).toArray n }:=by
 simp[gi]
theorem Inv.lst {F:List (Addr×Obj)}{σ:St}{H:Hp}{s:af}{p:Addr}{G:List V}(I:Inv X F σ H s)(h:H p=some (.lst G)) :
  ∃(its:List Value) (n:Nat),Vals G its/\s.heap.get? p=some { cls:=.type "list",data:=.seq its.toArray n }/\G.length<=aH:=by
 obtain⟨z,its,n,r,e⟩:=I.hok p _ h
 exact⟨its,n,r,e,z⟩
theorem Inv.lstUpd {F:List (Addr×Obj)}{σ:St}{H:Hp}{s:af}{p:Addr}{Y ys:List V}{its its':List Value}{n G:Nat}{f:Obj->Obj}(I:Inv X F σ H s)(h:H p=some (.lst Y))
  (ho:s.heap.get? p=some { cls:=.type "list",data:=.seq its.toArray n }) (J:f { cls:=.type "list",data:=.seq its.toArray n }={ cls:=.type "list",data:=.seq its'.toArray G }) (r:Vals ys its') (hz:ys.length<=aH) (t:Nat) :
  Inv X F σ (upd H p (.lst ys)) { s with heap:=s.heap.update p f,toks:=t }:=by
 have e:(s.heap.update p f).get? p=some { cls:=.type "list",data:=.seq its'.toArray G }:=by
  rw[b8 f ho (by rw[J]<;>rfl),J]
 refine I.write (x:=p) (e:=p) (by rw[h];trivial) (.inl rfl) (λ b u hb q=>(aY _ _ (bX hb)).trans q) ⟨_,e⟩ ?_
 exact⟨hz,its',G,r,e⟩
def bO7:V->V->V->Hp->(Hp->Prop)->Prop:=λ o i v H Q=>∃ p xs k j,o=.ref p/\i=.int k/\H p=some (.lst xs)/\ixN xs.length k=some j/\Q (upd H p (.lst (xs.set j v)))
theorem aW9:bQ6 X bO7:=by
 intro F s σ H o i v ov iv u Q I ro ri rv h
 obtain⟨p,xs,k,j,rfl,rfl,hp,hj,q⟩:=h
 cases ro
 obtain⟨t,rfl⟩:=ri
 obtain⟨its,n,r,ho,hz⟩:=I.lst hp
 obtain⟨G,h2,J,Y⟩:=aO3 hj
 have hl:=r.length
 have hn:=ag0
 have Z:Inv X F σ (upd H p (.lst (xs.set j v))) { s with heap:=s.heap.update p (gi (·.setIfInBounds j u)) } :=
  I.lstUpd hp ho (aG5 its n j u) (r.set rv j) (by rw[bA];exact hz) s.toks
 by_cases h0:0<=k
 ·have hk:k.toNat=j:=by
   rw[jy h0 Y]at G
   exact au G
  exact PySem.W.ki_setAt ho h0 (by omega) (by rw[ar,<-hl];exact Y) (by rw[hk];exact⟨_,Z,q⟩)
 ·have hk:(k+(its.toArray.size:Int)).toNat=j:=by
   rw[i8 (by omega) J]at G
   rw[ar,<-hl]
   exact au G
  exact PySem.W.ki_setBack ho (by omega) (by rw[ar,<-hl];exact J) (by omega) (by rw[hk];exact⟨_,Z,q⟩)
theorem ar0:ab1 X (.builtin "len") (λ Y H Q=>∃ p ys,Y=[.ref p]/\(SqL X.K H p ys\/SqT X.K H p ys)/\Q (.int ys.length) H):=by
 intro Z s σ H Y us Q I r h
 obtain⟨p,ys,rfl,hq,q⟩:=h
 obtain⟨u,rfl,rx⟩:=af3 r
 cases rx
 have hn:=ag0
 rcases hq with hq|hq
 ·obtain⟨its,J,G,hz⟩:=I.list hq
  have F:=J.length
  exact Calls.call_len_list G.isList (by simp only[ar]<;>omega) ⟨.int ys.length,H,I.tok _,⟨s.toks+1,by rw[ar,F]⟩,q⟩
 ·obtain⟨its,J,G,hz⟩:=I.tuple hq
  have F:=J.length
  exact len_tuple G (by simp only[ar]<;>omega) ⟨.int ys.length,H,I.tok _,⟨s.toks+1,by rw[ar,F]⟩,q⟩
theorem au4:ab1 X (.builtin "len") (λ F H Q=>∃ z,F=[.str z]/\z.length<=aH/\Q (.int z.length) H):=by
 intro G s σ H F us Q I r h
 obtain⟨z,rfl,hz,q⟩:=h
 obtain⟨u,rfl,t,rfl⟩:=af3 r
 have hn:=ag0
 exact len_str (by omega) ⟨.int z.length,H,I.tok _,⟨_,rfl⟩,q⟩
theorem ab1.or {f:Value}{r Y:List V->Hp->VK->Prop}(h:ab1 X f r)(h':ab1 X f Y):ab1 X f (λ G H Q=>r G H Q\/Y G H Q):=by
 intro F s σ H G us Q I J q
 rcases q with q|q
 ·exact h F s σ H G us Q I J q
 ·exact h' F s σ H G us Q I J q
theorem ar3:ab1 X (.type "list") (λ xs H Q=>∃ p ys,xs=[.ref p]/\(SqL X.K H p ys\/SqT X.K H p ys)/\∀ l,H l=none->Q (.ref l) (upd H l (.lst ys))):=by
 intro J s σ H xs us Q I r h
 obtain⟨p,ys,rfl,hq,q⟩:=h
 obtain⟨u,rfl,rx⟩:=af3 r
 cases rx
 have fin:∀(its:List Value),Vals ys its->ys.length<=aH->∀(h':Heap) (F:Nat),(∀ b o',s.heap.get? b=some o'->h'.get? b=some o') ->
   h'.get? s.heap.objs.size=some { cls:=.type "list",dict:=none,data:=.seq its.toArray F,slots:=#[] }->EP X J σ Q (.ref s.heap.objs.size) { s with heap:=h' }:=λ its G hz h' F kp e =>
  ⟨.ref s.heap.objs.size,_,I.laid (t':=s.toks) kp (am _) (show aa8 X.prog X.w _ h' _ (.lst ys)from⟨hz,its,F,G,e⟩),rfl,q _ (I.hok.fresh (am _))⟩
 rcases hq with hq|hq
 ·obtain⟨its,G,Z,hz⟩:=I.list hq
  have Y:=G.length
  obtain⟨o,ho,hc,n,hd⟩:=Z.isList
  exact call_list_seq p (.inl rfl) ho hc hd (λ h' F kp e=>fin its G hz h' F kp e) (by simp only[ar]<;>omega)
 ·obtain⟨its,G,Z,hz⟩:=I.tuple hq
  have Y:=G.length
  obtain⟨o,ho,hc,n,hd⟩:=Z
  exact call_list_seq p (.inr rfl) ho hc hd (λ h' F kp e=>fin its G hz h' F kp e) (by simp only[ar]<;>omega)
theorem ap5:ab1 X (.type "tuple") (λ Y H Q=>∃ p ys,Y=[.ref p]/\((SqL X.K H p ys/\∀ l,H l=none->Q (.ref l) (upd H l (.tup ys)))\/(SqT X.K H p ys/\Q (.ref p) H))):=by
 intro F s σ H Y us Q I r h
 obtain⟨p,ys,rfl,h⟩:=h
 obtain⟨u,rfl,rx⟩:=af3 r
 cases rx
 rcases h with⟨hq,q⟩|⟨hq,q⟩
 ·obtain⟨its,J,G,hz⟩:=I.list hq
  have a0:=J.length
  refine call_tuple_list G.isList (λ h' kp=>?_) (by simp only[ar]<;>omega)
  have Z:Inv X F σ H { s with heap:=h' }:=I.kept (t':=s.toks) kp
  have I2:Inv X F σ (upd H h'.objs.size (.tup ys)) { s with heap:=h'.push { cls:=.type "tuple",data:=.seq its.toArray } } :=
   Z.laid (t':=s.toks) (λ b o e=>ai _ e) (am _) (show aa8 X.prog X.w _ _ _ (.tup ys)from⟨hz,its,J,j4 _ _⟩)
  exact⟨.ref h'.objs.size,_,I2,rfl,q _ (Z.hok.fresh (am _))⟩
 ·obtain⟨its,J,G,hz⟩:=I.tuple hq
  exact call_tuple_same G ⟨.ref p,H,I,rfl,q⟩
def tyV (K:ae)(T:String)(x:V)(H:Hp):Prop:=match x with
 | .str _=>T = "str"
 | .int _=>T = "int"
 | .ref p=>(T = "list"/\∃ xs,SqL K H p xs)\/(T = "tuple"/\∃ o,K.lookup p=some o/\o.cls=.type "tuple"/\o.dict=none) \/
   (T = "dict"/\((∃ kvs,H p=some (.dK kvs))\/∃ kvs,H p=some (.dT kvs)))\/(T = "set"/\∃ S n,H p=some (.set S n))
 | _=>False
theorem bh9 {h:List (Addr×Obj)}{σ:St}{H:Hp}{s:af}{T:String}{x:V}{v:Value}(I:Inv X h σ H s)(r:RelV x v)(F:tyV X.K T x H) :
  s.TypeIs v T/\∀ a,v=.ref a->∃ ob,s.heap.get? a=some ob/\ob.dict=none:=by
 cases x with
 | str z =>
  obtain⟨t,rfl⟩:=r
  cases(show T = "str" from F)
  exact⟨jN s z t,λ _ e=>nomatch e⟩
 | int i =>
  obtain⟨t,rfl⟩:=r
  cases(show T = "int" from F)
  exact⟨gj s i t,λ _ e=>nomatch e⟩
 | ref p =>
  cases r
  rcases F with⟨rfl,Y,hq⟩|⟨rfl,o,hk,hc,hd⟩|⟨rfl,hk⟩|⟨rfl,S,n,hk⟩
  ·obtain⟨its,_,J,_⟩:=I.list hq
   refine⟨J.isList.typeIs,λ a e=>?_⟩
   cases e
   obtain⟨o,n,e,c,hd,_⟩:=J
   exact⟨o,e,hd⟩
  ·refine⟨⟨o,I.kIn p o hk,hc⟩,λ a e=>?_⟩
   cases e
   exact⟨o,I.kIn _ o hk,hd⟩
  ·have z:∃ o,s.heap.get? p=some o/\o.ExactDict:=by
    rcases hk with⟨G,hk⟩|⟨G,hk⟩
    ·obtain⟨_,_,_,_,o,_,_,e,ex,_⟩:=I.hok p _ hk
     exact⟨o,e,ex⟩
    ·obtain⟨_,_,_,_,o,_,_,e,ex,_⟩:=I.hok p _ hk
     exact⟨o,e,ex⟩
   obtain⟨o,e,ex⟩:=z
   refine⟨⟨o,e,ex.1⟩,λ a e2=>?_⟩
   cases e2
   exact⟨o,e,ex.2.1⟩
  ·obtain⟨o,_,_,_,e,ex,_⟩:=I.hok p _ hk
   refine⟨⟨o,e,ex.1⟩,λ a e2=>?_⟩
   cases e2
   exact⟨o,e,ex.2.1⟩
 | _=>exact bB F
def bR1 (K:ae)(T:String)(r:V->List V->Hp->VK->Prop)(to:TE):TE:=λ σ H Q=>to σ H λ x H1=>tyV K T x H1/\r x [] H1 Q
def tBM (K:ae)(T:String)(r:V->List V->Hp->VK->Prop)(to:TE)(t:TA):TE:=λ σ H Q=>to σ H λ x H1=>tyV K T x H1/\t σ H1 λ xs H2=>r x xs H2 Q
variable {o e:Expr} {es:List Expr} {to:TE} {t:TA} {name:Str} {apos cpos:Pos} {T id:String} {r:V->List V->Hp->VK->Prop}
theorem by8 (pa:jO T)(slot:Slot T name id)(Y:jm (.builtin id)=pure (.type "method_descriptor"))(hm:MtR X id r)(ho:PE X o to)
  (G:fT o name X.env (eval o X.env)=eval o X.env:=by rfl) (J:(apos.endLine==cpos.line)=true:=by rfl):PE X (.Call (.Attribute o name apos) [] [] cpos) (bR1 X.K T r to):=by
 intro F s σ H Q I h
 refine wpAny_Call_method0_late G J (thn (ho F s σ H _ I h) λ v s1 ⟨x,H1,Z,r1,ty,q1⟩=>?_)
 obtain⟨h1,h2⟩:=bh9 Z r1 ty
 exact⟨T,id,pa,slot,Y,h1,h2,gk rfl (PySem.evalArgs_none (hm F s1 σ H1 x [] v [] Q Z r1 .nil q1))⟩
theorem bO9 (pa:jO T)(slot:Slot T name id)(a0:jm (.builtin id)=pure (.type "method_descriptor"))(hm:MtR X id r)(ho:PE X o to)(ha:PA X (e::es) t)
  (J:fT o name X.env (eval o X.env)=eval o X.env:=by rfl)
  (Z:((eT cpos (bq (e::es) X.env)).all (λ x=>!x.1)&&(backToKw cpos (keywordEach [] X.env)).all (λ x=>x.1.isSome)
   && decide ((e::es).length+([]:List jI).length+(if([]:List jI).isEmpty then 0 else 1)<30))=true:=by rfl)
  (Y:(apos.endLine==cpos.line)=true:=by rfl) (hs:bq (e::es) X.env=(false,eval e X.env)::bq es X.env:=by rfl) (G:(eT cpos (bq es X.env)).any (·.1)=false:=by rfl) :
  PE X (.Call (.Attribute o name apos) (e::es) [] cpos) (tBM X.K T r to t):=by
 intro F s σ H Q I h
 refine wpAny_Call_method_late J Z Y rfl (thn (ho F s σ H _ I h) λ v s1 ⟨x,H1,I1,r1,ty,q1⟩=>?_)
 obtain⟨h1,h2⟩:=bh9 I1 r1 ty
 refine⟨T,id,pa,slot,a0,h1,h2,?_⟩
 have hA:=ha cpos F s1 σ H1 _ I1 q1
 rw[hs]at hA ⊢
 refine gk (by show(false||(eT cpos (bq es X.env)).any (·.1))=false;rw[G]<;>rfl) (gT ?_)
 exact thn hA λ us s2 ⟨vs,H2,I2,r2,q2⟩=>hm F s2 σ H2 x vs v us Q I2 r1 r2 q2
end
def MtM (X:Cx)(id:String)(r:V->List V->Hp->VK->Prop):Prop :=
 ∀(pins:List (Addr×Obj)) (s:af) (σ:St) (H:Hp) (x:V) (xs:List V) (v:Value) (us:List Value) (Q:VK),Inv X pins σ H s->RelV x v->Vals xs us->r x xs H Q ->
  wpAny (model X.prog X.w) X.A (call (.builtin id) (v::us)) (EP X pins σ Q) X.xe s
theorem Vals.one:∀ {x:V} {us:List Value},Vals [x] us->∃ u,us=[u]/\RelV x u
 | _,_,.cons r .nil=>⟨_,rfl,r⟩
theorem Vals.zero:∀ {us:List Value},Vals [] us->us=[]
 | _,.nil=>rfl
theorem Vals.dropLast {F:List V}{us:List Value}(h:Vals F us):Vals F.dropLast us.dropLast:=by
 induction h with
 | nil=>exact .nil
 | cons r t ih =>
  cases t with
  | nil=>exact .nil
  | cons q t'=>exact .cons r ih
theorem Vals.reverse {F:List V}{us:List Value}(h:Vals F us):Vals F.reverse us.reverse:=by
 induction h with
 | nil=>exact .nil
 | cons r t ih=>rw[cL,cL];exact Vals.append ih (.cons r .nil)
theorem Vals.rep {F:List V}{us:List Value}(h:Vals F us):∀ k:Nat,Vals (aE k F).flatten (aE k us).flatten
 | 0=>.nil
 | k+1=>by
  rw[bH,bH,du,du]
  exact Vals.append h (Vals.rep h k)
theorem at1 (its:List Value):∀(k:Nat) (h:List Value),
  jP (λ x1 F=>x1++F) h.toArray (aE k its.toArray)=(h++(aE k its).flatten).toArray
 | 0,h=>by simp
 | k+1,h=>by
  have e:h.toArray++its.toArray=(h++its).toArray:=by simp
  have e2:(h++its)++(aE k its).flatten=h++(aE (k+1) its).flatten:=by
   rw[bH,du,be]
  rw[<-e2,<-at1 its k (h++its),<-e,bH,db]
section
variable {X:Cx} {pins:List (Addr×Obj)} {σ:St} {H:Hp} {s:af} {l b:Addr} {xs ys zs:List V}
theorem Inv.lset {its its':List Value}{n:Nat}{f:Array Value->Array Value}{t':Nat}(I:Inv X pins σ H s)(h:H l=some (.lst xs))
  (e:s.heap.get? l=some { cls:=.type "list",data:=.seq its.toArray n }) (F:f its.toArray=its'.toArray) (hv:Vals ys its') (hz:ys.length<=aH) :
  Inv X pins σ (upd H l (.lst ys)) { s with heap:=s.heap.update l (gi f),toks:=t' }:=by
 have q:=PySem.IsL.update e f
 rw[F]at q
 refine I.write (x:=l) (e:=l) (by rw[h];exact trivial) (.inl rfl) (λ J u hb G=>(aY s.heap (gi f) (bX hb)).trans G) ⟨_,q⟩ ?_
 exact⟨hz,its',_,hv,q⟩
theorem Inv.lnew {its:List Value}{t':Nat}(I:Inv X pins σ H s)(hv:Vals ys its)(hz:ys.length<=aH) :
  Inv X pins σ (upd H s.heap.objs.size (.lst ys)) { s with heap:=s.heap.push { cls:=.type "list",data:=.seq its.toArray },toks:=t' } :=
 I.laid (λ _ _ q=>ai _ q) (am _) ⟨hz,its,0,hv,aC _ rfl⟩
theorem Inv.fresh (I:Inv X pins σ H s):H s.heap.objs.size=none:=I.hok.fresh (am _)
theorem Inv.lstM (I:Inv X pins σ H s)(h:H l=some (.lst xs)):xs.length<=aH/\∃(its:List Value) (n:Nat),Vals xs its/\xs.length=its.length/\s.heap.get? l=some { cls:=.type "list",data:=.seq its.toArray n }:=by
 obtain⟨z,its,n,r,e⟩:=I.hok l _ h
 exact⟨z,its,n,r,r.length,e⟩
theorem aZ5 {n:Nat}(h:n<=aH):dJ n=false:=by
 unfold dJ
 exact decide_eq_false (by omega)
end
section
variable {X:Cx}
def bq6:V->List V->Hp->VK->Prop:=λ x vs H Q=>∃ l xs y,x=.ref l/\vs=[y]/\H l=some (.lst xs)/\xs.length<aH/\Q .non (upd H l (.lst (xs++[y])))
theorem as3:MtM X "list.append" bq6:=by
 intro J s σ H x vs v us Q I Y Z h
 obtain⟨l,xs,y,rfl,rfl,G,hz,q⟩:=h
 cases Y
 obtain⟨u,rfl,ru⟩:=Z.one
 obtain⟨z,its,n,r,hl,e⟩:=I.lstM G
 refine gm gK ⟨_,e,rfl⟩ F.entry_list_append (F.args_list_append_2 _ _) (PySem.list_append l its.toArray n u (by rw[ar];omega)) ⟨e,?_⟩
 refine⟨.non,_,I.lset (its':=its++[u]) G e (by simp) (r.append (.cons ru .nil)) ?_,rfl,q⟩
 rw[aR,b9]
 omega
def aZ9:V->List V->Hp->VK->Prop:=λ x vs H Q=>∃ l xs,x=.ref l/\vs=[]/\H l=some (.lst xs)/\Q .non (upd H l (.lst xs.reverse))
theorem aI4:MtM X "list.reverse" aZ9:=by
 intro Y s σ H x vs v us Q I Z rv h
 obtain⟨l,xs,rfl,rfl,J,q⟩:=h
 cases Z
 have G:=rv.zero
 subst G
 obtain⟨z,its,n,r,hl,e⟩:=I.lstM J
 refine gm gq ⟨_,e,rfl⟩ F.entry_list_reverse (F.args_list_reverse_1 _) (AutoSeq1.list_reverse_list_0 l its.toArray n (by rw[ar];omega)) ⟨e,?_⟩
 refine⟨.non,_,I.lset (its':=its.reverse) J e (by simp) r.reverse ?_,rfl,q⟩
 rw[dF]
 omega
def bV7:R2:=λ x y H Q=>∃ l b xs zs,x=.ref l/\y=.ref b/\H l=some (.lst xs)/\H b=some (.lst zs)/\xs.length+zs.length<=aH/\∀ p,H p=none->Q (.ref p) (upd H p (.lst (xs++zs)))
theorem bx0:OpR X (bZ .Add) bV7:=by
 intro G s σ H x y v u Q I J ry h
 obtain⟨l,b,xs,zs,rfl,rfl,Y,hB,hz,q⟩:=h
 cases J
 cases ry
 obtain⟨z,its,n,r,hl,e⟩:=I.lstM Y
 obtain⟨z2,F,n2,r2,Z,e2⟩:=I.lstM hB
 refine PySem.P.add_list e e2 ?_ (by rw[ar,ar];omega)
 have ea:its.toArray++F.toArray=(its++F).toArray:=by simp
 rw[ea]
 exact⟨.ref _,_,I.lnew (t':=s.toks) (r.append r2) (by rw[aR];omega),rfl,q _ I.fresh⟩
def bU4:R2:=λ x y H Q=>∃ l k xs,x=.ref l/\y=.int k/\H l=some (.lst xs)/\-(2^63)<=k/\k<2^63/\xs.length*k.toNat<=aH /\
 ∀ p,H p=none->Q (.ref p) (upd H p (.lst (aE k.toNat xs).flatten))
theorem bk0 {α:Type}(h:List α)(k:Nat):(aE k h).flatten.length=k*h.length:=by
 induction k with
 | zero=>simp
 | succ k ih=>rw[bH,du,aR,ih,Nat.succ_mul,gu]
theorem bC7:OpR X (bZ .Mult) bU4:=by
 intro a1 s σ H x y v u Q I rx ry h
 obtain⟨l,k,xs,rfl,rfl,hH,h1,h2,hz,q⟩:=h
 cases rx
 obtain⟨t,rfl⟩:=ry
 obtain⟨z,its,n,r,hl,e⟩:=I.lstM hH
 have a0:its.toArray.size*k.toNat<=aH:=by rw[ar,<-hl];exact hz
 have Z:¬ its.toArray.size*k.toNat > (2^63 - 1) / 8:=by
  have:(aH:Nat)<=(2^63 - 1) / 8:=by decide
  omega
 have J:¬(!Builtin.List.listFitsIndex k)=true:=by
  rw[fitsIndex_both h1 h2]
  exact aQ
 have G:¬ dJ (its.toArray.size*k.toNat)=true:=by
  rw[aZ5 a0]
  exact aQ
 have Y:jP (λ x1 x2=>x1++x2) #[] (aE (if its.toArray.isEmpty=true then 0 else k.toNat) its.toArray)=(aE k.toNat its).flatten.toArray:=by
  have f0:∀ m:Nat,jP (λ x1 x2=>x1++x2) #[] (aE m its.toArray)=(aE m its).flatten.toArray:=λ m=>by
   have:=at1 its m []
   rw[eX]at this
   exact this
  rw[f0]
  cases its with
  | nil=>simp
  | cons a r'=>rw[if_neg (by simp)]
 refine fy (T := "list") (U := "int") (by decide) ⟨_,e,rfl⟩ (λ s'=>gj s' k t) noFill_list_mul iQ dR repeat_list ik.lookup
  (gm dR (gj s k t) il (gU _ _) (int___rmul___int_list k t l its.toArray n)
   ⟨e,rfl,⟨_,e,rfl⟩,gm F.slot_list_mul ⟨_,e,rfl⟩ F.entry_list_mul (F.args_list_mul_2 _ _) (AutoListH.list___mul___list_int_3 l its.toArray n k t J Z G) ⟨e,?_⟩⟩)
 rw[Y]
 exact⟨.ref _,_,I.lnew (t':=s.toks) (r.rep k.toNat) (by rw[bk0,ke];exact hz),rfl,q _ I.fresh⟩
end
section
variable {prog:aD} {w:World} {A:aM} {E:Value->af->Prop} {s:af}
end
section
variable {X:Cx}
end
end L2
end
noncomputable section
namespace Att
open PySem PySem.W PySem.Calls PyProof.Rows
theorem ints_of_wellAll {P:Params}{h:Heap}:∀(ns:List Int) (vs:List Value),WellAll P h vs (ns.map WData.int)->jJ vs ns:=by
 intro ns
 induction ns with
 | nil =>
  intro vs w
  rw[dA]at w
  cases w
  exact .nil
 | cons n ns ih =>
  intro vs w
  rw[aV]at w
  cases w with
  | cons a b =>
   cases a
   exact .cons _ _ (ih _ b)
theorem script_of {l:OpenLaw}{n:Nat}(hn:l.most=some n){P:Params}{h:Heap}{args:List WData}{F:List Value}
  (G:l.row.toRowW.claim.pre args=true) (a0:WellAll P h F args) :
  ∃ a vs ns,F=[Value.ref a]/\args=[WData.list (ns.map WData.int)]/\h.get? a=some { cls:=.type "list",data:=.seq vs.toArray }/\jJ vs ns/\ns.length<=n:=by
 have a1:WShape.hasAll [] args [.list .int]=true:=(pre_splitW G).1
 have hc:l.pre.holds [] { args:=args }=true:=(pre_splitW G).2
 obtain⟨d,r,rfl,h1,h2⟩:=hasAllW_cons a1
 obtain rfl:=hasAllW_nil h2
 obtain⟨xs,rfl,h3⟩:=hasW_list h1
 obtain⟨ns,rfl⟩:=items_int h3
 have J:ns.length<=n:=by
  unfold OpenLaw.pre at hc
  have Y:(WTm.not (.lt (.lit (.int (n:Int))) (.len (.arg 0)))).holds [] { args:=[.list (ns.map .int)] }=true:=by
   have Y:=(holds_andW hc).1
   rw[hn]at Y
   exact Y
  have Z:=condW_of Y (w_not (w_lt w_lit (w_len_list (w_arg rfl))))
  rw[aw]at Z
  refine jn λ q=>?_
  have q':(n:Int)<((ns.length:Nat):Int):=by omega
  first
   | (rw[decide_eq_true q']at Z;exact absurd Z (by decide))
   | (simp at Z;omega)
 cases a0 with
 | cons w1 w2 =>
  cases w2
  cases w1 with
  | list ho hall=>exact⟨_,_,ns,rfl,rfl,ho,ints_of_wellAll ns _ hall,J⟩
theorem post_true (l:OpenLaw)(args:List WData):l.row.toRowW.claim.post args (.bool true) args=true :=
 postW_of (r:=l.row.toRowW) (X:=(true==true))
  (show WShape.has [] (.bool true) .bool=true by first|rfl|decide|simp[WShape.has,WShape.arms,WShape.armsAll])
  (show(WTm.eq .res (.lit (.bool true))).value [] { args:=args,res:=some (.bool true),after:=args }=some (.bool (true==true))from w_eq_bool (w_res rfl) w_lit) rfl
theorem attach_call {l:OpenLaw}{n:Nat}{q:aD}{loose:List Str}{XP:(Str->Option Value)->Heap->Prop}{YP:World->Heap->Prop}{d:DefRec}
  (hn:l.most=some n) (a5:d.params.defaults=[])
  (call:∀(w:World) (s₀ h:af) (mg mb:Str->Option Value) (fa:Addr) (o:Obj) (pm cd F:Value) (a:Addr) (vs:List Value) (ns:List Int),
   Ground q loose [] XP w s₀ mg mb h.heap->YP w h.heap ->
   h.heap.get? fa=some o->o.data=.func (docDef d.name d.params d.body d.scope pm cd F)->h.heap.CodeRec cd d.name->mg d.name=some (.ref fa) ->
   h.heap.get? a=some { cls:=.type "list",data:=.seq vs.toArray }->jJ vs ns->ns.length<=n->h.gens=#[] ->
   d4 (model l.prog w) ie (.call (.ref fa) ⟨[.ref a],[]⟩) (λ r s'=>r=.ok (.ret (.bool true))/\OldK h.heap s'.heap/\s'.os=h.os/\e9 s'.gens) h) :
  WalkO q loose XP YP l.row.toRowW d [] (λ f vs=>jK f vs):=by
 intro w s₀ h mg mb G Y fa o pm cd F dV kV ho hd a3 hD a4 hg args b0 as a1 a6 b2 a2 b1
 obtain rfl:dV=.none:=Dflts.none hD a5
 obtain rfl:kV=.none:=Dflts.noKw hD
 obtain⟨a,vs,ns,rfl,rfl,Z,J,a0⟩:=script_of hn a1 a2
 refine enter_call (i6 (call w s₀ h mg mb fa o pm cd F a vs ns G Y ho (fd_plain hd) a3 a4 Z J a0 hg) λ r s' hq=>?_)
 obtain⟨rfl,h2,h3,h4⟩:=hq
 exact⟨.inl ⟨.bool true,.bool true,[],rfl,λ _=>rfl,.bool true,post_true l _,λ _=>⟨List.Pairwise.nil,λ _ hm=>(nomatch hm)⟩⟩,h2,h3,h4⟩
section
variable {prog:aD} {w:World} {A:aM} {E:Value->af->Prop} {s:af} {K:Frag}
end
end Att
noncomputable section
namespace L2
open PySem PySem.Spec PyProof.Rows
theorem au1:∀ {vs:List Value} {ns:List Int},jJ vs ns->Vals (ns.map V.int) vs
 | _,_,.nil=>.nil
 | _,_,.cons n t h=>.cons ⟨t,rfl⟩ (au1 h)
noncomputable def defArgs (s:Stmt):bD:=match s with
 | .FunctionDef _ a _ _ _ _ _ _ _ _=>a
 | _=>{ posonlyargs:=[],args:=[],vararg:=none,kwonlyargs:=[],kw_defaults:=[],kwarg:=none,defaults:=[] }
noncomputable def zq (s:Stmt):List Stmt:=match s with
 | .FunctionDef _ _ b _ _ _ _ _ _ _=>b
 | _=>[]
noncomputable def defScope (s:Stmt):Scope:=match s with
 | .FunctionDef _ _ _ _ _ _ sc _ _ _=>sc
 | _=>{ kind:=.function,names:=[],isGenerator:=false,isCoroutine:=false }
noncomputable abbrev CX0:CXT:=λ _ _ _ _ _ _=>False
abbrev E0:XK:=λ _ _ _=>False
theorem bB2 {X:Cx}:ad2 CX0 X E0:=λ _ _ _ _ _ _ _ h=>h.elim
structure Fun (K:ae)(x qual:Str)(st:Stmt)(f:Addr)(fd:bF):Prop where
 ex:∃(oc:Value) (od:Option Addr) (kV doc pm:Value) (an:Option Addr) (cdv ct:Value) (osl:Array (Option Value)),
  fd=c5 x qual (defArgs st) (zq st) (defScope st) .none kV doc pm an cdv ct/\K.lookup f=some ⟨oc,od,.func fd,osl⟩/\fq K cdv qual=true
 kp:ci K (.ref f)=true
section
variable {P:aD} {w:World} {K:ae} {mg:Str->Option Value} {base:Heap}
theorem Fun.ok {x qual:Str}{st:Stmt}{f:Addr}{fd:bF}{N ps:List Str}{k:Nat}{sp:Sp}(F:Fun K x qual st f fd)(S:FnScope N ps (defScope st))(len:∀ vs H Q E,sp vs H Q E->vs.length=ps.length)
  (Y:∀(J:Value) (A:aM) (G:List Env) (s:af) (H:Hp) (vs:List V) (Q:VK) (E:XK),Room k (A.deeper (eW qual (defScope st) s.heap.objs.size f J))->sp vs H Q E ->
   ∃ t,PSs (ap7 CX0 P w K mg base N qual (defScope st) f J A G s H E).nox (zq st) t/\t { nx:=λ _ H'=>Q .non H',rt:=Q } (ad7 N vs) H):FnOk P w K mg base CX0 (k+1) f fd ps sp:=by
 obtain⟨oc,od,kV,a1,pm,an,J,ct,a2,rfl,lk,Z⟩:=F.ex
 refine bo0 lk Z S len λ A G s H vs Q E hr a0=>?_
 obtain⟨t,h,q⟩:=Y J A G s H vs Q E hr a0
 exact⟨t,h.nox,q⟩
theorem Fun.binds {x qual:Str}{st:Stmt}{f:Addr}{fd:bF}{ps:List Str}(F:Fun K x qual st f fd)
  (h:∀(kV J Z:Value) (Y:Option Addr) (G ct:Value) (us:List Value),us.length=ps.length->dw (c5 x qual (defArgs st) (zq st) (defScope st) .none kV J Z Y G ct) ⟨us,[]⟩=pure (ps.zip us)):Binds K fd ps []:=by
 obtain⟨oc,od,kV,J,Z,Y,G,ct,a0,rfl,lk,a1⟩:=F.ex
 exact .all (h kV J Z Y G ct)
theorem be4 {x qual:Str}{st:Stmt}{f:Addr}{oc:Value}{od J:Option Addr}{G:Array (Option Value)}{kV F Y h ct:Value}(l:K.lookup f=some ⟨oc,od,.func (c5 x qual (defArgs st) (zq st) (defScope st) .none kV F Y J h ct),G⟩)
  (c:fq K h qual=true) (k:ci K (.ref f)=true):Fun K x qual st f (c5 x qual (defArgs st) (zq st) (defScope st) .none kV F Y J h ct):=⟨⟨oc,od,kV,F,Y,J,h,ct,G,rfl,l,c⟩,k⟩
end
theorem aH5 {A:aM}{k:Nat}(h:Room k A):A.units+1<cLine:=Nat.lt_of_le_of_lt (Nat.add_le_add_left (by decide:1<=64) _) h.units
section
variable {X:Cx}
end
theorem bU3 {A B:Prop}(h:B):if false=true then A else B:=by
 rw[if_neg aQ]
 exact h
theorem iteT {A B:Prop}(h:A):if true=true then A else B:=by
 rw[if_pos rfl]
 exact h
def ac1 (H H':Hp):Prop:=∀ b o,H b=some o->H' b=some o
theorem ac1.refl (H:Hp):ac1 H H:=λ _ _ h=>h
theorem ac1.trans {H G F:Hp}(a:ac1 H G)(b:ac1 G F):ac1 H F:=λ c o h=>b c o (a c o h)
theorem aO4 {prog:aD}{w:World}{A:aM}{R:jl->af->Prop}{s:af}{J F iter:Expr}{G:List Expr}{scope:Scope}{pos:Pos}{it Y:Value}{env:Env}(I:Nat->af->Prop)
  (turn:∀ n s,I n s->wpAny (model prog w) A (fj it) (λ r s₁=>match r with
   | none=>R (.ok .next) s₁
   | some v=>wpAny (model prog w) A (eU F it v) (λ _ Z=>wpAny (model prog w) A (gd F env v) (λ _ s₂ =>
     wpAny (model prog w) A (forIn G true λ c r=>if r=true then do let ok <- dQ c env (eval c env);pure (ForInStep.yield ok)else pure (ForInStep.yield r)) (λ ok s₃ =>
      if ok=true then wpAny (model prog w) A (eval J env) (λ x s₄ =>
       wpAny (model prog w) A (call (.builtin "list.append") [Y,x]) (λ _ s₅=>∃ m,m<n/\I m s₅) (jb (model prog w) A env λ e s'=>R (.error e) s') s₄) (jb (model prog w) A env λ e s'=>R (.error e) s') s₃
      else ∃ m,m<n/\I m s₃) (jb (model prog w) A env λ e s'=>R (.error e) s') s₂) (jb (model prog w) A env λ e s'=>R (.error e) s') Z) (jb (model prog w) A env λ e s'=>R (.error e) s') s₁) (jb (model prog w) A env λ e s'=>R (.error e) s') s)
  (n:Nat) (h:I n s) :
  d4 (model prog w) A (.compLoop (.ListComp J [⟨F,iter,G,0⟩] scope pos) 0 it Y env) R s:=by
 refine codeAny_loop rfl I (λ n s hI=>?_) n h
 show wpAny _ A ((compTurn (.ListComp J [⟨F,iter,G,0⟩] scope pos) 0 it Y env).onRaise (λ x=>do jo x env;theTreesLotGoes x)) _ _ s
 refine wpAny_noted ?_
 rw[compTurn_list]
 refine ah (iw (ah (bj (turn n s hI) (λ r s₁ h₁=>?_) λ _ _ h'=>h')))
 cases r with
 | none=>exact aA h₁
 | some v =>
  refine ah (bj h₁ (λ _ Z a0=>?_) λ _ _ h'=>h')
  refine ah (bj a0 (λ _ s₂ h₂=>ah (bj h₂ (λ ok s₃ h₃=>?_) λ _ _ h'=>h')) λ _ _ h'=>h')
  cases ok with
  | false=>exact aA ⟨rfl,h₃⟩
  | true =>
   exact ah (ah (bj h₃ (λ x s₄ h₄=>ah (bj h₄ (λ _ s₅ h₅=>aA (aA ⟨rfl,h₅⟩)) λ _ _ h'=>h')) λ _ _ h'=>h'))
noncomputable def af8 (cells:List (Str×Addr)):List (Str×cj)->List (Str×Addr)->List (Str×Addr)
 | [],acc=>acc
 | (n,k)::r,acc=>af8 cells r (if k==.free then(match cells.lookup n with|some c=>(n,c)::acc|none=>acc)else acc)
theorem ac9 {env:Env}:∀(names:List (Str×cj)) (F:List (Str×Addr)),(∀ y∈names,y.2=.free->∃ c,env.cells.lookup y.1=some c) ->
  (forIn names F λ(x:Str×cj) (cs:List (Str×Addr))=>(if x.2==.free then do let c <- cellOf env x.1;pure (ForInStep.yield ((x.1,c)::cs))else pure (ForInStep.yield cs):Sem (ForInStep (List (Str×Addr)))))=pure (af8 env.cells names F)
 | [],F,_=>by rw[gW];rfl
 | (n,k)::r,F,h=>by
  have G:=λ a=>ac9 r a λ y hy=>h y (ak _ hy)
  rw[jC]
  unfold af8
  cases e:(k==NameKind.free)with
  | false =>
   simp only[bO,if_false]
   exact G F
  | true =>
   have hk:k=.free:=by simpa using e
   obtain⟨c,hc⟩:=h (n,k) aq hk
   have e1:cellOf env n=pure c:=by unfold cellOf;rw[hc]
   simp only[if_true,e1,hc]
   exact G _
theorem qg {scope:Scope}{env:Env}(h:∀ y∈scope.names,y.2=.free->∃ c,env.cells.lookup y.1=some c):closureFor scope env=pure (af8 env.cells scope.names []):=by
 have:=ac9 (env:=env) scope.names [] h
 show(forIn scope.names [] (λ(x:Str×cj) (cs:List (Str×Addr))=>(if x.2==.free then do let c <- cellOf env x.1;pure (ForInStep.yield ((x.1,c)::cs))else pure (ForInStep.yield cs):Sem (ForInStep (List (Str×Addr))))) >>= λ cs=>pure cs)=_
 rw[this]
 rfl
theorem clOf_mem {cells:List (Str×Addr)}{n:Str}{c:Addr}:∀ {names:List (Str×cj)} {F:List (Str×Addr)},(n,c)∈af8 cells names F->cells.lookup n=some c\/(n,c)∈F
 | [],_,h=>.inr h
 | (m,k)::r,F,h=>by
  unfold af8 at h
  rcases clOf_mem h with z|z
  ·exact .inl z
  ·cases e:(k==NameKind.free)with
   | false=>simp only[e,bO,if_false]at z;exact .inr z
   | true =>
    simp only[e,if_true]at z
    cases q:cells.lookup m with
    | none=>rw[q]at z;exact .inr z
    | some d =>
     rw[q]at z
     rcases ax.mp z with y|y
     ·cases y;exact .inl q
     ·exact .inr y
theorem aE0 {cells:List (Str×Addr)}{n:Str}{c:Addr}(hc:cells.lookup n=some c):∀ {names:List (Str×cj)} {F:List (Str×Addr)},((n,NameKind.free)∈names\/(n,c)∈F)->(n,c)∈af8 cells names F
 | [],_,h=>by rcases h with h|h;(exact absurd h (by simp));exact h
 | (m,k)::r,F,h=>by
  unfold af8
  refine aE0 hc ?_
  rcases h with h|h
  ·rcases ax.mp h with e|h
   ·cases e
    right
    simp[hc]
   ·exact .inl h
  ·right
   cases e:(k==NameKind.free)with
   | false=>simpa using h
   | true =>
    simp only[if_true]
    cases q:cells.lookup m with
    | none=>exact h
    | some d=>exact ak _ h
theorem ae5 {α:Type}{n:Str}{c:α}:∀ {l:List (Str×α)},(n,c)∈l->(∀ d,(n,d)∈l->d=c)->l.lookup n=some c
 | (m,d)::r,h,u=>by
  rw[aZ]
  cases e:n==m with
  | true =>
   have e':=beq_iff_eq.mp e
   subst e'
   rw[u d aq]
  | false =>
   rcases ax.mp h with z|z
   ·cases z;simp at e
   ·exact ae5 z λ d' h'=>u d' (ak _ h')
theorem az6 {cells:List (Str×Addr)}{n:Str}{c:Addr}{names:List (Str×cj)}(hc:cells.lookup n=some c)(h:(n,NameKind.free)∈names):(af8 cells names []).lookup n=some c:=by
 refine ae5 (aE0 hc (.inl h)) λ d hd=>?_
 rcases clOf_mem hd with z|z
 ·rw[hc]at z;exact(au z).symm
 ·exact absurd z (by simp)
theorem ze:∀(names:List (Str×cj)) (n:Nat) (h:List (Str×Addr)),aI n names h=aI n names []++h
 | [],_,h=>by simp[aI]
 | (x,k)::r,n,h=>by
  unfold aI
  split
  ·rw[ze r (n+1) ((x,n)::h),ze r (n+1) [(x,n)]]
   simp
  ·exact ze r n h
theorem zr:∀ {names:List (Str×cj)} {n:Nat} {F:List (Str×Addr)} {x:Str} {c:Addr},(x,c)∈aI n names F->(x,NameKind.cell)∈names\/(x,c)∈F
 | [],_,_,_,_,h=>.inr h
 | (y,k)::r,n,F,x,c,h=>by
  unfold aI at h
  split at h
  ·rename_i hk
   rcases zr h with z|z
   ·exact .inl (ak _ z)
   ·rcases ax.mp z with e|z
    ·cases e
     have:k=.cell:=by simpa using hk
     subst this
     exact .inl aq
    ·exact .inr z
  ·rcases zr h with z|z
   ·exact .inl (ak _ z)
   ·exact .inr z
theorem zy {α:Type}(x:Str):∀(l r:List (Str×α)),(l++r).lookup x=(l.lookup x).or (r.lookup x)
 | [],r=>by simp
 | (y,v)::l,r=>by
  rw[eA,aZ,aZ]
  cases x==y with
  | true=>rfl
  | false=>exact zy x l r
noncomputable def zJ (N':List Str)(src:List (Option Nat))(scope:Scope)(XN:List Str)(xs:Scope):Bool :=
 (scope.kind==.function) &&
 (scope.names.all λ y=>!(y.2==.free)||(xs.names.lookup y.1==some .cell||xs.names.lookup y.1==some .free)) &&
 (scope.names.all λ y=>!(y.2==.local)||scope.names.lookup y.1==some .local) &&
 (scope.names.all λ y=>!(y.2==.cell)||(scope.names.all λ z=>!(z.1==y.1)||z.2==.cell)) &&
 (src.length==N'.length) &&
 ((N'.zip src).all λ y=>match y.2 with|none=>true|some j=>XN[j]?==some y.1&&scope.names.lookup y.1==some .free)
structure CompCk (N':List Str)(src:List (Option Nat))(scope:Scope)(XN:List Str)(xs:Scope):Prop where
 kind:scope.kind=.function
 fr:∀ y∈scope.names,y.2=.free->xs.names.lookup y.1=some .cell\/xs.names.lookup y.1=some .free
 loc:∀ y∈scope.names,y.2=.local->scope.names.lookup y.1=some .local
 cel:∀ y∈scope.names,y.2=.cell->∀ z∈scope.names,z.1=y.1->z.2=.cell
 len:src.length=N'.length
 sr:∀(i j:Nat) (x:Str),src[i]?=some (some j)->N'[i]?=some x->XN[j]?=some x/\scope.names.lookup x=some .free
theorem bh7 {F:List Str}{src:List (Option Nat)}{scope:Scope}{J:List Str}{G:Scope}(h:zJ F src scope J G=true):CompCk F src scope J G:=by
 unfold zJ at h
 simp only[aj]at h
 obtain⟨⟨⟨⟨⟨h1,h2⟩,Y⟩,Z⟩,h5⟩,h6⟩:=h
 refine⟨by simpa using h1,λ y hy e=>?_,λ y hy e=>?_,λ y hy e z hz ez=>?_,by simpa using h5,λ i j x e1 e2=>?_⟩
 ·have:=aU.mp h2 y hy
  simpa [e]using this
 ·have:=aU.mp Y y hy
  simpa [e]using this
 ·have:=aU.mp Z y hy
  simp only[e,beq_self_eq_true,j0,iA]at this
  have:=aU.mp this z hz
  simpa [ez]using this
 ·have hm:(x,some j)∈F.zip src:=by
   refine aX (i:=i) ?_
   rw[List.getElem?_zip_eq_some]
   exact⟨e2,e1⟩
  have:=aU.mp h6 _ hm
  simpa using this
noncomputable abbrev zA (X:Cx)(N':List Str)(scope:Scope)(C:Addr)(cells:List (Str×Addr))(s:af)(H:Hp)(ex:List Addr):Cx where
 prog:=X.prog
 w:=X.w
 K:=X.K
 mg:=X.mg
 base:=X.base
 A:=X.A
 N:=N'
 s₀:=s
 H₀:=H
 env:={ scope:=eG scope X.env,locals:=C,globals:=X.env.globals,cells:=cells,qual:=X.env.qual,func:=none,code:=X.env.code,frame:=X.env.frame,builtins:=X.env.builtins }
 outer:=X.stack
 stack:=X.stack
 ex:=ex
 fn:=λ x=>scope.names.lookup x==some .cell
 calm:=X.calm
 pn:=[]
 xe:=λ _ _=>False
def PIf (X:Cx)(ifs:List Expr)(t:TT):Prop :=
 ∀(pins:List (Addr×Obj)) (s:af) (σ:St) (H:Hp) (Q:Bool->Hp->Prop),Inv X pins σ H s->t σ H Q ->
  wpAny (model X.prog X.w) X.A (forIn ifs true λ c r=>if r=true then do let ok <- dQ c X.env (eval c X.env);pure (ForInStep.yield ok)else pure (ForInStep.yield r)) (TP X pins σ Q) X.xe s
def bV5:TT:=λ _ H Q=>Q true H
theorem bk2 {X:Cx}:PIf X [] bV5:=λ _ _ _ H _ I h=>wpAny_tests_nil ⟨H,I,h⟩
theorem bs8 {X:Cx}{c:Expr}{t:TT}(h:PT X c t):PIf X [c] t:=λ F s σ H Q I hw=>wpAny_tests_one (h F s σ H Q I hw)
noncomputable def au0 (src:List (Option Nat))(σ:St):St:=src.map λ o=>match o with|none=>none|some j=>(σ[j]?).join
def tComp (src:List (Option Nat))(wi:TI)(g:TG)(tc:TT)(te:TE):TE:=λ σ H Q=>wi σ H λ J H1=>∀ D,H1 D=none ->
 ∃ W:Nat->Nat->St->Hp->Prop,(∃ m,W 0 m (au0 src σ) (upd H1 D (.lst [])))/\∀ i m σ' H',W i m σ' H' ->
  (J.stop i H'/\Q (.ref D) H')\/(J.go i H'/\∃ N:St->Hp->Prop,(∀ σ2 H2,N σ2 H2->∃ m',m'<m/\W (i+1) m' σ2 H2) /\
   ∀ x H2,J.yld i H' x H2->g x σ' H2 λ σ3 H3=>tc σ3 H3 λ b H4=>if b=true then te σ3 H4 λ v H5=>∃ ys,H5 D=some (.lst ys)/\ys.length<aH/\N σ3 (upd H5 D (.lst (ys++[v])))else N σ3 H4)
theorem zZ {env:Env}:∀ {names:List (Str×cj)} {x:Str} {k:cj},names.lookup x=some k ->
  (names.map λ(n,k)=>if(k==NameKind.free&&env.scope.kind==.function&&env.kindOf n==some .cell)then(n,NameKind.cell)else(n,k)).lookup x =
   some (if(k==NameKind.free&&env.scope.kind==.function&&env.kindOf x==some .cell)then NameKind.cell else k)
 | [],_,_,h=>by simp at h
 | (n,k)::r,x,k',h=>by
  have F:=@zZ env r x k'
  show kt x ((if(k==NameKind.free&&env.scope.kind==.function&&env.kindOf n==some .cell)=true then(n,NameKind.cell)else(n,k))::_)=_
  cases hx:x==n with
  | true =>
   have e:=beq_iff_eq.mp hx
   subst e
   simp only[aZ,hx]at h
   cases h
   by_cases hc:(k==NameKind.free&&env.scope.kind==.function&&env.kindOf x==some .cell)=true
   ·rw[if_pos hc,if_pos hc];simp only[aZ,hx]
   ·rw[if_neg hc,if_neg hc];simp only[aZ,hx]
  | false =>
   simp only[aZ,hx]at h
   by_cases hc:(k==NameKind.free&&env.scope.kind==.function&&env.kindOf n==some .cell)=true
   ·rw[if_pos hc];simp only[aZ,hx];exact F h
   ·rw[if_neg hc];simp only[aZ,hx];exact F h
theorem zU {env:Env}:∀ {names:List (Str×cj)} {x:Str},names.lookup x=none ->
  (names.map λ(n,k)=>if(k==NameKind.free&&env.scope.kind==.function&&env.kindOf n==some .cell)then(n,NameKind.cell)else(n,k)).lookup x=none
 | [],_,_=>rfl
 | (n,k)::r,x,h=>by
  have F:=@zU env r x
  show kt x ((if(k==NameKind.free&&env.scope.kind==.function&&env.kindOf n==some .cell)=true then(n,NameKind.cell)else(n,k))::_)=_
  cases hx:x==n with
  | true=>simp only[aZ,hx]at h;cases h
  | false =>
   simp only[aZ,hx]at h
   by_cases hc:(k==NameKind.free&&env.scope.kind==.function&&env.kindOf n==some .cell)=true
   ·rw[if_pos hc];simp only[aZ,hx];exact F h
   ·rw[if_neg hc];simp only[aZ,hx];exact F h
theorem am9 {X:Cx}{N':List Str}{src:List (Option Nat)}{scope:Scope}{a5:List (Addr×Obj)}{σ:St}{H:Hp}{s s4:af}{fp:List Addr}
  (G:CompCk N' src scope X.N X.env.scope) (I:Inv X a5 σ H s) (hf:∀ b∈fp,FpOk X a5 H b) (b1:∀ b∈fp,b<s.heap.objs.size)
  (e4:∃ tk,s4={ s with heap:=eB (s.heap.push { cls:=.type "dict",data:=.dict #[] }) scope.names,toks:=tk }) :
  Inv (zA X N' scope s.heap.objs.size (aI (s.heap.objs.size+1) scope.names (af8 X.env.cells scope.names [])) s H fp) [] (au0 src σ) H s4:=by
 obtain⟨tk,rfl⟩:=e4
 have hk:∀ b o,s.heap.get? b=some o->(eB (s.heap.push { cls:=.type "dict",data:=.dict #[] }) scope.names).get? b=some o:=λ b o e=>dg _ _ b o (ai _ e)
 have ok:=cellsFrom_ok scope.names (s.heap.push { cls:=.type "dict",data:=.dict #[] }) (s.heap.objs.size+1) [] ⟨λ _ _ hm=>(nomatch hm),List.Pairwise.nil⟩ (by rw[bP];exact am _)
 rw[bP]at ok
 have a0:=ze scope.names (s.heap.objs.size+1) (af8 X.env.cells scope.names [])
 have lk:∀ x c,(aI (s.heap.objs.size+1) scope.names (af8 X.env.cells scope.names [])).lookup x=some c ->
   ((x,c)∈aI (s.heap.objs.size+1) scope.names []/\(x,NameKind.cell)∈scope.names)\/(X.env.cells.lookup x=some c/\(aI (s.heap.objs.size+1) scope.names []).lookup x=none):=λ x c e=>by
  rw[a0,zy]at e
  cases q:(aI (s.heap.objs.size+1) scope.names []).lookup x with
  | some d =>
   rw[q]at e
   have e':d=c:=au e
   subst e'
   have hm:=aF q
   refine .inl ⟨hm,?_⟩
   rcases zr hm with z|z
   ·exact z
   ·exact absurd z (by simp)
  | none =>
   rw[q]at e
   have e':(af8 X.env.cells scope.names []).lookup x=some c:=e
   rcases clOf_mem (aF e')with z|z
   ·exact .inr ⟨z,rfl⟩
   ·exact absurd z (by simp)
 have up:∀ x c,(x,c)∈aI (s.heap.objs.size+1) scope.names []->s.heap.objs.size+1<=c:=λ x c h=>(ok.empty x c h).2
 have b3:∀ x c,X.env.cells.lookup x=some c->c<s.heap.objs.size:=λ x c h=>by
  obtain⟨v,q⟩:=I.cell x c h
  exact q.lt
 have a4:∀ b,b<s.heap.objs.size->b≠s.heap.objs.size:=λ b h=>ay h
 have b2:∀ b∈fp,H b=none/\b≠X.env.locals/\b ∉ X.fs:=λ b hb=>⟨(hf b hb).1,(hf b hb).2.1,(hf b hb).2.2.1⟩
 have b5:(eB (s.heap.push { cls:=.type "dict",data:=.dict #[] }) scope.names).Ns s.heap.objs.size (λ _=>none):=(ku s.heap (.type "dict")).keeps (dg _ _)
 have Z:∀ x k,scope.names.lookup x=some k->(eG scope X.env).names.lookup x=some (if(k==NameKind.free&&X.env.scope.kind==.function&&X.env.kindOf x==some .cell)then NameKind.cell else k):=λ x k e=>zZ (env:=X.env) e
 have a3:∀ x,scope.names.lookup x=none->(eG scope X.env).names.lookup x=none:=λ x e=>zU (env:=X.env) e
 have b0:∀ x c,(x,NameKind.free)∈scope.names->X.env.cells.lookup x=some c->(aI (s.heap.objs.size+1) scope.names (af8 X.env.cells scope.names [])).lookup x=some c:=λ x c hx hc=>by
  rw[a0,zy]
  cases q:(aI (s.heap.objs.size+1) scope.names []).lookup x with
  | some d =>
   rcases zr (aF q)with z|z
   ·have:=G.cel _ z rfl _ hx rfl
    cases this
   ·exact absurd z (by simp)
  | none=>exact az6 hc hx
 have a6:∀ x,(x,NameKind.free)∈scope.names->∃ c,X.env.cells.lookup x=some c:=λ x hx=>I.ok.has x (G.fr _ hx rfl)
 refine⟨⟨I.ok.mod,G.kind,I.ok.glob,I.ok.blt,am _,λ x y c e1 e2=>?_,λ x hx=>?_,λ x c hx e=>?_,I.ok.hd,I.ok.frames,.inl rfl,λ b hb=>⟨a4 b (b1 b hb),λ x c e z=>?_⟩,I.bs,av I.ok.bsz I.sz,λ b o e hb=>?_,λ b hb z=>?_,I.stack,I.stkFree⟩,
  rfl,I.bare,Un.kept hk,⟨_,b5,λ i x v e1 e2 e3=>?_⟩,λ x c e=>?_,I.hok.fresh (am _),λ x c e=>?_,λ p hp=>absurd (show p∈([]:List (Addr×Obj))from hp) (by simp),I.hok.kept hk,by unfold au0;rw[aw];exact G.len⟩
 ·rcases lk x c e1 with⟨a1,_⟩|⟨a1,_⟩<;>rcases lk y c e2 with⟨a2,_⟩|⟨a2,_⟩
  ·exact gh ok.apart a1 a2
  ·exact absurd (ao (b3 _ _ a2) (fG (up _ _ a1))) (bo _)
  ·exact absurd (ao (b3 _ _ a1) (fG (up _ _ a2))) (bo _)
  ·exact I.ok.inj x y c a1 a2
 ·cases q:scope.names.lookup x with
  | none =>
   have F:(eG scope X.env).names.lookup x=some .cell\/(eG scope X.env).names.lookup x=some .free:=hx
   rw[a3 x q]at F
   rcases F with z|z<;>cases z
  | some k =>
   have F:(eG scope X.env).names.lookup x=some .cell\/(eG scope X.env).names.lookup x=some .free:=hx
   rw[Z x k q]at F
   cases k with
   | free =>
    obtain⟨c,hc⟩:=a6 x (aF q)
    exact⟨c,b0 x c (aF q) hc⟩
   | cell =>
    obtain⟨c,hc⟩:=zI (n:=s.heap.objs.size+1) q
    exact⟨c,by show(aI _ _ _).lookup x=_;rw[a0,zy,hc];rfl⟩
   | _=>rcases F with z|z<;>cases z
 ·have F:(scope.names.lookup x==some .cell)=true:=hx
  have q:scope.names.lookup x=some .cell:=by simpa using F
  rcases lk x c e with⟨a,_⟩|⟨a,b⟩
  ·have:=up _ _ a;show s.heap.objs.size<=c;omega
  ·obtain⟨d,hd⟩:=zI (n:=s.heap.objs.size+1) q
   rw[hd]at b;cases b
 ·subst z
  rcases lk x c e with⟨a,_⟩|⟨a,_⟩
  ·exact absurd (ao (b1 c hb) (fG (up _ _ a))) (bo _)
  ·exact(hf c hb).2.2.2.2.1 x c a rfl
 ·rcases(hf b hb).2.2.2.1 with z|z
  ·exact I.ok.noex b o e z
  ·exact absurd (ao (az e) (av I.ok.bsz z)) (bo _)
 ·rcases ax.mp (I.stkSub b z)with y|y
  ·exact(b2 b hb).2.1 y
  ·exact(b2 b hb).2.2 y
 ·have J:(au0 src σ)[i]?=some (some v):=e2
  unfold au0 at J
  rw[aB]at J
  cases q:src[i]? with
  | none=>rw[q]at J;cases J
  | some o =>
   rw[q]at J
   cases o with
   | none=>cases J
   | some j =>
    have Y:(σ[j]?).join=some v:=au J
    have ej:σ[j]?=some (some v):=by
     cases q2:σ[j]? with
     | none=>rw[q2]at Y;cases Y
     | some o2=>rw[q2]at Y;exact congrArg some Y
    obtain⟨h1,h2⟩:=G.sr i j x q e1
    have hm:=aF h2
    obtain⟨mX,c0,b6⟩:=I.loc
    have b4:Vis X.env.scope x:=by
     rcases G.fr _ hm rfl with z|z
     ·exact .inr (.inl z)
     ·exact .inr (.inr z)
    obtain⟨u,ru,look⟩:=b6 j x v h1 ej b4
    refine⟨u,ru,.inr ?_⟩
    have hcell:∃ c,X.env.cells.lookup x=some c/\s.heap.IsCell c (some u):=by
     rcases look with⟨z,_⟩|⟨_,c,z1,z2⟩
     ·have z':X.env.scope.names.lookup x=some .local:=z
      rcases G.fr _ hm rfl with y|y<;>(rw[z']at y;cases y)
     ·exact⟨c,z1,z2⟩
    obtain⟨c,c1,c2⟩:=hcell
    refine⟨?_,c,b0 x c hm c1,c2.keeps hk⟩
    show(eG scope X.env).names.lookup x=some .cell\/(eG scope X.env).names.lookup x=some .free
    rw[Z x _ h2]
    by_cases hc:(NameKind.free==NameKind.free&&X.env.scope.kind==.function&&X.env.kindOf x==some .cell)=true
    ·rw[if_pos hc];exact .inl rfl
    ·rw[if_neg hc];exact .inr rfl
 ·rcases lk x c e with⟨a,_⟩|⟨a,_⟩
  ·exact⟨_,(ok.empty x c a).1⟩
  ·obtain⟨v,q⟩:=I.cell x c a
   exact⟨v,q.keeps hk⟩
 ·rcases lk x c e with⟨a,_⟩|⟨a,_⟩
  ·exact I.hok.fresh (by have:=up _ _ a;omega)
  ·exact I.freeC x c a
theorem aB1 {X:Cx}{N':List Str}{scope:Scope}{h:List (Addr×Obj)}{σ σ':St}{H Y:Hp}{s s5:af}{G:List Addr}{cells:List (Str×Addr)}{h':Heap}
  (I:Inv X h σ H s) (Z:∀ b∈G,FpOk X h H b) (J:Inv (zA X N' scope s.heap.objs.size cells s H G) [] σ' Y s5) (hs:bV s.heap.objs.size s5.heap h') :
  Inv X h σ Y { s5 with heap:=h' }:=by
 have F:∀ b o,s.heap.get? b=some o->b≠s.heap.objs.size:=λ b o e=>ay (az e)
 have u:Un (frs X.stack) G H Y s.heap s5.heap:=J.base
 refine I.call' (s':={ s5 with heap:=h' }) (ch:=G) J.os ⟨λ b o e n hb hx=>?_,λ b o e n hb hx=>?_,λ b o e n hx=>u.free b o e n hx,λ b o e hx=>?_,u.tups,u.frzs,u.tbls⟩ (λ b o e=>?_) J.bare λ b hb=>⟨(Z b hb).2.2.2.1,(Z b hb).2.1,(Z b hb).2.2.2.2.1,(Z b hb).2.2.2.2.2⟩
 ·exact(hs.2 b (F b o e)).trans (u.keep b o e n hb hx)
 ·obtain⟨sl,q⟩:=u.slot b o e n hb hx
  exact⟨sl,(hs.2 b (F b o e)).trans q⟩
 ·obtain⟨o',q⟩:=u.there b o e hx
  exact⟨o',(hs.2 b (F b o e)).trans q⟩
 ·have fr:Y s.heap.objs.size=none:=J.free
  refine(J.hok b o e).stay (λ c w' hc q=>(hs.2 c ?_).trans q) (λ _ q=>q) λ _ _ q=>q
  rintro rfl
  rcases hc with z|hc
  ·rw[<-z,fr]at e;cases e
  ·rw[fr]at hc;cases hc
theorem ad1 {M:Model}{A:aM}{E:Value->af->Prop}{s:af}{scope:Scope}{globals:Addr}{G:List (Str×Addr)}{qual:Str}{F:Env}{Q:Env->af->Prop}
  (h:Q { scope:=scope,locals:=s.heap.objs.size,globals:=globals,cells:=aI (s.heap.objs.size+1) scope.names G,qual:=qual,func:=none,code:=F.code,frame:=F.frame,builtins:=F.builtins }
   { s with heap:=eB (s.heap.push { cls:=.type "dict",data:=.dict #[] }) scope.names }) :
  wpAny M A (ft scope globals G [] qual none .none (some F)) Q E s:=by
 simp only[ft,cA,if_true]
 refine ah (wpAny_alloc ?_)
 refine ah (wpAny_layCells _ (λ name kind cells=>by cases hkc:kind==NameKind.cell<;>simp[hkc]) _ _ _ _ ?_)
 rw[show({ s with heap:=s.heap.push { cls:=.type "dict",data:=.dict #[] } }:af).heap.objs.size=s.heap.objs.size+1 from bP ..]
 refine ah ?_
 rw[gW]
 exact aA (aA h)
theorem ar1 {X':Cx}{R:jl->af->Prop}{a2 tg iter:Expr}{a0:List Expr}{scope:Scope}{pos:Pos}{g:TG}{tc:TT}{te:TE}{J:It}{fp:List Addr}{it D:Addr}{tn:Nat->Heap->Prop}{W:Nat->Nat->St->Hp->Prop}
  {QD:Hp->Prop} {σ0:St} {H0:Hp} {s4:af} {m0:Nat} (hx:X'.xe=λ _ _=>False) (G:X'.calm=true) (I4:Inv X' [] σ0 H0 s4) (T:Turn X'.prog X'.w X'.K tg J fp it tn) (b0:tn 0 s4.heap)
  (F:∀ H':Hp,(∀ b∈fp,H' b=none)->∀ b∈fp,FpOk X' [] H' b) (b1:∀ b∈fp,H0 b=none) (w0:W 0 m0 σ0 H0)
  (turn:∀ i m σ' H',W i m σ' H'->(J.stop i H'/\QD H')\/(J.go i H'/\∃ N:St->Hp->Prop,(∀ σ2 H2,N σ2 H2->∃ m',m'<m/\W (i+1) m' σ2 H2) /\
   ∀ x H2,J.yld i H' x H2->g x σ' H2 λ σ3 Y=>tc σ3 Y λ b H4=>if b=true then te σ3 H4 λ v H5=>∃ ys,H5 D=some (.lst ys)/\ys.length<aH/\N σ3 (upd H5 D (.lst (ys++[v])))else N σ3 H4))
  (hg:PG X' tg g) (hif:PIf X' a0 tc) (he:PE X' a2 te) (a3:∀ σ' H' s',Inv X' [] σ' H' s'->QD H'->R (.ok .next) s') :
  d4 (model X'.prog X'.w) X'.A (.compLoop (.ListComp a2 [⟨tg,iter,a0,0⟩] scope pos) 0 (.ref it) (.ref D) X'.env) R s4:=by
 have nox:∀ {α:Type} {t:Sem α} {Q Q':α->af->Prop} {E:Value->af->Prop} {s:af},wpAny (model X'.prog X'.w) X'.A t Q X'.xe s->(∀ a s,Q a s->Q' a s)->wpAny (model X'.prog X'.w) X'.A t Q' E s :=
  λ h hQ=>bj h hQ λ _ _ z=>by rw[hx]at z;exact z.elim
 refine aO4 (λ n s'=>∃ i σ' H',Inv X' [] σ' H' s'/\tn i s'.heap/\(∀ b∈fp,H' b=none)/\W i n σ' H') ?_ m0 ⟨0,σ0,H0,I4,b0,b1,w0⟩
 rintro n s3 ⟨i,σ3,Y,I3,a4,a1,w3⟩
 rcases turn i n σ3 Y w3 with⟨stop,qn⟩|⟨go,N,hN,step⟩
 ·refine nox (T.done X' rfl rfl rfl G i [] s3 σ3 Y X'.xe I3 (F Y a1) a4 stop) λ r s4 ⟨hr,I4⟩=>?_
  subst hr
  exact a3 σ3 Y s4 I4 qn
 ·refine nox (T.item X' rfl rfl rfl G i [] s3 σ3 Y X'.xe I3 (F Y a1) a4 go) λ r s4 ⟨u,hr,h4⟩=>?_
  subst hr
  refine nox h4 λ _ s5 ⟨x,H5,I5,r5,y5,Z,a5⟩=>?_
  have a6:=I5.pinned (F H5 a5) (T.obj _ _ Z)
  refine nox (hg _ s5 σ3 H5 x u _ a6 r5 (step x H5 y5)) λ _ s6 ⟨σ6,H6,I6,q6⟩=>?_
  have again:∀ {σ7:St} {H7:Hp} {s7:af},Inv X' ([]++aq2 fp s5.heap) σ7 H7 s7->N σ7 H7->∃ m,m<n/\∃ i σ' H',Inv X' [] σ' H' s7/\tn i s7.heap/\(∀ b∈fp,H' b=none)/\W i m σ' H':=λ {σ7 H7 s7} I7 n7=>by
   obtain⟨m',hm,w7⟩:=hN σ7 H7 n7
   refine⟨m',hm,i+1,σ7,H7,I7.unpinned,T.keep _ _ _ Z λ b hb o e=>(I7.pin (b,o) (aN _ (aN _ (qx hb e)))).1,λ b hb=>?_,w7⟩
   obtain⟨o,e,d⟩:=T.obj _ _ Z b hb
   exact(I7.pin (b,o) (aN _ (aN _ (qx hb e)))).2.1
  refine nox (hif _ s6 σ6 H6 _ I6 q6) λ b s7 ⟨H7,I7,q7⟩=>?_
  cases b with
  | false =>
   rw[if_neg aQ]at q7 ⊢
   exact again I7 q7
  | true =>
   rw[if_pos rfl]at q7 ⊢
   refine nox (he _ s7 σ6 H7 _ I7 q7) λ v s8 ⟨y,H8,I8,r8,ys,hy,hz,q8⟩=>?_
   refine nox (as3 _ s8 σ6 H8 (.ref D) [y] (.ref D) [v] (λ _ H9=>N σ6 H9) I8 rfl (.cons r8 .nil) ⟨D,ys,y,rfl,rfl,hy,hz,q8⟩) λ v9 s9 ⟨_,H9,I9,_,q9⟩=>?_
   exact again I9 q9
theorem aM8 {X:Cx}{a3 tg iter:Expr}{a0:List Expr}{scope:Scope}{pos:Pos}{wi:TI}{g:TG}{tc:TT}{te:TE}(N':List Str)(src:List (Option Nat))
  (b1:zJ N' src scope X.N X.env.scope=true) (hi:PI X tg iter wi) (Z:X.calm=true)
  (b0:∀(C:Addr) (cells:List (Str×Addr)) (s:af) (H:Hp) (ex:List Addr),PG (zA X N' scope C cells s H ex) tg g/\PIf (zA X N' scope C cells s H ex) a0 tc/\PE (zA X N' scope C cells s H ex) a3 te)
  (hs:∀ x,dq iter X.env x=pure x:=by intro _;rfl):PE X (.ListComp a3 [⟨tg,iter,a0,0⟩] scope pos) (tComp src wi g tc te):=by
 intro F s σ H Q I h
 have ck:=bh7 b1
 rw[eval_ListComp]
 have b3:=qg (scope:=scope) (env:=X.env) λ y hy e=>I.ok.has y.1 (ck.fr y hy e)
 refine fU (use:=none) rfl hs b3 ck.kind ck.loc (thn (hi F s σ H _ I h) λ v s1 h1=>thn h1 λ b6 s2 h2=>?_)
 obtain⟨it,G,tn,J,H2,e,I2,T,a4,f2,W⟩:=h2
 subst e
 have hD:=I2.fresh
 obtain⟨W,⟨m0,w0⟩,turn⟩:=W _ hD
 have I3:=I2.lnew (its:=[]) (ys:=[]) (t':=s2.toks) .nil (eO _)
 have a1:∀ b∈G,b<s2.heap.objs.size:=λ b hb=>by obtain⟨o,q,_⟩:=T.obj _ _ a4 b hb;exact az q
 have f3:∀ b∈G,FpOk X F (upd H2 s2.heap.objs.size (.lst [])) b:=λ b hb=>⟨by rw[zb (ay (a1 b hb))];exact(f2 b hb).1,(f2 b hb).2⟩
 refine b7 (ad1 ?_)
 generalize Y:({ s2 with heap:=s2.heap.push { cls:=.type "list",data:=.seq ([]:List Value).toArray },toks:=s2.toks }:af)=s3 at I3
 have b5:({ s2 with heap:=s2.heap.push { cls:=.type "list",data:=.seq ([]:List Value).toArray } }:af)=s3:=Y
 have b2:∀ b∈G,b<s3.heap.objs.size:=λ b hb=>by
  rw[<-Y]
  show b<(s2.heap.push _).objs.size
  rw[bP]
  exact fH (a1 b hb)
 have I4:=am9 (s4:={ s3 with heap:=eB (s3.heap.push { cls:=.type "dict",data:=.dict #[] }) scope.names }) ck I3 f3 b2 ⟨_,rfl⟩
 have a5:tn 0 (eB (s3.heap.push { cls:=.type "dict",data:=.dict #[] }) scope.names):=T.keep _ _ _ a4 λ b hb o e=>dg _ _ b o (ai _ (by rw[<-Y];exact ai _ e))
 obtain⟨hg,hif,he⟩:=b0 s3.heap.objs.size (aI (s3.heap.objs.size+1) scope.names (af8 X.env.cells scope.names [])) s3 (upd H2 s2.heap.objs.size (.lst [])) G
 have a2:∀ H':Hp,(∀ b∈G,H' b=none)->∀ b∈G,FpOk (zA X N' scope s3.heap.objs.size (aI (s3.heap.objs.size+1) scope.names (af8 X.env.cells scope.names [])) s3 (upd H2 s2.heap.objs.size (.lst [])) G) [] H' b:=λ H' hn b hb =>
  ⟨hn b hb,(I4.ok.exf b hb).1,I4.ok.exfs b hb,.inl hb,λ x c e=>(I4.ok.exf b hb).2 x c e,λ p hp=>absurd (show p∈([]:List (Addr×Obj))from hp) (by simp)⟩
 have T':Turn X.prog X.w X.K tg J G it tn:=T
 have a6:∀ b∈G,upd H2 s2.heap.objs.size (.lst []) b=none:=λ b hb=>(f3 b hb).1
 have L:=ar1 (X':=zA X N' scope s3.heap.objs.size (aI (s3.heap.objs.size+1) scope.names (af8 X.env.cells scope.names [])) s3 (upd H2 s2.heap.objs.size (.lst [])) G) (R:=compPost (model X.prog X.w) X.A X.xe none (EP X F σ Q) (Value.ref s2.heap.objs.size) s3.heap.objs.size) (iter:=iter) (scope:=scope) (pos:=pos) (QD:=λ H'=>Q (.ref s2.heap.objs.size) H') rfl Z I4 T' a5 a2 a6 w0 turn hg hif he
  (λ σ' H' s' J' q=>by
   obtain⟨mm,hn,_⟩:=J'.loc
   exact⟨mm,hn,λ h' b4=>⟨.ref s2.heap.objs.size,H',aB1 I3 f3 J' b4,rfl,q⟩⟩)
 exact gv L (T.self _ _ _ _ _ a5 L)
section
variable {X:Cx}
theorem bK4:a9 "abs"=some (.builtin "abs"):=by decide +kernel
theorem bQ4:a9 "len"=some (.builtin "len"):=by decide +kernel
theorem aV6:a9 "min"=some (.builtin "min"):=by decide +kernel
theorem bL4:a9 "max"=some (.builtin "max"):=by decide +kernel
theorem bP0:a9 "all"=some (.builtin "all"):=by decide +kernel
theorem qu:a9 "isinstance"=some (.builtin "isinstance"):=by decide +kernel
theorem bG4:a9 "int"=some (.type "int"):=by decide +kernel
theorem bB7:a9 "bool"=some (.type "bool"):=by decide +kernel
theorem bL9:a9 "str"=some (.type "str"):=by decide +kernel
theorem aR7:a9 "tuple"=some (.type "tuple"):=by decide +kernel
theorem bi2:a9 "list"=some (.type "list"):=by decide +kernel
def bN9 (i j:Int):Prop:=0<j/\j<2^4096
theorem aH8 {y:Int}(h0:0<y)(h:y<2^4096):y.natAbs.log2<9000:=by
 have hn:y.natAbs<2^4096:=by
  have:(y.natAbs:Int)=y:=by omega
  have F:(y.natAbs:Int)<((2^4096:Nat):Int):=by rw[this];simpa using h
  exact jc.mp F
 have:=(Nat.log2_lt (by omega)).mpr hn
 omega
theorem bd9:OpR X (bZ .FloorDiv) (rI bN9 λ i j=>.int (i / j)):=opI λ i j _ _ _ _ _ hc q=>by
 refine floordiv_int (by have:=hc.1;omega) ?_ (.inl (PyProof.noPylong_of_log2 (aH8 hc.1 hc.2)))
 rw[fm i (by have:=hc.1;omega)]
 exact q
theorem aC4 {K:ae}(h:X.K=K):IxR X (bR2 K):=by subst h;exact br6
theorem bt9 {K:ae}(h:X.K=K):IxR X (bT4 K):=by subst h;exact ix_tup
theorem aj5 {K:ae}(h:X.K=K):ab1 X (.builtin "len") (λ F H Q=>∃ p ys,F=[.ref p]/\(SqL K H p ys\/SqT K H p ys)/\Q (.int ys.length) H):=by subst h;exact ar0
theorem av9 {K:ae}(h:X.K=K):ab1 X (.type "tuple") (λ F H Q=>∃ p ys,F=[.ref p]/\((SqL K H p ys/\∀ l,H l=none->Q (.ref l) (upd H l (.tup ys)))\/(SqT K H p ys/\Q (.ref p) H))):=by subst h;exact ap5
theorem aI5 {K:ae}(h:X.K=K):ab1 X (.type "list") (λ F H Q=>∃ p ys,F=[.ref p]/\(SqL K H p ys\/SqT K H p ys)/\∀ l,H l=none->Q (.ref l) (upd H l (.lst ys))):=by subst h;exact ar3
theorem aW5 {K:ae}{tg l:Expr}{h:TE}(F:X.K=K)(hl:PE X l h):PI X tg l (bm0 K h):=by subst F;exact bi7 hl
theorem bm3 {K:ae}{tg l:Expr}{h:TE}(F:X.K=K)(hl:PE X l h):PI X tg l (bO0 K h):=by subst F;exact bB0 hl
theorem bu6 {K:ae}{pos:Pos}{es:List Expr}{k:Nat}{t:TGs}{n:Nat}(G:X.K=K)(hc:X.calm=true)(h:PGs X es t)
  (hn:(cy es X.env).length=n:=by rfl) (F:(cy es X.env).findIdx? (·.1)=none:=by rfl):PG X (.Tuple es k pos) (bK8 K n t):=by subst G;exact bw1 hc h hn F
end
structure DefAt (K:ae)(mg:Str->Option Value)(x:Str)(st:Stmt)(ps:List Str)(f:Addr)(fd:bF):Prop where
 fn:Fun K x x st f fd
 mg:mg x=some (.ref f)
 bi:Binds K fd ps []
@[irreducible] noncomputable def bV9 (p:Prop):Prop:=p
theorem ac1.new {p:Addr}{H F:Hp}{o:HO}(h:ac1 H F)(hp:F p=none):ac1 H (L2.upd F p o):=λ x o e=>by
 have e1:=h x o e
 rw[zb (zm e1 hp)]
 exact e1
section
variable {prog:aD} {w:World} {A:aM} {R:jl->af->Prop} {I:Addr} {fp wr:List Addr} {n:Nat} {P:Nat->Value->Prop} {St:Nat->Heap->Prop} {kw:List (Str×Value)}
theorem aN3 (W:Walks prog w A.in1 I fp wr n P St)(bt:Nat->Nat->Bool)(b1:CmpOf prog w A.in1 .Lt P bt)(S:Addr)(b0:S ∉ fp) :
  ∀(k j:Nat) (s:af) (vb:Value) (c:Nat),n - (j+1)=k->j+1<=n->St (j+1) s.heap->P (bu bt j) vb ->
  s.heap.get? S=some { cls:=.type "list",dict:=none,data:=.seq #[vb,vb] c,slots:=#[] } ->
  (∀ v h' tk,P (bu bt (n - 1)) v->(∀ b o,b ∉ wr->b≠S->s.heap.get? b=some o->h'.get? b=some o)->R (.ok (.ret v)) { s with heap:=h',toks:=tk }) ->
  d4 (model prog w) A (.builtin "min.loop" ⟨[.ref I,.none,.ref S],kw⟩) R s:=by
 have b3:S ∉ wr:=λ h=>b0 (W.sub _ h)
 have Y:(toString "min"++toString ".loop":String) = "min.loop":=by decide
 intro k
 induction k with
 | zero =>
  intro j s vb c hk hj a5 a2 hS hR
  have b2:j+1=n:=by omega
  refine cI cR ?_
  rw[cn bh _]
  show wpAny _ A.in1 (eD (.ref S) >>= _) _ _ s
  refine ah (cB hS rfl ?_)
  show wpAny _ A.in1 (tryCatch (fj (.ref I)) _ >>= _) _ _ s
  refine ah (bU (W.done s _ _ (b2▸a5) λ h' tk J=>?_))
  have a1:=J S _ b3 hS
  show wpAny _ A.in1 (jp S (λ _=>#[]) >>= _) _ _ _
  refine ah ?_
  refine dh a1 rfl (ah (cY (aA ?_)))
  refine hR vb _ tk (by rw[<-b2];exact a2) λ b o F G e=>(aY _ _ (bX G)).trans (J b o F e)
 | succ k ih =>
  intro j s vb c hk hj a5 a2 hS hR
  have hlt:j+1<n:=by omega
  refine cI cR ?_
  rw[cn bh _]
  show wpAny _ A.in1 (eD (.ref S) >>= _) _ _ s
  refine ah (cB hS rfl ?_)
  show wpAny _ A.in1 (tryCatch (fj (.ref I)) _ >>= _) _ _ s
  refine ah (bU (W.item (j+1) s _ _ hlt a5 λ v h' tk hP a3 J=>?_))
  have a1:=J S _ b3 hS
  show wpAny _ A.in1 (tryCatch (fD [v,v] (richCompare .Lt v vb >>= _)) _ >>= _) _ _ _
  refine ah (bU (bT (ah (b1 (j+1) (bu bt j) v vb _ _ _ hP a2 ?_))))
  refine ah (bT (br ?_))
  refine ah (cY (aA ?_))
  cases hb:bt (j+1) (bu bt j)with
  | true =>
   simp only[if_true]
   refine ah ?_
   refine dh a1 rfl (ah (cY ?_))
   rw[Y]
   refine aA ⟨cQ bh _,ih (j+1) _ v _ (by omega) hlt (W.frame _ _ _ a3 λ b b4 o e=>?_) (by simp only[bu,hb,if_true];exact hP) (b8 _ a1 rfl)
    λ v' a4 Z a6 a0=>?_⟩
   ·exact(aY _ _ (λ h:S=b=>b0 (by rw[h];exact b4))).trans e
   ·exact hR v' a4 Z a6 λ b o F G e=>a0 b o F G ((aY _ _ (bX G)).trans (J b o F e))
  | false =>
   simp only[bO,if_false]
   refine ah (cY ?_)
   rw[Y]
   refine aA ⟨cQ bh _,ih (j+1) _ vb c (by omega) hlt a3 (by simp only[bu,hb,bO,if_false];exact a2) a1 λ v' a4 Z a6 a0=>?_⟩
   exact hR v' a4 Z a6 λ b o F G e=>a0 b o F G (J b o F e)
theorem aJ5 (W:Walks prog w A.in1 I fp wr n P St)(bt:Nat->Nat->Bool)(Z:CmpOf prog w A.in1 .Lt P bt)(S:Addr)(J:S ∉ fp){s:af}{c:Nat}{d:Value}(a3:St 0 s.heap)
  (hS:s.heap.get? S=some { cls:=.type "list",dict:=none,data:=.seq #[] c,slots:=#[] })
  (h0:n=0->∀ h' tk,(∀ b o,b ∉ wr->b≠S->s.heap.get? b=some o->h'.get? b=some o)->R (.ok (.ret d)) { s with heap:=h',toks:=tk })
  (hR:0<n->∀ v h' tk,P (bu bt (n - 1)) v->(∀ b o,b ∉ wr->b≠S->s.heap.get? b=some o->h'.get? b=some o)->R (.ok (.ret v)) { s with heap:=h',toks:=tk }) :
  d4 (model prog w) A (.builtin "min.loop" ⟨[.ref I,.none,.ref S],[(aW "default",d)]⟩) R s:=by
 have b1:S ∉ wr:=λ h=>J (W.sub _ h)
 have Y:(toString "min"++toString ".loop":String) = "min.loop":=by decide
 refine cI cR ?_
 rw[cn bh _]
 show wpAny _ A.in1 (eD (.ref S) >>= _) _ _ s
 refine ah (cB hS rfl ?_)
 show wpAny _ A.in1 (tryCatch (fj (.ref I)) _ >>= _) _ _ s
 rcases Nat.eq_zero_or_pos n with hn|hn
 ·refine ah (bU (W.done s _ _ (hn▸a3) λ h' tk G=>?_))
  show wpAny _ A.in1 (rule _ >>= _) _ _ _
  refine ah (iR (aA ?_))
  exact h0 hn h' tk λ b o F _ e=>G b o F e
 ·refine ah (bU (W.item 0 s _ _ hn a3 λ v h' tk hP a5 G=>?_))
  have a4:=G S _ b1 hS
  show wpAny _ A.in1 (jp S (λ _=>#[v,v]) >>= _) _ _ _
  refine ah ?_
  refine dh a4 rfl ?_
  rw[Y]
  refine aA ⟨cQ bh _,aN3 W bt Z S J _ 0 _ v _ rfl hn (W.frame _ _ _ a5 λ b b0 o e=>?_) hP (b8 _ a4 rfl) λ v' a6 a0 b2 a2=>?_⟩
  ·exact(aY _ _ (λ h:S=b=>J (by rw[h];exact b0))).trans e
  ·exact hR hn v' a6 a0 b2 λ b o F a1 e=>a2 b o F a1 ((aY _ _ (bX a1)).trans (G b o F e))
end
theorem aK3 (a d:Value):argsOk "min" ⟨[a],[(aW "default",d)]⟩:=by unfold argsOk;kernel_rfl
theorem qD (val : Nat -> Int) : ∀ k j, j <= k -> val (bu (λ i j => decide (val i < val j)) k) <= val j
  | 0, j, h => by have : j = 0 := by omega
                  subst this; exact dW _
  | k + 1, j, h => by
    have ih := qD val k
    unfold bu
    by_cases hb : val (k + 1) < val (bu (λ i j => decide (val i < val j)) k)
    · rw[if_pos (by simpa using hb)]
      by_cases hj : j = k + 1
      · subst hj; exact dW _
      · have := ih j (by omega); omega
    · rw[if_neg (by simpa using hb)]
      by_cases hj : j = k + 1
      · subst hj; omega
      · exact ih j (by omega)
def bt3 (K:ae):V->V->Hp->VK->Prop:=λ x d H Q=>∃ a ns,x=.ref a/\SqL K H a (ns.map V.int)/\(ns=[]->Q d H)/\∀ m∈ns,(∀ y∈ns,m<=y)->Q (.int m) H
theorem ap2 {ns:List Int}{its:List Value}(r:Vals (ns.map V.int) its){i:Nat}{v:Value}(h:its[i]?=some v):∃ z t,ns[i]?=some z/\v=Value.int z t:=by
 have hl:=r.length
 rw[aw]at hl
 have hi:i<its.length:=(ac.mp h).1
 obtain⟨u,e1,q⟩:=r.get (i:=i) (x:=.int ns[i]) (by rw[aB,ag (by omega)];rfl)
 rw[h]at e1;cases e1
 obtain⟨t,rfl⟩:=q
 exact⟨_,t,ag (by omega),rfl⟩
theorem aZ2 {X:Cx}{G:List (Addr×Obj)}{σ:St}{H:Hp}{s:af}{x d:V}{u w':Value}{Q:VK}(hc:X.calm=true)(I:Inv X G σ H s)(rx:RelV x u)(rd:RelV d w')(h:bt3 X.K x d H Q) :
  wpAny (model X.prog X.w) X.A (call (.builtin "min") [u] [(aW "default",w')]) (EP X G σ Q) X.xe s:=by
 obtain⟨a,ns,rfl,hS,q0,qm⟩:=h
 cases rx
 obtain⟨its,rv,pl,hz⟩:=I.list hS
 have hl:=rv.length
 rw[aw]at hl
 have Y:(toString "min"++toString ".loop":String) = "min.loop":=by decide
 refine kmb_tree F.kind_min F.plain_min F.entry_min (aK3 _ _) ?_
 show wpAny _ X.A.in1 (cx "min" ["key", "default"] 0 ⟨[],[(aW "default",w')]⟩ >>= _) _ _ s
 refine ah (gX (show cx "min" ["key", "default"] 0 ⟨[],[(aW "default",w')]⟩=pure [none,some w']from rfl) ?_)
 refine ah (aA ?_)
 refine ah (cK pl.isList ?_)
 have a2:a<s.heap.objs.size:=by obtain⟨o,_,e,_⟩:=pl;exact az e
 have W:=iT (prog:=X.prog) (w:=X.w) (A:=X.A.in1) (I.ok.hd hc) s.heap.objs.size a (ay a2) its.toArray
 refine ah (b7 ?_)
 generalize Z:s.heap.push _=h2
 have J:h2.objs.size=s.heap.objs.size+1:=by rw[<-Z,bP]
 have a0:∀ b o,s.heap.get? b=some o->h2.get? b=some o:=λ b o e=>by rw[<-Z];exact ai _ e
 have a3:h2.objs.size ∉ [s.heap.objs.size,a]:=by
  rw[J]
  intro z
  rcases ax.mp z with z|z
  ·exact absurd z (jq _)
  ·have z':s.heap.objs.size+1=a:=by simpa using z
   exact absurd (ao a2 (by rw[<-z'];exact cM _)) (bo _)
 have a4:(h2.push { cls:=.type "list",data:=.seq ([]:List Value).toArray }).IsListIter s.heap.objs.size a 0/\(h2.push { cls:=.type "list",data:=.seq ([]:List Value).toArray }).IsList a its.toArray:=by
  refine⟨⟨_,ai _ (by rw[<-Z];exact aC _ rfl),rfl,rfl⟩,?_⟩
  obtain⟨o,e,r⟩:=pl.isList
  exact⟨o,ai _ (a0 _ _ e),r⟩
 let val:Nat->Int:=λ i=>ns.getD i 0
 have a1:∀ i v,its.toArray[i]?=some v->∃ t,v=Value.int (val i) t:=λ i v e=>by
  obtain⟨z,t,e1,e2⟩:=ap2 rv (i:=i) (v:=v) (by rw[bI]at e;exact e)
  refine⟨t,?_⟩
  rw[e2]
  show Value.int z t=Value.int (ns.getD i 0) t
  rw[aG,e1]
  rfl
 rw[Y]
 have nx:∀(h':Heap) (tk:Nat),(∀ b o,b ∉ [s.heap.objs.size]->b≠h2.objs.size->(h2.push { cls:=.type "list",data:=.seq ([]:List Value).toArray }).get? b=some o->h'.get? b=some o)->Inv X G σ H { s with heap:=h',toks:=tk }:=λ h' tk k=>I.kept λ b o e=>by
  refine k b o ?_ ?_ (ai _ (a0 b o e))
  ·intro z
   have z':b=s.heap.objs.size:=by simpa using z
   exact absurd (az e) (by rw[z'];exact bo _)
  ·intro z
   exact absurd (az e) (by rw[z,J];exact jQ.mpr (cM _))
 refine aA ⟨cQ bh _,aJ5 (d:=w') W _ (iB val a1) h2.objs.size a3 a4 (aC _ rfl) (λ hn h' tk k=>?_) λ hn v h' tk hP k=>?_⟩
 ·have e:ns=[]:=by
   have:its.toArray.size=0:=hn
   have:its.length=0:=by simpa using this
   exact cS.mp (by omega)
  exact⟨d,H,nx h' tk k,rd,q0 e⟩
 ·obtain⟨z,t,e1,e2⟩:=ap2 rv (i:=bu (λ i j=>decide (val i<val j)) (its.toArray.size - 1)) (v:=v) (by rw[bI]at hP;exact hP)
  subst e2
  have hv:val (bu (λ i j=>decide (val i<val j)) (its.toArray.size - 1))=z:=by
   show ns.getD _ 0=z
   rw[aG,e1]
   rfl
  refine⟨.int z,H,nx h' tk k,⟨t,rfl⟩,qm z (aX e1) λ y hy=>?_⟩
  obtain⟨j,hj,e3⟩:=cq.mp hy
  have:=qD val (its.toArray.size - 1) j (by simp only[ar];omega)
  rw[hv]at this
  have e4:val j=y:=by
   show ns.getD j 0=y
   rw[aG,ag hj]
   exact e3
  omega
def bL2 (K:ae)(ta td:TE):TE:=λ σ H Q=>ta σ H λ x H1=>td σ H1 λ d H2=>bt3 K x d H2 Q
theorem bo8 {X:Cx}{K:ae}{e de:Expr}{Y Z:TE}{p pos kp:Pos}(hK:X.K=K)(hc:X.calm=true)(hg:Gl X "min")(hm:X.mg "min"=none)(ha:PE X e Y)(hd:PE X de Z)
  (hs:bq [e] X.env=[(false,eval e X.env)]:=by rfl) :
  PE X (.Call (.Name "min" p) [e] [⟨some "default",de,kp⟩] pos) (bL2 K Y Z):=by
 subst hK
 intro F s σ H Q I h
 refine cz (ai7 I hg hm aV6 ?_)
 have h':al6 Y aK9 σ H (λ vs G=>match vs with|[x]=>Z σ G λ d H2=>bt3 X.K x d H2 Q|_=>False):=h
 refine callWith_kw (env:=X.env) (thn ((zw ha ab6 hs) pos F s σ H _ I h') λ us s1 ⟨vs,G,I1,r1,J⟩=>?_) (by rw[hs];rfl) (by rw[hs];rfl)
 match vs,J,r1 with
 | [x],J,r1 =>
  obtain⟨u,rfl,ru⟩:=af3 r1
  refine kws_cons (thn (hd F s1 σ G _ I1 J) λ v s2 ⟨d,H2,I2,rd,q2⟩=>kws_nil ?_)
  exact aZ2 hc I2 ru rd q2
inductive D where
 | non|bl (b:Bool)|int (i:Int)|str (x:Str)|tup (l:List D)|lst (l:List D)
mutual
noncomputable def D.deep:D->Nat
 | .tup l=>D.deepL l+1
 | .lst l=>D.deepL l+1
 | _=>0
noncomputable def D.deepL:List D->Nat
 | []=>0
 | d::l=>max (D.deep d) (D.deepL l)
end
section
variable {X:Cx}
end
section
variable {X:Cx}
def bL7 (K:ae):R2:=λ x y H Q=>∃ a b xs ys,x=.ref a/\y=.ref b/\SqT K H a xs/\SqT K H b ys/\xs.length+ys.length<=aH/\∀ p H',ac1 H H'->SqT K H' p (xs++ys)->(H' p=some (.tup (xs++ys))\/(p=a/\ys=[])\/(p=b/\xs=[]))->Q (.ref p) H'
theorem bq0 {prog:aD}{w:World}{A:aM}{E:Value->af->Prop}{s:af}{t b:Addr}{ws:List Value}{Q:Value->af->Prop}(ht:IsTup s.heap t ([]:List Value).toArray)(hb:IsTup s.heap b ws.toArray)(h1:Q (.ref b) s) :
  wpAny (model prog w) A (bZ .Add (.ref t) (.ref b)) Q E s:=by
 obtain⟨⟨cls,dd,data,sl⟩,ho,hc,n,hd⟩:=id ht
 obtain⟨⟨a0,Z,J,Y⟩,F,G,n2,h⟩:=id hb
 simp only at hc hd G h
 subst hc hd G h
 exact i7 ⟨_,ho,rfl⟩ ⟨_,F,rfl⟩ fX iz d5 dU (dI _ _)
   (tuple_addW0 t b _ ws.toArray n n2 dd Z sl Y rfl) ⟨ho,F,h1⟩
theorem bo2 {K:ae}(hK:X.K=K):OpR X (bZ .Add) (bL7 K):=by
 subst hK
 intro F s σ H x y v u Q I J Z h
 obtain⟨a,b,G,ys,e1,e2,ha,hb,hz,q⟩:=h
 by_cases hx:G=[]
 ·subst e1;subst e2;subst hx
  cases J;cases Z
  obtain⟨its,r1,p1,_⟩:=I.tuple ha
  obtain⟨Y,r2,p2,_⟩:=I.tuple hb
  obtain rfl:its=[]:=r1.nil_iff.mpr rfl
  exact bq0 p1 p2 ⟨.ref b,H,I,rfl,q b H (ac1.refl H) hb (.inr (.inr ⟨rfl,rfl⟩))⟩
 ·refine bu1 F s σ H x y v u Q I J Z ⟨a,b,G,ys,e1,e2,ha,hb,hx,hz,λ z=>?_,λ z p hp=>?_⟩
  ·subst z
   exact q a H (ac1.refl H) (by rw[bQ];exact ha) (.inr (.inl ⟨rfl,rfl⟩))
  ·exact q p _ ((ac1.refl H).new hp) (SqT.of zg) (.inl zg)
end
noncomputable def Its (x:Str):It:=⟨λ i _=>i<x.cps.size,λ i H v H'=>H'=H/\∃ c,x.cps[i]?=some c/\v=.str ⟨#[c]⟩,λ i _=>x.cps.size<=i⟩
theorem aA2 {P:aD}{w:World}{K:ae}{tg:Expr}{J:String}{x:Str}{t:Tok}(it:Addr)(hn:["enumerate", "zip", "dict_itemiterator", "dict_reverseitemiterator", "odict_iterator", "itertools.zip_longest", "itertools.pairwise"].contains J=false)
  (W:∀ A:aM,A.handled=none->Walks P w A it [it] [it] x.cps.size (SignAt x) (λ i h=>h.IsStrIter it J x t i))
  (Z:∀(A:aM) (s:af) (i:Nat) (Q:Option Value->af->Prop) (E:Value->af->Prop),A.handled=none->s.heap.IsStrIter it J x t i->x.cps[i]?=none->(∀ h',jz it s.heap h'->Q none { s with heap:=h' })->wpAny (model P w) A (fj (.ref it)) Q E s)
  (G:∀(A:aM) (i:Nat) (s:af) (Q:Value->af->Prop) (E:Value->af->Prop),s.heap.IsStrIter it J x t i->Q (.ref it) s->wpAny (model P w) A (ji (.ref it)) Q E s):Turn P w K tg (Its x) [it] it (λ i h=>h.IsStrIter it J x t i) where
 mem:=by simp
 obj:=λ i h st b hb=>by
  have e:b=it:=by simpa using hb
  subst e
  obtain⟨o,ho,hc,hd⟩:=st
  exact⟨o,ho,λ v z=>by rw[hd]at z;cases z⟩
 keep:=λ i h h' st k=>by
  obtain⟨o,ho,r⟩:=st
  exact⟨o,k it (by simp) _ ho,r⟩
 item:=by
  intro X hP hw hK hc i F s σ H E I hf st hg
  subst hP hw hK
  obtain⟨f0,f1,f2,f3,f4,f5⟩:=hf it (by simp)
  refine(W X.A (I.ok.hd hc)).item i s _ _ hg st λ v h' tk hv Y kk=>?_
  obtain⟨c,u,a0,rfl⟩:=hv
  have I1:Inv X F σ H { s with heap:=h',toks:=tk }:=I.turned (λ b o hb e=>kk b o (by simpa using hb) e) f0 f1 f3 f4 f5
  obtain⟨o,ho,a1,hd⟩:=id Y
  exact⟨_,rfl,aW2 (s:={ s with heap:=h',toks:=tk }) (n:=J) ho a1 hd hn ⟨.str ⟨#[c]⟩,H,I1,⟨u,rfl⟩,⟨rfl,c,a0,rfl⟩,Y,λ b hb=>(hf b hb).1⟩⟩
 done:=by
  intro X hP hw hK hc i F s σ H E I hf st hg
  subst hP hw hK
  obtain⟨f0,f1,f2,f3,f4,f5⟩:=hf it (by simp)
  have a2:x.cps.size<=i:=hg
  exact Z X.A s i _ E (I.ok.hd hc) st (by simp;omega) λ h' eb=>⟨rfl,I.turned (t':=s.toks) (λ b o hb e=>eb b o hb e) f0 f1 f3 f4 f5⟩
 self:=λ A i s Q E st h=>G A i s Q E st h
def bR0 (tl:TE):TI:=λ σ H R=>tl σ H λ v H1=>∃ x,v=.str x/\R (Its x) H1
theorem bF7 {X:Cx}{tg l:Expr}{tl:TE}(hl:PE X l tl):PI X tg l (bR0 tl):=by
 intro F s σ H R I h
 refine thn (hl F s σ H _ I h) λ v s1 ⟨v0,H1,Y,r1,q1⟩=>?_
 obtain⟨x,e,q⟩:=q1
 subst e
 obtain⟨t,rfl⟩:=r1
 have fin:∀(J:String) (o:Obj),o={ cls:=.type J,data:=.fields #[.str x t,.int 0 0] }->Turn X.prog X.w X.K tg (Its x) [s1.heap.objs.size] s1.heap.objs.size (λ i h=>h.IsStrIter s1.heap.objs.size J x t i)->PIE X F σ tg R (.ref s1.heap.objs.size) { s1 with heap:=s1.heap.push o }:=λ J o eo T=>by
  subst eo
  refine⟨s1.heap.objs.size,[s1.heap.objs.size],_,_,H1,rfl,Y.kept (t':=s1.toks) λ b o e=>ai _ e,T,⟨_,aC _ rfl,rfl,rfl⟩,λ b hb=>?_,q⟩
  have e:b=s1.heap.objs.size:=by simpa using hb
  subst e
  exact Y.fpOk (am _) (Y.hok.fresh (am _))
 cases ha:x.cps.all (·<128)
 ·exact wpAny_pyIter_wide ha (fin "str_iterator" _ rfl (aA2 _ (by decide) (λ A G=>Walks.strWide G _ x t) (λ A s i Q E G st hx Z=>wpAny_pyNext_wide_end G st hx Z) λ A i s Q E st h=>wpAny_pyIter_striter_wide st h))
 ·exact wpAny_pyIter_ascii ha (fin "str_ascii_iterator" _ rfl (aA2 _ (by decide) (λ A G=>Walks.strAscii G _ x t) (λ A s i Q E G st hx Z=>wpAny_pyNext_ascii_end G st hx Z) λ A i s Q E st h=>wpAny_pyIter_striter_ascii st h))
section
variable {X:Cx} {K:ae} {T id:String} {name:Str} {o e:Expr} {es:List Expr} {to:TE} {t:TA} {r:V->List V->Hp->VK->Prop} {apos cpos:Pos}
theorem bH7 (Z:X.K=K)(pa:jO T)(slot:Slot T name id)(Y:jm (.builtin id)=pure (.type "method_descriptor"))(hm:MtR X id r)(ho:PE X o to)(ha:PA X (e::es) t)
  (F:fT o name X.env (eval o X.env)=eval o X.env:=by rfl)
  (J:((eT cpos (bq (e::es) X.env)).all (λ x=>!x.1)&&(backToKw cpos (keywordEach [] X.env)).all (λ x=>x.1.isSome)
   && decide ((e::es).length+([]:List jI).length+(if([]:List jI).isEmpty then 0 else 1)<30))=true:=by rfl)
  (G:(apos.endLine==cpos.line)=true:=by rfl) (hs:bq (e::es) X.env=(false,eval e X.env)::bq es X.env:=by rfl) (h:(eT cpos (bq es X.env)).any (·.1)=false:=by rfl) :
  PE X (.Call (.Attribute o name apos) (e::es) [] cpos) (tBM K T r to t):=by
 subst Z
 exact bO9 pa slot Y hm ho ha F J G hs h
end
structure Mach where
 letters:Int
 rooms:Int
 begins:List Int
 ends:List Int
 doors:List (Int×Str×Int×Int)
noncomputable def bO6 (q:Int×Str×Int×Int):D:=.tup [.int q.1,.str q.2.1,.int q.2.2.1,.int q.2.2.2]
noncomputable def Mach.D (M:Mach):D:=.tup [.int M.letters,.int M.rooms,.tup (M.begins.map .int),.tup (M.ends.map .int),.tup (M.doors.map bO6)]
noncomputable def ltr (i:Nat):Str:=⟨#[97+i]⟩
structure DoorOk (letters rooms:Int)(q:Int×Str×Int×Int):Prop where
 s0:0<=q.1
 s1:q.1<rooms
 l:∃ i:Nat,(i:Int)<letters/\q.2.1=ltr i
 g0:0<=q.2.2.1
 g1:q.2.2.1<rooms
 t0:0<=q.2.2.2
 t1:q.2.2.2<=3
structure RoomsOk (rooms:Int)(l:List Int):Prop where
 mem:∀ r∈l,0<=r/\r<rooms
 up:l.Pairwise (· < ·)
structure Mach.Ok (most:Nat)(M:Mach):Prop where
 l0:1<=M.letters
 l1:M.letters<=3
 r0:1<=M.rooms
 r1:M.rooms<=5
 b:RoomsOk M.rooms M.begins
 e:RoomsOk M.rooms M.ends
 d:∀ q∈M.doors,DoorOk M.letters M.rooms q
 m:M.doors.length<=most
mutual
noncomputable def D.tups:D->Bool
 | .lst _=>false
 | .tup l=>D.tupsL l
 | _=>true
noncomputable def D.tupsL:List D->Bool
 | []=>true
 | d::l=>D.tups d&&D.tupsL l
end
end L2
end
noncomputable section
namespace L2
end L2
end
noncomputable section
namespace L2
open PySem PySem.Spec PyProof.Rows
noncomputable def minO:List Int->Option Int
 | []=>none
 | a::l=>some (match minO l with|none=>a|some b=>if b<a then b else a)
theorem aH7 {X:Cx}{Z tg iter:Expr}{Y:List Expr}{scope:Scope}{pos a0 py:Pos}{y:Str}{i:Nat}{wi:TI}{g:TG}{tc:TT}{te:TE}(N':List Str)(src:List (Option Nat))
  (hN:X.N.Nodup) (b3:X.N[i]?=some y) (a6:X.env.scope.names.lookup y=some .local)
  (b2:zJ N' src scope X.N X.env.scope=true) (hi:PI X tg iter wi) (a2:X.calm=true)
  (b1:∀(C:Addr) (cells:List (Str×Addr)) (s:af) (H:Hp) (ex:List Addr),PG (zA X N' scope C cells s H ex) tg g/\PIf (zA X N' scope C cells s H ex) Y tc/\PE (zA X N' scope C cells s H ex) Z te)
  (hs:∀ x,dq iter X.env x=pure x:=by intro _;rfl)
  (b6:fh (.ListComp Z [⟨tg,iter,Y,0⟩] scope pos) (some (.Name y py)) a0.line X.env=pure true:=by rfl) :
  PS X (.Assign [.Name y py] (.ListComp Z [⟨tg,iter,Y,0⟩] scope pos) a0) (aY1 (tComp src wi g tc te) (as8 i)):=by
 intro F s σ H D0 I h
 have ck:=bh7 b2
 rw[exec_Assign_Name_used _ _ _ _ b6]
 refine ah (iw (ah ?_))
 show wpAny _ X.A (do let _ <- comprehension (.ListComp Z [⟨tg,iter,Y,0⟩] scope pos) scope X.env _ (newList []) false (eval iter X.env) (some (gd (.Name y py) X.env))) _ _ s
 have b4:=qg (scope:=scope) (env:=X.env) λ y hy e=>I.ok.has y.1 (ck.fr y hy e)
 refine ah (bj (fU (use:=some (gd (.Name y py) X.env)) (Q:=λ _ s'=>SP X F D0 .next s') rfl hs b4 ck.kind ck.loc (thn (hi F s σ H _ I h) λ v s1 h1=>thn h1 λ c3 s2 h2=>?_)) (λ _ s' hq=>aA (aA hq)) λ _ _ e=>e)
 obtain⟨it,G,tn,J,H2,e,I2,T,a5,f2,W⟩:=h2
 subst e
 have hD:=I2.fresh
 obtain⟨W,⟨m0,w0⟩,turn⟩:=W _ hD
 have I3:=I2.lnew (its:=[]) (ys:=[]) (t':=s2.toks) .nil (eO _)
 have a3:∀ b∈G,b<s2.heap.objs.size:=λ b hb=>by obtain⟨o,q,_⟩:=T.obj _ _ a5 b hb;exact az q
 have f3:∀ b∈G,FpOk X F (upd H2 s2.heap.objs.size (.lst [])) b:=λ b hb=>⟨by rw[zb (ay (a3 b hb))];exact(f2 b hb).1,(f2 b hb).2⟩
 refine b7 (ad1 ?_)
 generalize a1:({ s2 with heap:=s2.heap.push { cls:=.type "list",data:=.seq ([]:List Value).toArray },toks:=s2.toks }:af)=s3 at I3
 have c2:({ s2 with heap:=s2.heap.push { cls:=.type "list",data:=.seq ([]:List Value).toArray } }:af)=s3:=a1
 have b5:∀ b∈G,b<s3.heap.objs.size:=λ b hb=>by
  rw[<-a1]
  show b<(s2.heap.push _).objs.size
  rw[bP]
  exact fH (a3 b hb)
 have I4:=am9 (s4:={ s3 with heap:=eB (s3.heap.push { cls:=.type "dict",data:=.dict #[] }) scope.names }) ck I3 f3 b5 ⟨_,rfl⟩
 have b0:tn 0 (eB (s3.heap.push { cls:=.type "dict",data:=.dict #[] }) scope.names):=T.keep _ _ _ a5 λ b hb o e=>dg _ _ b o (ai _ (by rw[<-a1];exact ai _ e))
 obtain⟨hg,hif,he⟩:=b1 s3.heap.objs.size (aI (s3.heap.objs.size+1) scope.names (af8 X.env.cells scope.names [])) s3 (upd H2 s2.heap.objs.size (.lst [])) G
 have a4:∀ H':Hp,(∀ b∈G,H' b=none)->∀ b∈G,FpOk (zA X N' scope s3.heap.objs.size (aI (s3.heap.objs.size+1) scope.names (af8 X.env.cells scope.names [])) s3 (upd H2 s2.heap.objs.size (.lst [])) G) [] H' b:=λ H' hn b hb =>
  ⟨hn b hb,(I4.ok.exf b hb).1,I4.ok.exfs b hb,.inl hb,λ x c e=>(I4.ok.exf b hb).2 x c e,λ p hp=>absurd (show p∈([]:List (Addr×Obj))from hp) (by simp)⟩
 have T':Turn X.prog X.w X.K tg J G it tn:=T
 have c0:∀ b∈G,upd H2 s2.heap.objs.size (.lst []) b=none:=λ b hb=>(f3 b hb).1
 have L:=ar1 (X':=zA X N' scope s3.heap.objs.size (aI (s3.heap.objs.size+1) scope.names (af8 X.env.cells scope.names [])) s3 (upd H2 s2.heap.objs.size (.lst [])) G) (R:=compPost (model X.prog X.w) X.A X.xe (some (gd (.Name y py) X.env)) (λ _ s'=>SP X F D0 .next s') (Value.ref s2.heap.objs.size) s3.heap.objs.size) (iter:=iter) (scope:=scope) (pos:=pos) (QD:=λ H'=>D0.nx (σ.set i (some (.ref s2.heap.objs.size))) H') rfl a2 I4 T' b0 a4 c0 w0 turn hg hif he
  (λ σ' H' s' J' q=>by
   have J2:=aB1 I3 f3 J' (Heap.SameBut.refl _ _)
   obtain⟨mm,hn,_⟩:=J'.loc
   have nL:s3.heap.objs.size≠X.env.locals:=cZ I3.lt
   have nC:∀ x c,X.env.cells.lookup x=some c->c≠s3.heap.objs.size:=λ x c e=>by
    obtain⟨v,z⟩:=I3.cell x c e
    exact ay z.lt
   show wpAny _ X.A (gd (.Name y py) X.env (.ref s2.heap.objs.size)) _ _ _
   refine i0 (aq3 (v:=.ref s2.heap.objs.size) J2 hN b3 (.inl a6) rfl (λ s5 I5 sb=>?_) (.inr a6))
   obtain⟨aa,sb,ha⟩:=sb
   have na:s3.heap.objs.size≠aa:=by
    rcases ha with z|z
    ·rw[z];exact nL
    ·exact λ e=>nC _ _ z e.symm
   refine⟨mm,hn.sameBut sb na,λ h' c1=>⟨_,H',I5.turned (t':=s5.toks) (λ b o hb e=>(c1.2 b hb).trans e) J'.free nL (.inr I3.sz) nC λ p hp z=>?_,q⟩⟩
   exact absurd (az (I3.pin p hp).1) (by rw[z];exact bo _))
 exact gv L (T.self _ _ _ _ _ b0 L)
section
variable {M:Model} {A:aM} {E:Value->af->Prop} {s₀ s:af} {m cm:Str->Option Value} {env:Env} {cs:List (Str×Addr)}
theorem bn7 {n:Str}{v:Value}{Q:Unit->af->Prop}(z:fF s₀ env.locals m cs cm s)(F:env.scope.kind=.function)(kl:env.kindOf n=some .local)
  (go:∀ s',fF s₀ env.locals (λ y=>if y=n then some v else m y) cs cm s'->Q () s'):wpAny M A (ic env n v) Q E s:=by
 refine gH kl z.toInCall.ns (λ g h gs=>go _ ⟨⟨?a,h,λ b o e=>?b,z.toInCall.fresh⟩,λ k c e=>?c,z.apart,z.above⟩) (by rw[F];rfl)
 case a=>obtain⟨G,tk,e⟩:=z.toInCall.same;subst e;exact⟨g,_,rfl⟩
 case b=>exact gs.extBut b o (ay (ao (az e) z.toInCall.fresh)) (z.toInCall.keep b o e)
 case c=>exact(z.cell k c e).sameBut gs (cZ (z.above k c (aF e)))
theorem bm4 {n:Str}{c:Addr}{v:Value}{Q:Unit->af->Prop}(z:fF s₀ env.locals m cs cm s)(G:env.scope.kind=.function)(F:env.kindOf n=some .cell)
  (e1:env.cells.lookup n=some c) (e2:cs.lookup n=some c) (go:∀ s',fF s₀ env.locals m cs (λ y=>if y=n then some v else cm y) s'->Q () s'):wpAny M A (ic env n v) Q E s:=by
 have up:=z.above n c (aF e2)
 refine gP G F e1 (z.cell n c e2) λ g h gs=>go _ ⟨⟨?a,z.toInCall.ns.sameBut gs (ay up),λ b o e=>?b,z.toInCall.fresh⟩,λ k J e=>?c,z.apart,z.above⟩
 case a=>obtain⟨Y,tk,e⟩:=z.toInCall.same;subst e;exact⟨g,_,rfl⟩
 case b=>exact gs.extBut b o (ay (fc (ao (az e) z.toInCall.fresh) up)) (z.toInCall.keep b o e)
 case c =>
  by_cases q:k=n
  ·subst q
   rw[e2]at e;cases e
   simpa using h
  ·rw[if_neg q]
   exact(z.cell k J e).sameBut gs λ y=>q (gh z.apart (aF e) (y▸aF e2))
theorem ay9 (f:Str×Value->PUnit->Sem (ForInStep PUnit))(Z:∀ n v u,f (n,v) u=(do ic env n v;pure (.yield ⟨⟩)))(G:env.scope.kind=.function)(sub:∀ n c,cs.lookup n=some c->env.cells.lookup n=some c) :
  ∀(bs:List (Str×Value)) (m J:Str->Option Value) (s:af) (Q:PUnit->af->Prop),fF s₀ env.locals m cs J s ->
   (∀ y∈bs,env.kindOf y.1=some .local\/(env.kindOf y.1=some .cell/\∃ c,cs.lookup y.1=some c)) ->
   (∀ s',fF s₀ env.locals (bindL env.kindOf bs m) cs (bindC env.kindOf bs J) s'->Q ⟨⟩ s')->wpAny M A (forIn bs ⟨⟩ f) Q E s
 | [],m,J,s,Q,z,_,go=>by rw[gW];exact aA (go s z)
 | (n,v)::r,m,J,s,Q,z,hy,go=>by
  rw[jC,Z]
  have hr:=λ y (q:y∈r)=>hy y (ak _ q)
  rcases hy (n,v) aq with kl|⟨kc,c,e2⟩
  ·refine ah (ah (bn7 z G kl λ s' Y=>aA (ay9 f Z G sub r _ _ s' Q Y hr λ h F=>go h ?_)))
   unfold bindL bindC;rw[if_pos kl,if_pos kl];exact F
  ·have nl:¬ env.kindOf n=some .local:=by rw[kc];decide
   refine ah (ah (bm4 z G kc (sub n c e2) e2 λ s' Y=>aA (ay9 f Z G sub r _ _ s' Q Y hr λ h F=>go h ?_)))
   unfold bindL bindC;rw[if_neg nl,if_neg nl];exact F
end
theorem af6 {M:Model}{A:aM}{E:Value->af->Prop}{s:af}{scope:Scope}{globals:Addr}{h:List (Str×Addr)}{binds:List (Str×Value)}{qual:Str}{func:Option Addr}{code:Value}{builtins:Addr}{Q:Env->af->Prop}
  (J:scope.kind=.function) (hy:∀ y∈binds,scope.names.lookup y.1=some .local\/(scope.names.lookup y.1=some .cell/\∃ c,(aI (s.heap.objs.size+1) scope.names []).lookup y.1=some c))
  (go:∀ env,env=newEnv scope s.heap.objs.size globals (aI (s.heap.objs.size+1) scope.names h) qual func code none builtins ->
   ∀ s',fF s env.locals (bindL env.kindOf binds λ _=>none) (aI (s.heap.objs.size+1) scope.names []) (bindC env.kindOf binds λ _=>none) s'->Q env s') :
  wpAny M A (ft scope globals h binds qual func code none builtins) Q E s:=by
 simp only[ft,cC,bO,if_false]
 refine ah (wpAny_alloc (ah (wpAny_layCells _ (λ nm kd Y=>by cases q:kd==NameKind.cell<;>simp[q]) _ _ _ _ ?_)))
 have ok:=cellsFrom_ok scope.names (s.heap.push { cls:=.type "frame",data:=.dict #[] }) (s.heap.objs.size+1) [] ⟨λ _ _ G=>(nomatch G),List.Pairwise.nil⟩ (by rw[bP];exact am _)
 have F:({ s with heap:=s.heap.push { cls:=.type "frame",data:=.dict #[] } }:af).heap.objs.size=s.heap.objs.size+1:=bP ..
 rw[bP]at ok
 rw[F]
 refine ah (ay9 (s₀:=s) (cs:=aI (s.heap.objs.size+1) scope.names []) (env:=newEnv scope s.heap.objs.size globals (aI (s.heap.objs.size+1) scope.names h) qual func code none builtins)
  _ (λ _ _ _=>rfl) J (λ n c e=>?sub) binds (λ _=>none) (λ _=>none) _ _ ⟨⟨⟨_,_,rfl⟩,?ns,λ b o e=>?k,am _⟩,λ n c e=>(ok.empty n c (aF e)).1,ok.apart,λ n c e=>(ok.empty n c e).2⟩ hy λ s' x=>aA (go _ rfl s' x))
 case sub =>
  show(aI _ _ _).lookup n=some c
  rw[ze,zy,e];rfl
 case ns=>exact(ku s.heap (.type "frame")).keeps (dg _ _)
 case k=>exact dg _ _ b o (ai _ e)
noncomputable def qr (c:Addr)(qual:Str):HO:=.ext λ h=>h.CodeRec (.ref c) qual
noncomputable def aC3 (f:Addr)(fd:bF):HO:=.ext λ h=>h.get? f=some { cls:=.type "function",data:=.func fd }
theorem aW7 {P:aD}{w:World}{H:Hp}{h:Heap}{c:Addr}{q:Str}(r:h.CodeRec (.ref c) q):aa8 P w H h c (qr c q):=by
 refine⟨r,?_,λ J G z k=>?_⟩
 ·obtain⟨F,o,vs,t,e,g,_⟩:=r
  cases e
  exact⟨o,g⟩
 ·obtain⟨F,o,vs,t,e,g,d⟩:=z
  cases e
  exact⟨c,o,vs,t,rfl,k o g,d⟩
theorem ak9 {P:aD}{w:World}{H:Hp}{h:Heap}{c:Addr}{q:Str}(x:HOk P w H h)(e:H c=some (qr c q)):h.CodeRec (.ref c) q:=(x c _ e).1
theorem aN6 {P:aD}{w:World}{H:Hp}{h:Heap}{f:Addr}{F:bF}(r:h.get? f=some { cls:=.type "function",data:=.func F }):aa8 P w H h f (aC3 f F) :=
 ⟨r,⟨_,r⟩,λ _ _ z k=>k _ z⟩
theorem ah1 {P:aD}{w:World}{H:Hp}{h:Heap}{f:Addr}{F:bF}(x:HOk P w H h)(e:H f=some (aC3 f F)):h.get? f=some { cls:=.type "function",data:=.func F }:=(x f _ e).1
noncomputable def isC (cells:List (Str×Addr))(b:Addr):Bool:=cells.any λ p=>cells.lookup p.1==some b
theorem aS7 {cells:List (Str×Addr)}{b:Addr}:isC cells b=true↔∃ x,cells.lookup x=some b:=by
 unfold isC
 rw[jr]
 constructor
 ·rintro⟨p,_,e⟩;exact⟨p.1,by simpa using e⟩
 ·rintro⟨x,e⟩;exact⟨(x,b),aF e,by simpa using e⟩
noncomputable def ab0 (cells:List (Str×Addr))(H:Hp):Hp:=λ b=>if isC cells b=true then none else H b
noncomputable def Put (cells:List (Str×Addr))(H H':Hp):Hp:=λ b=>if isC cells b=true then H b else H' b
theorem ab0.cell {cells:List (Str×Addr)}{H:Hp}{b:Addr}(h:isC cells b=true):ab0 cells H b=none:=if_pos h
theorem ab0.ne {cells:List (Str×Addr)}{H:Hp}{b:Addr}(h:isC cells b≠true):ab0 cells H b=H b:=if_neg h
theorem ab0.some {cells:List (Str×Addr)}{H:Hp}{b:Addr}{o:HO}(h:ab0 cells H b=some o):isC cells b≠true/\H b=some o:=by
 unfold ab0 at h
 split at h
 ·cases h
 ·rename_i z;exact⟨z,h⟩
theorem ab0.none {cells:List (Str×Addr)}{H:Hp}{b:Addr}(h:H b=none):ab0 cells H b=none:=by
 unfold ab0
 split
 ·rfl
 ·exact h
theorem Put.cell {cells:List (Str×Addr)}{H H':Hp}{b:Addr}(h:isC cells b=true):Put cells H H' b=H b:=if_pos h
theorem Put.ne {cells:List (Str×Addr)}{H H':Hp}{b:Addr}(h:isC cells b≠true):Put cells H H' b=H' b:=if_neg h
def Cells (clos:List (Str×Addr))(H:Hp):Prop:=∀ x c,clos.lookup x=some c->∃ o v,H c=some (.frz o (.own c))/\o.data=.cell v
theorem Cells.at {F:List (Str×Addr)}{H:Hp}(z:Cells F H){b:Addr}(h:isC F b=true):∃ o v,H b=some (.frz o (.own b))/\o.data=.cell v:=by
 obtain⟨x,e⟩:=aS7.mp h
 exact z x b e
def Cap (clos:List (Str×Addr))(H:Hp)(fr:List Str)(cap:List V):Prop:=∀(i:Nat) (x:Str) (v:V),fr[i]?=some x->cap[i]?=some v->∃ c o u,clos.lookup x=some c/\H c=some (.frz o (.own c))/\o.data=.cell (some u)/\RelV v u
structure LamScope (N ps fr:List Str)(sc:Scope):Prop where
 kind:sc.kind=.function
 co:sc.isCoroutine=false
 gen:sc.isGenerator=false
 nd:N.Nodup
 app:N=ps++fr
 par:∀ x∈ps,sc.names.lookup x=some .local\/sc.names.lookup x=some .cell
 frs:∀ x∈fr,sc.names.lookup x=some .free
 cel:∀ y∈sc.names,y.2=.cell->sc.names.lookup y.1=some .cell
noncomputable def ax7 (P:aD)(w:World)(K:ae)(mg:Str->Option Value)(base:Heap)(N:List Str)(qual:Str)(scope:Scope)(f:Addr)(cd:Value)(clos:List (Str×Addr))(A:aM)(outer:List Env)(s:af)(H:Hp):Cx where
 prog:=P
 w:=w
 K:=K
 mg:=mg
 base:=base
 A:=A.deeper (c6 qual scope s.heap.objs.size f cd (aI (s.heap.objs.size+1) scope.names clos))
 N:=N
 s₀:=s
 H₀:=ab0 clos H
 env:=c6 qual scope s.heap.objs.size f cd (aI (s.heap.objs.size+1) scope.names clos)
 outer:=outer
 stack:=c6 qual scope s.heap.objs.size f cd (aI (s.heap.objs.size+1) scope.names clos)::outer
 ex:=[]
 fn:=λ x=>scope.names.lookup x==some .cell
 calm:=true
 pn:=[]
 xe:=λ _ _=>False
theorem HOk.drop {P:aD}{w:World}{H:Hp}{h:Heap}{F:List (Str×Addr)}(x:HOk P w H h)(z:Cells F H):HOk P w (ab0 F H) h:=λ b o e=>by
 obtain⟨_,e'⟩:=ab0.some e
 have G:∀ c u,H c=some u->(∀ o v,u≠.frz o v)->isC F c≠true:=λ c u q d y=>by
  obtain⟨o,v,J,_⟩:=z.at y
  rw[q]at J;cases J
  exact d _ _ rfl
 exact(x b o e').stay (λ _ _ _ q=>q) (λ c q=>by rw[ab0.ne (G c _ q λ _ _=>by nofun)];exact q) λ c Y q=>by rw[ab0.ne (G c _ q λ _ _=>by nofun)];exact q
theorem aV3 {P:aD}{w:World}{K:ae}{mg:Str->Option Value}{base:Heap}{N ps fr:List Str}{qual:Str}{scope:Scope}{f:Addr}{cd:Value}{h:List (Str×Addr)}{A:aM}{F:List Env}{s s1:af}{H:Hp}{us:List Value}{vs cap:List V}
  (S:LamScope N ps fr scope) (hd:A.handled=none) (G:Env0 P w K mg base A F s H) (hl:vs.length=ps.length) (a4:cap.length=fr.length) (r:Vals vs us)
  (hc:Cells h H) (inj:∀ x y c,h.lookup x=some c->h.lookup y=some c->x=y) (a2:∀ x,scope.names.lookup x=some .free->∃ c,h.lookup x=some c) (a1:Cap h H fr cap)
  (x:fF s s.heap.objs.size (bindL (c6 qual scope s.heap.objs.size f cd (aI (s.heap.objs.size+1) scope.names h)).kindOf (ps.zip us) λ _=>none) (aI (s.heap.objs.size+1) scope.names [])
   (bindC (c6 qual scope s.heap.objs.size f cd (aI (s.heap.objs.size+1) scope.names h)).kindOf (ps.zip us) λ _=>none) s1) :
  Inv (ax7 P w K mg base N qual scope f cd h A F s H) [] (vs.map some++cap.map some) (ab0 h H) s1:=by
 obtain⟨h1,tk,rfl,hk⟩:=x.done
 have Y:∀ b:Addr,b ∉ (ax7 P w K mg base N qual scope f cd h A F s H).ex:=λ b z=>absurd (show b∈([]:List Addr)from z) (by simp)
 have lk:∀ y c,(aI (s.heap.objs.size+1) scope.names h).lookup y=some c->(aI (s.heap.objs.size+1) scope.names []).lookup y=some c\/((aI (s.heap.objs.size+1) scope.names []).lookup y=none/\h.lookup y=some c):=λ y c e=>by
  rw[ze,zy]at e
  cases q:(aI (s.heap.objs.size+1) scope.names []).lookup y with
  | some d=>rw[q]at e;left;simpa using e
  | none=>rw[q]at e;right;exact⟨rfl,by simpa using e⟩
 have own:∀ y c,(aI (s.heap.objs.size+1) scope.names []).lookup y=some c->s.heap.objs.size<c:=λ y c e=>x.above y c (aF e)
 have a0:∀ y c,h.lookup y=some c->c<s.heap.objs.size:=λ y c e=>by
  obtain⟨o,v,q,_⟩:=hc y c e
  exact G.hok.lt q
 have hx:∀ y c,h.lookup y=some c->scope.names.lookup y=some .free->(aI (s.heap.objs.size+1) scope.names h).lookup y=some c:=λ y c e k=>by
  rw[ze,zy]
  cases q:(aI (s.heap.objs.size+1) scope.names []).lookup y with
  | none=>exact e
  | some d =>
   rcases zr (aF q)with z|z
   ·rw[S.cel _ z rfl]at k;cases k
   ·exact absurd z (by simp)
 have dn:∀ b,H b=none->ab0 h H b=none:=λ b e=>ab0.none e
 refine⟨⟨G.mod,S.kind,rfl,rfl,am _,λ y z c a b=>?inj,λ y hy=>?has,λ y c hy e=>?cab,λ _=>hd,gS G.frames,.inr ⟨rfl,rfl⟩,λ b z=>absurd z (Y b),λ b o e=>⟨(G.bs b o e).1,dn b (G.bs b o e).2⟩,G.bsz,λ b _ _=>Y b,λ b z=>absurd z (Y b),G.funs,λ b hb=>dn b (G.frf b hb)⟩,
  rfl,G.bare,Un.kept hk,⟨_,x.toInCall.ns,λ i y v q1 q2 q3=>?loc⟩,λ y c e=>?cell,dn _ (G.hok.fresh (am _)),λ y c e=>?freeC,λ p hp=>absurd (show p∈([]:List (Addr×Obj))from hp) (by simp),(G.hok.drop hc).kept hk,?len⟩
 case inj =>
  rcases lk y c a with a|⟨_,a⟩<;>rcases lk z c b with b|⟨_,b⟩
  ·exact gh x.apart (aF a) (aF b)
  ·exact absurd (fc (own _ _ a) (a0 _ _ b)) (bo _)
  ·exact absurd (fc (own _ _ b) (a0 _ _ a)) (bo _)
  ·exact inj y z c a b
 case has =>
  have hy:scope.names.lookup y=some .cell\/scope.names.lookup y=some .free:=hy
  rcases hy with hy|hy
  ·obtain⟨c,e⟩:=zI (n:=s.heap.objs.size+1) hy
   refine⟨c,?_⟩
   show(aI (s.heap.objs.size+1) scope.names h).lookup y=some c
   rw[ze,zy,e];rfl
  ·obtain⟨c,e⟩:=a2 y hy
   exact⟨c,hx y c e hy⟩
 case cab =>
  have hy:(scope.names.lookup y==some .cell)=true:=hy
  have a3:scope.names.lookup y=some .cell:=by simpa using hy
  rcases lk y c e with a|⟨a,_⟩
  ·exact dZ (own y c a)
  ·obtain⟨d,q⟩:=zI (n:=s.heap.objs.size+1) a3
   rw[q]at a;cases a
 case loc =>
  have Z:ps.Nodup:=by have:=S.nd;rw[S.app]at this;exact(List.nodup_append.mp this).1
  by_cases hi:i<vs.length
  ·have ha:vs[i]?=some v:=by
    rw[aJ (by simpa using hi),aB]at q2
    cases e:vs[i]? with
    | none=>rw[e]at q2;cases q2
    | some a=>rw[e]at q2;cases q2;rfl
   obtain⟨u,hu,rv⟩:=r.get ha
   have hp:ps[i]?=some y:=by
    have J:N[i]?=some y:=q1
    rw[S.app,aJ (by omega)]at J;exact J
   refine⟨u,rv,?_⟩
   rcases S.par y (aX hp)with k|k
   ·exact .inl ⟨k,ad3 Z hp hu k⟩
   ·obtain⟨c,e⟩:=zI (n:=s.heap.objs.size+1) k
    refine .inr ⟨.inl k,c,?_,?_⟩
    ·show(aI (s.heap.objs.size+1) scope.names h).lookup y=some c
     rw[ze,zy,e];rfl
    ·have q:=x.cell y c e
     rw[aj6 Z hp hu (by show scope.names.lookup y≠_;rw[k];decide)]at q
     exact q
  ·have hf:fr[i - vs.length]?=some y:=by
    have J:N[i]?=some y:=q1
    rw[S.app,a8 (by omega)]at J;rw[hl];exact J
   have hv:cap[i - vs.length]?=some v:=by
    rw[a8 (by simpa using hi),aB,aw]at q2
    cases e:cap[i - vs.length]? with
    | none=>rw[e]at q2;cases q2
    | some a=>rw[e]at q2;cases q2;rfl
   obtain⟨c,o,u,e1,e2,e3,e4⟩:=a1 _ y v hf hv
   have kf:=S.frs y (aX hf)
   refine⟨u,e4,.inr ⟨.inr kf,c,hx y c e1 kf,?_⟩⟩
   exact⟨o,hk c o (G.hok c _ e2).1,e3⟩
 case cell =>
  rcases lk y c e with a|⟨_,a⟩
  ·exact⟨_,x.cell y c a⟩
  ·obtain⟨o,v,q,d⟩:=hc y c a
   exact⟨v,o,hk c o (G.hok c _ q).1,d⟩
 case freeC =>
  rcases lk y c e with a|⟨_,a⟩
  ·exact dn c (G.hok.fresh (dZ (own y c a)))
  ·exact ab0.cell (aS7.mpr ⟨y,a⟩)
 case len =>
  show _=N.length
  rw[S.app]
  simp[hl,a4]
theorem aR1 {P:aD}{w:World}{F:List Env}{H H':Hp}{s s':af}{h:List (Str×Addr)}(hok:HOk P w H s.heap)(hc:Cells h H)(frf:∀ b∈frs F,H b=none)
  (un:Un (frs F) [] (ab0 h H) H' s.heap s'.heap) (Y:HOk P w H' s'.heap):Un (frs F) [] H (Put h H H') s.heap s'.heap/\HOk P w (Put h H H') s'.heap:=by
 have nc:∀ b,H b=none->isC h b≠true:=λ b e y=>by
  obtain⟨o,v,q,_⟩:=hc.at y
  rw[e]at q;cases q
 have G:∀ c u,H c=some u->(∀ o v,u≠.frz o v)->isC h c≠true:=λ c u q d y=>by
  obtain⟨o,v,q',_⟩:=hc.at y
  rw[q]at q';cases q'
  exact d _ _ rfl
 have J:∀ b,isC h b=true->H' b=none:=λ b y=>by
  obtain⟨o,v,q,_⟩:=hc.at y
  exact un.free b o (hok b _ q).1 (ab0.cell y) (by simp)
 refine⟨⟨λ b o e n hb hx=>un.keep b o e (ab0.none n) hb hx,λ b o e n hb hx=>un.slot b o e (ab0.none n) hb hx,λ b o e n hx=>?_,λ b o e hx=>un.there b o e hx,λ b Z e=>?_,λ b o u e=>?_,λ b ps e=>?_⟩,λ b o e=>?_⟩
 ·rw[Put.ne (nc b n)];exact un.free b o e (ab0.none n) hx
 ·have z:=G b _ e λ _ _=>by nofun
  rw[Put.ne z];exact un.tups b Z (by rw[ab0.ne z];exact e)
 ·by_cases z:isC h b=true
  ·rw[Put.cell z];exact e
  ·rw[Put.ne z];exact un.frzs b o u (by rw[ab0.ne z];exact e)
 ·have z:=G b _ e λ _ _=>by nofun
  rw[Put.ne z];exact un.tbls b ps (by rw[ab0.ne z];exact e)
 ·by_cases z:isC h b=true
  ·rw[Put.cell z]at e
   obtain⟨ob,v,q,d⟩:=hc.at z
   rw[q]at e;cases e
   have g:=(hok b _ q).1
   have g':=un.keep b ob g (ab0.cell z) (λ y=>by rw[frf b y]at q;cases q) (by simp)
   exact⟨g',ob,g'⟩
  ·rw[Put.ne z]at e
   have np:∀ c u,H' c=some u->Put h H H' c=some u:=λ c u q=>by
    rw[Put.ne λ y=>by rw[J c y]at q;cases q];exact q
   exact(Y b o e).stay (λ _ _ _ q=>q) (λ c q=>np c _ q) λ c Z q=>np c _ q
structure ClOk (P:aD)(w:World)(K:ae)(mg:Str->Option Value)(base:Heap)(k:Nat)(R:Hp->Prop)(f:Addr)(sp:Sp):Prop where
 run:∀(A:aM) (outer:List Env) (s:af) (H:Hp) (us:List Value) (vs:List V) (Q:VK),Room k A->Env0 P w K mg base A outer s H->R H->Vals vs us->sp vs H Q E0 ->
  d4 (model P w) A (.call (.ref f) ⟨us,[]⟩) (CR CX0 outer P w H s Q E0) s
def ay4 (H:Hp)(f:Addr)(qual:Str)(params:bD)(body:Expr)(scope:Scope)(fr:List Str)(cap:List V)(clos:List (Str×Addr)):Prop :=
 ∃ pm c' ctv,H f=some (aC3 f (bn "<lambda>" qual params body scope clos pm (.ref c') ctv))/\H c'=some (qr c' qual)/\Cells clos H /\
  (∀ x y c,clos.lookup x=some c->clos.lookup y=some c->x=y)/\(∀ x,scope.names.lookup x=some .free->∃ c,clos.lookup x=some c)/\Cap clos H fr cap
def BM (mg:Str->Option Value)(base:Heap):Prop:=∃ bm ob,mg "__builtins__"=some (.ref bm)/\bm≠f9/\base.get? bm=some ob/\ob.cls=.type "module"/\ob.dict=some f9/\ob.data=.plain
def bT0 (cells:List (Str×Addr))(P:Addr)(qual:Str)(params:bD)(body:Expr)(scope:Scope)(pos:Pos):TE:=λ _ H Q =>
 ∃ ps:Array Value,H P=some (.tbl ps)/\js ps.toList /\
  (dX pos ps.toList=none->∀ c' f pm ctv,H c'=none->H f=none->c'≠f ->
   Q (.ref f) (upd (upd (upd H P (.tbl (ps++#[dj pos.line,dj pos.col,.ref c']))) c' (qr c' qual)) f (aC3 f (bn "<lambda>" qual params body scope (af8 cells scope.names []) pm (.ref c') ctv)))) /\
  (∀ cv,dX pos ps.toList=some cv->∃ c',cv=.ref c'/\∀ f pm ctv,H f=none->Q (.ref f) (upd H f (aC3 f (bn "<lambda>" qual params body scope (af8 cells scope.names []) pm (.ref c') ctv))))
noncomputable def lamCheck (scope xs:Scope):Bool:=scope.names.all λ y=>!(y.2==.free)||(xs.names.lookup y.1==some .cell||xs.names.lookup y.1==some .free)
theorem aU6 {X:Cx}{c P:Addr}{params:bD}{body:Expr}{scope:Scope}{pos:Pos}(Y:X.env.code=.ref c)(C:bG X.base c P)(hB:BM X.mg X.base)
  (d0:lamCheck scope X.env.scope=true) (a1:jR params X.env=([],[]):=by rfl) :
  PE X (.Lambda params body scope pos) (bT0 X.env.cells P (X.env.qual ++ "<lambda>") params body scope pos):=by
 intro e4 s σ H Q I h
 have d2:∀ y∈scope.names,y.2=.free->X.env.kindOf y.1=some .cell\/X.env.kindOf y.1=some .free:=λ y hy e=>by
  have z:=aU.mp d0 y hy
  have z':X.env.scope.names.lookup y.1=some .cell\/X.env.scope.names.lookup y.1=some .free:=by simpa [e]using z
  exact z'
 obtain⟨ps,Z,ht,b0,a3⟩:=h
 refine PySem.W.kla_eval a1 ?_
 have c0:=qg (scope:=scope) (env:=X.env) λ y hy e=>I.ok.has y.1 (d2 y hy e)
 have oP:s.heap.get? P=some (fu ps):=I.hok P _ Z
 have a0:s.heap.Ns bC X.mg:=I.mod.glob.keeps I.bk
 have hC:bG s.heap c P:=C.keeps I.bk
 have c3:bC≠P:=λ q=>by
  obtain⟨o,es,ep,e,d,_⟩:=a0
  rw[q,oP]at e;cases e;cases d
 have hb:s.heap.BuiltinsAt X.mg P:=by
  obtain⟨bm,ob,b1,b2,b3,b4,b5,b6⟩:=hB
  refine⟨bm,ob,b1,b2,λ q=>?_,λ q=>?_,I.bk _ _ b3,b4,b5,b6⟩
  ·obtain⟨o,es,ep,e,d,_⟩:=I.mod.glob
   rw[q,e]at b3;cases b3;rw[d]at b6;cases b6
  ·have e:=I.bk _ _ b3
   rw[q,oP]at e;cases e;cases b4
 cases q:dX pos ps.toList with
 | none =>
  refine PySem.W.kla_makeFunction (mg:=X.mg) c0 I.ok.glob a0 Y hC oP ht q c3 hb λ F G h' tk hx hge hlt a4 a5=>?_
  have a2:P<s.heap.objs.size:=az oP
  have c4:F≠P:=cZ (ao a2 hge)
  have d1:h'.objs.size≠P:=cZ (fc (ao a2 hge) hlt)
  have e0:F≠h'.objs.size:=ay hlt
  have hsz:s.heap.objs.size<=h'.objs.size:=av hge (dZ hlt)
  have nP:∀ b,H b=none->b≠P:=λ b n z=>by rw[z,Z]at n;cases n
  have lt:∀ b o,H b=some o->b≠F/\b≠h'.objs.size:=λ b o e=>⟨ay (ao (I.hok.lt e) hge),ay (ao (I.hok.lt e) hsz)⟩
  have a6:∀ b o,s.heap.get? b=some o->b≠F/\b≠h'.objs.size:=λ b o e=>⟨ay (ao (az e) hge),ay (ao (az e) hsz)⟩
  have keep:∀ b o,b≠P->s.heap.get? b=some o->(h'.push (PySem.W.kla_obj "<lambda>" (X.env.qual ++ "<lambda>") params body scope (af8 X.env.cells scope.names []) ((X.mg "__name__").getD .none) F G)).get? b=some o:=λ b o n e=>ai _ (hx b o n e)
  have J:∀ b,b≠P->b≠F->b≠h'.objs.size->∀ o1 o2 o3,upd (upd (upd H P o1) F o2) h'.objs.size o3 b=H b:=λ b n1 n2 n3 o1 o2 o3=>by rw[zb n3,zb n2,zb n1]
  refine⟨.ref h'.objs.size,upd (upd (upd H P (.tbl (ps++#[dj pos.line,dj pos.col,.ref F]))) F (qr F (X.env.qual ++ "<lambda>"))) h'.objs.size (aC3 h'.objs.size (bn "<lambda>" (X.env.qual ++ "<lambda>") params body scope (af8 X.env.cells scope.names []) ((X.mg "__name__").getD .none) (.ref F) G)),I.un (t':=tk) ⟨λ b o e n _ _=>keep b o (nP b n) e,λ b o e n _ _=>⟨o.slots,keep b o (nP b n) e⟩,λ b o e n _=>?fr,λ b o e _=>?th,λ b xs e=>?tu,λ b o u e=>?fz,λ b qs e=>?tb⟩ ?ok,rfl,b0 q F h'.objs.size _ G (I.hok.fresh hge) (I.hok.fresh hsz) e0⟩
  case fr=>rw[J b (nP b n) (a6 b o e).1 (a6 b o e).2];exact n
  case th =>
   by_cases z:b=P
   ·subst z;exact⟨_,ai _ a5⟩
   ·exact⟨o,keep b o z e⟩
  case tu=>rw[J b (λ z=>by rw[z,Z]at e;cases e) (lt b _ e).1 (lt b _ e).2];exact e
  case fz=>rw[J b (λ z=>by rw[z,Z]at e;cases e) (lt b _ e).1 (lt b _ e).2];exact e
  case tb =>
   by_cases z:b=P
   ·subst z
    rw[Z]at e;cases e
    exact⟨#[dj pos.line,dj pos.col,.ref F],by rw[zb (bX d1),zb (bX c4),zg]⟩
   ·exact⟨#[],by rw[J b z (lt b _ e).1 (lt b _ e).2,e];simp⟩
  case ok =>
   intro b o e
   by_cases zf:b=h'.objs.size
   ·subst zf
    rw[zg]at e;cases e
    exact aN6 (aC _ rfl)
   ·rw[zb zf]at e
    by_cases zc:b=F
    ·subst zc
     rw[zg]at e;cases e
     obtain⟨c2,oc,vs,t,e1,e2,e3⟩:=a4
     exact aW7 ⟨c2,oc,vs,t,e1,ai _ e2,e3⟩
    ·rw[zb zc]at e
     by_cases zp:b=P
     ·subst zp
      rw[zg]at e;cases e
      exact ai _ a5
     ·rw[zb zp]at e
      have c1:∀ d u,H d=some u->(∀ ps,u≠.tbl ps)->upd (upd (upd H P (.tbl (ps++#[dj pos.line,dj pos.col,.ref F]))) F (qr F (X.env.qual ++ "<lambda>"))) h'.objs.size (aC3 h'.objs.size (bn "<lambda>" (X.env.qual ++ "<lambda>") params body scope (af8 X.env.cells scope.names []) ((X.mg "__name__").getD .none) (.ref F) G)) d=some u:=λ d u e nt=>by
       rw[J d (λ z=>by rw[z,Z]at e;cases e;exact nt _ rfl) (lt d _ e).1 (lt d _ e).2];exact e
      refine(I.hok b o e).stay (λ d u hd q=>keep d u ?_ q) (λ d q=>c1 d _ q λ _=>by nofun) λ d xs q=>c1 d _ q λ _=>by nofun
      rintro rfl
      rcases hd with hd|hd
      ·exact zp hd.symm
      ·rw[Z]at hd;cases hd
 | some cv =>
  obtain⟨F,rfl,hq⟩:=a3 cv q
  refine PySem.W.kla_makeFunctionHit (mg:=X.mg) c0 I.ok.glob a0 Y hC oP ht q hb λ G h' tk hk hsz=>?_
  refine⟨.ref h'.objs.size,_,I.laid (t':=tk) (λ b o e=>ai _ (hk b o e)) hsz (aN6 (aC _ rfl)),rfl,hq h'.objs.size _ G (I.hok.fresh hsz)⟩
structure Caught (cl:List (Str×Addr))(N:List Str)(kd:Str->Option cj)(σ:St)(H1 H2:Hp):Prop where
 ne:∀ b,isC cl b≠true->H2 b=H1 b
 free:∀ b,isC cl b=true->H1 b=none
 cells:Cells cl H2
 cap:∀(i:Nat) (x:Str) (v:V) (c:Addr),N[i]?=some x->σ[i]?=some (some v)->(kd x=some .cell\/kd x=some .free)->cl.lookup x=some c->∃ o u,H2 c=some (.frz o (.own c))/\o.data=.cell (some u)/\RelV v u
 inj:∀ x y c,cl.lookup x=some c->cl.lookup y=some c->x=y
def bI8 (K:ae)(H:Hp)(f:Addr):Prop:=(∃ fd,H f=some (aC3 f fd))\/∃ oc od fd sl,K.lookup f=some ⟨oc,od,.func fd,sl⟩
theorem bI8.at {X:Cx}{F:List (Addr×Obj)}{σ:St}{H:Hp}{s:af}{f:Addr}(h:bI8 X.K H f)(I:Inv X F σ H s):PySem.W.FnAt f s.heap:=by
 rcases h with⟨G,h⟩|⟨oc,od,G,sl,h⟩
 ·exact⟨_,_,_,_,ah1 I.hok h⟩
 ·exact⟨_,_,_,_,I.kIn _ _ h⟩
noncomputable def ar7 (K:ae)(names:List Str):List (Str×Addr×Addr):=names.filterMap λ x=>(a7 K x).map λ p=>(x,p)
theorem an2 {K:ae}{names:List Str}{y:Str×Addr×Addr}:y∈ar7 K names↔y.1∈names/\a7 K y.1=some y.2:=by
 unfold ar7
 rw[cb]
 constructor
 ·rintro⟨x,hx,e⟩
  obtain⟨p,hp,rfl⟩:=gx.mp e
  exact⟨hx,hp⟩
 ·rintro⟨hx,e⟩
  exact⟨y.1,hx,by rw[e];rfl⟩
def br9 (K:ae)(names:List Str)(base:Heap):Prop:=∀ x∈names,∀ c P,a7 K x=some (c,P)->bG base c P
def bt0 (K:ae)(names:List Str)(H:Hp):Prop:=∀ x∈names,∀ c P,a7 K x=some (c,P)->H P=some (.tbl #[])
noncomputable def bE6 (K:ae)(names:List Str)(ts:List Addr):Bool:=names.all λ x=>match a7 K x with
 | some (c,P)=>jt K c P&&ts.contains P
 | none=>true
theorem ap4 {K:ae}{x:Str}(h:(a7 K x).isSome=true):a7 K x=some (((a7 K x).getD (0,0)).1,((a7 K x).getD (0,0)).2):=by
 obtain⟨p,e⟩:=fS.mp h
 rw[e]
 rfl
def bw0 (H:Hp)(P:Addr)(q:Str):Prop:=∃ ps:Array Value,H P=some (.tbl ps)/\js ps.toList/\∀ pos cv,dX pos ps.toList=some cv->∃ c',cv=.ref c'/\H c'=some (qr c' q)
def TabsH (T:List (Addr×Str))(H:Hp):Prop:=∀ y∈T,bw0 H y.1 y.2
def ba0 (H H':Hp):Prop:=∀ b o,(∀ ps,o≠.tbl ps)->H b=some o->H' b=some o
theorem ba0.of {H F:Hp}(a:ac1 H F):ba0 H F:=λ c o _ h=>a c o h
theorem TabsH.keep {T:List (Addr×Str)}{H H':Hp}(h:TabsH T H)(k:∀ b o,(∀ F,o≠.lst F)->H b=some o->H' b=some o):TabsH T H':=λ y hy=>by
 obtain⟨ps,e,t,c⟩:=h y hy
 refine⟨ps,k _ _ (λ _=>by nofun) e,t,λ pos G q=>?_⟩
 obtain⟨J,e1,e2⟩:=c pos G q
 exact⟨J,e1,k _ _ (λ _=>by unfold qr;nofun) e2⟩
theorem TabsH.same {T:List (Addr×Str)}{H H':Hp}(h:TabsH T H)(s:ac1 H H'):TabsH T H':=h.keep λ b o _ e=>s b o e
theorem TabsH.new {T:List (Addr×Str)}{H:Hp}{a:Addr}{o:HO}(h:TabsH T H)(n:H a=none):TabsH T (upd H a o):=h.same ((ac1.refl H).new n)
theorem TabsH.put {T:List (Addr×Str)}{H:Hp}{a:Addr}{o:HO}{F:List V}(h:TabsH T H)(n:H a=some (.lst F)):TabsH T (upd H a o):=h.keep λ b u d e=>by
 rw[zb λ z=>by subst z;rw[n]at e;cases e;exact d _ rfl];exact e
theorem TabsH.init {T:List (Addr×Str)}{H:Hp}(h:∀ p∈T.map (·.1),H p=some (.tbl #[])):TabsH T H:=λ y hy =>
 ⟨#[],h _ (bv hy),trivial,λ pos F e=>by simp[dX]at e⟩
theorem codeAmong_add {pos:Pos}{a b:Int}{c F:Value}:∀(l:List Value),js l->dX pos (l++[dj a,dj b,c])=some F->dX pos l=some F\/F=c:=by
 intro l
 fun_induction js l with
 | case1 =>
  intro _ e
  simp only[eX,dX,dj]at e
  split at e
  ·exact .inr (au e).symm
  ·cases e
 | case2 x t y u z rest ih =>
  intro h e
  simp only[eA,dX]at e ⊢
  split at e
  ·rename_i q
   left;rw[if_pos q];exact e
  ·rename_i q
   rw[if_neg q];exact ih h e
 | case3 l h1 h2=>intro h;exact h.elim
theorem Caught.same {cells:List (Str×Addr)}{N:List Str}{kd:Str->Option cj}{σ:St}{F h:Hp}(G:Caught cells N kd σ F h):ac1 F h:=λ b o e=>by
 rw[G.ne b λ z=>by rw[G.free b z]at e;cases e];exact e
theorem Fun.okC {P:aD}{w:World}{K:ae}{mg:Str->Option Value}{base:Heap}{x qual:Str}{st:Stmt}{f c:Addr}{Y:bF}{N ps:List Str}{k:Nat}{sp:Sp}(F:Fun K x qual st f Y)(Z:Y.code=.ref c)(S:FnScope N ps (defScope st))(len:∀ vs H Q E,sp vs H Q E->vs.length=ps.length)
  (J:∀(A:aM) (G:List Env) (s:af) (H:Hp) (vs:List V) (Q:VK) (E:XK),Room k (A.deeper (eW qual (defScope st) s.heap.objs.size f (.ref c)))->sp vs H Q E ->
   ∃ t,PSs (ap7 CX0 P w K mg base N qual (defScope st) f (.ref c) A G s H E).nox (zq st) t/\t { nx:=λ _ H'=>Q .non H',rt:=Q } (ad7 N vs) H):FnOk P w K mg base CX0 (k+1) f Y ps sp:=by
 obtain⟨oc,od,kV,a2,pm,an,a0,ct,a3,rfl,lk,hc⟩:=F.ex
 have e:a0=.ref c:=Z
 subst e
 refine bo0 lk hc S len λ A G s H vs Q E hr a1=>?_
 obtain⟨t,h,q⟩:=J A G s H vs Q E hr a1
 exact⟨t,h.nox,q⟩
theorem aS2 {X:Cx}{K:ae}(hc:X.calm=true)(hK:X.K=K):ab1 X (.builtin "min") (λ xs H Q=>∃ a ns,xs=[.ref a]/\SqL K H a (ns.map V.int)/\ns≠[]/\∀ m∈ns,(∀ y∈ns,m<=y)->Q (.int m) H):=by
 subst hK
 intro a1 s σ H xs us Q I r h
 obtain⟨a,ns,rfl,hS,hne,q⟩:=h
 obtain⟨u,rfl,ru⟩:=af3 r
 cases ru
 obtain⟨its,Y,Z,hz⟩:=I.list hS
 have hl:=Y.length
 rw[aw]at hl
 have a0:0<ns.length:=io.mpr hne
 refine call_min_walk (cK Z.isList ?_)
 have G:a<s.heap.objs.size:=by obtain⟨o,_,e,_⟩:=Z;exact az e
 have W:=iT (prog:=X.prog) (w:=X.w) (A:=X.A.in1) (I.ok.hd hc) s.heap.objs.size a (ay G) its.toArray
 let val:Nat->Int:=λ i=>ns.getD i 0
 have F:∀ i v,its.toArray[i]?=some v->∃ t,v=Value.int (val i) t:=λ i v e=>by
  obtain⟨z,t,e1,e2⟩:=ap2 Y (i:=i) (v:=v) (by rw[bI]at e;exact e)
  refine⟨t,?_⟩
  rw[e2]
  show Value.int z t=Value.int (ns.getD i 0) t
  rw[aG,e1]
  rfl
 refine⟨_,_,_,_,_,_,_,rfl,W,⟨⟨_,aC _ rfl,rfl,rfl⟩,?_⟩,λ b hb=>?_,by rw[ar];omega,iB val F,λ v h' tk hP k=>?_⟩
 ·obtain⟨o,e,r⟩:=Z.isList
  exact⟨o,ai _ e,r⟩
 ·show b<(s.heap.push _).objs.size
  rw[bP]
  rcases ax.mp hb with z|z
  ·rw[z];exact dB _
  ·have J:b=a:=by simpa using z
   rw[J];exact fH G
 ·obtain⟨z,t,e1,e2⟩:=ap2 Y (i:=bu (λ i j=>decide (val i<val j)) (its.toArray.size - 1)) (v:=v) (by rw[bI]at hP;exact hP)
  subst e2
  have hv:val (bu (λ i j=>decide (val i<val j)) (its.toArray.size - 1))=z:=by
   show ns.getD _ 0=z
   rw[aG,e1]
   rfl
  refine⟨.int z,H,I.kept (h':=h') (t':=tk) λ b o q=>k b o ?_ (ai _ q),⟨t,rfl⟩,q z (aX e1) λ y hy=>?_⟩
  ·intro z
   have J:b=s.heap.objs.size:=by simpa using z
   exact absurd (az q) (by rw[J];exact bo _)
  ·obtain⟨j,hj,e3⟩:=cq.mp hy
   have:=qD val (its.toArray.size - 1) j (by simp only[ar];omega)
   rw[hv]at this
   have e4:val j=y:=by
    show ns.getD j 0=y
    rw[aG,ag hj]
    exact e3
   omega
noncomputable def mx (a b:Int):Int:=if b > a then b else a
section
variable {X:Cx}
end
noncomputable def mx3 (a b c:Int):Int:=mx (mx a b) c
noncomputable def rnd (x:Int):Int:=if x=0\/x=3 then x else 2
noncomputable def sharp (n:Nat)(s:Nat->Nat->Int)(i j:Nat):Int:=(minO ((bf n).map λ k=>mx3 (s i k) (rnd (s k k)) (s k j))).getD 3
section
variable {n:Nat} {s:Nat->Nat->Int}
end
def al7 (H:Hp)(f:Addr)(name qual:Str)(params:bD)(body:List Stmt)(scope:Scope)(fr:List Str)(cap:List V)(clos:List (Str×Addr)):Prop :=
 ∃ doc pm c' ctv,H f=some (aC3 f (fI name qual params body scope clos .none .none doc pm none (.ref c') ctv))/\H c'=some (qr c' qual)/\Cells clos H /\
  (∀ x y c,clos.lookup x=some c->clos.lookup y=some c->x=y)/\(∀ x,scope.names.lookup x=some .free->∃ c,clos.lookup x=some c)/\Cap clos H fr cap
theorem al7.fn {K:ae}{H:Hp}{f:Addr}{name qual:Str}{params:bD}{body:List Stmt}{scope:Scope}{fr:List Str}{cap:List V}{F:List (Str×Addr)}(h:al7 H f name qual params body scope fr cap F):bI8 K H f:=by
 obtain⟨G,Z,c',Y,J,_⟩:=h
 exact .inl ⟨_,J⟩
end L2
end
noncomputable section
namespace L2
open PySem PySem.Spec PyProof.Rows Builtin
section
variable {P:aD} {w:World} {A:aM} {E:Value->af->Prop} {s:af}
theorem aw3 {it t:Addr}{i:Nat}{l:Array Value}{v:Value}{Q:Value->af->Prop}(F:s.heap.IsTupleIter it t i)(J:s.heap.IsTuple t l)(hv:l[i]?=some v)
  (k:∀ h',h'.IsTupleIter it t (i+1)->bV it s.heap h'->Q v { s with heap:=h' }):wpAny (model P w) A (bR (.ref it)) Q E s:=by
 obtain⟨o,e1,e2,h⟩:=id F
 obtain⟨p,p1,_,n,G⟩:=J
 unfold bR
 refine ah (cT (name:=aW "__next__") F.typeIs cD (dC cD F.typeIs fe ?_ (eY _)))
 show wpAny _ _ (field (.ref it) 0 >>= _) _ _ _
 refine ah (cN e1 h (x:=.ref t) rfl ?_)
 show wpAny _ _ (if(Value.ref t==Value.none)=true then _ else _) _ _ _
 rw[if_neg (show ¬((Value.ref t==Value.none)=true)from λ z=>nomatch z)]
 show wpAny _ _ (field (.ref it) 1 >>= _) _ _ _
 refine ah (cN e1 h (x:=.int i 0) rfl ?_)
 show wpAny _ _ (eD (.ref t) >>= _) _ _ _
 refine ah (cB p1 G ?_)
 simp only[bJ,hv]
 refine ah (wpAny_setField e1 h (by simp) (aA ⟨v,rfl,aA (k _ ⟨_,b8 _ e1 (Obj.isFreed_of_fields (iU h _)),(Obj.cls_mapFields ..).trans e2,by rw[iU h];simp[dj]⟩ (ip ..))⟩))
theorem aF8 {it t:Addr}{i:Nat}{l:Array Value}{Q:Value->af->Prop}(G:A.handled=none)(h:s.heap.IsTupleIter it t i)(Y:s.heap.IsTuple t l)(hv:l[i]?=none)
  (k:∀ h' e,jz it s.heap h'->(∃ o,h'.get? e=some o/\o.cls=.type "StopIteration")->E (.ref e) { s with heap:=h' }):wpAny (model P w) A (bR (.ref it)) Q E s:=by
 obtain⟨o,e1,e2,F⟩:=id h
 obtain⟨p,p1,_,n,J⟩:=Y
 unfold bR
 refine ah (cT (name:=aW "__next__") h.typeIs cD (dC cD h.typeIs fe ?_ (eY _)))
 show wpAny _ _ (field (.ref it) 0 >>= _) _ _ _
 refine ah (cN e1 F (x:=.ref t) rfl ?_)
 show wpAny _ _ (if(Value.ref t==Value.none)=true then _ else _) _ _ _
 rw[if_neg (show ¬((Value.ref t==Value.none)=true)from λ z=>nomatch z)]
 show wpAny _ _ (field (.ref it) 1 >>= _) _ _ _
 refine ah (cN e1 F (x:=.int i 0) rfl ?_)
 show wpAny _ _ (eD (.ref t) >>= _) _ _ _
 refine ah (cB p1 J ?_)
 simp only[bJ,hv]
 refine ah (iR (ah (wpAny_setField e1 F (by simp) ?_)))
 show wpAny _ _ (newExc (.type "StopIteration") [] >>= _) _ _ (_:af)
 refine ah ?_
 simp only[newExc,newTuple]
 refine ah (b7 ?_ (by size_fits))
 refine ah (m:=firstArgMember _ _) (gX (a:=Value.none) (by first|rfl|(simp only[firstArgMember];rfl)) (b7 ?_ (by size_fits)))
 simp only[raiseNew]
 refine ah (wpAny_handled ?_)
 first|rw[show A.in1.handled=none from G]|rw[G]
 exact ah (aA (wpAny_throw (k _ _ (((ip ..).extBut.push _).push _) ⟨_,aC _ rfl,rfl⟩)))
end
structure Dw (P:aD)(w:World)(K:ae)(J:It)(it:Addr)(tn:Nat->Heap->Prop):Prop where
 obj:∀ i h,tn i h->∃ o,h.get? it=some o/\∀ v,o.data≠.cell v
 keep:∀ i h h',tn i h->(∀ o,h.get? it=some o->h'.get? it=some o)->tn i h'
 item:∀(X:Cx),X.prog=P->X.w=w->X.K=K->∀(A:aM) (i:Nat) (pins:List (Addr×Obj)) (s:af) (σ:St) (H:Hp) (Q:Value->af->Prop) (E:Value->af->Prop),Inv X pins σ H s->tn i s.heap->J.go i H ->
  (∀ x u h' tk,RelV x u->J.yld i H x H->tn (i+1) h'->bV it s.heap h'->Q u { s with heap:=h',toks:=tk })->wpAny (model P w) A (bR (.ref it)) Q E s
 done:∀(X:Cx),X.prog=P->X.w=w->X.K=K->∀(A:aM) (i:Nat) (pins:List (Addr×Obj)) (s:af) (σ:St) (H:Hp) (Q:Value->af->Prop) (E:Value->af->Prop),A.handled=none->Inv X pins σ H s->tn i s.heap->J.stop i H ->
  (∀ h' e,jz it s.heap h'->(∃ o,h'.get? e=some o/\o.cls=.type "StopIteration")->E (.ref e) { s with heap:=h' })->wpAny (model P w) A (bR (.ref it)) Q E s
theorem bt1 {P:aD}{w:World}{K:ae}(a it:Addr):Dw P w K (Itl K a) it (λ i h=>h.IsListIter it a i) where
 obj:=λ i h st=>by
  obtain⟨o,e,c,d⟩:=st
  exact⟨o,e,λ v z=>by rw[d]at z;cases z⟩
 keep:=λ i h h' st k=>st.at k
 item:=by
  intro X J hw Y A i F s σ H Q E I st hg k
  subst J hw Y
  obtain⟨xs,x,hq,hx⟩:=hg
  obtain⟨its,G,p,hz⟩:=I.list hq
  obtain⟨u,hu,ru⟩:=G.get hx
  exact wpAny_nextOf_list_item st p.isList (x:=u) (by simpa using hu) λ h' Z sb=>k x u h' s.toks ru ⟨rfl,λ ys hy=>by rw[I.list_inj hy hq];exact hx⟩ Z sb
 done:=by
  intro X J hw Y A i F s σ H Q E hA I st hg k
  subst J hw Y
  obtain⟨xs,hq,hx⟩:=hg
  obtain⟨its,G,p,hz⟩:=I.list hq
  have hl:=G.length
  exact wpAny_nextOf_list_end hA st p.isList (by simp;omega) k
theorem bz2 {P:aD}{w:World}{K:ae}(a it:Addr):Dw P w K (Itt K a) it (λ i h=>h.IsTupleIter it a i) where
 obj:=λ i h st=>by
  obtain⟨o,e,c,d⟩:=st
  exact⟨o,e,λ v z=>by rw[d]at z;cases z⟩
 keep:=λ i h h' st k=>st.at k
 item:=by
  intro X J hw Y A i F s σ H Q E I st hg k
  subst J hw Y
  obtain⟨xs,x,hq,hx⟩:=hg
  obtain⟨its,G,p,hz⟩:=I.tuple hq
  obtain⟨u,hu,ru⟩:=G.get hx
  exact aw3 st (show s.heap.IsTuple a its.toArray from p) (v:=u) (by simpa using hu) λ h' Z sb=>k x u h' s.toks ru ⟨rfl,λ ys hy=>by rw[I.tuple_inj hy hq];exact hx⟩ Z sb
 done:=by
  intro X J hw Y A i F s σ H Q E hA I st hg k
  subst J hw Y
  obtain⟨xs,hq,hx⟩:=hg
  obtain⟨its,G,p,hz⟩:=I.tuple hq
  have hl:=G.length
  exact aF8 hA st (show s.heap.IsTuple a its.toArray from p) (by simp;omega) k
theorem bD4 {P:aD}{w:World}{K:ae}(x:Str)(t:Tok)(it:Addr):Dw P w K (Its x) it (λ i h=>h.IsStrIter it (gY x) x t i) where
 obj:=λ i h st=>by
  obtain⟨o,e,c,d⟩:=st
  exact⟨o,e,λ v z=>by rw[d]at z;cases z⟩
 keep:=λ i h h' st k=>by
  obtain⟨o,ho,r⟩:=st
  exact⟨o,k _ ho,r⟩
 item:=by
  intro X Y hw Z A i J s σ H Q E I st hg k
  subst Y hw Z
  have F:i<x.cps.size:=hg
  have hc:x.cps[i]?=some x.cps[i]:=by simp[F]
  unfold gY at st k
  cases ha:x.cps.all (·<128)
  ·rw[ha]at st k
   exact wpAny_nextOf_wide_item st hc λ h' G sb=>k (.str ⟨#[x.cps[i]]⟩) _ h' (s.toks+1) ⟨_,rfl⟩ ⟨rfl,_,hc,rfl⟩ G sb
  ·rw[ha]at st k
   exact wpAny_nextOf_ascii_item st hc λ h' G sb=>k (.str ⟨#[x.cps[i]]⟩) _ h' (s.toks+1) ⟨_,rfl⟩ ⟨rfl,_,hc,rfl⟩ G sb
 done:=by
  intro X Y hw Z A i J s σ H Q E hA I st hg k
  subst Y hw Z
  have F:x.cps.size<=i:=hg
  have hc:x.cps[i]?=none:=by simp[F]
  unfold gY at st
  cases ha:x.cps.all (·<128)
  ·rw[ha]at st
   exact wpAny_nextOf_wide_end hA st hc k
  ·rw[ha]at st
   exact wpAny_nextOf_ascii_end hA st hc k
theorem Inv.turnedL {X:Cx}{h:List (Addr×Obj)}{σ:St}{H:Hp}{s:af}{h':Heap}{t':Nat}{G:List Addr}(I:Inv X h σ H s)(f:∀ b∈G,FpOk X h H b)(k:∀ b o,b ∉ G->s.heap.get? b=some o->h'.get? b=some o):Inv X h σ H { s with heap:=h',toks:=t' }:=by
 have F:∀ b u,H b=some u->b ∉ G:=λ b u e z=>by rw[(f b z).1]at e;cases e
 refine I.step (g':=s.gens) (d':=s.drawn) (ch:=G) (λ b hb=>?_) (λ b o _ _ hc e _=>k b o hc e) (λ b o _ _ hc e _=>⟨o.slots,k b o hc e⟩) (λ _ _ _ _ n=>n)
  (λ b o hc e=>⟨o,k b o hc e⟩) (λ _ _ e=>e) (λ _ _ _ e=>e) (λ b ps e=>⟨#[],by rw[e];simp⟩) (λ m J=>?_) (λ b u e=>?_) I.bare
 ·obtain⟨f0,f1,f2,f3,Z,f5⟩:=f b hb
  exact⟨f3,f1,Z,f5⟩
 ·obtain⟨o,es,Y,ho,r⟩:=J
  exact⟨o,es,Y,k _ o (λ z=>(f _ z).2.1 rfl) ho,r⟩
 ·refine(I.hok b u e).stay (λ c v hc q=>k c v ?_ q) (λ _ q=>q) λ _ _ q=>q
  rcases hc with z|z
  ·rw[z];exact F b u e
  ·exact F c _ z
section
variable {X:Cx} {pins:List (Addr×Obj)} {σ:St} {H:Hp} {s:af} {A:aM} {E:Value->af->Prop} {J1 J2:It} {t1 t2:Nat->Heap->Prop} {z ti to i1 i2:Addr} {n:Nat} {a b:Value}
end
def Mkr (v:Value)(o:Obj)(h:Heap):Prop:=∀(P:aD) (w:World) (A:aM) (E:Value->af->Prop) (s:af) (Q:Value->af->Prop),(∀ b u,h.get? b=some u->s.heap.get? b=some u) ->
 Q (.ref s.heap.objs.size) { s with heap:=s.heap.push o }->wpAny (model P w) A (ji v) Q E s
def Sr (K:ae)(H:Hp)(x:V)(J:It):Prop:=(∃ a,x=.ref a/\(∃ xs,SqL K H a xs)/\J=Itl K a)\/(∃ a,x=.ref a/\(∃ xs,SqT K H a xs)/\J=Itt K a)\/∃ y,x=.str y/\J=Its y
theorem Sr.mk {X:Cx}{F:List (Addr×Obj)}{σ:St}{H:Hp}{s:af}{x:V}{u:Value}{J:It}(I:Inv X F σ H s)(h:Sr X.K H x J)(r:RelV x u) :
  ∃(o:Obj) (G:Addr->Nat->Heap->Prop),o.isFreed=false/\Mkr u o s.heap/\(∀ it,Dw X.prog X.w X.K J it (G it))/\∀ it h',h'.get? it=some o->G it 0 h':=by
 rcases h with⟨a,e,⟨Y,hq⟩,e'⟩|⟨a,e,⟨Y,hq⟩,e'⟩|⟨y,e,e'⟩
 ·subst e e';cases r
  obtain⟨its,Z,p,hz⟩:=I.list hq
  exact⟨_,λ it i h=>h.IsListIter it a i,rfl,λ P w A E s' Q hk q=>cK (p.isList.at λ o e=>hk _ _ e) q,λ it=>bt1 a it,λ it h' e=>⟨_,e,rfl,rfl⟩⟩
 ·subst e e';cases r
  obtain⟨its,Z,p,hz⟩:=I.tuple hq
  exact⟨_,λ it i h=>h.IsTupleIter it a i,rfl,λ P w A E s' Q hk q=>iL (Heap.IsTuple.at (show s.heap.IsTuple a its.toArray from p) λ o e=>hk _ _ e) q,λ it=>bz2 a it,λ it h' e=>⟨_,e,rfl,rfl⟩⟩
 ·subst e e';obtain⟨t,rfl⟩:=r
  exact⟨_,λ it i h=>h.IsStrIter it (gY y) y t i,rfl,λ P w A E s' Q hk q=>wpAny_pyIter_strU q,λ it=>bD4 y t it,λ it h' e=>⟨_,e,rfl,rfl⟩⟩
end L2
end
noncomputable section
namespace L2
open PySem PySem.Spec PyProof.Rows Builtin
open AutoSeq1 (wpAny_loadPart')
section
variable {X:Cx} {pins:List (Addr×Obj)} {σ:St} {H:Hp} {s:af} {A:aM} {E:Value->af->Prop} {J1:It} {t1:Nat->Heap->Prop} {z it:Addr} {n:Nat} {old:Value}
theorem aF7 {Q:Value->af->Prop}(D1:Dw X.prog X.w X.K J1 it t1)(ne:z≠it)(I:Inv X pins σ H s)(he:gZ s.heap z it n old)(h1:t1 n s.heap)(g1:J1.go n H)
  (k:∀ x u t h' tk,RelV x u->J1.yld n H x H->j6 h' z it ((n:Int)+1) u s.heap.objs.size->t1 (n+1) h'->IsPair h' s.heap.objs.size (.int n t) u ->
   (∀ c o,c≠z->c≠it->s.heap.get? c=some o->h'.get? c=some o)->Q (.ref s.heap.objs.size) { s with heap:=h',toks:=tk }) :
  wpAny (model X.prog X.w) A (kg.«enumerate.__next__» ⟨[.ref z],[]⟩) (λ fin s'=>∃ v,fin=.done (.ret v)/\Q v s') E s:=by
 obtain⟨hp,g,d,b1,os⟩:=s
 show wpAny _ _ (field (.ref z) 2 >>= _) _ _ (_:af)
 refine ah (cN he rfl (x:=.ref it) rfl ?_)
 refine ah (D1.item X rfl rfl rfl _ n pins _ σ H _ _ I h1 g1 λ x u p1 tk rx yx a3 s1=>?_)
 replace s1:bV it hp p1:=s1
 have J:gZ p1 z it n old:=(s1.2 z ne).trans he
 show wpAny _ _ (field (.ref z) 3 >>= _) _ _ ⟨p1,g,d,tk,os⟩
 refine ah (cN J rfl (x:=dj n) rfl ?_)
 show wpAny _ _ (field (.ref z) 4 >>= _) _ _ ⟨p1,g,d,tk,os⟩
 refine ah (cN J rfl (x:=.none) rfl ?_)
 show wpAny _ _ (mkInt n >>= _) _ _ ⟨p1,g,d,tk,os⟩
 refine ah (wpAny_mkInt ?_)
 show wpAny _ _ (setField (.ref z) 3 (dj ((n:Int)+1)) >>= _) _ _ ⟨p1,g,d,tk+1,os⟩
 refine ah (c7 J (by simp) λ p2 F s2=>?_)
 replace s2:bV z p1 p2:=s2
 replace F:gZ p2 z it ((n:Int)+1) old:=F
 show wpAny _ _ (setField (.ref z) 4 .none >>= _) _ _ ⟨p2,g,d,tk+1,os⟩
 refine ah (c7 F (by simp) λ p3 G s3=>?_)
 replace s3:bV z p2 p3:=s3
 replace G:gZ p3 z it ((n:Int)+1) old:=G
 show wpAny _ _ (newTuple [.int n tk,u] >>= _) _ _ ⟨p3,g,d,tk+1,os⟩
 refine ah (wpAny_newTuple ?_)
 have h:gZ (p3.push { cls:=.type "tuple",data:=.seq #[.int n tk,u] }) z it ((n:Int)+1) old:=ai _ G
 generalize Y:p3.push { cls:=.type "tuple",data:=.seq #[.int n tk,u] }=p4 at h
 have hsz:p3.objs.size=hp.objs.size:=by rw[s3.1,s2.1,s1.1]
 have a4:z<hp.objs.size:=az he
 have a5:p4.get? hp.objs.size=some { cls:=.type "tuple",data:=.seq #[.int n tk,u] }:=by rw[<-Y,<-hsz];exact aC _ rfl
 have a6:∀ b o,b≠z->b≠it->hp.get? b=some o->p4.get? b=some o:=λ b o hbe Z hb=>by
  rw[<-Y];exact ai _ (s3.extBut b o hbe (s2.extBut b o hbe (s1.extBut b o Z hb)))
 have b0:t1 (n+1) p4:=D1.keep _ _ _ a3 λ o y=>by
  rw[<-Y];exact ai _ (s3.extBut it o ne.symm (s2.extBut it o ne.symm y))
 show wpAny _ _ (dL (.ref z) >>= _) _ _ ⟨p4,g,d,tk+1,os⟩
 rw[hsz]
 clear Y G s3 F s2 J s1 a3 hsz p3 p2 p1
 refine ah ?_
 unfold dL
 refine ah (cN h rfl (x:=.none) rfl (aA ?_))
 simp only[if_true]
 refine ah (iR (ah (cN h rfl (x:=old) rfl ?_)))
 refine ah (c7 h (by simp) λ p5 a2 s5=>?_)
 replace s5:bV z p4 p5:=s5
 replace a2:gZ p5 z it ((n:Int)+1) u:=a2
 show wpAny _ _ (dG (.ref z) (.ref hp.objs.size) >>= _) _ _ ⟨p5,g,d,tk+1,os⟩
 refine ah ?_
 unfold dG
 refine ah (c7 a2 (by simp) λ p6 a1 s6=>?_)
 replace s6:bV z p5 p6:=s6
 replace a1:j6 p6 z it ((n:Int)+1) u hp.objs.size:=a1
 refine c7 a1 (by simp) λ p7 a0 s7=>?_
 replace s7:bV z p6 p7:=s7
 replace a0:j6 p7 z it ((n:Int)+1) u hp.objs.size:=a0
 have up:∀ b o,b≠z->p4.get? b=some o->p7.get? b=some o:=λ b o hb e=>s7.extBut b o hb (s6.extBut b o hb (s5.extBut b o hb e))
 exact ah (cY (aA ⟨_,rfl,k x u tk p7 (tk+1) rx yx a0 (D1.keep _ _ _ b0 λ o e=>up it o ne.symm e) (up _ _ (cZ a4) a5) λ b o hbe Z hb=>up b o hbe (a6 b o hbe Z hb)⟩))
end
noncomputable def Je (J1:It):It:=⟨λ i H=>J1.go i H,
 λ i H x H'=>∃ a x1,J1.yld i H x1 H/\H a=none/\x=.ref a/\H'=upd H a (.tup [.int i,x1]),λ i H=>J1.stop i H⟩
theorem aS3 {P:aD}{w:World}{K:ae}{elts:List Expr}{ek:Nat}{epos:Pos}{J1:It}{t1:Nat->Heap->Prop}{z it:Addr}(Z:Dw P w K J1 it t1)(ne:z≠it) :
  Turn P w K (.Tuple elts ek epos) (Je J1) [z,it] z (λ i h=>(∃ G,gZ h z it i G)/\t1 i h) where
 mem:=by simp
 obj:=λ i h st b hb=>by
  obtain⟨⟨G,hz⟩,Y⟩:=st
  simp only[ax,bp,or_false]at hb
  rcases hb with rfl|rfl
  ·exact⟨_,hz,λ v y=>by cases y⟩
  ·exact Z.obj _ _ Y
 keep:=λ i h h' st k=>by
  obtain⟨⟨G,hz⟩,Y⟩:=st
  exact⟨⟨G,k _ (by simp) _ hz⟩,Z.keep _ _ _ Y λ o e=>k _ (by simp) o e⟩
 item:=by
  intro X hP hw hK hc i F s σ H E I hf st hg
  subst hP hw hK
  obtain⟨⟨G,hz⟩,Y⟩:=st
  have hT:s.TypeIs (.ref z) "enumerate":=⟨_,hz,rfl⟩
  unfold fj
  refine ah (fV (cT (name:=aW "__next__") hT dk (dC dk hT gy
   (aF7 Z ne I hz Y hg λ x u t h' tk rx yx z' a3 T' kk=>aA ?_) (fY _))))
  refine⟨_,rfl,wpAny_letOwnedTupleGo_enum (s:={ s with heap:=h',toks:=tk }) z' λ a1 a4 J=>?_⟩
  replace J:bV z h' a1:=J
  have lt:∀ {c o},s.heap.get? c=some o->s.heap.objs.size≠c:=λ e=>cZ (az e)
  obtain⟨o1,e1,_⟩:=Z.obj _ _ Y
  have I1:Inv X F σ (upd H s.heap.objs.size (.tup [.int i,x])) { s with heap:=s.heap.push { cls:=.type "tuple",data:=.seq #[.int i t,u] },toks:=tk } :=
   I.laid (λ b u e=>ai _ e) (am _) ⟨by simp[aH],[.int i t,u],.cons ⟨t,rfl⟩ (.cons rx .nil),_,aC _ rfl,rfl,_,rfl⟩
  have a0:∀ b∈[z,it],FpOk X F (upd H s.heap.objs.size (.tup [.int i,x])) b:=λ b hb=>by
   have q:=hf b hb
   refine⟨?_,q.2⟩
   unfold upd
   rw[if_neg ?_]
   ·exact q.1
   ·simp only[ax,bp,or_false]at hb
    rcases hb with rfl|rfl
    ·exact(lt hz).symm
    ·exact(lt e1).symm
  have I2:Inv X F σ (upd H s.heap.objs.size (.tup [.int i,x])) { s with heap:=a1,toks:=tk }:=by
   refine I1.turnedL (s:={ s with heap:=s.heap.push { cls:=.type "tuple",data:=.seq #[.int i t,u] },toks:=tk }) a0 λ b o hb e=>?_
   simp only[ax,bp,or_false,not_or]at hb
   refine J.extBut _ _ hb.1 ?_
   by_cases hbT:b=s.heap.objs.size
   ·subst hbT
    have:=aC s.heap (o:={ cls:=.type "tuple",data:=.seq #[.int i t,u] }) rfl
    rw[show(s.heap.push { cls:=.type "tuple",data:=.seq #[.int i t,u] }).get? s.heap.objs.size=some o from e]at this
    cases this
    exact T'
   ·exact kk b o hb.1 hb.2 (by
     have e':(s.heap.push { cls:=.type "tuple",data:=.seq #[.int i t,u] }).get? b=some o:=e
     rw[Heap.get?_push_ne _ _ _ hbT]at e'
     exact e')
  exact⟨.ref s.heap.objs.size,_,I2,rfl,⟨_,x,yx,I.hok.fresh (am _),rfl,rfl⟩,⟨⟨u,by simpa using a4⟩,Z.keep _ _ _ a3 λ o e=>J.extBut _ _ ne.symm e⟩,λ b hb=>(a0 b hb).1⟩
 done:=by
  intro X hP hw hK hc i F s σ H E I hf st hg
  subst hP hw hK
  obtain⟨⟨G,hz⟩,Y⟩:=st
  have hT:s.TypeIs (.ref z) "enumerate":=⟨_,hz,rfl⟩
  unfold fj
  refine ah (fV (cT (name:=aW "__next__") hT dk (dC dk hT gy ?_ (fY _))))
  show wpAny _ _ (field (.ref z) 2 >>= _) _ _ (_:af)
  refine ah (cN hz rfl (x:=.ref it) rfl ?_)
  refine ah (Z.done X rfl rfl rfl _ i F s σ H _ _ (I.ok.hd hc) I Y hg λ h' e he hx=>?_)
  obtain⟨o,ho,a2⟩:=hx
  refine ah (wpAny_isInstance (T := "StopIteration") (b:=true) ⟨o,ho,a2⟩ isSubtype_stop ?_)
  exact aA ⟨rfl,I.turnedL (t':=s.toks) hf λ b o hb e=>by
   simp only[ax,bp,or_false,not_or]at hb
   exact he b o hb.2 e⟩
 self:=λ A i s Q E st h=>by
  obtain⟨⟨G,hz⟩,_⟩:=st
  exact jd hz h
theorem aw4 (l:Addr)(o:Obj)(F:Array Value)(n:Nat)(G:Option Addr)(sl:Array (Option Value)) :
  Meets (kg.«enumerate.__new__» ⟨[.type "enumerate",.ref l],[]⟩) (λ _ R s=>s.heap.get? l=some { cls:=.type "tuple",dict:=G,data:=.seq F n,slots:=sl }/\Mkr (.ref l) o s.heap /\
   R (.ok (.ret (.ref (s.heap.push o).objs.size))) { s with heap:=(s.heap.push o).push { cls:=.type "enumerate",data:=.fields #[.none,.bool false,.ref s.heap.objs.size,dj 0,.none,.none] } }) :=
 .of_wp λ prog w A R s h=>by
  obtain⟨hp,g,d,tk,os⟩:=s;obtain⟨hl,Y,h⟩:=h
  have J:=sub_enumerate
  have r1:∀ {P:aD} {w:World} {A:aM} {E:Value->af->Prop} {Q:Value->af->Prop},Q (.ref hp.objs.size) ⟨hp.push o,g,d,tk,os⟩->wpAny (model P w) A (ji (.ref l)) Q E ⟨hp,g,d,tk,os⟩:=λ {P w A E Q} q=>Y P w A E ⟨hp,g,d,tk,os⟩ Q (λ b u e=>e) q
  wp_walk using cu hl
  refine wpAny_stack_any λ st=>aA ?_
  split
  ·rename_i c _ _ _ _ _
   cases(c==Value.type "enumerate")
   ·wp_walk using cu hl,r1
    exact⟨_,rfl,h⟩
   ·wp_walk using cu hl,r1
    exact⟨_,rfl,h⟩
  ·wp_walk using cu hl,r1
   exact⟨_,rfl,h⟩
theorem ax5 (l:Addr)(o:Obj)(F:Array Value)(n:Nat)(G:Option Addr)(sl:Array (Option Value)) :
  Meets (kg.«enumerate.__new__» ⟨[.type "enumerate",.ref l],[]⟩) (λ _ R s=>s.heap.get? l=some { cls:=.type "list",dict:=G,data:=.seq F n,slots:=sl }/\Mkr (.ref l) o s.heap /\
   R (.ok (.ret (.ref (s.heap.push o).objs.size))) { s with heap:=(s.heap.push o).push { cls:=.type "enumerate",data:=.fields #[.none,.bool false,.ref s.heap.objs.size,dj 0,.none,.none] } }) :=
 .of_wp λ prog w A R s h=>by
  obtain⟨hp,g,d,tk,os⟩:=s;obtain⟨hl,Y,h⟩:=h
  have J:=sub_enumerate
  have r1:∀ {P:aD} {w:World} {A:aM} {E:Value->af->Prop} {Q:Value->af->Prop},Q (.ref hp.objs.size) ⟨hp.push o,g,d,tk,os⟩->wpAny (model P w) A (ji (.ref l)) Q E ⟨hp,g,d,tk,os⟩:=λ {P w A E Q} q=>Y P w A E ⟨hp,g,d,tk,os⟩ Q (λ b u e=>e) q
  wp_walk using cu hl
  refine wpAny_stack_any λ st=>aA ?_
  split
  ·rename_i c _ _ _ _ _
   cases(c==Value.type "enumerate")
   ·wp_walk using cu hl,r1
    exact⟨_,rfl,h⟩
   ·wp_walk using cu hl,r1
    exact⟨_,rfl,h⟩
  ·wp_walk using cu hl,r1
   exact⟨_,rfl,h⟩
theorem aG8 {P:aD}{w:World}{A:aM}{E:Value->af->Prop}{s:af}{l:Addr}{o:Obj}{Q:Value->af->Prop}(Y:o.isFreed=false)(J:Mkr (.ref l) o s.heap)
  (hl:(∃ h,s.heap.IsList l h)\/∃ h,s.heap.IsTuple l h)
  (k:∀ h',gZ h' (s.heap.objs.size+1) s.heap.objs.size 0 .none->h'.get? s.heap.objs.size=some o->(∀ c o,s.heap.get? c=some o->h'.get? c=some o)->Q (.ref (s.heap.objs.size+1)) { s with heap:=h' }) :
  wpAny (model P w) A (call (.type "enumerate") [.ref l]) Q E s:=by
 have hz:(s.heap.push o).objs.size=s.heap.objs.size+1:=bP ..
 have he:gZ ((s.heap.push o).push { cls:=.type "enumerate",data:=.fields #[.none,.bool false,.ref s.heap.objs.size,dj 0,.none,.none] }) (s.heap.objs.size+1) s.heap.objs.size 0 .none:=by
  have:=aC (s.heap.push o) (o:={ cls:=.type "enumerate",data:=.fields #[.none,.bool false,.ref s.heap.objs.size,dj 0,.none,.none] }) rfl
  rw[hz]at this;exact this
 rcases hl with⟨h,⟨c,F,G,sl⟩,hl,hc,n,hd⟩|⟨h,⟨c,F,G,sl⟩,hl,hc,n,hd⟩
 ·replace hc:c=.type "list":=hc
  replace hd:G=.seq h n:=hd
  subst hc hd
  refine callType_new iV (by decide) (gz _) (gL _) (λ obj=>g6 obj _) gM (ax5 l o h n F sl) ⟨hl,J,?_⟩
  show _/\_
  rw[hz]
  exact⟨⟨_,he,rfl⟩,k _ he (ai _ (aC _ Y)) λ b o x=>ai _ (ai _ x)⟩
 ·replace hc:c=.type "tuple":=hc
  replace hd:G=.seq h n:=hd
  subst hc hd
  refine callType_new iV (by decide) (gz _) (gL _) (λ obj=>g6 obj _) gM (aw4 l o h n F sl) ⟨hl,J,?_⟩
  show _/\_
  rw[hz]
  exact⟨⟨_,he,rfl⟩,k _ he (ai _ (aC _ Y)) λ b o x=>ai _ (ai _ x)⟩
def bI0 (K:ae)(ta:TA):TI:=λ σ H R=>ta σ H λ vs H1=>∃ a J1,vs=[.ref a]/\((∃ xs,SqL K H1 a xs)/\J1=Itl K a\/(∃ xs,SqT K H1 a xs)/\J1=Itt K a)/\R (Je J1) H1
theorem bk8 {X:Cx}{elts:List Expr}{ek:Nat}{epos:Pos}{a:Expr}{ta:TA}{p pos:Pos}(hg:Gl X "enumerate")(hm:X.mg "enumerate"=none)(ha:PA X [a] ta)(hs:bq [a] X.env=[(false,eval a X.env)]:=by rfl) :
  PI X (.Tuple elts ek epos) (.Call (.Name "enumerate" p) [a] [] pos) (bI0 X.K ta):=by
 intro Y s σ H R I h
 refine Call_ (ai7 I hg hm boot_enumerate (dm (thn (ha pos Y s σ H _ I h) λ us s1 ⟨vs,Z,G,r1,q1⟩=>?_) hs rfl))
 obtain⟨l,J1,e,S1,q⟩:=q1
 subst e
 cases r1 with
 | cons r rr =>
  cases rr
  have S:Sr X.K Z (.ref l) J1:=by
   rcases S1 with⟨a,b⟩|⟨a,b⟩
   ·exact .inl ⟨l,rfl,a,b⟩
   ·exact .inr (.inl ⟨l,rfl,a,b⟩)
  have L:(∃ F,s1.heap.IsList l F)\/∃ F,s1.heap.IsTuple l F:=by
   rcases S1 with⟨⟨xs,a⟩,b⟩|⟨⟨xs,a⟩,b⟩
   ·obtain⟨its,rv,p,hz⟩:=G.list a
    exact .inl ⟨_,p.isList⟩
   ·obtain⟨its,rv,p,hz⟩:=G.tuple a
    exact .inr ⟨_,show s1.heap.IsTuple l its.toArray from p⟩
  obtain⟨o1,n1,f1,m1,d1,z1⟩:=S.mk G r
  cases r
  refine aG8 f1 m1 L λ h' hz g1 kk=>jd hz ?_
  refine⟨s1.heap.objs.size+1,[s1.heap.objs.size+1,s1.heap.objs.size],_,_,Z,rfl,G.kept (t':=s1.toks) kk,aS3 (d1 _) (cZ (dB _)),⟨⟨_,hz⟩,z1 _ _ g1⟩,λ b hb=>?_,q⟩
  have J:s1.heap.objs.size<=b:=by
   simp only[ax,bp,or_false]at hb
   rcases hb with e|e<;>rw[e]<;>first|exact am _|exact Nat.le_add_right _ _
  exact G.fpOk J (G.hok.fresh J)
end L2
end
noncomputable section
namespace L2
open PySem PySem.Spec PyProof.Rows Builtin
open AutoSeq1 (wpAny_loadPart')
theorem ay0:fillsNumberSlot (.type "tuple") "mul"=pure false :=
 PySem.fillsNumberSlot_seq (id := "tuple.__mul__") (r:=some (.builtin "tuple.__rmul__")) d7.lookup (by decide +kernel) fZ.lookup (by decide +kernel)
theorem aI9:seqRepeat? (.type "tuple")=pure (some (.builtin "tuple.__mul__")):=by
 unfold seqRepeat?
 rw[ju (T := "tuple") (name := "__mul__") (id := "tuple.__mul__") d7.lookup (by decide +kernel),ju (T := "tuple") (name := "__rmul__") (id := "tuple.__rmul__") fZ.lookup (by decide +kernel)]
 rfl
theorem at5 (a:Int)(t:Tok)(l:Addr)(o:Obj)(F:Array Value)(n:Nat)(G:Option Addr)(sl:Array (Option Value)) :
  Meets (kg.«int.__rmul__» ⟨[.int a t,.ref l],[]⟩) (λ _ R s=>s.heap.get? l=some { cls:=.type "tuple",dict:=G,data:=.seq F n,slots:=sl }/\R (.ok (.ret Value.notImplemented)) s) :=
 .of_wp λ prog w A R s h=>by obtain⟨hp,g,d,tk,os⟩:=s;obtain⟨hl,h⟩:=h;wp_walk;exact⟨_,rfl,h⟩
noncomputable def al2 {α:Type}:Nat->List α->List α
 | 0,_=>[]
 | n+1,a=>a++al2 n a
theorem aB6 {α:Type}(l:List α):∀(n:Nat) (h:Array α),(aE n l.toArray).foldl (·++·) h=h++(al2 n l).toArray
 | 0,h=>by simp[al2]
 | n+1,h=>by rw[bH,db,aB6 l n];simp[al2]
theorem aq5 {α:Type}(a:Array α):∀(n:Nat) (h:Array α),((aE n a).foldl (·++·) h).size=h.size+a.size*n
 | 0,h=>by simp
 | n+1,h=>by rw[bH,db,aq5 a n,Array.size_append,Nat.mul_succ];omega
def TmA (items:Array Value)(k:Int)(l:Addr)(R:Value->af->Prop)(s:af):Prop :=
 ((items.isEmpty||k==1)=true->R (.ref l) s)/\((items.isEmpty||k==1)=false->R (.ref s.heap.objs.size) { s with heap:=s.heap.push { cls:=.type "tuple",data:=.seq ((aE k.toNat items).foldl (·++·) #[]) } })
theorem aS4 {P:aD}{w:World}{A:aM}{E:Value->af->Prop}{s:af}{l:Addr}{G:Array Value}{k:Int}{t:Tok}{Q:Value->af->Prop}(h0:0<=k)(h1:k<=1000000)(hz:G.size*k.toNat<=1000000)(hl:IsTup s.heap l G)
  (h:TmA G k l Q s):wpAny (model P w) A (call (.builtin "tuple.__mul__") [.ref l,.int k t]) Q E s:=by
 refine dC d7 hl.typeIs PySem.F.entry_tuple_mul ?_ (PySem.F.args_tuple_mul_2 _ _)
 obtain⟨Y,q2⟩:=h
 show wpAny _ _ (asIndex (.int k t) >>= _) _ _ _
 refine ah (aA ?_)
 rw[if_neg (by rw[decide_eq_false (by omega),decide_eq_false (by omega)];decide)]
 show wpAny _ _ (jS (.ref l) >>= _) _ _ _
 refine ah (tupleItemsOf_ hl ?_)
 have Z:(G.size:Int)*k<=1000000:=by
  have:((G.size*k.toNat:Nat):Int)<=1000000:=by omega
  rw[jD,e8 h0]at this
  exact this
 cases hb:(G.isEmpty||k==1)with
 | true =>
  rw[if_pos rfl]
  unfold jT
  refine ah (ah (wpAny_typeOf hl.typeIs (aA ?_)))
  rw[if_pos (by decide)]
  exact ah (iR (aA ⟨_,rfl,Y hb⟩))
 | false =>
  rw[if_neg aQ]
  have he:G.isEmpty=false:=by
   rw[eP]at hb;exact hb.1
  have q:=q2 hb
  show wpAny _ _ (if(decide (k<=0)||G.isEmpty)=true then _ else _) _ _ _
  by_cases hk:k<=0
  ·rw[if_pos (by rw[decide_eq_true hk];rfl)]
   have:k.toNat=0:=by omega
   rw[this]at q
   exact ah (b7 (aA ⟨_,rfl,q⟩) (by size_fits))
  ·rw[if_neg (by rw[decide_eq_false hk,he];decide)]
   show wpAny _ _ (if(G.size:Int)*k > (2^63 - 1) / 8 then _ else _) _ _ _
   rw[if_neg (by omega)]
   show wpAny _ _ (if fv ((G.size:Int)*k)=true then _ else _) _ _ _
   rw[if_neg (by unfold fv;rw[decide_eq_false (by unfold aH;omega)];decide)]
   refine ah (b7 (aA ⟨_,rfl,q⟩) ?_)
   show Array.size _<=aH
   rw[aq5]
   show 0+_<=_
   rw[d8]
   have J:G.size*k.toNat<=aH:=av hz (by decide)
   exact J
theorem aB8 {α:Type}:∀ n,al2 n ([]:List α)=[]
 | 0=>rfl
 | n+1=>by simp[al2,aB8 n]
theorem bc2 {α:Type}(l:List α):al2 1 l=l:=by simp[al2]
theorem aB2 {α:Type}(l:List α):∀ n,(al2 n l).length=l.length*n
 | 0=>by simp[al2]
 | n+1=>by simp[al2,aB2 l n,jA];omega
theorem Vals.repT {h:List V}{us:List Value}(r:Vals h us):∀ n,Vals (al2 n h) (al2 n us)
 | 0=>.nil
 | n+1=>r.append (Vals.repT r n)
def bM6 (K:ae):R2:=λ x y H Q=>∃ a xs n,x=.ref a/\y=.int n/\SqT K H a xs/\(0<=n/\n<=1000000/\xs.length*n.toNat<=1000000)/\∀ p H',ac1 H H'->SqT K H' p (al2 n.toNat xs)->(H' p=some (.tup (al2 n.toNat xs))\/(p=a/\al2 n.toNat xs=xs))->Q (.ref p) H'
theorem bt4 {X:Cx}{K:ae}(hK:X.K=K):OpR X (bZ .Mult) (bM6 K):=by
 subst hK
 intro J s σ H x y v u Q I Z ry h
 obtain⟨a,G,n,rfl,rfl,ha,⟨h0,Y,hz⟩,q⟩:=h
 cases Z
 obtain⟨t,rfl⟩:=ry
 obtain⟨its,r1,p1,a0⟩:=I.tuple ha
 have F:=r1.length
 obtain⟨⟨cls,dd,data,sl⟩,ho,hc,n1,hd⟩:=id p1
 simp only at hc hd
 subst hc hd
 refine fy (T := "tuple") (U := "int") (by decide) p1.typeIs (λ s'=>gj s' n t) ay0 iQ dR aI9 ik.lookup
  (gm dR (gj s n t) il (gU _ _) (at5 n t a default its.toArray n1 dd sl) ⟨ho,⟨rfl,p1.typeIs,aS4 h0 Y (by rw[ar,<-F];exact hz) p1 ⟨λ hb=>?_,λ hb=>?_⟩⟩⟩)
 ·have ex:al2 n.toNat G=G:=by
   rw[bW]at hb
   rcases hb with hb|hb
   ·have hi:its=[]:=by simpa using hb
    have hx:G=[]:=r1.nil_iff.mp hi
    rw[hx,aB8]
   ·have:n=1:=by simpa using hb
    subst this
    exact bc2 _
  exact⟨.ref a,H,I,rfl,q a H (ac1.refl H) (by rw[ex];exact ha) (.inr ⟨rfl,ex⟩)⟩
 ·have hp:=I.hok.fresh (am s.heap.objs.size)
  refine⟨.ref s.heap.objs.size,_,I.laid (t':=s.toks) (o:=.tup (al2 n.toNat G)) (λ b ob q=>ai _ q) (am _) ?_,rfl,q _ _ ((ac1.refl H).new hp) (SqT.of zg) (.inl zg)⟩
  refine⟨by rw[aB2];exact av hz (by decide),al2 n.toNat its,r1.repT _,?_⟩
  rw[show(al2 n.toNat its).toArray=(aE n.toNat its.toArray).foldl (·++·) #[]by rw[aB6];simp]
  exact⟨_,aC _ rfl,rfl,_,rfl⟩
end L2
end
noncomputable section
namespace L2
open PySem PySem.Spec PyProof.Rows
theorem bu2 (z:Str)(u:Tok):(⟨((jB z none none (some (-1,u))).filterMap (z.cps[·]?)).toArray⟩:Str)=⟨z.cps.reverse⟩:=by
 have h:=PyProof.Rows.step_rev_list z u
 unfold PySem.Txt.sliceBy at h
 rw[if_neg (by
  have:((((some ((-1:Int),u)).map (·.1)).getD 1==1))=false:=rfl
  rw[this];simp)]at h
 have G:((jB z none none (some (-1,u))).filterMap (z.cps[·]?))=z.cps.reverse.toList:=by
  have F:((jB z none none (some (-1,u))).filterMap (z.cps[·]?)).toArray.toList=(bf z.length).map λ k=>z.cps.getD (z.length - 1 - k) 0:=h
  rw[List.toList_toArray]at F
  rw[F]
  apply List.ext_getElem
  ·simp[Str.length]
  ·intro i J G
   have hz:z.length=z.cps.size:=rfl
   have hi:i<z.cps.size:=by simpa [hz]using J
   simp[hz]
   rw[Array.getElem?_eq_getElem (by omega)]
   rfl
 rw[G]
section
variable {κ:Type} [DecidableEq κ]
noncomputable def av4 (kvs:List (κ×V))(k:κ):Option V:=(kvs.find? λ kv=>decide (kv.1=k)).map (·.2)
noncomputable def an4 (kvs:List (κ×V))(k:κ)(v:V):List (κ×V) :=
 if(kvs.any λ kv=>decide (kv.1=k))=true then kvs.map (λ kv=>if kv.1=k then(kv.1,v)else kv)else kvs++[(k,v)]
theorem ah0 {p:κ×V}{r:List (κ×V)}{k:κ}(e:p.1=k):av4 (p::r) k=some p.2:=by simp[av4,di,e]
theorem ag8 {p:κ×V}{r:List (κ×V)}{k:κ}(e:¬ p.1=k):av4 (p::r) k=av4 r k:=by simp[av4,di,e]
theorem ap3 (k:κ):∀ h:List (κ×V),(h.any λ F=>decide (F.1=k))=(av4 h k).isSome
 | []=>rfl
 | p::r=>by
  rw[eI]
  by_cases e:p.1=k
  ·simp only[ah0 e,decide_eq_true e,Bool.true_or,cA]
  ·rw[ag8 e,decide_eq_false e,iA];exact ap3 k r
theorem qF (h:List (κ×V))(k:κ)(v:V):(an4 h k v).length<=h.length+1:=by
 unfold an4
 split
 ·rw[aw];omega
 ·rw[aR,aK,eZ];omega
theorem aI1.isSome_eq {o:Option V}{u:Option Value}(r:aI1 o u):o.isSome=u.isSome:=by
 cases o with
 | none=>cases u with
  | none=>rfl
  | some _=>exact(show False from r).elim
 | some _=>cases u with
  | none=>exact(show False from r).elim
  | some _=>rfl
theorem aI1.getD {o:Option V}{u:Option Value}{d:V}{d':Value}(r:aI1 o u)(h:RelV d d'):RelV (o.getD d) (u.getD d'):=by
 cases o with
 | none=>cases u with
  | none=>exact h
  | some _=>exact(show False from r).elim
 | some _=>cases u with
  | none=>exact(show False from r).elim
  | some _=>exact r
theorem KV.val {F:List (κ×V)}{vs:List (κ×Value)}(r:KV F vs)(k:κ):aI1 (av4 F k) (ig vs k):=by
 unfold KV at r
 induction r with
 | nil=>exact True.intro
 | @cons p q ps qs h t ih =>
  obtain⟨G,J⟩:=h
  by_cases e:p.1=k
  ·have e':q.1=k:=G.symm.trans e
   have b:ig (q::qs) k=some q.2:=by simp[ig,di,e']
   rw[ah0 e,b];exact J
  ·have e':¬ q.1=k:=λ z=>e (G.trans z)
   have b:ig (q::qs) k=ig qs k:=by simp[ig,di,e']
   rw[ag8 e,b];exact ih
theorem KV.any {F:List (κ×V)}{vs:List (κ×Value)}(r:KV F vs)(k:κ):(F.any λ G=>decide (G.1=k))=vs.any λ G=>decide (G.1=k):=by
 unfold KV at r
 induction r with
 | nil=>rfl
 | cons h t ih=>rw[eI,eI,ih,h.1]
theorem KV.repl {G:List (κ×V)}{vs:List (κ×Value)}(r:KV G vs)(k:κ){y:V}{u:Value}(Z:RelV y u) :
  KV (G.map λ F=>if F.1=k then(F.1,y)else F) (vs.map λ F=>if F.1=k then(F.1,u)else F):=by
 unfold KV at r ⊢
 induction r with
 | nil=>exact .nil
 | @cons p q ps qs h t ih =>
  rw[aV,aV]
  refine .cons ?_ ih
  obtain⟨J,Y⟩:=h
  by_cases e:p.1=k
  ·rw[if_pos e,if_pos (J.symm.trans e)];exact⟨J,Z⟩
  ·rw[if_neg e,if_neg (λ z=>e (J.trans z))];exact⟨J,Y⟩
theorem KV.put {h:List (κ×V)}{vs:List (κ×Value)}(r:KV h vs)(k:κ){y:V}{u:Value}(F:RelV y u):KV (an4 h k y) (stored vs k u):=by
 unfold an4 stored
 rw[r.any k]
 by_cases e:(vs.any λ G=>decide (G.1=k))=true
 ·rw[if_pos e,if_pos e];exact r.repl k F
 ·rw[if_neg e,if_neg e];exact kz r ⟨rfl,F⟩
theorem KV.length {h:List (κ×V)}{vs:List (κ×Value)}(r:KV h vs):h.length=vs.length:=ir r
end
theorem aG1 {P:aD}{w:World}{k:Key}{u:Value}(r:RelV (kV k) u):(zB P w).is k u=true:=by
 cases k with
 | inl i=>obtain⟨t,e⟩:=(show ∃ t,u=Value.int i t from r);subst e;exact ay7 P w i t
 | inr x=>obtain⟨t,e⟩:=(show ∃ t,u=Value.str x t from r);subst e;exact ay2 P w x t
theorem au9 {P:aD}{w:World}:∀ {F:List Key} {us:List Value},Vals (F.map kV) us->ItemsAre (zB P w) F us
 | [],_,r=>by rw[dA]at r;cases r;exact .nil
 | k::F,_,r=>by
  rw[aV]at r
  cases r with
  | cons h t=>exact .cons (aG1 h) (au9 t)
abbrev KT (H:Hp):List (List Key×V)->List (List Key×Addr×Value)->Prop:=fQ λ p q=>p.1=q.1/\H q.2.1=some (.tup (p.1.map kV))/\RelV p.2 q.2.2
theorem KT.val {H:Hp}{F:List (List Key×V)}{G:List (List Key×Addr×Value)}(r:KT H F G)(k:List Key):aI1 (av4 F k) ((atKey G k).map (·.2)):=by
 induction r with
 | nil=>exact True.intro
 | @cons p q ps qs h t ih =>
  obtain⟨J,_,Y⟩:=h
  by_cases e:p.1=k
  ·have e':q.1=k:=J.symm.trans e
   have b:atKey (q::qs) k=some q.2:=by simp[atKey,di,e']
   rw[ah0 e,b];exact Y
  ·have e':¬ q.1=k:=λ z=>e (J.trans z)
   have b:atKey (q::qs) k=atKey qs k:=by simp[atKey,di,e']
   rw[ag8 e,b];exact ih
theorem KT.repl {H:Hp}{F:List (List Key×V)}{Z:List (List Key×Addr×Value)}(r:KT H F Z)(k:List Key){y:V}{u:Value}(ry:RelV y u) :
  KT H (F.map λ J=>if J.1=k then(J.1,y)else J) (Z.map (putAt k u)):=by
 induction r with
 | nil=>exact .nil
 | @cons p q ps qs h t ih =>
  rw[aV,aV]
  refine .cons ?_ ih
  obtain⟨G,Y,h3⟩:=h
  unfold putAt
  by_cases e:p.1=k
  ·rw[if_pos e,if_pos (G.symm.trans e)];exact⟨G,Y,ry⟩
  ·rw[if_neg e,if_neg (λ z=>e (G.trans z))];exact⟨G,Y,h3⟩
theorem KT.put {H:Hp}{h:List (List Key×V)}{F:List (List Key×Addr×Value)}(r:KT H h F)(k:List Key){b:Addr}{y:V}{u:Value}(hb:H b=some (.tup (k.map kV)))(G:RelV y u) :
  KT H (an4 h k y) (storedH F k b u):=by
 have e:(h.any λ J=>decide (J.1=k))=(atKey F k).isSome:=by
  rw[ap3,(r.val k).isSome_eq,fJ]
 unfold an4 storedH
 rw[e]
 by_cases q:(atKey F k).isSome=true
 ·rw[if_pos q,if_pos q];exact r.repl k G
 ·rw[if_neg q,if_neg q];exact kz r ⟨rfl,hb,G⟩
theorem KT.keeps {H H':Hp}{h:List (List Key×V)}{F:List (List Key×Addr×Value)}(r:KT H h F)(G:∀ b ys,H b=some (.tup ys)->H' b=some (.tup ys)):KT H' h F :=
 fQ.mapP r λ _ _ z=>⟨z.1,G _ _ z.2.1,z.2.2⟩
section
variable {P:aD} {w:World} {H:Hp} {h:Heap} {a:Addr}
theorem bw7 {u:HO}(ok:HOk P w H h)(e:Rd H a u):aa8 P w H h a u:=e.ok ok
theorem aR6 {F:List (Key×V)}(ok:HOk P w H h)(e:Rd H a (.dK F)):F.length<=aH/\(a==dv)=false/\∃ vs,KV F vs/\h.DictOf (zB P w) a vs :=
 show aa8 P w H h a (.dK F)from bw7 ok e
theorem bz4 {F:List (Key×V)}(ok:HOk P w H h)(e:H a=some (.dK F)):F.length<=aH/\(a==dv)=false/\∃ vs,KV F vs/\h.DictOf (zB P w) a vs:=aR6 ok (.inl e)
theorem av1 {F:List Key}(ok:HOk P w H h)(e:H a=some (.tup (F.map kV))):(hZ (zB P w)).is h F a:=by
 obtain⟨_,its,r,o,Y,J,n,G⟩:=(show aa8 P w H h a (.tup (F.map kV))from ok a _ e)
 exact⟨o,its.toArray,n,Y,J,G,by simpa using au9 r⟩
theorem aS8 {F:List (List Key×V)}(ok:HOk P w H h)(e:Rd H a (.dT F)):F.length<=aH/\(a==dv)=false /\
  ∃ G,KT H F G/\h.DictOfH (hZ (zB P w)) a G:=by
 obtain⟨z,y,G,r,o,es,Y,Z,h2,J,h4,h5⟩:=(show aa8 P w H h a (.dT F)from bw7 ok e)
 refine⟨z,y,G,r,o,es,Y,Z,h2,J,h4,λ x hx=>?_,h5⟩
 have all:∀ {l:List (List Key×V)} {m:List (List Key×Addr×Value)},KT H l m->∀ x∈m,(hZ (zB P w)).is h x.1 x.2.1:=by
  intro l m q
  induction q with
  | nil=>intro x hx;exact nomatch hx
  | @cons p q ps qs hq t ih =>
   intro x hx
   rcases ax.mp hx with e|hx
   ·subst e
    exact av1 ok (by rw[<-hq.1];exact hq.2.1)
   ·exact ih x hx
 exact all r x hx
theorem bO5 {F:List (List Key×V)}(ok:HOk P w H h)(e:H a=some (.dT F)):F.length<=aH/\(a==dv)=false /\
  ∃ G,KT H F G/\h.DictOfH (hZ (zB P w)) a G:=aS8 ok (.inl e)
end
def av3 (H:Hp)(a:Addr)(y:V)(r:Option V):Prop :=
 (∃ kvs k,Rd H a (.dK kvs)/\y=kV k/\r=av4 kvs k)\/∃ kvs k b,Rd H a (.dT kvs)/\y=.ref b/\H b=some (.tup (k.map kV))/\r=av4 kvs k
def bt2 (H:Hp)(a:Addr)(y v:V)(H':Hp):Prop :=
 (∃ kvs k,H a=some (.dK kvs)/\y=kV k/\kvs.length<aH/\H'=upd H a (.dK (an4 kvs k v))) \/
 ∃ kvs k b,H a=some (.dT kvs)/\y=.ref b/\H b=some (.tup (k.map kV))/\kvs.length<aH/\H'=upd H a (.dT (an4 kvs k v))
theorem av3.k {H:Hp}{a:Addr}{h:List (Key×V)}{k:Key}(e:H a=some (.dK h)):av3 H a (kV k) (av4 h k):=.inl ⟨h,k,.inl e,rfl,rfl⟩
theorem av3.t {H:Hp}{a b:Addr}{h:List (List Key×V)}{k:List Key}(e:H a=some (.dT h))(eb:H b=some (.tup (k.map kV))):av3 H a (.ref b) (av4 h k):=.inr ⟨h,k,b,.inl e,rfl,eb,rfl⟩
theorem bt2.k {H:Hp}{a:Addr}{h:List (Key×V)}{k:Key}{v:V}(e:H a=some (.dK h))(hl:h.length<aH):bt2 H a (kV k) v (upd H a (.dK (an4 h k v))):=.inl ⟨h,k,e,rfl,hl,rfl⟩
theorem bt2.t {H:Hp}{a b:Addr}{h:List (List Key×V)}{k:List Key}{v:V}(e:H a=some (.dT h))(eb:H b=some (.tup (k.map kV)))(hl:h.length<aH) :
  bt2 H a (.ref b) v (upd H a (.dT (an4 h k v))):=.inr ⟨h,k,b,e,rfl,eb,hl,rfl⟩
section
variable {X:Cx} {pins:List (Addr×Obj)} {σ:St} {H:Hp} {s:af} {a:Addr} {y v:V} {u r:Value} {o:Option V} {A:aM} {E:Value->af->Prop}
theorem Inv.big (I:Inv X pins σ H s):dv<s.heap.objs.size:=by
 have h:bC<s.heap.objs.size:=(I.mod.glob.keeps I.bk).lt
 exact fc (by decide) h
theorem aq1 {Q:Value->af->Prop}(hu:A.units+1<cLine)(I:Inv X pins σ H s)(g:av3 H a y (some v))(ry:RelV y u)(h:∀ w' s',Inv X pins σ H s'->RelV v w'->Q w' s') :
  wpAny (model X.prog X.w) A (i9 (.ref a) u) Q E s:=by
 rcases g with⟨Y,k,e,J,l⟩|⟨Y,k,b,e,J,eb,l⟩
 ·subst J
  obtain⟨z,hd,vs,F,dd⟩:=aR6 I.hok e
  obtain⟨w',hw,G⟩:=aI1.some_of (v:=v) (o:=ig vs k) (by rw[l];exact F.val k)
  exact wpAny_getItem_of (aG1 ry) dd.mapOf hw (h w' _ (I.tok _) G)
 ·subst J
  cases(show u=Value.ref b from ry)
  obtain⟨z,hd,xs,F,dd⟩:=aS8 I.hok e
  obtain⟨w',hw,G⟩:=aI1.some_of (v:=v) (o:=(atKey xs k).map (·.2)) (by rw[l];exact F.val k)
  obtain⟨p,hp,Z⟩:=gx.mp hw
  refine wpAny_getItem_heap (dS hu) (av1 I.hok eb) dd hp ?_
  rw[Z]
  exact h w' _ (I.tok _) G
theorem bT2 {Q:Value->af->Prop}(Z:A.units+1<cLine)(I:Inv X pins σ H s)(g:av3 H a y o)(Y:RelV y u)(h:∀ s',Inv X pins σ H s'->Q (.bool o.isSome) s') :
  wpAny (model X.prog X.w) A (cr .In u (.ref a)) Q E s:=by
 rcases g with⟨J,k,e,G,l⟩|⟨J,k,b,e,G,eb,l⟩
 ·subst G
  obtain⟨z,hd,vs,F,dd⟩:=aR6 I.hok e
  refine wpAny_in_of (aG1 Y) hd dd.mapOf ?_
  rw[<-(F.val k).isSome_eq,<-l]
  exact h _ (I.tok _)
 ·subst G
  cases(show u=Value.ref b from Y)
  obtain⟨z,hd,xs,F,dd⟩:=aS8 I.hok e
  refine wpAny_in_heap (dS Z) (av1 I.hok eb) hd dd ?_
  have q:=(F.val k).isSome_eq
  rw[fJ]at q
  rw[<-q,<-l]
  exact h _ (I.tok _)
theorem aL2 {Q:Value->af->Prop}(Z:A.units+1<cLine)(I:Inv X pins σ H s)(g:av3 H a y o)(Y:RelV y u)(h:∀ s',Inv X pins σ H s'->Q (.bool (!o.isSome)) s') :
  wpAny (model X.prog X.w) A (cr .NotIn u (.ref a)) Q E s:=by
 rcases g with⟨J,k,e,G,l⟩|⟨J,k,b,e,G,eb,l⟩
 ·subst G
  obtain⟨z,hd,vs,F,dd⟩:=aR6 I.hok e
  refine wpAny_notIn_of (aG1 Y) hd dd.mapOf ?_
  rw[<-(F.val k).isSome_eq,<-l]
  exact h _ (I.tok _)
 ·subst G
  cases(show u=Value.ref b from Y)
  obtain⟨z,hd,xs,F,dd⟩:=aS8 I.hok e
  refine wpAny_notIn_heap (dS Z) (av1 I.hok eb) hd dd ?_
  have q:=(F.val k).isSome_eq
  rw[fJ]at q
  rw[<-q,<-l]
  exact h _ (I.tok _)
theorem ay3 {h':Heap}{t':Nat}{ob:HO}(I:Inv X pins σ H s)(mu:Mut (H a))(hs:bV a s.heap h')(he:∃ q,h'.get? a=some q)(new:aa8 X.prog X.w (upd H a ob) h' a ob) :
  Inv X pins σ (upd H a ob) { s with heap:=h',toks:=t' } :=
 I.write (x:=a) (e:=a) mu (.inl rfl) (λ b q hb z=>(hs.2 b hb).trans z) he new
theorem bf1 {P:aD}{w:World}{H':Hp}{h':Heap}{h:List (Key×V)}{vs:List (Key×Value)}(z:h.length<=aH)(hd:(a==dv)=false)(F:KV h vs)(dd:h'.DictOf (zB P w) a vs) :
  aa8 P w H' h' a (.dK h):=⟨z,hd,vs,F,dd⟩
theorem at7 {H':Hp}{Q:Unit->af->Prop}(hu:A.units+1<cLine)(I:Inv X pins σ H s)(g:bt2 H a y v H')(ry:RelV y u)(rv:RelV v r)(h:∀ s',Inv X pins σ H' s'->Q () s') :
  wpAny (model X.prog X.w) A (setItem (.ref a) u r) Q E s:=by
 rcases g with⟨G,k,e,Z,l,Y⟩|⟨G,k,b,e,Z,eb,l,Y⟩
 ·subst Z Y
  obtain⟨z,hd,vs,F,dd⟩:=bz4 I.hok e
  have hz:vs.length<=aH:=by rw[<-F.length];exact z
  have hl:(an4 G k v).length<=aH:=by have:=qF G k v;omega
  refine wpAny_setItem_pairs (hsz:=hz) (aG1 ry) dd λ h' J hs=>h _ ?_
  have he:∃ q,h'.get? a=some q:=let⟨q,_,_,hq,_⟩:=J;⟨q,hq⟩
  exact ay3 I (by rw[e];exact True.intro) hs he (bf1 hl hd (F.put k rv) J)
 ·subst Z Y
  cases(show u=Value.ref b from ry)
  obtain⟨z,hd,xs,F,dd⟩:=bO5 I.hok e
  have hz:xs.length<=aH:=by rw[<-ir F];exact z
  have hl:(an4 G k v).length<=aH:=by have:=qF G k v;omega
  refine wpAny_setItem_heap (hsz:=hz) (dS hu) (av1 I.hok eb) dd λ h' J hs=>h _ ?_
  obtain⟨q,es,ep,hq,h2,h3,h4,_,h5⟩:=J
  refine ay3 I (by rw[e];exact True.intro) hs ⟨q,hq⟩ ⟨hl,hd,_,(F.put k eb rv).keeps λ c ys ec=>?_,q,es,ep,hq,h2,h3,h4,h5⟩
  rw[zb (bM9 ec e (λ z=>nomatch z))]
  exact ec
end
section
variable {X:Cx} {pins:List (Addr×Obj)} {σ:St} {H:Hp} {s:af} {a:Addr} {kvs:List (Key×V)} {k:Key} {u:Value} {A:aM} {E:Value->af->Prop}
end
theorem al1 {X:Cx}{h:List (Addr×Obj)}{σ:St}{H:Hp}{s:af}{a:Addr}{y:V}{o:Option V}(I:Inv X h σ H s)(g:av3 H a y o):s.TypeIs (.ref a) "dict":=by
 rcases g with⟨F,k,e,_,_⟩|⟨F,k,b,e,_,_,_⟩
 ·obtain⟨_,_,vs,_,dd⟩:=aR6 I.hok e
  exact dd.typeIs
 ·obtain⟨_,_,G,_,dd⟩:=aS8 I.hok e
  exact dd.typeIs
section
variable {X:Cx} {o i e value:Expr} {pos pos' tpos:Pos} {td ty tv:TE}
end
theorem aC6 {P:aD}{w:World}{H:Hp}(h:Heap)(hb:dv<h.objs.size):aa8 P w H (h.push { cls:=.type "dict",data:=.dict #[] }) h.objs.size (.dK []) :=
 ⟨eO _,beq_eq_false_iff_ne.mpr (bX (ay hb)),[],.nil,Heap.DictOf.new h⟩
def bh3:TE:=λ _ H Q=>∀ p,H p=none->Q (.ref p) (upd H p (.dK []))
section
variable {X:Cx} {pos:Pos}
theorem aY3:PE X (.Dict [] [] pos) bh3:=λ F s σ H Q I h =>
 wpAny_Dict_empty ⟨.ref s.heap.objs.size,_,I.laid (a:=s.heap.objs.size) (o:=.dK []) (t':=s.toks) (λ _ _ q=>ai _ q) (am _) (aC6 s.heap I.big),rfl,h _ (I.hok.fresh (am _))⟩
end
noncomputable def aK0:List (TE×TE)->St->Hp->(List (V×V)->Hp->Prop)->Prop
 | [],_,H,Q=>Q [] H
 | (tk,tv)::r,σ,H,Q=>tk σ H λ x H1=>tv σ H1 λ y H2=>aK0 r σ H2 λ ps H3=>Q ((x,y)::ps) H3
abbrev VV:List (V×V)->List (Value×Value)->Prop:=fQ λ p q=>RelV p.1 q.1/\RelV p.2 q.2
def PPs (X:Cx)(pos:Pos)(keys:List (Option Expr))(values:List Expr)(trs:List (TE×TE)):Prop :=
 ∀(pins:List (Addr×Obj)) (s:af) (σ:St) (H:Hp) (Q:List (V×V)->Hp->Prop),Inv X pins σ H s->aK0 trs σ H Q ->
  wpAny (model X.prog X.w) X.A (evalPairs (pairTrees keys values X.env pos)) (λ vs s'=>∃ ps H',Inv X pins σ H' s'/\VV ps vs/\Q ps H') X.xe s
theorem bm5 {X:Cx}{pos:Pos}:PPs X pos [] [] []:=λ F s σ H Q I h=>pairTrees_nil_walk ⟨[],H,I,.nil,h⟩
theorem aZ7 {X:Cx}{pos:Pos}{k v:Expr}{Z:List (Option Expr)}{vs:List Expr}{tk Y:TE}{G:List (TE×TE)}(hk:PE X k tk)(hv:PE X v Y)(hr:PPs X pos Z vs G) :
  PPs X pos (some k::Z) (v::vs) ((tk,Y)::G):=λ F s σ H Q I h =>
 pairTrees_cons_walk (thn (hk F s σ H _ I h) λ u s1 ⟨x,H1,I1,rx,q1⟩=>thn (hv F s1 σ H1 _ I1 q1) λ w2 s2 ⟨y,H2,I2,ry,q2⟩ =>
  thn (hr F s2 σ H2 _ I2 q2) λ ws s3 ⟨ps,H3,I3,J,q3⟩=>⟨(x,y)::ps,H3,I3,.cons ⟨rx,ry⟩ J,q3⟩)
noncomputable def aq6 (kvs more:List (Key×V)):List (Key×V):=more.foldl (λ acc kv=>an4 acc kv.1 kv.2) kvs
theorem KV.merge:∀ {F:List (Key×V)} {J:List (Key×Value)} {G:List (Key×V)} {vs:List (Key×Value)},KV F J->KV G vs->KV (aq6 G F) (merged vs J):=by
 intro F J G vs r
 unfold KV at r
 induction r generalizing G vs with
 | nil=>intro q;exact q
 | @cons p q ps qs h t ih =>
  intro r0
  have e:KV (an4 G p.1 p.2) (stored vs q.1 q.2):=by
   have:=r0.put p.1 h.2
   rw[<-h.1];exact this
  exact ih e
theorem ae3:∀(F h:List (Key×V)),(aq6 h F).length<=h.length+F.length
 | [],h=>by show h.length<=h.length+0;omega
 | p::r,h=>by
  have G:=ae3 r (an4 h p.1 p.2)
  have J:=qF h p.1 p.2
  show(aq6 (an4 h p.1 p.2) r).length<=_
  rw[aK];omega
theorem an3 {P:aD}{w:World}:∀ {F:List (Key×V)} {ws:List (Value×Value)},VV (F.map λ J=>(kV J.1,J.2)) ws->∃ G,Carries (zB P w) ws G/\KV F G
 | [],_,r=>by rw[dA]at r;cases r;exact⟨[],True.intro,.nil⟩
 | p::F,_,r=>by
  rw[aV]at r
  cases r with
  | @cons a b as bs h t =>
   obtain⟨G,c,q⟩:=an3 (P:=P) (w:=w) t
   obtain⟨Z,Y⟩:=b
   exact⟨(p.1,Y)::G,⟨aG1 h.1,rfl,c⟩,.cons ⟨rfl,h.2⟩ q⟩
def bw6 (trs:List (TE×TE)):TE:=λ σ H Q=>∀ p,H p=none->aK0 trs σ (upd H p (.dK [])) λ ps H2=>H2 p=some (.dK [])/\∃ kvs:List (Key×V),ps=kvs.map (λ kv=>(kV kv.1,kv.2))/\kvs.length<=15/\Q (.ref p) (upd H2 p (.dK (aq6 [] kvs)))
theorem bq1 {X:Cx}{pos:Pos}{keys:List (Option Expr)}{F:List Expr}{G:List (TE×TE)}(h:PPs X pos keys F G)(J:keys.all (·.isSome)=true)(hl:keys.length=F.length)(h0:keys≠[])
  (a2:keys.length<=15):PE X (.Dict keys F pos) (bw6 G):=by
 intro Y s σ H Q I q
 have hn:=I.hok.fresh (am s.heap.objs.size)
 have I1:=I.laid (a:=s.heap.objs.size) (o:=.dK []) (h':=s.heap.push { cls:=.type "dict",data:=.dict #[] }) (t':=s.toks) (λ _ _ q=>ai _ q) (am _) (aC6 s.heap I.big)
 refine wpAny_Dict_walk (knd:=zB X.prog X.w) J hl h0 a2 (thn (h Y _ σ _ _ I1 (q _ hn)) λ ws s2 ⟨ps,H2,I2,a1,e,a0,ep,lk,q2⟩=>?_)
 subst ep
 obtain⟨rs,c,rk⟩:=an3 (P:=X.prog) (w:=X.w) a1
 obtain⟨z,hd,a3,r0,dd⟩:=bz4 I2.hok e
 cases r0
 refine⟨rs,c,dd,λ h' Z hs=>⟨.ref s.heap.objs.size,_,?_,rfl,q2⟩⟩
 have hz:(aq6 [] a0).length<=aH:=by
  have h1:=ae3 a0 []
  rw[eZ]at h1
  rw[eN];omega
 have he:∃ q,h'.get? s.heap.objs.size=some q:=let⟨q,_,_,hq,_⟩:=Z;⟨q,hq⟩
 exact ay3 I2 (by rw[e];exact True.intro) hs he (bf1 hz hd (rk.merge .nil) Z)
section
variable {X:Cx} {pins:List (Addr×Obj)} {σ:St} {H:Hp} {s:af} {a:Addr} {y d:V} {u r:Value} {o:Option V} {A:aM} {E:Value->af->Prop}
end
section
variable {X:Cx} {o e f:Expr} {apos cpos:Pos} {td ty tx:TE}
end
section
variable {P:aD} {w:World} {A:aM} {E:Value->af->Prop} {s:af}
end
section
variable {X:Cx} {pins:List (Addr×Obj)} {σ:St} {H:Hp} {s:af}
end
section
variable {prog:aD} {w:World} {A:aM} {R:jl->af->Prop} {I:Addr} {fp wr:List Addr} {n:Nat} {P:Nat->Value->Prop} {St:Nat->Heap->Prop} {kw:List (Str×Value)}
end
theorem aW4 (its:List Value):slicePick its.toArray none none (some (-1))=its.reverse.toArray:=by
 have hb:sliceBounds none none (some (-1)) its.toArray.size=((its.length:Int) - 1,-1,-1):=by
  unfold sliceBounds
  simp
 have G:sliceRange ((its.length:Int) - 1) (-1) (-1)=(bf its.length).map λ k=>its.length - 1 - k:=by
  unfold sliceRange
  have hc:(if(-1:Int) > 0 then(if(its.length:Int) - 1 < -1 then(-1 - ((its.length:Int) - 1)+-1 - 1) / -1 else 0)else(if(its.length:Int) - 1 > -1 then((its.length:Int) - 1 - -1 - -1 - 1) / (- -1)else 0))=its.length:=by
   rw[if_neg (by decide)]
   by_cases h:(its.length:Int) - 1 > -1
   ·rw[if_pos h,show(-(-1):Int)=1 by decide,Int.ediv_one];omega
   ·rw[if_neg h];omega
  simp only[hc,bJ]
  refine List.map_congr_left λ k hk=>?_
  have:=bL.mp hk
  omega
 unfold slicePick
 rw[hb]
 simp only[G]
 congr 1
 apply List.ext_getElem?
 intro i
 rw[cE]
 have e:((bf its.length).filterMap ((λ x=>its.toArray[x]?) ∘ λ k=>its.length - 1 - k))=(bf its.length).map λ k=>its.getD (its.length - 1 - k) .none:=by
  rw[<-ed]
  have F:∀(l:List Nat) (f g:Nat->Option Value),(∀ x∈l,f x=g x)->l.filterMap f=l.filterMap g:=λ l f g h=>by
   induction l with
   | nil=>rfl
   | cons a l ih=>rw[aO,aO,h a (aq ..),ih λ x hx=>h x (ak _ hx)]
  refine F _ _ _ λ k hk=>?_
  have:=bL.mp hk
  simp only[iC,bI,aG]
  rw[ag (by omega)]
  rfl
 rw[e]
 by_cases hi:i<its.length
 ·rw[aB,dH hi,List.getElem?_reverse hi,cw,aG,ag (by omega)]
  rfl
 ·rw[bS (by rw[aw,je];omega),bS (by rw[dF];omega)]
def bw2 (K:ae)(te ts:TE):TE:=λ σ H Q=>te σ H λ x H1=>ts σ H1 λ y H2=>y=.int (-1)/\((∃ z:Str,x=.str z/\z.length<=aH/\Q (.str ⟨z.cps.reverse⟩) H2)\/∃ a xs,x=.ref a/\SqL K H2 a xs/\∀ p,H2 p=none->Q (.ref p) (upd H2 p (.lst xs.reverse)))
theorem bo5 {X:Cx}{K:ae}{e st:Expr}{te ts:TE}{p2 pos:Pos}(hK:X.K=K)(he:PE X e te)(hs:PE X st ts):PE X (.Subscript e (.Slice none none (some st) p2) pos) (bw2 K te ts):=by
 subst hK
 intro G s σ H Q I h
 refine jL (thn (he G s σ H _ I h) λ v s1 ⟨x,H1,I1,r1,q1⟩=>?_)
 refine wpAny_Slice ?_
 rw[evalPart_none]
 refine aA ?_
 refine aA ?_
 rw[evalPart_some]
 refine thn (hs G s1 σ H1 _ I1 q1) λ w s2 ⟨y,H2,I2,r2,q2⟩=>?_
 obtain⟨rfl,q2⟩:=q2
 obtain⟨J,rfl⟩:=r2
 have Z:Inv X G σ H2 { s2 with heap:=s2.heap.push { cls:=.type "slice",data:=.fields #[.none,.none,.int (-1) J] } }:=I2.kept (t':=s2.toks) λ b ob q=>ai _ q
 have fin:∀(v:Value) (T:String) (id:String),typeLookup (.type T) "__getitem__"=pure (some (.builtin id))->Shared.TypeIs { s2 with heap:=s2.heap.push { cls:=.type "slice",data:=.fields #[.none,.none,.int (-1) J] } } v T->wpAny (model X.prog X.w) X.A (i9 v (.ref s2.heap.objs.size)) (EP X G σ Q) X.xe { s2 with heap:=s2.heap.push { cls:=.type "slice",data:=.fields #[.none,.none,.int (-1) J] } } ->
   wpAny (model X.prog X.w) X.A (subscriptTail e (.Slice none none (some st) p2) v (.ref s2.heap.objs.size)) (EP X G σ Q) X.xe { s2 with heap:=s2.heap.push { cls:=.type "slice",data:=.fields #[.none,.none,.int (-1) J] } }:=λ v T id hT Y hg=>jM (ops:=[v,.ref s2.heap.objs.size]) Y hT hg (by with_unfolding_all rfl)
 rcases q2 with⟨z,rfl,hz,q⟩|⟨a,xs,rfl,hx,q⟩
 ·obtain⟨t,rfl⟩:=r1
  have hg:wpAny (model X.prog X.w) X.A (i9 (.str z t) (.ref s2.heap.objs.size)) (EP X G σ Q) X.xe { s2 with heap:=s2.heap.push { cls:=.type "slice",data:=.fields #[.none,.none,.int (-1) J] } }:=by
   refine wpAny_getItem_str_slice (l:=none) (u:=none) (st:=some (-1,J)) ⟨_,aC _ rfl,rfl,rfl⟩ rfl ?_
   unfold sliceMade
   rw[if_neg (by
    have:((((some ((-1:Int),J)).map (·.1)).getD 1==1))=false:=rfl
    rw[this];simp),bu2]
   refine⟨?_,.str _,H2,Z.tok _,⟨_,rfl⟩,q⟩
   show z.cps.reverse.size<=aH
   rw[Array.size_reverse];exact hz
  exact fin _ _ _ F.slot_str_getitem.lookup (jN _ z t) hg
 ·cases r1
  obtain⟨its,r,Y,hz⟩:=Z.list hx
  have a0:=r.length
  have hg:wpAny (model X.prog X.w) X.A (i9 (.ref a) (.ref s2.heap.objs.size)) (EP X G σ Q) X.xe { s2 with heap:=s2.heap.push { cls:=.type "slice",data:=.fields #[.none,.none,.int (-1) J] } }:=by
   refine wpAny_getItem_list_slice (lo:=none) (hi:=none) (st:=some (-1)) Y.isList ⟨_,aC _ rfl,rfl,rfl⟩ .none .none (.int (-1) J) (by simp) ?_ (by rw[ar]<;>omega)
   rw[aW4]
   refine⟨.ref _,_,Z.laid (t':=s2.toks) (o:=.lst xs.reverse) (λ b ob q=>ai _ q) (am _) ?_,rfl,q _ (Z.hok.fresh (am _))⟩
   exact⟨by rw[dF];exact hz,_,0,r.reverse,aC _ rfl⟩
  exact fin (.ref a) _ _ ja.lookup Y.isList.typeIs hg
theorem bm1 (i:Int)(h:0<=i):jU i 1=i % 2:=by
 unfold jU
 rw[decide_eq_true h]
 show((i.toNat &&& (1:Int).toNat:Nat):Int)=_
 rw[show(1:Int).toNat=1 from rfl,Nat.and_one_is_mod]
 omega
theorem bk5 {X:Cx}:OpR X (bZ .BitAnd) (rI (λ i j=>0<=i/\j=1) λ i j=>.int (i % 2)):=opI λ i j _ _ _ _ _ hc q=>by
 obtain⟨h0,rfl⟩:=hc
 refine and_int ?_
 rw[bm1 i h0]
 exact q
theorem aJ1 {prog : aD} {w : World} {A : aM} {s : af} {K : ae} {x C : Addr}
  {R : jl -> af -> Prop} {tp : Value} (X : K.In s.heap) (L0 : eJ (model prog w) s.heap (jm (Value.ref x)) (Value.ref C))
  (hm : PySem.W.mroIn K C (Value.type "object") = some true) (h : R (Except.ok (Flow.ret (Value.ref C))) s) :
          d4 (model prog w) A
            (Code.call (Value.builtin "getset_descriptor.__get__")
              { pos := [Value.builtin "object.__class__", Value.ref x, tp] }) R s := by
  obtain⟨hh, g, dr, t, os⟩ := s
  have L1 := PySem.W.looks_mroIn (M := model prog w) X hm
  refine g7 iW.plain PySem.W.KF.entry_gs (iW.check (model prog w) A.in1 _ _ _ _ _ _ PySem.W.KF.type_class (PySem.W.KF.args_gs _ _ _) ?_)
  show wpAny (model prog w) A.in1 (do
                          let __x <- g8 { pos := [Value.builtin "object.__class__", Value.ref x, tp] }
                          match __x with
                            | (d, obj, snd) => dD d obj) _ _ _
  rw[PySem.W.dga_obj]
  refine ah (aA ?_)
  simp only[]
  unfold dD
  show wpAny (model prog w) A.in1 (do
      cU (Value.builtin "object.__class__") (Value.ref x)
      again (Code.builtin "object.__class__" { pos := [Value.ref x] })) _ _ _
  refine ah ?_
  unfold cU
  have e1 : f8 (Value.builtin "object.__class__") = pure (aW "__class__", Value.type "object") := by
    show pure (aW (cX "object.__class__").2, Value.type (cX "object.__class__").1) = _
    rw[PySem.W.KF.owner_class]
  rw[e1]
  refine ah (aA ?_)
  refine ah (ah (PySem.W.Looks.at L0 (PySem.W.Looks.at L1 (aA ?_))))
  refine aA ⟨Code.quiet_builtin _ (by decide +kernel), cI PySem.W.KF.entry_class ?_⟩
  refine ah ?_
  unfold shownTypeOf
  exact ah (PySem.W.Looks.at L0 (aA (aA h)))
theorem bN5 {M:Model}{h:Heap}{K:ae}{x D:Addr}{name:Str}{g a:Value}(X:K.In h)
 (J:bM K (Value.ref D) name=some (some a)) (F:d3 K a (aW "__get__")=some (some g)) (G:eV K a=some true) :
 eJ M h (dY (Value.ref x) (Value.ref D) name) (Builtin.ObjectAttr.Found.bind g a):=by
 have L1:=eQ (M:=M) X J
 have L2:=PySem.W.looks_specialIn (M:=M) X F
 have L3:=PySem.W.looks_takesIn (M:=M) X G
 unfold dY
 refine cF L1 (cF (a:=some g) L2 ?_)
 refine cF (a:=some (g,a)) (cF L3 fK) (kD fK)
def XAt (h:Heap)(x C:Addr):Prop:=∃ ox,h.get? x=some ox/\ox.cls=Value.ref C
theorem XAt.type {M:Model}{h:Heap}{x C:Addr}(I:XAt h x C):eJ M h (jm (Value.ref x)) (Value.ref C):=by
 obtain⟨J,G,F⟩:=I
 exact F▸cF (kF G) fK
theorem by9 {prog : aD} {w : World} {A : aM} {E : Value -> af -> Prop} {s : af} {K : ae}
  {x D : Addr} {name : Str} {Q : Option Value -> af -> Prop} {g a : Value}
  (X : K.In s.heap) (L0 : eJ (model prog w) s.heap (jm (Value.ref x)) (Value.ref D))
  (L1 : eJ (model prog w) s.heap (dY (Value.ref x) (Value.ref D) name) (Builtin.ObjectAttr.Found.bind g a))
  (hga : bM K (Value.ref D) (aW "__getattribute__") = some (some (Value.builtin "BaseException.__getattribute__")))
  (hk : bM K (Value.ref D) (aW "__getattr__") = some none)
  {nm q : Str} {N : Addr} {bs bm : List Value} {hdct : Bool} {sn : List Str} {sub : List Value} {ab : Bool} {col : Option Bool} {dd : Option Addr} {k0 k1 k2 k3 k5 : Option Value} {newId : String} {o : Obj}
  (hC : s.heap.get? D = some (excClassObj nm q D N bs bm hdct sn sub ab col dd k0 k1 k2 k3 k5 newId)) (T : OwnTailQ s.heap [.type "ValueError", .type "Exception", .type "BaseException", .type "object"] bm) (hx : s.heap.get? x = some o) (hc : o.cls = .ref D)
  (h : wpAny (model prog w) A.in1 (call g [a, Value.ref x, Value.ref D]) (λ v s' => wpAny (model prog w) A (handedOut v) (λ v s'' => Q (some v) s'') (λ _ _ => False) s') (λ _ _ => False) { heap := s.heap, gens := s.gens, drawn := s.drawn, toks := s.toks + 1, os := s.os }) :
          wpAny (model prog w) A (getAttr? (Value.ref x) name) Q E s := by
  obtain⟨hh, gg, d, t, os⟩ := s
  have Lg := eQ (M := model prog w) X hga
  have L2 := eQ (M := model prog w) X hk
  have f3 := ee.ga.bind (Value.ref x)
  unfold getAttr?
  refine ah (wpAny_mkText ?_)
  unfold getAttrBy?
  refine ah (fV (bT (ah (PySem.W.Looks.at L0 (ah (PySem.W.Looks.at Lg ?_))))))
  refine wpAny_ite_false rfl ?_
  refine ah (wpAny_ite_true rfl (PySem.W.Looks.at L2 ?_))
  refine ah (fV (bT ?_))
  refine wpAny_ite_false rfl ?_
  refine ah (gX f3 (iO ?_))
  refine g7 ee.ga.plain F.entry_bexc_ga ?_
  refine wpAny_check_ga_own ee hC T hx hc ?_
  refine ah (aA ?_)
  refine ah (aA (ah (PySem.W.Looks.at L0 (ah (PySem.W.Looks.at L1 ?_)))))
  refine ah (bT (bj h (λ v s' z => aA ?_) λ _ _ z => z.elim))
  exact bj z (λ v s'' hv => aA hv) λ _ _ z => z.elim
noncomputable def zt (h:Heap)(l:List Addr):Heap:={ h with objs:=h.objs.mapIdx λ i o=>if i∈l then { o with data:=.freed } else o }
theorem zn {h:Heap}{l:List Addr}{b:Addr}(hb:b∈l):(zt h l).get? b=none:=by
 unfold Heap.get? zt
 simp only[gN]
 cases e:h.objs[b]? with
 | none=>rfl
 | some o=>simp only[cw,if_pos hb]
theorem qe {h:Heap}{l:List Addr}{b:Addr}(hb:b ∉ l):(zt h l).get? b=h.get? b:=by
 unfold Heap.get? zt
 simp only[gN]
 cases e:h.objs[b]? with
 | none=>rfl
 | some o=>simp only[cw,if_neg hb]
theorem zL {h:Heap}{l:List Addr}:(zt h l).StaysIn h:=λ b o e=>by
 by_cases hb:b∈l
 ·rw[zn hb]at e;cases e
 ·rwa [qe hb]at e
theorem without_none {h:Heap}{l:List Addr}{b:Addr}(e:(zt h l).get? b=none):b∈l\/h.get? b=none:=by
 by_cases hb:b∈l
 ·exact .inl hb
 ·rw[qe hb]at e;exact .inr e
theorem aj1 {h base F:Heap}:∀ {l:List Env},h.FunFrames base l->(∀ b∈frs l,F.get? b=none)->h.FunFrames F l
 | [],_,_=>True.intro
 | env::l,⟨k,⟨L,o,hf,_,ho,hd⟩,r⟩,hb=>by
  have G:frs (env::l)=L::frs l:=by unfold frs;rw[aO,hf]
  rw[G]at hb
  exact⟨k,⟨L,o,hf,hb L (aq ..),ho,hd⟩,aj1 r λ b z=>hb b (ak _ z)⟩
theorem HOk.part {P:aD}{w:World}{H:Hp}{h h':Heap}(x:HOk P w H h)(k:∀ b u o,H b=some u->h.get? b=some o->h'.get? b=some o):HOk P w H h':=λ a o e =>
 (x a o e).stay (λ b u hb q=>by
  rcases hb with rfl|hb
  ·exact k _ _ _ e q
  ·exact k _ _ _ hb q) (λ _ q=>q) λ _ _ q=>q
theorem aa8.at_ {P:aD}{w:World}{H:Hp}{h:Heap}{a:Addr}{o:HO}(x:aa8 P w H h a o):∃ u,h.get? a=some u:=by
 cases o with
 | lst xs=>obtain⟨_,_,_,_,e⟩:=x;exact⟨_,e⟩
 | tup xs=>obtain⟨_,_,_,ob,e,_⟩:=x;exact⟨_,e⟩
 | dK kvs=>obtain⟨_,_,_,_,o,_,_,e,_⟩:=x;exact⟨_,e⟩
 | dT kvs=>obtain⟨_,_,_,_,o,_,_,e,_⟩:=x;exact⟨_,e⟩
 | set S n=>obtain⟨o,_,_,_,e,_⟩:=x;exact⟨_,e⟩
 | ins C dx fs=>obtain⟨_,_,_,e,_⟩:=x;exact⟨_,e⟩
 | own y=>exact x
 | xd fs=>obtain⟨_,⟨_,_,_,e,_⟩,_⟩:=x;exact⟨_,e⟩
 | rng lo hi=>obtain⟨_,_,_,e⟩:=x;exact⟨_,e⟩
 | frz ob u=>obtain⟨e,_⟩:=x;exact⟨_,e⟩
 | tbl ps=>exact⟨_,(show h.get? a=some _ from x)⟩
 | met f y=>exact⟨_,(show h.get? a=some _ from x)⟩
 | ext φ=>obtain⟨_,e,_⟩:=x;exact e
structure Fly (h0:Heap)(H:Hp)(h:Heap)(a C:Addr):Prop where
 new:h0.get? a=none
 free:H a=none
 at_:∃ a0 oe vs T oT ts,h.get? a=some oe/\(oe.cls=.ref C/\vs[0]?=some a0)/\oe.data=.fields vs/\vs[1]?=some (.ref T)/\h0.get? T=none/\H T=none/\T≠a/\h.get? T=some oT/\oT.data=.fields ts/\ts[3]?=some .none
section
variable {X:Cx} {pins:List (Addr×Obj)} {σ:St} {H:Hp} {s:af} {a C:Addr} {a0:Value}
theorem aN1 (I:Inv X pins σ H s)(Y:X.ex=[]){bs:List Addr}(a1:∀ b∈frs X.stack,b∈bs)(hb:∀ b∈bs,b∈frs X.stack\/(X.s₀.heap.get? b=none/\H b=none))(n0:X.s₀.heap.get? a=none)(nH:H a=none)(F:∀ b∈X.fs,b∈frs X.stack)
  {h':Heap} (L:Heap.LeftW (zt s.heap bs) X.stack a (.ref C) a0 s.heap h'):Un X.fs [] X.H₀ H X.s₀.heap h'/\HOk X.prog X.w H h'/\Fly X.s₀.heap H h' a C:=by
 obtain⟨st,ff,tr,sl⟩:=L
 have un:=I.base
 rw[Y]at un
 have keep:∀ b o,b ∉ bs->s.heap.get? b=some o->h'.get? b=some o:=λ b o n e=>st b o (by rw[qe n];exact e)
 have slot:∀ b o,b∈frs X.stack->s.heap.get? b=some o->∃ sl,h'.get? b=some { o with slots:=sl }:=λ b o n e=>by
  obtain⟨_,Z,e',d⟩:=I.stack.mem n
  rw[e]at e';cases e'
  exact sl b o e d
 have out:∀ b o,X.s₀.heap.get? b=some o->b ∉ frs X.stack->b ∉ bs:=λ b o e n z=>by
  rcases hb b z with q|⟨q,_⟩
  ·exact n q
  ·rw[e]at q;cases q
 have G:∀ b o,X.s₀.heap.get? b=some o->b ∉ X.fs->b ∉ frs X.stack:=λ b o e n z=>by
  rcases ax.mp (I.stkSub b z)with q|q
  ·subst q
   exact absurd (az e) (jQ.mpr I.ok.above)
  ·exact n q
 refine⟨⟨λ b o e n h nx=>?_,λ b o e n h nx=>?_,un.free,λ b o e nx=>?_,un.tups,un.frzs,un.tbls⟩,I.hok.part λ b u o e q=>?_,⟨n0,nH,?_⟩⟩
 ·exact keep b o (out b o e (G b o e h)) (un.keep b o e n h nx)
 ·obtain⟨a2,e1⟩:=un.slot b o e n h nx
  obtain⟨J,e2⟩:=slot b _ (F b h) e1
  exact⟨J,e2⟩
 ·obtain⟨o1,e1⟩:=un.there b o e nx
  by_cases z:b∈frs X.stack
  ·obtain⟨_,e2⟩:=slot b _ z e1
   exact⟨_,e2⟩
  ·exact⟨_,keep b o1 (out b o e z) e1⟩
 ·refine keep b o (λ z=>?_) q
  rcases hb b z with y|⟨_,y⟩
  ·rw[I.stkFree b y]at e;cases e
  ·rw[y]at e;cases e
 ·obtain⟨oe,vs,T,oT,ts,h1,h2,h3,h4,h5,h6,h7,h8,h9⟩:=tr
  have key:X.s₀.heap.get? T=none/\H T=none:=by
   rcases without_none h5 with z|z
   ·rcases hb T z with y|y
    ·obtain⟨_,Z,e',d⟩:=ff.mem y
     rw[h7]at e';cases e'
     exact absurd h8 (d _)
    ·exact y
   ·refine⟨?_,?_⟩
    ·cases e:X.s₀.heap.get? T with
     | none=>rfl
     | some o=>obtain⟨Z,e'⟩:=un.there T o e (by simp);rw[z]at e';cases e'
    ·cases e:H T with
     | none=>rfl
     | some o=>obtain⟨u,e'⟩:=(I.hok T o e).at_;rw[z]at e';cases e'
  exact⟨a0,oe,vs,T,oT,ts,h1,h2,h3,h4,key.1,key.2,h6,h7,h8,h9⟩
theorem aV2 {oe:Obj}{vs:Array Value}(I:Inv X pins σ H s)(Y:X.ex=[])(h:X.stack=X.env::X.outer)(J:X.env.frame=some X.env.locals)(n0:X.s₀.heap.get? a=none)(nH:H a=none)
  (h1:s.heap.get? a=some oe) (h2:oe.cls=.ref C) (h3:oe.data=.fields vs) (h4:vs[1]?=some .none) (h5:vs[0]?=some a0) {Q:Unit->af->Prop} {E:Value->af->Prop}
  (k:∀ h',Un X.fs [] X.H₀ H X.s₀.heap h'->HOk X.prog X.w H h'->Fly X.s₀.heap H h' a C->Q () { s with heap:=h' }):wpAny (model X.prog X.w) X.A (leaving X.env (.ref a)) Q E s:=by
 have Z:s.heap.FunFrames (zt s.heap (a::frs X.stack)) X.stack:=aj1 I.stack λ b hb=>zn (ak _ hb)
 have G:∀ b∈X.fs,b∈frs X.stack:=λ b hb=>by rw[h];unfold frs;rw[aO,J];exact ak _ hb
 have F:=I.ok.frames
 rw[h]at F
 refine wpAny_leaving_firstW (base:=zt s.heap (a::frs X.stack)) F (by rw[<-h];exact Z) J h1 zL (zn (aq ..)) h3 h4 h5 λ h' L=>?_
 rw[h2,<-h]at L
 obtain⟨u,o,f⟩:=aN1 I Y (λ b hb=>ak _ hb) (λ b hb=>by
  rcases ax.mp hb with q|q
  ·subst q;exact .inr ⟨n0,nH⟩
  ·exact .inl q) n0 nH G L
 exact k h' u o f
theorem aG0 (I:Inv X pins σ H s)(Z:X.ex=[])(h:X.stack=X.env::X.outer)(Y:X.env.frame=some X.env.locals)(F:Fly X.s₀.heap H s.heap a C){Q:Unit->af->Prop}{E:Value->af->Prop}
  (k:∀ h',Un X.fs [] X.H₀ H X.s₀.heap h'->HOk X.prog X.w H h'->Fly X.s₀.heap H h' a C->Q () { s with heap:=h' }):wpAny (model X.prog X.w) X.A (leaving X.env (.ref a)) Q E s:=by
 obtain⟨n0,nH,a0,oe,vs,T,oT,ts,h1,h2,h3,h4,h5,h6,h7,h8,h9,a2⟩:=F
 have a1:s.heap.FunFrames (zt s.heap (a::T::frs X.stack)) X.stack:=aj1 I.stack λ b hb=>zn (ak _ (ak _ hb))
 have J:∀ b∈X.fs,b∈frs X.stack:=λ b hb=>by rw[h];unfold frs;rw[aO,Y];exact ak _ hb
 have G:=I.ok.frames
 rw[h]at G
 refine wpAny_leaving_nextW (base:=zt s.heap (a::T::frs X.stack)) G (by rw[<-h];exact a1) Y ⟨oe,vs,T,oT,ts,h1,h2,h3,h4,zn (by simp),h7,h8,h9,a2⟩ zL (zn (aq ..)) λ h' L=>?_
 rw[<-h]at L
 obtain⟨u,o,f⟩:=aN1 I Z (λ b hb=>ak _ (ak _ hb)) (λ b hb=>by
  rcases ax.mp hb with q|q
  ·subst q;exact .inr ⟨n0,nH⟩
  ·rcases ax.mp q with q|q
   ·subst q;exact .inr ⟨h5,h6⟩
   ·exact .inl q) n0 nH J L
 exact k h' u o f
end
noncomputable def CX1 (P:aD)(w:World):CXT:=λ outer H s E e s'=>∃ a C H',e=.ref a/\s'.os=s.os/\e9 s'.gens/\Un (frs outer) [] H H' s.heap s'.heap/\HOk P w H' s'.heap/\Fly s.heap H' s'.heap a C/\E e (some C) H'
theorem CX1.inv {X:Cx}{G:List (Addr×Obj)}{σ:St}{H:Hp}{s s':af}{E:XK}{e:Value}(I:Inv X G σ H s)(Y:X.ex=[])(h:CX1 X.prog X.w X.stack H s E e s') :
  ∃ a C H',e=.ref a/\Inv X G σ H' s'/\Fly X.s₀.heap H' s'.heap a C/\E e (some C) H':=by
 obtain⟨a,C,H',rfl,os,bare,un,hok,F,q⟩:=h
 have J:∀ b,s.heap.get? b=none->X.s₀.heap.get? b=none:=λ b z=>by
  cases e:X.s₀.heap.get? b with
  | none=>rfl
  | some o=>obtain⟨o',e'⟩:=I.base.there b o e (by rw[Y];simp);rw[z]at e';cases e'
 obtain⟨n0,nH,a0,oe,vs,T,oT,ts,h1,h2,Z,h4,h5,h6,h7⟩:=F
 exact⟨a,C,H',rfl,I.call' os un hok bare (ch:=[]) (λ b z=>absurd z (by simp)),⟨J _ n0,nH,a0,oe,vs,T,oT,ts,h1,h2,Z,h4,J _ h5,h6,h7⟩,q⟩
section
variable {P:aD} {w:World} {K:ae} {mg:Str->Option Value} {base:Heap} {N:List Str} {qual:Str} {scope:Scope} {f:Addr} {cd:Value} {A:aM} {outer:List Env} {s0:af} {H0:Hp} {E:XK}
theorem bQ2:ad2 (CX1 P w) (ap7 (CX1 P w) P w K mg base N qual scope f cd A outer s0 H0 E) E:=by
 intro G σ H s e s' I h
 obtain⟨a,C,H',rfl,J,F,q⟩:=CX1.inv I rfl h
 exact aG0 J rfl rfl rfl F λ h' u o Y=>⟨a,C,H',rfl,J.os,J.bare,u,o,Y,q⟩
def aJ6 (X:Cx)(E:XK):Prop:=∀(pins:List (Addr×Obj)) (σ:St) (H:Hp) (s:af) (h':Heap) (a C:Addr) (args:List Value),Inv X pins σ H s->Heap.MadeExcOf s.heap h' a (.ref C) args->E (.ref a) (some C) H->X.xe (.ref a) { s with heap:=h' }
theorem bO4:aJ6 (ap7 (CX1 P w) P w K mg base N qual scope f cd A outer s0 H0 E) E:=by
 intro h σ H s h' a C args I M q
 have J:Inv (ap7 (CX1 P w) P w K mg base N qual scope f cd A outer s0 H0 E) h σ H { s with heap:=h' }:=I.kept (t':=s.toks) M.keeps
 obtain⟨t,G,_⟩:=M.there
 refine aV2 (a0:=.ref t) J rfl rfl rfl ?_ ?_ G rfl rfl rfl rfl λ Z u o F=>⟨a,C,H,rfl,J.os,J.bare,u,o,F,q⟩
 ·show s0.heap.get? a=none
  cases e:s0.heap.get? a with
  | none=>rfl
  | some o =>
   obtain⟨Y,e'⟩:=I.base.there a o e (by show a ∉ ([]:List Addr);simp)
   rw[M.new]at e';cases e'
 ·cases e:H a with
  | none=>rfl
  | some o =>
   obtain⟨u,e'⟩:=(I.hok a o e).at_
   rw[M.new]at e';cases e'
end
noncomputable def excTail:List Value:=[.type "ValueError",.type "Exception",.type "BaseException",.type "object"]
structure ExcCls (K:ae)(C:Addr):Prop where
 obj:∃ bm N nm q bs hdct sn sub ab col dd k0 k1 k2 k3 k5 mN,K.lookup C=some (excClassObj nm q C N bs bm hdct sn sub ab col dd k0 k1 k2 k3 k5 "ValueError.__new__")/\(∀ n∈quietNames,mN n=none)/\∀ h:Heap,K.In h->h.Ns N mN/\OwnTailQ h excTail bm
theorem aZ3 {K:ae}{x D:Addr}(hc:ExcCls K D)(J:bM K (.ref D) (aW "__getattribute__")=some (some (.builtin "BaseException.__getattribute__")))(hk:bM K (.ref D) (aW "__getattr__")=some none)
  (hf:bM K (.ref D) (aW "__class__")=some (some (.builtin "object.__class__")))
  (hs:d3 K (.builtin "object.__class__") (aW "__get__")=some (some (.builtin "getset_descriptor.__get__")))
  (Z:eV K (.builtin "object.__class__")=some true) (Y:fR K D (.type "object")=some true) :
  d9 K (.ref x) (.ref D) (λ h=>XAt h x D):=by
 obtain⟨bm,N,nm,q,bs,hdct,sn,sub,ab,col,dd,k0,k1,k2,k3,k5,mN,hl,hq,hN⟩:=hc.obj
 refine⟨λ M h _ I=>I.type,λ M h X I=>?_,λ h tp dd its n sl X F=>?_,λ {prog w A E Q s} X I h=>?_⟩
 ·intro A' Q' E' s' k q
  exact ah (wpAny_loadPart (k _ _ (X _ _ hl)) (aA q))
 ·cases e:(Value.ref D==Value.ref tp)with
  | false=>rfl
  | true =>
   have e:=eq_of_beq e
   cases e
   rw[X _ _ hl]at F
   cases congrArg (λ o:Option Obj=>o.map Obj.data) F
 ·obtain⟨o,ho,G⟩:=I
  have L:=XAt.type (M:=model prog w) ⟨o,ho,G⟩
  exact by9 X L (bN5 X hf hs Z) J hk (X _ _ hl) (hN _ X).2 ho G (iO (aJ1 X L Y (PySem.W.handed_on rfl h)))
noncomputable def excI (K:ae)(C:Addr):Bool:=bM K (.ref C) (aW "__getattribute__")==some (some (.builtin "BaseException.__getattribute__"))&&(bM K (.ref C) (aW "__getattr__")==some none&&(bM K (.ref C) (aW "__class__")==some (some (.builtin "object.__class__"))&&(d3 K (.builtin "object.__class__") (aW "__get__")==some (some (.builtin "getset_descriptor.__get__"))&&(eV K (.builtin "object.__class__")==some true&&fR K C (.type "object")==some true))))
theorem bv1 {K:ae}{x C:Addr}(hc:ExcCls K C)(h:excI K C=true):d9 K (.ref x) (.ref C) (λ h=>XAt h x C):=by
 unfold excI at h
 simp only[aj]at h
 obtain⟨h0,J,G,F,Z,Y⟩:=h
 exact aZ3 hc (eq_of_beq h0) (eq_of_beq J) (eq_of_beq G) (eq_of_beq F) (eq_of_beq Z) (eq_of_beq Y)
section
variable {X:Cx} {E:XK} {C:Addr} {x:Str}
theorem ba7 {np F pos p:Pos}{y:Str}{j:Nat}(T:aJ6 X E)(hc:ExcCls X.K C)(hg:Gl X x)(hm:X.mg x=some (.ref C))(hh:X.A.handled=none)(hd:(x==("__debug__":Str))=false) :
  PS X (.Raise (some (.Call (.Name x np) [.Constant (.str y) j p] [] F)) none pos) (λ D σ H=>∀ a,E (.ref a) (some C) H):=by
 intro h s σ H D I q
 obtain⟨bm,N,nm,q',bs,hdct,sn,sub,ab,col,dd,k0,k1,k2,k3,k5,mN,e,hq,hN⟩:=hc.obj
 have Z:=hN _ I.kIn
 refine wpAny_Raise_call_subT (nm:=nm) (q:=q') (C:=C) (N:=N) (bs:=bs) (hdct:=hdct) (sn:=sn) (sub:=sub) (ab:=ab) (col:=col) (dd:=dd) (k0:=k0) (k1:=k1) (k2:=k2) (k3:=k3) (k5:=k5) g9 (OwnTail.hasType Z.2.tail g9.hasBase) hh rfl (hq _ (aq ..)) ?_
 refine thn (ak6 (v:=.ref C) hg hm rfl hd h s σ H (λ v G=>v=.ref C/\G=H) I ⟨rfl,rfl⟩) λ u s1 ⟨v,G,I1,r,e1,e2⟩=>?_
 subst e1 e2
 refine⟨r,gT ?_⟩
 have pa:PA X [.Constant (.str y) j p] (al6 (tC (.str y)) aK9):=zw bh6 ab6
 refine thn (pa F h s1 σ G (λ vs Y=>vs.length=1/\Y=G) I1 ⟨rfl,rfl⟩) λ us s2 ⟨vs,Y,J,r2,e3,e4⟩=>?_
 subst e4
 have hl:us.length=1:=by rw[<-r2.length];exact e3
 refine⟨rfl,by show us.length<=_;rw[hl];decide,J.kIn _ _ e,(hN _ J.kIn).1,(hN _ J.kIn).2.tail,λ h' a M=>?_⟩
 exact T h σ Y s2 h' a C us J M (q a)
end
structure Tr (X:Cx)(pins:List (Addr×Obj))(σ:St)(H:Hp)(s:af)(a C:Addr)(fl:Value):Prop where
 inv:Inv X pins σ H s
 n0:X.s₀.heap.get? a=none
 nH:H a=none
 np:∀ p∈X.pn++pins,p.1≠a
 tr:∃ a0 oe vs T oT ts,s.heap.get? a=some oe/\(oe.cls=.ref C/\vs[0]?=some a0)/\oe.data=.fields vs/\vs[1]?=some (.ref T)/\X.s₀.heap.get? T=none/\H T=none/\(∀ p∈X.pn++pins,p.1≠T)/\T≠a/\s.heap.get? T=some oT/\oT.data=.fields ts/\ts[3]?=some fl
section
variable {X:Cx} {pins:List (Addr×Obj)} {σ:St} {H:Hp} {s:af} {a C T:Addr} {fl fl' a0:Value} {h':Heap}
theorem Tr.stk (F:X.stack=X.env::X.outer)(h:X.env.frame=some X.env.locals):∀ b∈X.fs,b∈frs X.stack:=λ b hb=>by rw[F];unfold frs;rw[aO,h];exact ak _ hb
theorem Tr.moved (t:Tr X pins σ H s a C fl)(Y:X.ex=[])(b4:X.stack=X.env::X.outer)(c1:X.env.frame=some X.env.locals){oT:Obj}{ts:Array Value}(a5:X.s₀.heap.get? T=none)(a3:H T=none)(a2:∀ p∈X.pn++pins,p.1≠T)(b6:s.heap.get? T=some oT)(b5:oT.data=.fields ts)
  (st:(zt s.heap (a::T::frs X.stack)).StaysIn h') (ff:h'.FunFrames (zt s.heap (a::T::frs X.stack)) X.stack) (tr:h'.TracedAtW (zt s.heap (a::T::frs X.stack)) a (.ref C) a0 fl')
  (sl:∀ b o,s.heap.get? b=some o->(∀ vs,o.data≠.fields vs)->∃ sl,h'.get? b=some { o with slots:=sl }):Tr X pins σ H { s with heap:=h' } a C fl':=by
 have I:=t.inv
 have un:=I.base
 rw[Y]at un
 have a1:=Tr.stk b4 c1
 obtain⟨b0,oe,vs,_,_,_,g1,_,g3,_⟩:=t.tr
 have Z:∀ b,b∈a::T::frs X.stack->b=a\/b=T\/b∈frs X.stack:=λ b hb=>by
  rcases ax.mp hb with q|q
  ·exact .inl q
  ·exact .inr (ax.mp q)
 have keep:∀ b o,b≠a->b≠T->b ∉ frs X.stack->s.heap.get? b=some o->h'.get? b=some o:=λ b o n1 n2 n3 e=>st b o (by
  rw[qe λ z=>(Z b z).elim n1 λ z=>z.elim n2 n3];exact e)
 have slot:∀ b o,b∈frs X.stack->s.heap.get? b=some o->∃ sl,h'.get? b=some { o with slots:=sl }:=λ b o n e=>by
  obtain⟨_,o',e',d⟩:=I.stack.mem n
  rw[e]at e';cases e'
  exact sl b o e d
 have b2:∀ b o,X.s₀.heap.get? b=some o->b ∉ X.fs->b ∉ frs X.stack:=λ b o e n z=>by
  rcases ax.mp (I.stkSub b z)with q|q
  ·subst q
   exact absurd (az e) (jQ.mpr I.ok.above)
  ·exact n q
 have h:∀ b o,X.s₀.heap.get? b=some o->b≠a/\b≠T:=λ b o e=>⟨λ z=>(by rw[z,t.n0]at e;cases e),λ z=>(by rw[z,a5]at e;cases e)⟩
 have c3:∀ b o,s.heap.get? b=some o->(∀ vs,o.data≠.fields vs)->b≠a/\b≠T:=λ b o e d=>⟨λ z=>(by rw[z,g1]at e;cases e;exact d _ g3),λ z=>(by rw[z,b6]at e;cases e;exact d _ b5)⟩
 have up:∀ b o,s.heap.get? b=some o->(∀ vs,o.data≠.fields vs)->∃ sl,h'.get? b=some { o with slots:=sl }:=sl
 have a4:Inv X pins σ H { s with heap:=h' }:=by
  refine⟨I.ok,I.os,I.bare,?_,?_,λ x c e=>?_,I.free,I.freeC,λ p hp=>?_,I.hok.part λ b u o e q=>?_,I.len⟩
  ·rw[Y]
   refine⟨λ b o e n J nx=>?_,λ b o e n J nx=>?_,un.free,λ b o e nx=>?_,un.tups,un.frzs,un.tbls⟩
   ·exact keep b o (h b o e).1 (h b o e).2 (b2 b o e J) (un.keep b o e n J nx)
   ·obtain⟨c2,e1⟩:=un.slot b o e n J nx
    obtain⟨G,e2⟩:=slot b _ (a1 b J) e1
    exact⟨G,e2⟩
   ·obtain⟨o1,e1⟩:=un.there b o e nx
    by_cases z:b∈frs X.stack
    ·obtain⟨_,e2⟩:=slot b _ z e1
     exact⟨_,e2⟩
    ·exact⟨_,keep b o1 (h b o e).1 (h b o e).2 z e1⟩
  ·obtain⟨m,⟨o,es,ep,ho,hd,hr⟩,hl⟩:=I.loc
   obtain⟨c2,e1⟩:=up _ o ho (λ vs z=>by rw[hd]at z;cases z)
   refine⟨m,⟨_,es,ep,e1,hd,hr⟩,λ i x v h1 h2 h3=>?_⟩
   obtain⟨u,r,lk⟩:=hl i x v h1 h2 h3
   refine⟨u,r,?_⟩
   rcases lk with z|⟨z1,c,z2,oc,z3,z4⟩
   ·exact .inl z
   ·obtain⟨G,e2⟩:=up c oc z3 (λ vs z=>by rw[z4]at z;cases z)
    exact .inr ⟨z1,c,z2,_,e2,z4⟩
  ·obtain⟨v,oc,z3,z4⟩:=I.cell x c e
   obtain⟨G,e2⟩:=up c oc z3 (λ vs z=>by rw[z4]at z;cases z)
   exact⟨v,_,e2,z4⟩
  ·obtain⟨q1,q2,q3,q4,q5⟩:=I.pin p hp
   refine⟨keep _ _ (t.np p hp) (a2 p hp) (λ z=>?_) q1,q2,q3,q4,q5⟩
   rcases ax.mp (I.stkSub _ z)with q|q
   ·exact q3 q
   ·exact q4 q
  ·refine keep b o (λ z=>?_) (λ z=>?_) (λ z=>?_) q
   ·rw[z,t.nH]at e;cases e
   ·rw[z,a3]at e;cases e
   ·rw[I.stkFree b z]at e;cases e
 refine⟨a4,t.n0,t.nH,t.np,?_⟩
 obtain⟨b3,c0,F,b1,a6,h1,h2,h3,h4,h5,h6,h7,h8,h9⟩:=tr
 have key:X.s₀.heap.get? F=none/\H F=none/\∀ p∈X.pn++pins,p.1≠F:=by
  rcases without_none h5 with z|z
  ·rcases Z F z with y|y|y
   ·exact absurd y h6
   ·subst y;exact⟨a5,a3,a2⟩
   ·obtain⟨_,o',e',d⟩:=ff.mem y
    rw[h7]at e';cases e'
    exact absurd h8 (d _)
  ·refine⟨?_,?_,λ p hp y=>?_⟩
   ·cases e:X.s₀.heap.get? F with
    | none=>rfl
    | some o=>obtain⟨o',e'⟩:=un.there F o e (by simp);rw[z]at e';cases e'
   ·cases e:H F with
    | none=>rfl
    | some o=>obtain⟨u,e'⟩:=(I.hok F o e).at_;rw[z]at e';cases e'
   ·have:=(I.pin p hp).1
    rw[y,z]at this;cases this
 exact⟨a0,b3,c0,F,b1,a6,h1,h2,h3,h4,key.1,key.2.1,key.2.2,h6,h7,h8,h9⟩
theorem Tr.noted (t:Tr X pins σ H s a C .none)(J:X.ex=[])(h:X.stack=X.env::X.outer)(G:X.env.frame=some X.env.locals){Q:Unit->af->Prop}{E:Value->af->Prop}
  (k:∀ h' fl,Tr X pins σ H { s with heap:=h' } a C fl->Q () { s with heap:=h' }):wpAny (model X.prog X.w) X.A (jo (.ref a) X.env) Q E s:=by
 have I:=t.inv
 obtain⟨a0,oe,vs,T,oT,ts,h1,h2,h3,h4,h5,h6,a1,h7,h8,h9,Z⟩:=t.tr
 have Y:s.heap.FunFrames (zt s.heap (a::T::frs X.stack)) X.stack:=aj1 I.stack λ b hb=>zn (ak _ (ak _ hb))
 have F:=I.ok.frames
 rw[h]at F
 refine wpAny_noteFrame_onW (base:=zt s.heap (a::T::frs X.stack)) F (by rw[<-h];exact Y) G ⟨oe,vs,T,oT,ts,h1,h2,h3,h4,zn (by simp),h7,h8,h9,Z⟩ zL (zn (aq ..)) λ h' L=>?_
 rw[<-h]at L
 obtain⟨st,ff,tr,sl⟩:=L
 exact k h' _ (t.moved J h G h5 h6 a1 h8 h9 st ff tr sl)
theorem Tr.down (t:Tr X pins σ H s a C fl)(F:X.ex=[])(h:X.stack=X.env::X.outer)(Z:X.env.frame=some X.env.locals){A:aM}{Q:Unit->af->Prop}{E:Value->af->Prop}
  (k:∀ h',Tr X pins σ H { s with heap:=h' } a C .none->Q () { s with heap:=h' }):wpAny (model X.prog X.w) A (j7 (.ref a) none) Q E s:=by
 have I:=t.inv
 obtain⟨a0,oe,vs,T,oT,ts,h1,h2,h3,h4,h5,h6,Y,h7,h8,h9,J⟩:=t.tr
 have G:s.heap.FunFrames (zt s.heap (a::T::frs X.stack)) X.stack:=aj1 I.stack λ b hb=>zn (ak _ (ak _ hb))
 refine wpAny_setFlight_noneW (base:=zt s.heap (a::T::frs X.stack)) zL G ⟨oe,vs,T,oT,ts,h1,h2,h3,h4,zn (by simp),h7,h8,h9,J⟩ λ h' st ff tr sl=>?_
 exact k h' (t.moved F h Z h5 h6 Y h8 h9 st ff tr.at λ b o e d=>⟨o.slots,sl b o e d⟩)
theorem CX1.tr {s':af}{E:XK}{e:Value}(I:Inv X pins σ H s)(Y:X.ex=[])(h:CX1 X.prog X.w X.stack H s E e s') :
  ∃ a C H',e=.ref a/\Tr X pins σ H' s' a C .none/\E e (some C) H':=by
 have h0:=h
 obtain⟨a,C,H',rfl,os,bare,un,hok,F,q⟩:=h
 obtain⟨a',C',a1,e,J,G,q'⟩:=CX1.inv I Y h0
 have Z:∀ b,s.heap.get? b=none->X.s₀.heap.get? b=none:=λ b z=>by
  cases e:X.s₀.heap.get? b with
  | none=>rfl
  | some o=>obtain⟨o',e'⟩:=I.base.there b o e (by rw[Y];simp);rw[z]at e';cases e'
 have pn:∀ b,s.heap.get? b=none->∀ p∈X.pn++pins,p.1≠b:=λ b z p hp y=>by
  have:=(I.pin p hp).1
  rw[y,z]at this;cases this
 obtain⟨n0,nH,a0,oe,vs,T,oT,ts,h1,h2,h3,h4,h5,h6,h7⟩:=F
 exact⟨a,C,H',rfl,⟨I.call' os un hok bare (ch:=[]) (λ b z=>absurd z (by simp)),Z _ n0,nH,pn _ n0,a0,oe,vs,T,oT,ts,h1,h2,h3,h4,Z _ h5,h6,pn _ h5,h7⟩,q⟩
end
noncomputable abbrev Cx.hnd (X:Cx)(a:Addr)(oe:Obj):Cx:={ X with A:=X.A.mark (some (.ref a)),calm:=false,pn:=(a,oe)::X.pn,xe:=λ _ _=>False }
section
variable {X:Cx} {pins:List (Addr×Obj)} {σ:St} {H:Hp} {s:af} {a C:Addr} {oe:Obj} {fl:Value}
theorem Cx.Ok.hnd (ok:X.Ok)(a:Addr)(oe:Obj):(X.hnd a oe).Ok:=⟨ok.mod,ok.kind,ok.glob,ok.blt,ok.above,ok.inj,ok.has,ok.cab,(λ z=>by cases z),ok.frames,ok.stk,ok.exf,ok.bs,ok.bsz,ok.noex,ok.exfs,ok.funs,ok.frf⟩
theorem Inv.apart (I:Inv X pins σ H s){b:Addr}{o:Obj}{vs:Array Value}(e:s.heap.get? b=some o)(d:o.data=.fields vs):b≠X.env.locals/\b ∉ X.fs/\∀ v,o.data≠.cell v:=by
 refine⟨λ z=>?_,λ z=>?_,λ v z=>by rw[d]at z;cases z⟩
 ·obtain⟨m,⟨h,es,F,ho,hd,_⟩,_⟩:=I.loc
  rw[<-z,e]at ho;cases ho
  rw[d]at hd;cases hd
 ·obtain⟨_,h,e',d'⟩:=I.funs.mem z
  rw[e]at e';cases e'
  exact d' _ d
theorem Inv.hnd {vs:Array Value}(I:Inv X pins σ H s)(e:s.heap.get? a=some oe)(n:H a=none)(d:oe.data=.fields vs):Inv (X.hnd a oe) pins σ H s :=
 ⟨I.ok.hnd a oe,I.os,I.bare,I.base,I.loc,I.cell,I.free,I.freeC,λ p hp=>by
  rcases ax.mp hp with z|z
  ·subst z;exact⟨e,n,I.apart e d⟩
  ·exact I.pin p z,I.hok,I.len⟩
theorem Inv.unhnd (ok:X.Ok)(I:Inv (X.hnd a oe) pins σ H s):Inv X pins σ H s:=⟨ok,I.os,I.bare,I.base,I.loc,I.cell,I.free,I.freeC,λ p hp=>I.pin p (ak _ hp),I.hok,I.len⟩
theorem aQ6 {M:Model}{A:aM}{E:Value->af->Prop}{i:Nat}{x:Str}{v:V}{Q:Unit->af->Prop}(I:Inv X pins σ H s)(hN:X.N.Nodup)(hi:X.N[i]?=some x)(hx:X.env.scope.names.lookup x=some .local)(hv:σ[i]?=some (some v))
  (h:∀ s',Inv X pins (σ.set i none) H s'->Q () s'):wpAny M A (unbindName X.env x) Q E s:=by
 obtain⟨m,hn,hl⟩:=id I.loc
 have F:(X.env.scope.kind==.class||(X.env.scope.kind==.module&&X.env.locals != X.env.globals))=false:=by rw[I.ok.kind];rfl
 obtain⟨u,r,lk⟩:=hl i x v hi hv (.inl hx)
 have Z:m x=some u:=by
  rcases lk with⟨_,e⟩|⟨e,_⟩
  ·exact e
  ·have G:X.env.kindOf x=some .local:=hx
   rw[G]at e
   rcases e with e|e<;>cases e
 have cne:=I.cne
 refine wpAny_unbindName_local hx hn Z F λ h' u' J hs=>?_
 obtain⟨oL,_,_,a0,_⟩:=id hn
 have low:∀ b o,X.s₀.heap.get? b=some o->b≠X.env.locals:=λ b o e=>ay (ao (az e) I.ok.above)
 refine h _ ⟨I.ok,I.os,I.bare,⟨λ b o e n hb hx=>?_,λ b o e n hb hx=>?_,I.base.free,λ b o e hx=>?_,I.base.tups,I.base.frzs,I.base.tbls⟩,⟨_,J,λ j y v' e1 e2 Y=>?_⟩,λ y c e=>?_,I.free,I.freeC,λ p hp=>?_,I.hok.part λ b w o e q=>?_,by rw[bA];exact I.len⟩
 ·exact(hs.2 b (low b o e)).trans (I.base.keep b o e n hb hx)
 ·obtain⟨sl,e1⟩:=I.base.slot b o e n hb hx
  exact⟨sl,(hs.2 b (low b o e)).trans e1⟩
 ·obtain⟨o',e1⟩:=I.base.there b o e hx
  exact⟨o',(hs.2 b (low b o e)).trans e1⟩
 ·have hj:j≠i:=λ z=>by
   subst z
   rw[aL (ac.mp hv).1]at e2
   cases e2
  rw[aP (bX hj)]at e2
  obtain⟨w,r',q⟩:=hl j y v' e1 e2 Y
  refine⟨w,r',?_⟩
  rcases q with⟨k,e⟩|⟨k,c,e,z⟩
  ·refine .inl ⟨k,?_⟩
   have:y≠x:=λ e=>hj (an6 hN e1 (e▸hi))
   simp[this,e]
  ·exact .inr ⟨k,c,e,z.sameBut hs (cne y c e)⟩
 ·obtain⟨w',z⟩:=I.cell y c e
  exact⟨w',z.sameBut hs (cne y c e)⟩
 ·obtain⟨e,n,ne,nf,d⟩:=I.pin p hp
  exact⟨(hs.2 p.1 ne).trans e,n,ne,nf,d⟩
 ·refine(hs.2 b λ z=>?_).trans q
  rw[z,I.free]at e;cases e
theorem Tr.own (t:Tr X pins σ H s a C fl):∃ oe vs,s.heap.get? a=some oe/\oe.cls=.ref C/\oe.data=.fields vs:=by
 obtain⟨a0,oe,vs,T,J,Y,G,F,h,_⟩:=t.tr
 exact⟨oe,vs,G,F.1,h⟩
theorem Tr.again (t:Tr X pins σ H s a C fl){Q:V->Hp->Prop}{e:Expr}{v:V}(he:∀ oe,PE (X.hnd a oe) e (tC v)){E:Value->af->Prop}{R:Value->af->Prop}
  (k:∀ u s',RelV v u->Tr X pins σ H s' a C fl->R u s'):wpAny (model X.prog X.w) (X.A.mark (some (.ref a))) (eval e X.env) R E s:=by
 obtain⟨a0,oe,vs,T,h,ts,h1,h2,Z,h4,h5,h6,Y,h7,h8,h9,G⟩:=t.tr
 have I:=t.inv
 have J:Inv (X.hnd a oe) ((T,h)::pins) σ H s:=(I.hnd h1 t.nH Z).pins_of λ p hp=>by
  rcases ax.mp hp with z|z
  ·subst z;exact⟨h8,h6,I.apart h8 h9⟩
  ·exact I.pin p (aN _ z)
 refine bj (he oe ((T,h)::pins) s σ H (λ w H1=>w=v/\H1=H) J ⟨rfl,rfl⟩) (λ u s1 ⟨w,H1,F,r,e1,e2⟩=>?_) (λ _ _ z=>bB z)
 subst e1 e2
 refine k u s1 r ⟨(F.pins_of λ p hp=>F.pin p (aN _ (ak _ hp))).unhnd I.ok,t.n0,t.nH,t.np,a0,oe,vs,T,h,ts,(F.pin (a,oe) (aq ..)).1,h2,Z,h4,h5,h6,Y,h7,(F.pin (T,h) (aN _ (aq ..))).1,h9,G⟩
theorem aR9 {x n:Str}{i:Nat}{np pos:Pos}{b₀:Stmt}{h:List Stmt}{rest:List fW}{th:TS}{D:Ends}(t:Tr X pins σ H s a C .none)(J:X.ex=[])(G:X.stack=X.env::X.outer)(Z:X.env.frame=some X.env.locals)
  (hc:ExcCls X.K C) (hg:Gl X x) (hm:X.mg x=some (.ref C)) (hd:(x==("__debug__":Str))=false) (hN:X.N.Nodup) (hi:X.N[i]?=some n) (hl:X.env.scope.names.lookup n=some .local)
  (hb:∀ oe,oe.cls=.ref C->PSs (X.hnd a oe) (b₀::h) th) (hq:th { nx:=λ _ _=>False,rt:=D.rt } (σ.set i (some (.ref a))) H) :
  wpAny (model X.prog X.w) X.A (jo (.ref a) X.env) (λ _ s₂=>wpAny (model X.prog X.w) X.A (j7 (.ref a) none) (λ _ s₃=>wpAny (model X.prog X.w) X.A (handleBy (.ref a) X.env (.ExceptHandler (some (.Name x np)) (some n) (b₀::h) pos::rest)) (SP X pins D) X.xe s₃) X.xe s₂) X.xe s:=by
 obtain⟨bm,N,nm,q,bs,hdct,sn,sub,ab,col,dd,k0,k1,k2,k3,k5,mN,e,a5,b0⟩:=hc.obj
 refine t.noted J G Z λ h2 fl t2=>t2.down J G Z λ h3 t3=>?_
 refine handleBy_own_as (bmB:=excTail) (newId := "ValueError.__new__") (mg:=X.mg) (x:=x) (C:=C) rfl ?_
 refine t3.again (Q:=λ _ _=>True) (v:=.ref C) (λ oe=>ak6 (X:=X.hnd a oe) hg hm rfl hd) λ u s4 r t4=>?_
 have K4:=b0 _ t4.inv.kIn
 obtain⟨a6,b5,a2,b2,b6⟩:=t4.own
 refine⟨r,⟨hm,bm,N,nm,q,bs,hdct,sn,sub,ab,col,dd,k0,k1,k2,k3,k5,mN,t4.inv.kIn _ _ e,K4.1,a5,K4.2⟩,⟨a6,a2,b2⟩,?_⟩
 refine t4.down J G Z λ h5 Y=>?_
 obtain⟨F,b3,a0,a4,a1⟩:=Y.own
 have J5:Inv X ((a,F)::pins) σ H { s4 with heap:=h5 }:=Y.inv.pins_of λ p hp=>by
  rcases ax.mp hp with z|z
  ·subst z;exact⟨a0,Y.nH,Y.inv.apart a0 a1⟩
  ·exact Y.inv.pin p (aN _ z)
 refine ag7 J5 hN hi (.inl hl) (v:=.ref a) rfl (λ s6 J6=>?_) (.inr hl)
 have J7:Inv (X.hnd a F) pins (σ.set i (some (.ref a))) H s6:=(J6.pins_of λ p hp=>J6.pin p (aN _ (ak _ hp))).hnd (J6.pin (a,F) (aN _ (aq ..))).1 Y.nH a1
 refine bj (hb F a4 pins s6 _ H { nx:=λ _ _=>False,rt:=D.rt } J7 hq) (λ f s8 z=>?_) (λ _ _ z=>bB z)
 cases f with
 | next=>obtain⟨_,_,_,z⟩:=z;exact bB z
 | brk=>obtain⟨_,_,_,z⟩:=z;exact bB z
 | cont=>obtain⟨_,_,_,z⟩:=z;exact bB z
 | ret u8 =>
  obtain⟨v8,σ8,H8,J8,r8,q8⟩:=z
  have J8:=J8.unhnd Y.inv.ok
  refine ah (wpAny_bindName (ag7 J8 hN hi (.inl hl) (v:=.non) (u:=.none) rfl (λ s9 J9=>?_) (.inr hl)))
  have b1:i < σ8.length:=by rw[J8.len];exact(ac.mp hi).1
  exact wpAny_onRaise (aQ6 J9 hN hi hl (by rw[aL b1]) λ b4 a3=>⟨v8,_,H8,a3,r8,q8⟩)
end
section
variable {prog:aD} {w:World} {A:aM} {R:jl->af->Prop} {I:Addr} {fp wr:List Addr} {n:Nat} {P:Nat->Value->Prop} {St:Nat->Heap->Prop} {h₀:Heap}
theorem aU3 (W:Walks prog w A.in1 I fp wr n P St)(F:Nat->Int)(q S:Addr)(b0:S ∉ fp)(b6:h₀.get? S=none)(b5:∀ b∈wr,h₀.get? b=none)
  (turn:∀ i v,P i v->∀ s:af,(∀ b o,h₀.get? b=some o->s.heap.get? b=some o)->wpAny (model prog w) A.in1 (call (.ref q) [v]) (λ x s'=>∃ t h' tk,x=.int (F i) t/\s'={ s with heap:=h',toks:=tk }/\∀ b o,s.heap.get? b=some o->h'.get? b=some o) (λ _ _=>False) s) :
  ∀(k j:Nat) (s:af) (vb:Value) (tb:Tok) (c:Nat),n - (j+1)=k->j+1<=n->St (j+1) s.heap->P (bu (λ i j=>decide (F i<F j)) j) vb->(∀ b o,h₀.get? b=some o->s.heap.get? b=some o) ->
  s.heap.get? S=some { cls:=.type "list",dict:=none,data:=.seq #[vb,.int (F (bu (λ i j=>decide (F i<F j)) j)) tb] c,slots:=#[] } ->
  (∀ v h' tk,P (bu (λ i j=>decide (F i<F j)) (n - 1)) v->(∀ b o,h₀.get? b=some o->h'.get? b=some o)->R (.ok (.ret v)) { s with heap:=h',toks:=tk }) ->
  d4 (model prog w) A (.builtin "min.loop" ⟨[.ref I,.ref q,.ref S],[]⟩) R s:=by
 have b4:S ∉ wr:=λ h=>b0 (W.sub _ h)
 have J:(toString "min"++toString ".loop":String) = "min.loop":=by decide
 have n0:∀ b o,h₀.get? b=some o->b≠S:=λ b o e z=>by rw[z,b6]at e;cases e
 have nw:∀ b o,h₀.get? b=some o->b ∉ wr:=λ b o e z=>by rw[b5 b z]at e;cases e
 intro k
 induction k with
 | zero =>
  intro j s vb tb c hk hj a2 a4 h0 hS hR
  have b1:j+1=n:=by omega
  refine cI cR ?_
  rw[cn bh _]
  show wpAny _ A.in1 (eD (.ref S) >>= _) _ _ s
  refine ah (cB hS rfl ?_)
  show wpAny _ A.in1 (tryCatch (fj (.ref I)) _ >>= _) _ _ s
  refine ah (bU (W.done s _ _ (b1▸a2) λ h' tk G=>?_))
  have a3:=G S _ b4 hS
  show wpAny _ A.in1 (jp S (λ _=>#[]) >>= _) _ _ _
  refine ah ?_
  refine dh a3 rfl (ah (cY (aA ?_)))
  refine hR vb _ tk (by rw[<-b1];exact a4) λ b o e=>(aY _ _ (bX (n0 b o e))).trans (G b o (nw b o e) (h0 b o e))
 | succ k ih =>
  intro j s vb tb c hk hj a2 a4 h0 hS hR
  have hlt:j+1<n:=by omega
  refine cI cR ?_
  rw[cn bh _]
  show wpAny _ A.in1 (eD (.ref S) >>= _) _ _ s
  refine ah (cB hS rfl ?_)
  show wpAny _ A.in1 (tryCatch (fj (.ref I)) _ >>= _) _ _ s
  refine ah (bU (W.item (j+1) s _ _ hlt a2 λ v h' tk hP b3 G=>?_))
  have a3:=G S _ b4 hS
  show wpAny _ A.in1 (tryCatch (fD [v] (call (.ref q) [v])) _ >>= _) _ _ _
  refine ah (bU (bT (bj (turn (j+1) v hP _ λ b o e=>G b o (nw b o e) (h0 b o e)) (λ x c1 he=>?_) λ _ _ hF=>hF.elim)))
  obtain⟨t2,h2,c0,rfl,rfl,k2⟩:=he
  have a6:=k2 S _ a3
  have a0:=W.frame _ _ h2 b3 λ b b2 o e=>k2 b o e
  show wpAny _ A.in1 (tryCatch (fD [v,.int (F (j+1)) t2] (richCompare .Lt (.int (F (j+1)) t2) (.int (F (bu (λ i j=>decide (F i<F j)) j)) tb) >>= _)) _ >>= _) _ _ _
  refine ah (bU (bT (ah (iB (prog:=prog) (w:=w) (A:=A.in1) (P:=λ i v=>∃ t,v=.int (F i) t) F (λ i v h=>h) (j+1) (bu (λ i j=>decide (F i<F j)) j) _ _ _ _ _ ⟨t2,rfl⟩ ⟨tb,rfl⟩ ?_))))
  refine ah (bT (br ?_))
  refine ah (cY (aA ?_))
  by_cases hb:F (j+1)<F (bu (λ i j=>decide (F i<F j)) j)
  ·have eb:bu (λ i j=>decide (F i<F j)) (j+1)=j+1:=by simp only[bu,hb,decide_true,if_true]
   simp only[hb,decide_true,if_true]
   refine ah ?_
   refine dh a6 rfl (ah (cY ?_))
   rw[J]
   refine aA ⟨cQ bh _,ih (j+1) _ v t2 _ (by omega) hlt (W.frame _ _ _ a0 λ b b2 o e=>?_) (by rw[eb];exact hP) (λ b o e=>?_) (by rw[eb];exact b8 _ a6 rfl)
    λ v' a1 Y a5 Z=>?_⟩
   ·exact(aY _ _ (λ h:S=b=>b0 (by rw[h];exact b2))).trans e
   ·exact(aY _ _ (bX (n0 b o e))).trans (k2 b o (G b o (nw b o e) (h0 b o e)))
   ·exact hR v' a1 Y a5 Z
  ·have eb:bu (λ i j=>decide (F i<F j)) (j+1)=bu (λ i j=>decide (F i<F j)) j:=by
    rw[bu]
    exact if_neg (by simpa using hb)
   simp only[hb,decide_false,bO,if_false]
   refine ah (cY ?_)
   rw[J]
   refine aA ⟨cQ bh _,ih (j+1) _ vb tb c (by omega) hlt a0 (by rw[eb];exact a4) (λ b o e=>k2 b o (G b o (nw b o e) (h0 b o e))) (by rw[eb];exact a6) λ v' a1 Y a5 Z=>hR v' a1 Y a5 Z⟩
theorem aH6 (W:Walks prog w A.in1 I fp wr n P St)(kf:Nat->Int)(q S:Addr)(F:S ∉ fp)(a5:h₀.get? S=none)(Y:∀ b∈wr,h₀.get? b=none)
  (turn:∀ i v,P i v->∀ s:af,(∀ b o,h₀.get? b=some o->s.heap.get? b=some o)->wpAny (model prog w) A.in1 (call (.ref q) [v]) (λ x s'=>∃ t h' tk,x=.int (kf i) t/\s'={ s with heap:=h',toks:=tk }/\∀ b o,s.heap.get? b=some o->h'.get? b=some o) (λ _ _=>False) s)
  {s:af} {c:Nat} (hn:0<n) (b0:St 0 s.heap) (h0:∀ b o,h₀.get? b=some o->s.heap.get? b=some o)
  (hS:s.heap.get? S=some { cls:=.type "list",dict:=none,data:=.seq #[] c,slots:=#[] })
  (hR:∀ v h' tk,P (bu (λ i j=>decide (kf i<kf j)) (n - 1)) v->(∀ b o,h₀.get? b=some o->h'.get? b=some o)->R (.ok (.ret v)) { s with heap:=h',toks:=tk }) :
  d4 (model prog w) A (.builtin "min.loop" ⟨[.ref I,.ref q,.ref S],[]⟩) R s:=by
 have b2:S ∉ wr:=λ h=>F (W.sub _ h)
 have G:(toString "min"++toString ".loop":String) = "min.loop":=by decide
 have n0:∀ b o,h₀.get? b=some o->b≠S:=λ b o e z=>by rw[z,a5]at e;cases e
 have nw:∀ b o,h₀.get? b=some o->b ∉ wr:=λ b o e z=>by rw[Y b z]at e;cases e
 refine cI cR ?_
 rw[cn bh _]
 show wpAny _ A.in1 (eD (.ref S) >>= _) _ _ s
 refine ah (cB hS rfl ?_)
 show wpAny _ A.in1 (tryCatch (fj (.ref I)) _ >>= _) _ _ s
 refine ah (bU (W.item 0 s _ _ hn b0 λ v h' tk hP a3 J=>?_))
 have b1:=J S _ b2 hS
 show wpAny _ A.in1 (tryCatch (fD [v] (call (.ref q) [v])) _ >>= _) _ _ _
 refine ah (bU (bT (bj (turn 0 v hP _ λ b o e=>J b o (nw b o e) (h0 b o e)) (λ x b5 he=>?_) λ _ _ hF=>hF.elim)))
 obtain⟨t2,h2,b4,rfl,rfl,k2⟩:=he
 have a4:=k2 S _ b1
 have Z:=W.frame _ _ h2 a3 λ b a2 o e=>k2 b o e
 show wpAny _ A.in1 (jp S (λ _=>#[v,.int (kf 0) t2]) >>= _) _ _ _
 refine ah ?_
 refine dh a4 rfl ?_
 rw[G]
 refine aA ⟨cQ bh _,aU3 W kf q S F a5 Y turn _ 0 _ v t2 _ rfl hn (W.frame _ _ _ Z λ b a2 o e=>?_) hP (λ b o e=>?_) (b8 _ a4 rfl) λ v' a6 a0 b3 a1=>hR v' a6 a0 b3 a1⟩
 ·exact(aY _ _ (λ h:S=b=>F (by rw[h];exact a2))).trans e
 ·exact(aY _ _ (bX (n0 b o e))).trans (k2 b o (J b o (nw b o e) (h0 b o e)))
end
theorem ba9 {P:aD}{w:World}{A:aM}{E:Value->af->Prop}{s:af}{f c':Addr}{qual x:Str}{params:bD}{scope:Scope}{h:List (Str×Addr)}{pm Y:Value}{t:Addr}{its:List Value}{i:Int}{j k:Nat}{z:Int}{Z:Tok}{p1 p2 p3:Pos}{ps fr:List Str}
  (S:LamScope (ps++fr) ps fr scope) (a1:ps=[x]) (hl:scope.names.lookup x=some .local) (hd:A.depth<fo) (a0:s.heap.NoLimit)
  (hf:s.heap.get? f=some { cls:=.type "function",data:=.func (bn "<lambda>" qual params (.Subscript (.Name x p1) (.Constant (.int i) k p2) p3) scope h pm (.ref c') Y) }) (hc:s.heap.CodeRec (.ref c') qual)
  (G:∀(us:List Value),us.length=ps.length->dw (bn "<lambda>" qual params (.Subscript (.Name x p1) (.Constant (.int i) k p2) p3) scope h pm (.ref c') Y) ⟨us,[]⟩=pure (ps.zip us))
  (ht:IsTup s.heap t its.toArray) (h1:-(2^63)<=i) (h2:i<2^63) (hj:j5 i its.length=some j) (hz:its[j]?=some (.int z Z)) (a2:(x==("__debug__":Str))=false) :
  wpAny (model P w) A (call (.ref f) [.ref t]) (λ y s'=>∃ t h' tk,y=.int z t/\s'={ s with heap:=h',toks:=tk }/\∀ b o,s.heap.get? b=some o->h'.get? b=some o) E s:=by
 subst a1
 refine iO (hJ hd hf rfl S.co S.gen rfl hc ?_)
 rw[G [.ref t] rfl]
 refine aA (af6 S.kind (λ y hy=>?_) λ env he s1 X=>?_)
 ·cases bE.mp (show y∈[(x,Value.ref t)]from hy)
  exact .inl hl
 ·subst he
  refine⟨a0.keeps X.toInCall.keep,hU ?_⟩
  refine jL (iJ (gQ S.kind hl X.toInCall.ns (v:=.ref t) ?_ ?_) a2)
  ·exact ad3 (P:=[x]) (vs:=[.ref t]) (i:=0) (by simp) rfl rfl hl
  ·refine iK ?_
   obtain⟨F,tk,rfl,hk⟩:=X.done
   have J:IsTup F t its.toArray:=by
    obtain⟨o,e,r⟩:=ht
    exact⟨o,hk _ _ e,r⟩
   exact d6 (x:=.int z Z) (s:={ s with heap:=F,toks:=tk+1 }) J.typeIs iP.lookup
    (getItem_tuple (j:=j) (Q:=λ r s'=>r=.int z Z/\∃ t h' tk,r=.int z t/\s'={ s with heap:=h',toks:=tk }/\∀ b o,s.heap.get? b=some o->h'.get? b=some o) J h1 h2 (by rw[ar];exact hj) (by simpa using hz) ⟨rfl,Z,F,_,rfl,rfl,hk⟩)
theorem aY2 {X:Cx}{J:List (Addr×Obj)}{σ:St}{H:Hp}{s:af}{a f c':Addr}{G:List V}{Q:VK}{qual y:Str}{params:bD}{scope:Scope}{Z:List (Str×Addr)}{pm b3:Value}{j:Int}{k:Nat}{p1 p2 p3:Pos}{ps fr:List Str}(h:Nat->Int)
  (hc:X.calm=true) (hd:X.A.depth<fo) (I:Inv X J σ H s) (hS:SqL X.K H a G) (hne:0<G.length) (LS:LamScope (ps++fr) ps fr scope) (b5:ps=[y]) (hl:scope.names.lookup y=some .local) (b6:(y==("__debug__":Str))=false)
  (hf:H f=some (aC3 f (bn "<lambda>" qual params (.Subscript (.Name y p1) (.Constant (.int j) k p2) p3) scope Z pm (.ref c') b3))) (a1:H c'=some (qr c' qual))
  (a0:∀(us:List Value),us.length=ps.length->dw (bn "<lambda>" qual params (.Subscript (.Name y p1) (.Constant (.int j) k p2) p3) scope Z pm (.ref c') b3) ⟨us,[]⟩=pure (ps.zip us))
  (hk:∀ i v,G[i]?=some v->∃ p ys,v=.ref p/\SqT X.K H p ys/\atI ys j=some (.int (h i))) (q:∀ v,G[bu (λ i j=>decide (h i<h j)) (G.length - 1)]?=some v->Q v H) :
  wpAny (model X.prog X.w) X.A (call (.builtin "min") [.ref a] [(aW "key",.ref f)]) (EP X J σ Q) X.xe s:=by
 obtain⟨its,rv,pl,hz⟩:=I.list hS
 have d1:=rv.length
 have a4:(toString "min"++toString ".loop":String) = "min.loop":=by decide
 refine kmk_tree F.kind_min F.plain_min F.entry_min (kmk_min_key _ _) ?_
 show wpAny _ X.A.in1 (cx "min" ["key", "default"] 0 ⟨[],[(aW "key",.ref f)]⟩ >>= _) _ _ s
 refine ah (gX (show cx "min" ["key", "default"] 0 ⟨[],[(aW "key",.ref f)]⟩=pure [some (.ref f),none]from rfl) ?_)
 refine ah (aA ?_)
 refine ah (cK pl.isList ?_)
 have b0:a<s.heap.objs.size:=by obtain⟨o,_,e,_⟩:=pl;exact az e
 have W:=iT (prog:=X.prog) (w:=X.w) (A:=X.A.in1) (I.ok.hd hc) s.heap.objs.size a (ay b0) its.toArray
 refine ah (b7 ?_)
 generalize a3:s.heap.push _=h2
 have Y:h2.objs.size=s.heap.objs.size+1:=by rw[<-a3,bP]
 have a5:∀ b o,s.heap.get? b=some o->h2.get? b=some o:=λ b o e=>by rw[<-a3];exact ai _ e
 have b4:h2.objs.size ∉ [s.heap.objs.size,a]:=by
  rw[Y]
  intro z
  rcases ax.mp z with z|z
  ·exact absurd z (jq _)
  ·have z':s.heap.objs.size+1=a:=by simpa using z
   exact absurd (ao b0 (by rw[<-z'];exact cM _)) (bo _)
 have c0:(h2.push { cls:=.type "list",data:=.seq ([]:List Value).toArray }).IsListIter s.heap.objs.size a 0/\(h2.push { cls:=.type "list",data:=.seq ([]:List Value).toArray }).IsList a its.toArray:=by
  refine⟨⟨_,ai _ (by rw[<-a3];exact aC _ rfl),rfl,rfl⟩,?_⟩
  obtain⟨o,e,r⟩:=pl.isList
  exact⟨o,ai _ (a5 _ _ e),r⟩
 rw[a4]
 refine aA ⟨cQ bh _,aH6 (h₀:=s.heap) W h f h2.objs.size b4 (eM (by rw[Y];exact cM _)) (λ b hb=>?_) (λ i v hv s' k'=>?_) (by rw[ar];omega) c0 (λ b o e=>ai _ (a5 b o e)) (aC _ rfl) λ v h' tk hP k'=>?_⟩
 ·rw[bE.mp hb];exact eM (am _)
 ·have b1:its[i]?=some v:=by rw[bI]at hv;exact hv
  have hi:i<its.length:=(ac.mp b1).1
  obtain⟨x,hx⟩:∃ x,G[i]?=some x:=⟨_,ag (by omega)⟩
  obtain⟨u,e1,rx⟩:=rv.get hx
  rw[b1]at e1;cases e1
  obtain⟨p,ys,rfl,hT,hat⟩:=hk i x hx
  cases rx
  obtain⟨b2,a6,d0,d2⟩:=I.tuple hT
  obtain⟨m,h1,c3,h3,h4,h5⟩:=ao7 hat
  obtain⟨w',ew,c4⟩:=a6.get c3
  obtain⟨tz,rfl⟩:=c4
  have c1:=a6.length
  have hn:=ag0
  refine ba9 (A:=X.A.in1) LS b5 hl hd (I.nolimit.keeps k') (k' _ _ (ah1 I.hok hf)) ?_ a0 (t:=p) (its:=b2) ?_ (by omega) (by omega) (by rw[<-c1];exact h1) ew b6
  ·obtain⟨c2,oc,vs,t,q1,q2,q3⟩:=ak9 I.hok a1
   exact⟨c2,oc,vs,t,q1,k' _ _ q2,q3⟩
  ·obtain⟨o,e,r⟩:=d0
   exact⟨o,k' _ _ e,r⟩
 ·have a2:its[bu (λ i j=>decide (h i<h j)) (its.length - 1)]?=some v:=by rw[bI]at hP;rw[ar]at hP;exact hP
  have hi:bu (λ i j=>decide (h i<h j)) (its.length - 1)<its.length:=(ac.mp a2).1
  rw[<-d1]at a2 hi
  obtain⟨x,hx⟩:∃ x,G[bu (λ i j=>decide (h i<h j)) (G.length - 1)]?=some x:=⟨_,ag hi⟩
  obtain⟨u,e1,rx⟩:=rv.get hx
  rw[a2]at e1;cases e1
  exact⟨x,H,I.kept k',rx,q x hx⟩
def bO1 (ta tl:TE)(r:V->V->Hp->VK->Prop):TE:=λ σ H Q=>ta σ H λ x H1=>tl σ H1 λ f H2=>r x f H2 Q
def bT7 (X:Cx)(r:V->V->Hp->VK->Prop):Prop:=∀(pins:List (Addr×Obj)) (s:af) (σ:St) (H:Hp) (x y:V) (v u:Value) (Q:VK),Inv X pins σ H s->RelV x v->RelV y u->r x y H Q->wpAny (model X.prog X.w) X.A (call (.builtin "min") [v] [(aW "key",u)]) (EP X pins σ Q) X.xe s
theorem br0 {X:Cx}{e le:Expr}{Z tl:TE}{p pos kp:Pos}{r:V->V->Hp->VK->Prop}(hr:bT7 X r)(hg:Gl X "min")(hm:X.mg "min"=none)(ha:PE X e Z)(hl:PE X le tl)
  (hs:bq [e] X.env=[(false,eval e X.env)]:=by rfl) :
  PE X (.Call (.Name "min" p) [e] [⟨some "key",le,kp⟩] pos) (bO1 Z tl r):=by
 intro F s σ H Q I h
 refine cz (ai7 I hg hm aV6 ?_)
 have h':al6 Z aK9 σ H (λ vs J=>match vs with|[x]=>tl σ J λ d G=>r x d G Q|_=>False):=h
 refine callWith_kw (env:=X.env) (thn ((zw ha ab6 hs) pos F s σ H _ I h') λ us s1 ⟨vs,J,I1,r1,Y⟩=>?_) (by rw[hs];rfl) (by rw[hs];rfl)
 match vs,Y,r1 with
 | [x],Y,r1 =>
  obtain⟨u,rfl,ru⟩:=af3 r1
  refine kws_cons (thn (hl F s1 σ J _ I1 Y) λ v s2 ⟨d,G,I2,rd,q2⟩=>kws_nil ?_)
  exact hr F s2 σ G x d u v Q I2 ru rd q2
end L2
end
noncomputable section
namespace DV
inductive D where
 | non|bl (b:Bool)|int (i:Int)|str (x:List Nat)|tup (l:List D)|ref (n:Nat)|fn (f:String)|clo (f:String) (cs:List D)
noncomputable instance:DecidableEq D:=λ a b=>f6 (a=b)
noncomputable instance (x:D):Decidable (x=.non):=match x with
 | .non=>.isTrue rfl
 | .bl _=>.isFalse nofun
 | .int _=>.isFalse nofun
 | .str _=>.isFalse nofun
 | .tup _=>.isFalse nofun
 | .ref _=>.isFalse nofun
 | .fn _=>.isFalse nofun
 | .clo _ _=>.isFalse nofun
inductive O where
 | lst (l:List D)|ro (l:List D)|dic (l:List (D×D))|ins (c:String) (fs:List (String×D))|dit (l:List (D×D))
noncomputable instance:DecidableEq O:=λ a b=>f6 (a=b)
noncomputable abbrev Sto:=List O
noncomputable def O.kd:O->Nat
 | .lst _=>0|.ro _=>1|.dic _=>2|.ins _ _=>3|.dit _=>4
inductive R (α:Type) where
 | ok (a:α) (s:Sto)|exc (e:D) (s:Sto)|bad
noncomputable abbrev M (α:Type):=Sto->R α
noncomputable def R.bind {α β:Type}(r:R α)(f:α->Sto->R β):R β:=match r with
 | .ok a s=>f a s
 | .exc e s=>.exc e s
 | .bad=>.bad
@[simp] theorem R.bind_ok {α β:Type} (a:α) (s:Sto) (f:α->Sto->R β):(R.ok a s).bind f=f a s:=rfl
@[simp] theorem R.bind_bad {α β:Type} (f:α->Sto->R β):(R.bad:R α).bind f=.bad:=rfl
@[simp] theorem R.bind_exc {α β:Type} (e:D) (s:Sto) (f:α->Sto->R β):(R.exc e s:R α).bind f=.exc e s:=rfl
theorem R.bind_inv {α β:Type}{r:R α}{f:α->Sto->R β}{b:β}{t:Sto}(h:r.bind f=.ok b t):∃ a s,r=.ok a s/\f a s=.ok b t:=by
 cases r with
 | ok a s=>exact⟨a,s,rfl,h⟩
 | exc e s=>cases h
 | bad=>cases h
@[simp] theorem R.bind_assoc {α β γ:Type} (r:R α) (f:α->Sto->R β) (g:β->Sto->R γ):(r.bind f).bind g=r.bind λ a s=>(f a s).bind g:=by cases r<;>rfl
mutual
noncomputable def D.bnd (n:Nat):D->Bool
 | .tup l=>D.bndL n l
 | .ref k=>decide (k<n)
 | .clo _ l=>D.bndL n l
 | _=>true
noncomputable def D.bndL (n:Nat):List D->Bool
 | []=>true
 | d::l=>D.bnd n d&&D.bndL n l
end
noncomputable def O.bnd (n:Nat):O->Bool
 | .lst l=>D.bndL n l
 | .ro l=>D.bndL n l
 | .dic l=>D.bndL n (l.map (·.1))&&D.bndL n (l.map (·.2))
 | .ins _ fs=>D.bndL n (fs.map (·.2))
 | .dit l=>D.bndL n (l.map (·.1))&&D.bndL n (l.map (·.2))
mutual
noncomputable def D.plain:D->Bool
 | .non=>true|.int _=>true|.str _=>true
 | .tup l=>D.plainL l
 | _=>false
noncomputable def D.plainL:List D->Bool
 | []=>true
 | d::l=>D.plain d&&D.plainL l
end
mutual
noncomputable def D.ncl:D->Bool
 | .tup l=>D.nclL l
 | .clo _ _=>false
 | _=>true
noncomputable def D.nclL:List D->Bool
 | []=>true
 | d::l=>D.ncl d&&D.nclL l
end
noncomputable def O.ncl:O->Bool
 | .lst l=>D.nclL l
 | .ro l=>D.nclL l
 | .dic l=>D.nclL (l.map (·.2))
 | .dit l=>D.nclL (l.map (·.2))
 | _=>false
noncomputable def D.key:D->Bool
 | .int _=>true|.str _=>true|_=>false
noncomputable def D.hdI:List D->Bool
 | .int _::_=>true|_=>false
noncomputable def D.keyS:D->Bool
 | .int _=>true|.str x=>decide (x.length<=1000)|_=>false
noncomputable def D.keyT:D->Bool
 | .tup l=>D.hdI l&&(l.all D.keyS&&decide (l.length<=1000))|_=>false
noncomputable def LIM:Nat:=1000000
@[irreducible] noncomputable def BIG:Nat:=2^60000
@[irreducible] noncomputable def DIVL:Nat:=2^4096
inductive BOp where
 | add|sub|mul|fdiv|mod|pow|shl|shr|band|bor
 deriving DecidableEq
inductive COp where
 | eq|ne|lt|le|gt|ge|isin|notin
 deriving DecidableEq
inductive Cn where
 | non|bl (b:Bool)|int (i:Int)|str (x:List Nat)
 deriving DecidableEq
noncomputable def Cn.d:Cn->D
 | .non=>.non|.bl b=>.bl b|.int i=>.int i|.str x=>.str x
inductive Bi where
 | len|abs|int|str|min2|max2|max3|min3|isInt|isBool|isStr|isTup|isList|ord
 deriving DecidableEq
inductive Mk where
 | tuple|list|all|any|sum|min|max|sorted|lenset
 deriving DecidableEq
inductive Mt where
 | append|pop|index|count|reverse|clear|bitlen|get1|get2|setdefault|update|split|partition
 deriving DecidableEq
inductive Tg where
 | one (i:Nat)|tup (is:List Nat)
 deriving DecidableEq
mutual
inductive E where
 | var (i:Nat)|cst (c:Cn)|glob (x:String)
 | bin (op:BOp) (a b:E)|neg (a:E)|not (a:E)
 | cmp (op:COp) (a b:E)|chain (o p:COp) (a b c:E)
 | isN (a:E)|notN (a:E)|isB (a:E) (b:Bool)|notB (a:E) (b:Bool)
 | and (a b:E)|or (a b:E)|ite (c a b:E)
 | tup (es:Es)|lst (es:Es)|dic (ks vs:Es)|dicT|get2 (o k d:E)|bitl (a:E)|lrng (a:E)
 | ix (a b:E)|slL (a lo:E)|slU (a hi:E)|slLU (a lo hi:E)|rev (a:E)
 | call (f:String) (as:As)|callC (f:String) (as:As)|callV (i:Nat) (es:Es)
 | bi (b:Bi) (es:Es)|mk (k:Mk) (l:L)|mkD (k:Mk) (l:L) (d:E)
 | meth (m:Mt) (o:E) (es:Es)|ext (o:E) (l:L)|extS (o e:E)|join (o e:E)|mks (k:Mk) (e:E)|mkDs (k:Mk) (e d:E)|minK (id:String) (e:E) (j:Int)
inductive Es where
 | nil|cons (e:E) (es:Es)
inductive As where
 | nil|ex (e:E) (as:As)|lam (id:String) (caps:List Nat) (as:As)|fn (f:String) (as:As)
inductive I where
 | seq (e:E)|rng1 (a:E)|rng2 (a b:E)|rng3 (a b:E) (c:Int)|enum (it:I)|zip (a b:I)|items (e:E)
inductive L where
 | comp (tg:Tg) (it:I) (e:E) (caps:List (Option Nat))|compIf (tg:Tg) (it:I) (c e:E) (caps:List (Option Nat))|disp (es:Es)|seq (e:E)|itm (e:E)
end
mutual
inductive S where
 | asg (tg:Tg) (e:E)|setIx (o i e:E)|aug (i:Nat) (e:E)|ex (e:E)|ret (e:E)|retN
 | ite (c:E) (a b:Ss)|whl (c:E) (b:Ss)|for_ (tg:Tg) (it:I) (b:Ss)|pass|cont|brk|raise|und (i:Nat)
inductive Ss where
 | nil|cons (s:S) (ss:Ss)
end
noncomputable abbrev Env:=List (Option D)
noncomputable def ab5 (o:O):M D:=λ s=>.ok (.ref s.length) (s++[o])
noncomputable def pur (d:D):M D:=λ s=>.ok d s
noncomputable def bad {α:Type}:M α:=λ _=>.bad
noncomputable def mulOk (a b:Int):Bool:=decide (a.natAbs<2^64)||decide (b.natAbs<2^64)||(decide (a.natAbs<BIG)&&decide (b.natAbs<BIG))
noncomputable def rep:Nat->List Nat->List Nat
 | 0,_=>[]
 | n+1,a=>a++rep n a
noncomputable def aJ9:Nat->List D->List D
 | 0,_=>[]
 | n+1,a=>a++aJ9 n a
noncomputable def af0:BOp->D->D->M D
 | .add,.int a,.int b=>pur (.int (a+b))
 | .add,.str a,.str b=>if a.length+b.length<=LIM then pur (.str (a++b))else bad
 | .add,.tup a,.tup b=>if a.length+b.length<=LIM then pur (.tup (a++b))else bad
 | .add,.ref a,.ref b=>λ s=>match s[a]?,s[b]? with
  | some (.lst l),some (.lst m)=>if l.length+m.length<=LIM then ab5 (.lst (l++m)) s else .bad
  | _,_=>.bad
 | .sub,.int a,.int b=>pur (.int (a - b))
 | .mul,.int a,.int b=>if mulOk a b then pur (.int (a*b))else bad
 | .mul,.str a,.int n=>if 0<=n/\n<=1000000/\a.length*n.toNat<=LIM then pur (.str (rep n.toNat a))else bad
 | .mul,.tup a,.int n=>if 0<=n/\n<=1000000/\a.length*n.toNat<=LIM then pur (.tup (aJ9 n.toNat a))else bad
 | .mul,.ref a,.int n=>λ s=>match s[a]? with
  | some (.lst l)=>if 0<=n/\n<=1000000/\l.length*n.toNat<=LIM then ab5 (.lst (aJ9 n.toNat l)) s else .bad
  | _=>.bad
 | .fdiv,.int a,.int b=>if 0<b/\b<(DIVL:Int)then pur (.int (a / b))else bad
 | .mod,.int a,.int b=>if 0<b then pur (.int (a % b))else bad
 | .pow,.int a,.int b=>if 0<=b/\b<=1000000/\a.natAbs<2^64 then pur (.int (a^b.toNat))else bad
 | .shl,.int a,.int b=>if 0<=b/\b<=1000000/\a.natAbs<2^64 then pur (.int (a*2^b.toNat))else bad
 | .shr,.int a,.int b=>if 0<=b then pur (.int (a / 2^b.toNat))else bad
 | .band,.int a,.int b=>if 0<=a/\b=1 then pur (.int (a % 2))else bad
 | _,_,_=>bad
noncomputable def kd (s:Sto):D->Nat
 | .non=>0|.bl _=>1|.int _=>1|.str _=>2|.tup _=>3
 | .ref r=>match s[r]? with|some (.lst _)=>4|_=>9
 | _=>9
noncomputable def az1 (a b:Nat):Bool:=a==9||b==9||a==b
noncomputable def b2i (b:Bool):Int:=if b then 1 else 0
noncomputable def aS5:D->D->Option Bool
 | .non,.non=>some true
 | .bl a,.bl b=>some (a==b)
 | .int a,.int b=>some (a==b)
 | .bl a,.int b=>some (b2i a==b)
 | .int a,.bl b=>some (a==b2i b)
 | .str a,.str b=>some (a==b)
 | _,_=>none
noncomputable def ab9 (s:Sto)(a b:D):Option Bool:=match aS5 a b with
 | some z=>some z
 | none=>if az1 (kd s a) (kd s b)then none else some false
noncomputable def eqL (f:D->D->Option Bool):List D->List D->Option Bool
 | [],[]=>some true
 | [],_::_=>some false
 | _::_,[]=>some false
 | a::l,b::m=>match f a b,eqL f l m with
  | some x,some y=>some (x&&y)
  | _,_=>none
noncomputable def eqv (s:Sto):Nat->D->D->Option Bool
 | 0,a,b=>ab9 s a b
 | n+1,a,b=>match a,b with
  | .tup l,.tup m=>eqL (eqv s n) l m
  | .ref x,.ref y=>match s[x]?,s[y]? with
   | some (.lst l),some (.lst m)=>if l.length=m.length then eqL (eqv s n) l m else some false
   | _,_=>none
  | a,b=>ab9 s a b
noncomputable def DEEP:Nat:=30
noncomputable def eqM (a b:D):M D:=λ s=>match eqv s DEEP a b with
 | some r=>.ok (.bl r) s
 | none=>.bad
noncomputable def inL (s:Sto)(x:D):List D->Option Bool
 | []=>some false
 | y::l=>match eqv s DEEP y x,inL s x l with
  | some a,some b=>some (a||b)
  | _,_=>none
noncomputable def look (k:D):List (D×D)->Option D
 | []=>none
 | (a,v)::l=>if a=k then some v else look k l
noncomputable def inM (a b:D):M Bool:=λ s=>match b with
 | .tup l=>match inL s a l with|some r=>.ok r s|none=>.bad
 | .ref r=>match s[r]? with
  | some (.lst l)=>match inL s a l with|some r=>.ok r s|none=>.bad
  | some (.dic l)=>if a.key then .ok (look a l).isSome s else .bad
  | some (.dit l)=>if a.keyT then .ok (look a l).isSome s else .bad
  | _=>.bad
 | .str y=>match a with|.str [c]=>.ok (decide (c∈y)) s|_=>.bad
 | _=>.bad
noncomputable def qb:COp->D->D->M D
 | .eq,a,b=>eqM a b
 | .ne,a,b=>λ s=>match eqv s DEEP a b with|some r=>.ok (.bl (!r)) s|none=>.bad
 | .lt,.int a,.int b=>pur (.bl (decide (a<b)))
 | .le,.int a,.int b=>pur (.bl (decide (a<=b)))
 | .gt,.int a,.int b=>pur (.bl (decide (b<a)))
 | .ge,.int a,.int b=>pur (.bl (decide (b<=a)))
 | .isin,a,b=>λ s=>(inM a b s).bind λ r s=>.ok (.bl r) s
 | .notin,a,b=>λ s=>(inM a b s).bind λ r s=>.ok (.bl (!r)) s
 | _,_,_=>bad
noncomputable def ixn (n:Nat)(i:Int):Option Nat:=if 0<=i then(if i<n then some i.toNat else none)else if -(n:Int)<=i then some (i+n).toNat else none
noncomputable def sbd (n:Nat)(i:Int):Nat:=if 0<=i then min i.toNat n else(i+n).toNat
noncomputable def loB (n:Nat):Option Int->Nat
 | none=>0
 | some i=>sbd n i
noncomputable def hiB (n:Nat):Option Int->Nat
 | none=>n
 | some i=>sbd n i
noncomputable def bM1 {α:Type}(l:List α)(lo hi:Option Int):List α:=(l.drop (loB l.length lo)).take (hiB l.length hi - loB l.length lo)
noncomputable def ixM (a b:D):M D:=λ s=>match a,b with
 | .tup l,.int i=>match(ixn l.length i).bind λ j=>l[j]? with|some d=>.ok d s|none=>.bad
 | .str l,.int i=>match(ixn l.length i).bind λ j=>l[j]? with|some c=>.ok (.str [c]) s|none=>.bad
 | .ref r,b=>match s[r]? with
  | some (.lst l)=>match b with
   | .int i=>match(ixn l.length i).bind λ j=>l[j]? with|some d=>.ok d s|none=>.bad
   | _=>.bad
  | some (.ro l)=>match b with
   | .int i=>match(ixn l.length i).bind λ j=>l[j]? with|some d=>.ok d s|none=>.bad
   | _=>.bad
  | some (.dic l)=>if b.key then match look b l with|some d=>.ok d s|none=>.bad else .bad
  | some (.dit l)=>if b.keyT then match look b l with|some d=>.ok d s|none=>.bad else .bad
  | _=>.bad
 | _,_=>.bad
noncomputable def slM (a:D)(lo hi:Option Int):M D:=λ s=>match a with
 | .tup l=>.ok (.tup (bM1 l lo hi)) s
 | .str l=>.ok (.str (bM1 l lo hi)) s
 | .ref r=>match s[r]? with
  | some (.lst l)=>ab5 (.lst (bM1 l lo hi)) s
  | _=>.bad
 | _=>.bad
noncomputable def bv6 (a:D):M D:=λ s=>match a with
 | .str l=>.ok (.str l.reverse) s
 | .ref r=>match s[r]? with
  | some (.lst l)=>ab5 (.lst l.reverse) s
  | _=>.bad
 | _=>.bad
noncomputable def am0:List D->Option (List Bool)
 | []=>some []
 | .bl b::l=>(am0 l).map (b::·)
 | _=>none
noncomputable def qa:List D->Option (List Int)
 | []=>some []
 | .int i::l=>(qa l).map (i::·)
 | _=>none
noncomputable def bf8:List D->Option (List (List Nat))
 | []=>some []
 | .str i::l=>(bf8 l).map (i::·)
 | _=>none
noncomputable def bp7 (d:D):M D:=λ s=>match d with
 | .tup l=>.ok (.int l.length) s
 | .str l=>.ok (.int l.length) s
 | .ref r=>match s[r]? with
  | some (.lst l)=>.ok (.int l.length) s
  | some (.ro l)=>.ok (.int l.length) s
  | _=>.bad
 | _=>.bad
noncomputable def isK (k:Nat)(d:D):M D:=λ s=>match d with
 | .non=>.ok (.bl false) s
 | .bl _=>.ok (.bl (k==1||k==2)) s
 | .int _=>.ok (.bl (k==1)) s
 | .str _=>.ok (.bl (k==3)) s
 | .tup _=>.ok (.bl (k==4)) s
 | .ref r=>match s[r]? with
  | some (.lst _)=>.ok (.bl (k==5)) s
  | _=>.bad
 | _=>.bad
noncomputable def bi1 (f:D->M D):List D->M D
 | [d]=>f d
 | _=>bad
noncomputable def bi:Bi->List D->M D
 | .len,l=>bi1 bp7 l
 | .abs,l=>λ s=>match qa l with|some [i]=>.ok (.int (if i<0 then -i else i)) s|_=>.bad
 | .int,l=>λ s=>match am0 l with|some [b]=>.ok (.int (if b then 1 else 0)) s|_=>.bad
 | .min2,l=>λ s=>match qa l with|some [a,b]=>.ok (.int (if b<a then b else a)) s|_=>.bad
 | .max2,l=>λ s=>match qa l with|some [a,b]=>.ok (.int (if b > a then b else a)) s|_=>.bad
 | .max3,l=>λ s=>match qa l with|some [a,b,c]=>.ok (.int (max (max a b) c)) s|_=>.bad
 | .isInt,l=>bi1 (isK 1) l
 | .isBool,l=>bi1 (isK 2) l
 | .isStr,l=>bi1 (isK 3) l
 | .isTup,l=>bi1 (isK 4) l
 | .isList,l=>bi1 (isK 5) l
 | _,_=>bad
noncomputable def minI:List Int->Option Int
 | []=>none
 | a::l=>some (l.foldl min a)
noncomputable def bT3:List Int->Option Int
 | []=>none
 | a::l=>some (l.foldl max a)
noncomputable def ins (a:Int):List Int->List Int
 | []=>[a]
 | b::l=>if a<=b then a::b::l else b::ins a l
noncomputable def bI3:List Int->List Int
 | []=>[]
 | a::l=>ins a (bI3 l)
noncomputable def bU2 (is:List Int):Bool:=is.all (λ i=>decide (-1000000000<=i/\i<=1000000000))&&decide (is.length<=1000000)
noncomputable def mk:Mk->List D->M D
 | .tuple,l=>λ s=>.ok (.tup l) s
 | .list,l=>ab5 (.lst l)
 | .all,l=>λ s=>match am0 l with|some bs=>.ok (.bl (bs.all id)) s|none=>.bad
 | .any,l=>λ s=>match am0 l with|some bs=>.ok (.bl (bs.any id)) s|none=>.bad
 | .sum,l=>λ s=>match qa l with|some is=>if bU2 is then .ok (.int is.sum) s else .bad|none=>.bad
 | .min,l=>λ s=>match(qa l).bind minI with|some m=>.ok (.int m) s|none=>.bad
 | .max,l=>λ s=>match(qa l).bind bT3 with|some m=>.ok (.int m) s|none=>.bad
 | .sorted,l=>λ s=>match qa l with|some is=>ab5 (.lst ((bI3 is).map D.int)) s|none=>.bad
 | .lenset,l=>bad
noncomputable def mkD (k:Mk)(l:List D)(d:D):M D:=λ s=>match k with
 | .min=>match qa l with|some is=>(match minI is with|some m=>.ok (.int m) s|none=>.ok d s)|none=>.bad
 | .max=>match qa l with|some is=>(match bT3 is with|some m=>.ok (.int m) s|none=>.ok d s)|none=>.bad
 | _=>.bad
noncomputable def ah6 (k v:D)(l:List (D×D)):List (D×D):=if(look k l).isSome then l.map (λ p=>if p.1=k then(p.1,v)else p)else l++[(k,v)]
noncomputable def setIx (o i v:D):Sto->R Unit:=λ s=>match o with
 | .ref r=>match s[r]? with
  | some (.lst l)=>match i with
   | .int i=>match ixn l.length i with|some j=>.ok () (s.set r (.lst (l.set j v)))|none=>.bad
   | _=>.bad
  | some (.dic l)=>if i.key&&decide (l.length<LIM)then .ok () (s.set r (.dic (ah6 i v l)))else .bad
  | some (.dit l)=>if i.keyT&&decide (l.length<LIM)then .ok () (s.set r (.dit (ah6 i v l)))else .bad
  | _=>.bad
 | _=>.bad
noncomputable def bM2 (o k e:D):M D:=λ s=>match o with
 | .ref r=>match s[r]? with
  | some (.dit l)=>if k.keyT then .ok ((look k l).getD e) s else .bad
  | _=>.bad
 | _=>.bad
noncomputable def idx (s:Sto)(x:D):Nat->List D->Option Nat
 | _,[]=>none
 | n,y::l=>match eqv s DEEP y x with
  | some true=>some n
  | some false=>idx s x (n+1) l
  | none=>none
noncomputable def meth:Mt->D->List D->M D
 | .append,.ref r,[d]=>λ s=>match s[r]? with
  | some (.lst l)=>if l.length<LIM then .ok .non (s.set r (.lst (l++[d])))else .bad
  | _=>.bad
 | .pop,.ref r,[]=>λ s=>match s[r]? with
  | some (.lst l)=>match l.getLast? with|some d=>.ok d (s.set r (.lst l.dropLast))|none=>.bad
  | _=>.bad
 | .reverse,.ref r,[]=>λ s=>match s[r]? with
  | some (.lst l)=>.ok .non (s.set r (.lst l.reverse))
  | _=>.bad
 | .clear,.ref r,[]=>λ s=>match s[r]? with
  | some (.lst l)=>.ok .non (s.set r (.lst []))
  | _=>.bad
 | .index,.ref r,[d]=>λ s=>match s[r]? with
  | some (.lst l)=>match inL s d l,idx s d 0 l with|some true,some n=>.ok (.int n) s|_,_=>.bad
  | _=>.bad
 | _,_,_=>bad
noncomputable def bB9 (o:D)(l:List D):M D:=λ s=>match o with
 | .ref r=>match s[r]? with
  | some (.lst m)=>if m.length+l.length<=LIM then .ok .non (s.set r (.lst (m++l)))else .bad
  | _=>.bad
 | _=>.bad
noncomputable def bs2 (x y:D):M D:=λ s=>match x with
 | .str []=>match y with
  | .ref r=>match s[r]? with
   | some (.lst l)=>match bf8 l with
    | some ss=>if ss.flatten.length<=LIM then .ok (.str ss.flatten) s else .bad
    | none=>.bad
   | _=>.bad
  | _=>.bad
 | _=>.bad
noncomputable def extS (o d:D):M D:=λ s=>match d with
 | .ref k=>match s[k]? with
  | some (.lst l)=>bB9 o l s
  | _=>.bad
 | _=>.bad
structure Fns where
 call:String->List D->M D
 lam:String->List D->List D->M D
 con:String->Option D
 xcall:String->List D->Sto->Option (String×Sto)
 xc:String->Bool
 xt:String->Bool
noncomputable def aF9 (ρ:Env)(i:Nat):M D:=λ s=>match ρ[i]? with|some (some d)=>.ok d s|_=>.bad
noncomputable def bl7 (ρ:Env):List Nat->Option (List D)
 | []=>some []
 | i::is=>match ρ[i]?,bl7 ρ is with|some (some d),some l=>some (d::l)|_,_=>none
noncomputable def ql (ρ:Env)(caps:List (Option Nat)):Env:=caps.map λ o=>match o with|none=>none|some j=>(ρ[j]?).join
noncomputable def ay5 (ρ:Env)(i:Nat)(d:D):Option Env:=if i < ρ.length then some (ρ.set i (some d))else none
noncomputable def ak1 (ρ:Env)(i:Nat):Option Env:=if i < ρ.length then some (ρ.set i none)else none
noncomputable def ai2 (ρ:Env):List Nat->List D->Option Env
 | [],[]=>some ρ
 | i::is,d::l=>(ay5 ρ i d).bind λ ρ=>ai2 ρ is l
 | _,_=>none
noncomputable def ab8 (ρ:Env):Tg->D->Option Env
 | .one i,d=>ay5 ρ i d
 | .tup is,.tup l=>ai2 ρ is l
 | _,_=>none
structure Sq where
 its:List D
 src:List Nat
noncomputable def as9 (d:D):M Sq:=λ s=>match d with
 | .tup l=>.ok ⟨l,[]⟩ s
 | .str l=>.ok ⟨l.map λ c=>.str [c],[]⟩ s
 | .ref r=>match s[r]? with
  | some (.lst l)=>.ok ⟨l,[r]⟩ s
  | some (.ro l)=>.ok ⟨l,[]⟩ s
  | _=>.bad
 | _=>.bad
noncomputable def aj0 (d:D):M Sq:=λ s=>match d with
 | .tup l=>.ok ⟨l,[]⟩ s
 | .str l=>.ok ⟨l.map λ c=>.str [c],[]⟩ s
 | .ref r=>match s[r]? with
  | some (.lst l)=>.ok ⟨l,[r]⟩ s
  | some (.ro l)=>.ok ⟨l,[]⟩ s
  | _=>.bad
 | _=>.bad
noncomputable def ar2 (d:D):M Sq:=λ s=>match d with
 | .tup l=>.ok ⟨l,[]⟩ s
 | .ref r=>match s[r]? with
  | some (.lst l)=>.ok ⟨l,[r]⟩ s
  | some (.ro l)=>.ok ⟨l,[]⟩ s
  | _=>.bad
 | _=>.bad
noncomputable def bU0 (p:D×D):D:=match p.1 with
 | .tup l=>.tup (l++[p.2])
 | _=>.non
noncomputable def bK6 (d:D):Sto->R (List D):=λ s=>match d with
 | .ref r=>match s[r]? with
  | some (.dit l)=>if l.length<=LIM then .ok (l.map bU0) s else .bad
  | _=>.bad
 | _=>.bad
noncomputable def bv5 (d:D):Sto->R (List D):=λ s=>match d with
 | .tup l=>.ok l s
 | .str l=>.ok (l.map λ c=>.str [c]) s
 | .ref r=>match s[r]? with
  | some (.lst l)=>.ok l s
  | some (.ro l)=>.ok l s
  | _=>.bad
 | _=>.bad
noncomputable def av5 (d:D):Sto->R (List D):=λ s=>match d with
 | .ref r=>match s[r]? with
  | some (.lst l)=>.ok l s
  | _=>.bad
 | _=>.bad
noncomputable def aX2 (j:Int):D->Option Int
 | .tup l=>match(ixn l.length j).bind λ k=>l[k]? with|some (.int z)=>some z|_=>none
 | _=>none
noncomputable def ag5 (j:Int):List D->Option (List Int)
 | []=>some []
 | d::l=>match aX2 j d with
  | some z=>(match ag5 j l with|some zs=>some (z::zs)|none=>none)
  | none=>none
noncomputable def aE3 (f:Nat->Int):Nat->Nat
 | 0=>0
 | k+1=>if f (k+1)<f (aE3 f k)then k+1 else aE3 f k
noncomputable def ay6 (j:Int)(l:List D):M D:=λ s=>match ag5 j l with
 | some ks=>(match l[aE3 (λ i=>ks.getD i 0) (l.length - 1)]? with|some d=>.ok d s|none=>.bad)
 | none=>.bad
noncomputable def W62:Int:=4611686018427387904
noncomputable def ac5 (a b:Int):List D:=(bf (b - a).toNat).map λ(k:Nat)=>.int (a+k)
noncomputable def bitsN (i:Int):Nat:=if i=0 then 0 else i.natAbs.log2+1
noncomputable def bI1 (x:D):M D:=λ s=>match x with|.int i=>.ok (.int (bitsN i:Nat)) s|_=>.bad
noncomputable def bH8 (x:D):M D:=λ s=>match x with|.int i=>if 0<=i/\i<=1000000 then ab5 (.lst (ac5 0 i)) s else .bad|_=>.bad
noncomputable def bU1 (a b c:Int):List D:=if 0<c then(bf ((b - a+c - 1) / c).toNat).map λ(k:Nat)=>.int (a+c*k)else(bf ((a - b+(-c) - 1) / (-c)).toNat).map λ(k:Nat)=>.int (a+c*k)
noncomputable def ac0 (n:Nat):List D->List D
 | []=>[]
 | d::l=>.tup [.int n,d]::ac0 (n+1) l
noncomputable def bK7:List D->List D->List D
 | a::l,b::m=>.tup [a,b]::bK7 l m
 | _,_=>[]
noncomputable def chk (s0 s:Sto)(src:List Nat):Bool:=src.all λ r=>decide (s[r]?=s0[r]?)
noncomputable def tru {α:Type}(r:R D)(f:Bool->Sto->R α):R α:=r.bind λ d s=>match d with|.bl b=>f b s|_=>.bad
@[simp] theorem tru_bl {α:Type} (b:Bool) (s:Sto) (f:Bool->Sto->R α):tru (.ok (.bl b) s) f=f b s:=rfl
noncomputable def ac7 (ok:Sto->Bool)(g:D->Env->Sto->R (Option D×Env)):List D->Env->Sto->R (List D)
 | [],_,s=>if ok s then .ok [] s else .bad
 | d::l,ρ,s=>if ok s then(g d ρ s).bind λ p s=>(ac7 ok g l p.2 s).bind λ r s=>.ok (match p.1 with|some v=>v::r|none=>r) s else .bad
mutual
noncomputable def ev (F:Fns):E->Env->Sto->R D
 | .var i,ρ,s=>aF9 ρ i s
 | .cst c,_,s=>.ok c.d s
 | .glob x,_,s=>match F.con x with|some d=>.ok d s|none=>.bad
 | .bin op a b,ρ,s=>(ev F a ρ s).bind λ x s=>(ev F b ρ s).bind λ y s=>af0 op x y s
 | .neg a,ρ,s=>(ev F a ρ s).bind λ x s=>match x with|.int i=>.ok (.int (-i)) s|_=>.bad
 | .not a,ρ,s=>tru (ev F a ρ s) λ b s=>.ok (.bl (!b)) s
 | .cmp op a b,ρ,s=>(ev F a ρ s).bind λ x s=>(ev F b ρ s).bind λ y s=>qb op x y s
 | .chain o p a b c,ρ,s=>(ev F a ρ s).bind λ x s=>(ev F b ρ s).bind λ y s=>tru (qb o x y s) λ k s=>if k then(ev F c ρ s).bind λ z s=>qb p y z s else .ok (.bl false) s
 | .isN a,ρ,s=>(ev F a ρ s).bind λ x s=>.ok (.bl (decide (x=.non))) s
 | .notN a,ρ,s=>(ev F a ρ s).bind λ x s=>.ok (.bl (!decide (x=.non))) s
 | .isB a b,ρ,s=>(ev F a ρ s).bind λ x s=>match x with|.bl c=>.ok (.bl (c==b)) s|_=>.bad
 | .notB a b,ρ,s=>(ev F a ρ s).bind λ x s=>match x with|.bl c=>.ok (.bl (!(c==b))) s|_=>.bad
 | .and a b,ρ,s=>tru (ev F a ρ s) λ c s=>if c then tru (ev F b ρ s) λ c s=>.ok (.bl c) s else .ok (.bl false) s
 | .or a b,ρ,s=>tru (ev F a ρ s) λ c s=>if c then .ok (.bl true) s else tru (ev F b ρ s) λ c s=>.ok (.bl c) s
 | .ite c a b,ρ,s=>tru (ev F c ρ s) λ k s=>if k then ev F a ρ s else ev F b ρ s
 | .tup es,ρ,s=>(evs F es ρ s).bind λ l s=>.ok (.tup l) s
 | .lst es,ρ,s=>(evs F es ρ s).bind λ l s=>ab5 (.lst l) s
 | .dic .nil .nil,ρ,s=>ab5 (.dic []) s
 | .dic (.cons k .nil) (.cons v .nil),ρ,s=>(ev F k ρ (s++[.dic []])).bind λ kd s1=>(ev F v ρ s1).bind λ vd s2=>if kd.key=true/\s2[s.length]?=some (.dic [])then .ok (.ref s.length) (s2.set s.length (.dic [(kd,vd)]))else .bad
 | .dic _ _,ρ,s=>.bad
 | .dicT,_,s=>ab5 (.dit []) s
 | .get2 o k d,ρ,s=>(ev F o ρ s).bind λ x s=>(ev F k ρ s).bind λ y s=>(ev F d ρ s).bind λ z s=>bM2 x y z s
 | .bitl a,ρ,s=>(ev F a ρ s).bind λ x s=>bI1 x s
 | .lrng a,ρ,s=>(ev F a ρ s).bind λ x s=>bH8 x s
 | .ix a b,ρ,s=>(ev F a ρ s).bind λ x s=>(ev F b ρ s).bind λ y s=>ixM x y s
 | .slL a lo,ρ,s=>(ev F a ρ s).bind λ x s=>(ev F lo ρ s).bind λ y s=>match y with|.int i=>slM x (some i) none s|_=>.bad
 | .slU a hi,ρ,s=>(ev F a ρ s).bind λ x s=>(ev F hi ρ s).bind λ y s=>match y with|.int i=>slM x none (some i) s|_=>.bad
 | .slLU a lo hi,ρ,s=>(ev F a ρ s).bind λ x s=>(ev F lo ρ s).bind λ y s=>match y with|.int i=>(ev F hi ρ s).bind (λ z s=>match z with|.int j=>slM x (some i) (some j) s|_=>.bad)|_=>.bad
 | .rev a,ρ,s=>(ev F a ρ s).bind λ x s=>bv6 x s
 | .call f as,ρ,s=>(ag9 F as ρ s).bind λ l s=>F.call f l s
 | .callC f as,ρ,s=>(ag9 F as ρ s).bind λ l s=>(F.call f l s).bind λ d s'=>if(d.ncl&&s'.all O.ncl)=true then .ok d s' else .bad
 | .callV i es,ρ,s=>(evs F es ρ s).bind λ l s=>match ρ[i]? with
  | some (some (.fn f))=>F.call f l s
  | some (some (.clo id cs))=>F.lam id cs l s
  | _=>.bad
 | .bi b es,ρ,s=>(evs F es ρ s).bind λ l s=>bi b l s
 | .mk k it,ρ,s=>(evL F it ρ s).bind λ q s=>mk k q s
 | .mkD k it d,ρ,s=>(evL F it ρ s).bind λ q s=>(ev F d ρ s).bind λ d s=>mkD k q d s
 | .meth m o es,ρ,s=>(ev F o ρ s).bind λ x s=>(evs F es ρ s).bind λ l s=>meth m x l s
 | .ext o it,ρ,s=>(ev F o ρ s).bind λ x s=>(evL F it ρ s).bind λ q s=>bB9 x q s
 | .extS o e,ρ,s=>(ev F o ρ s).bind λ x s=>(ev F e ρ s).bind λ y s=>extS x y s
 | .join o e,ρ,s=>(ev F o ρ s).bind λ x s=>(ev F e ρ s).bind λ y s=>bs2 x y s
 | .mks k e,ρ,s=>(ev F e ρ s).bind λ x s=>(av5 x s).bind λ q s=>mk k q s
 | .mkDs k e d,ρ,s=>(ev F e ρ s).bind λ x s=>(ev F d ρ s).bind λ z s=>(av5 x s).bind λ q s=>mkD k q z s
 | .minK _ e j,ρ,s=>(ev F e ρ s).bind λ x s=>(av5 x s).bind λ q s=>ay6 j q s
noncomputable def evs (F:Fns):Es->Env->Sto->R (List D)
 | .nil,_,s=>.ok [] s
 | .cons e es,ρ,s=>(ev F e ρ s).bind λ d s=>(evs F es ρ s).bind λ l s=>.ok (d::l) s
noncomputable def ag9 (F:Fns):As->Env->Sto->R (List D)
 | .nil,_,s=>.ok [] s
 | .ex e as,ρ,s=>(ev F e ρ s).bind λ d s=>(ag9 F as ρ s).bind λ l s=>.ok (d::l) s
 | .lam id caps as,ρ,s=>match bl7 ρ caps with
  | some cs=>(ag9 F as ρ s).bind λ l s=>.ok (.clo id cs::l) s
  | none=>.bad
 | .fn f as,ρ,s=>(ag9 F as ρ s).bind λ l s=>.ok (.fn f::l) s
noncomputable def evI (F:Fns):I->Env->Sto->R Sq
 | .seq e,ρ,s=>(ev F e ρ s).bind λ d s=>as9 d s
 | .rng1 a,ρ,s=>(ev F a ρ s).bind λ x s=>match x with|.int i=>if -W62<=i/\i<W62 then .ok ⟨ac5 0 i,[]⟩ s else .bad|_=>.bad
 | .rng2 a b,ρ,s=>(ev F a ρ s).bind λ x s=>(ev F b ρ s).bind λ y s=>match x,y with|.int i,.int j=>if(-W62<=i/\i<W62)/\-W62<=j/\j<W62 then .ok ⟨ac5 i j,[]⟩ s else .bad|_,_=>.bad
 | .rng3 a b c,ρ,s=>(ev F a ρ s).bind λ x s=>(ev F b ρ s).bind λ y s=>match x,y with|.int i,.int j=>if c=2/\(0<=i/\i<1048576)/\0<=j/\j<1048576 then .ok ⟨bU1 i j c,[]⟩ s else .bad|_,_=>.bad
 | .enum (.seq e),ρ,s=>(ev F e ρ s).bind λ d s=>(ar2 d s).bind λ q s=>.ok ⟨ac0 0 q.its,q.src⟩ s
 | .zip (.seq a) (.seq b),ρ,s=>(ev F a ρ s).bind λ x s=>(ev F b ρ s).bind λ y s=>(aj0 x s).bind λ p s=>(aj0 y s).bind λ q s=>.ok ⟨bK7 p.its q.its,p.src++q.src⟩ s
 | .enum _,_,_=>.bad
 | .zip _ _,_,_=>.bad
 | .items e,ρ,s=>.bad
noncomputable def evL (F:Fns):L->Env->Sto->R (List D)
 | .comp tg it e caps,ρ,s=>(evI F it ρ s).bind λ q s0=>if q.its.length<=LIM then ac7 (λ s=>chk s0 s q.src) (λ d ρ s=>match ab8 ρ tg d with
   | some ρ=>(ev F e ρ s).bind λ v s=>.ok (some v,ρ) s
   | none=>.bad) q.its (ql ρ caps) s0 else .bad
 | .compIf tg it c e caps,ρ,s=>(evI F it ρ s).bind λ q s0=>if q.its.length<=LIM then ac7 (λ s=>chk s0 s q.src) (λ d ρ s=>match ab8 ρ tg d with
   | some ρ=>tru (ev F c ρ s) λ k s=>if k then(ev F e ρ s).bind λ v s=>.ok (some v,ρ) s else .ok (none,ρ) s
   | none=>.bad) q.its (ql ρ caps) s0 else .bad
 | .disp es,ρ,s=>evs F es ρ s
 | .seq e,ρ,s=>(ev F e ρ s).bind λ d s=>bv5 d s
 | .itm e,ρ,s=>(ev F e ρ s).bind λ d s=>bK6 d s
end
inductive Ct where
 | next (ρ:Env)|ret (d:D)|cont (ρ:Env)|brk (ρ:Env)
noncomputable def aJ8 (ok:Sto->Bool)(g:D->Env->Sto->R Ct):List D->Env->Sto->R Ct
 | [],ρ,s=>if ok s then .ok (.next ρ) s else .bad
 | d::l,ρ,s=>if ok s then(g d ρ s).bind λ c s=>match c with
   | .next ρ=>aJ8 ok g l ρ s
   | .cont ρ=>aJ8 ok g l ρ s
   | .brk ρ=>.ok (.next ρ) s
   | .ret d=>.ok (.ret d) s
  else .bad
noncomputable def qG (c:Env->Sto->R D)(g:Env->Sto->R Ct):Nat->Env->Sto->R Ct
 | 0,_,_=>.bad
 | n+1,ρ,s=>tru (c ρ s) λ b s=>if b then(g ρ s).bind λ c' s=>match c' with
   | .next ρ=>qG c g n ρ s
   | .cont ρ=>qG c g n ρ s
   | .brk ρ=>.ok (.next ρ) s
   | .ret d=>.ok (.ret d) s
  else .ok (.next ρ) s
open Classical in
noncomputable def whl (c:Env->Sto->R D)(g:Env->Sto->R Ct)(ρ:Env)(s:Sto):R Ct :=
 if h:∃ n,qG c g n ρ s≠.bad then qG c g h.choose ρ s else .bad
mutual
noncomputable def ex (F:Fns):S->Env->Sto->R Ct
 | .asg tg e,ρ,s=>(ev F e ρ s).bind λ d s=>match ab8 ρ tg d with|some ρ=>.ok (.next ρ) s|none=>.bad
 | .setIx o i e,ρ,s=>(ev F e ρ s).bind λ d s=>(ev F o ρ s).bind λ x s=>(ev F i ρ s).bind λ y s=>(setIx x y d s).bind λ _ s=>.ok (.next ρ) s
 | .aug i e,ρ,s=>(aF9 ρ i s).bind λ x s=>(ev F e ρ s).bind λ y s=>match x,y with
  | .int a,.int b=>match ay5 ρ i (.int (a+b))with|some ρ=>.ok (.next ρ) s|none=>.bad
  | _,_=>.bad
 | .ex e,ρ,s=>(ev F e ρ s).bind λ _ s=>.ok (.next ρ) s
 | .ret e,ρ,s=>(ev F e ρ s).bind λ d s=>.ok (.ret d) s
 | .retN,_,s=>.ok (.ret .non) s
 | .ite c a b,ρ,s=>tru (ev F c ρ s) λ k s=>if k then exs F a ρ s else exs F b ρ s
 | .whl c b,ρ,s=>whl (ev F c) (exs F b) ρ s
 | .for_ tg it b,ρ,s=>(evI F it ρ s).bind λ q s0=>aJ8 (λ s=>chk s0 s q.src) (λ d ρ s=>match ab8 ρ tg d with
   | some ρ=>exs F b ρ s
   | none=>.bad) q.its ρ s0
 | .pass,ρ,s=>.ok (.next ρ) s
 | .cont,ρ,s=>.ok (.cont ρ) s
 | .brk,ρ,s=>.ok (.brk ρ) s
 | .raise,_,_=>.bad
 | .und i,ρ,s=>match ak1 ρ i with|some ρ=>.ok (.next ρ) s|none=>.bad
noncomputable def exs (F:Fns):Ss->Env->Sto->R Ct
 | .nil,ρ,s=>.ok (.next ρ) s
 | .cons st ss,ρ,s=>(ex F st ρ s).bind λ c s=>match c with|.next ρ=>exs F ss ρ s|c=>.ok c s
end
structure Df where
 name:String
 ps:Nat
 vs:Nat
 body:Ss
structure Lm where
 id:String
 ps:Nat
 cs:Nat
 body:E
inductive HT where
 | isi (cs:List String)|one (c:String)|not (t:HT)|or (a b:HT)
inductive Hd where
 | ret (t:HT)|iff (t:HT) (b:Bool) (h:Hd)
noncomputable def subC (c d:String):Bool:=c==d||(d == "TollError"||d == "ValueError")
noncomputable def HT.val (c:String):HT->Bool
 | .isi cs=>cs.any (subC c)
 | .one d=>subC c d
 | .not t=>!t.val c
 | .or a b=>if a.val c then true else b.val c
noncomputable def HT.ok (p:String->Bool):HT->Bool
 | .isi cs=>cs.all p
 | .one d=>p d
 | .not t=>t.ok p
 | .or a b=>a.ok p&&b.ok p
noncomputable def Hd.val (c:String):Hd->Bool
 | .ret t=>t.val c
 | .iff t b h=>if t.val c then b else h.val c
noncomputable def Hd.ok (p:String->Bool):Hd->Bool
 | .ret t=>t.ok p
 | .iff t _ h=>t.ok p&&h.ok p
inductive XB where
 | no|rais (c:String)|call (f:String) (as:As)|iteT (c:E) (a r:XB)|seq (s:S) (b:XB)
noncomputable def xB (F:Fns):XB->Env->Sto->Option (String×Sto)
 | .no,_,_=>none
 | .rais c,_,s=>if F.xc c=true then some (c,s)else none
 | .call f as,ρ,s=>match ag9 F as ρ s with|.ok l s1=>F.xcall f l s1|_=>none
 | .iteT c a r,ρ,s=>match ev F c ρ s with|.ok (.bl b) s1=>if b then xB F a ρ s1 else xB F r ρ s1|_=>none
 | .seq st b,ρ,s=>match ex F st ρ s with|.ok (.next ρ1) s1=>xB F b ρ1 s1|_=>none
structure Xf where
 ps:Nat
 vs:Nat
 body:XB
structure Tf where
 ps:Nat
 vs:Nat
 body:Ss
 xb:XB
 c:String
 i:Nat
 h:Hd
 tl:Ss
structure Pr where
 df:String->Option Df
 lm:String->Option Lm
 con:String->Option D
 xf:String->Option Xf
 tf:String->Option Tf
 xc:String->Bool
 xt:String->Bool
noncomputable def ao5 (st st':Sto):Bool:=(bf st.length).all λ i=>decide (st'[i]?=st[i]?)||(match st'[i]? with|some o=>o.bnd st.length|none=>false)
noncomputable def zu (st:Sto)(d:D)(st':Sto):R D :=
 if ao5 st st' then
  match d with
  | .ref r=>if r<st.length then .ok d (st'.take st.length)else match st'[r]? with
   | some o=>if o.bnd st.length then .ok (.ref st.length) (st'.take st.length++[o])else .ok d st'
   | none=>.bad
  | d=>if d.bnd st.length then .ok d (st'.take st.length)else .ok d st'
 else .ok d st'
noncomputable def bJ4 (F:Fns)(d:Tf)(l:List D)(s:Sto):R D:=match xB F d.xb (l.map some++aE d.vs none) s with
 | some (c,s')=>if c=d.c/\F.xc c=true/\d.h.ok F.xt=true then zu s (.bl (d.h.val c)) s' else .bad
 | none=>(exs F d.body (l.map some++aE d.vs none) s).bind λ c s1=>match c with
  | .ret v=>zu s v s1
  | .next ρ=>(exs F d.tl ρ s1).bind λ c s2=>match c with
   | .ret v=>zu s v s2
   | .next _=>zu s .non s2
   | _=>.bad
  | _=>.bad
noncomputable def aa1 (P:Pr):Nat->Fns
 | 0=>⟨λ _ _ _=>.bad,λ _ _ _ _=>.bad,P.con,λ _ _ _=>none,P.xc,P.xt⟩
 | n+1=>⟨λ f l s=>match P.df f with
   | some d=>if l.length=d.ps then(exs (aa1 P n) d.body (l.map some++aE d.vs none) s).bind λ c s'=>match c with
     | .ret v=>zu s v s'
     | .next _=>zu s .non s'
     | _=>.bad else .bad
   | none=>match P.tf f with
    | some d=>if l.length=d.ps then bJ4 (aa1 P n) d l s else .bad
    | none=>.bad,
  λ id cs l s=>match P.lm id with
   | some d=>if l.length=d.ps/\cs.length=d.cs/\(D.nclL l&&D.nclL cs&&s.all O.ncl)=true then(ev (aa1 P n) d.body (l.map some++cs.map some) s).bind λ v s'=>zu s v s' else .bad
   | none=>.bad,P.con,
  λ f l s=>match P.xf f with
   | some d=>if l.length=d.ps then xB (aa1 P n) d.body (l.map some++aE d.vs none) s else none
   | none=>none,P.xc,P.xt⟩
def KP (s s':Sto):Prop:=∀(i:Nat) (o:O),s[i]?=some o->∃ o',s'[i]?=some o'/\o'.kd=o.kd
theorem KP.refl (s:Sto):KP s s:=λ i o h=>⟨o,h,rfl⟩
theorem KP.trans {a b c:Sto}(h:KP a b)(g:KP b c):KP a c:=λ i o e=>by
 obtain⟨G,e1,k1⟩:=h i o e
 obtain⟨F,e2,k2⟩:=g i G e1
 exact⟨F,e2,k2.trans k1⟩
theorem KP.app (s t:Sto):KP s (s++t):=λ i o e=>⟨o,by rw[aJ (ac.mp e).1];exact e,rfl⟩
theorem KP.set {s:Sto}{r:Nat}{o F:O}(h:s[r]?=some F)(k:o.kd=F.kd):KP s (s.set r o):=λ i u e=>by
 by_cases z:r=i
 ·subst z
  rw[h]at e;cases e
  exact⟨o,aL (ac.mp h).1,k⟩
 ·exact⟨u,by rw[aP z];exact e,rfl⟩
def KR {α:Type}(s:Sto)(r:R α):Prop:=∀ a s',r=.ok a s'->KP s s'
theorem KR.bad {α:Type}{s:Sto}:KR s (.bad:R α):=λ _ _ h=>by cases h
theorem KR.ok {α:Type}{s:Sto}{a:α}:KR s (.ok a s):=λ _ _ h=>by cases h;exact KP.refl _
theorem KR.bind {α β:Type}{s:Sto}{r:R α}{f:α->Sto->R β}(h:KR s r)(g:∀ a s1,KR s1 (f a s1)):KR s (r.bind f):=λ b s' e=>by
 obtain⟨a,s1,e1,e2⟩:=R.bind_inv e
 exact(h a s1 e1).trans (g a s1 b s' e2)
theorem KR.tru {α:Type}{s:Sto}{r:R D}{f:Bool->Sto->R α}(h:KR s r)(g:∀ a s1,KR s1 (f a s1)):KR s (tru r f):=KR.bind h λ a s1=>by
 cases a with
 | bl b=>exact g b s1
 | _=>exact KR.bad
theorem KR.if {α:Type}{s:Sto}{c:Prop}[Decidable c]{a b:R α}(h:KR s a)(g:KR s b):KR s (if c then a else b):=by split;exact h;exact g
theorem KR.al {s:Sto}{o:O}:KR s (ab5 o s):=λ _ _ h=>by cases h;exact KP.app _ _
theorem KR.pu {s:Sto}{d:D}:KR s (pur d s):=λ _ _ h=>by cases h;exact KP.refl _
theorem KR.bd {s:Sto}:KR s ((DV.bad:M D) s):=λ _ _ h=>by cases h
theorem KR.im {s:Sto}{c:Prop}{_:Decidable c}{d:D}:KR s ((if c then pur d else DV.bad:M D) s):=by split;exact KR.pu;exact KR.bd
theorem KR.ia {s:Sto}{c:Prop}{_:Decidable c}{o:O}:KR s (if c then ab5 o s else .bad):=KR.if KR.al KR.bd
theorem bb5 (op:BOp)(x y:D)(s:Sto):KR s (af0 op x y s):=by
 cases op with
 | add=>cases x with
  | int a=>cases y with
   | int b=>exact KR.pu
   | _=>exact KR.bd
  | str a=>cases y with
   | str b=>exact KR.im
   | _=>exact KR.bd
  | tup a=>cases y with
   | tup b=>exact KR.im
   | _=>exact KR.bd
  | ref a=>cases y with
   | ref b =>
    show KR s (match s[a]?,s[b]? with|some (.lst l),some (.lst m)=>if l.length+m.length<=LIM then ab5 (.lst (l++m)) s else .bad|_,_=>.bad)
    split
    ·exact KR.ia
    ·exact KR.bd
   | _=>exact KR.bd
  | _=>exact KR.bd
 | sub=>cases x with
  | int a=>cases y with
   | int b=>exact KR.pu
   | _=>exact KR.bd
  | _=>exact KR.bd
 | mul=>cases x with
  | int a=>cases y with
   | int b=>exact KR.im
   | _=>exact KR.bd
  | str a=>cases y with
   | int b=>exact KR.im
   | _=>exact KR.bd
  | tup a=>cases y with
   | int b=>exact KR.im
   | _=>exact KR.bd
  | ref a=>cases y with
   | int n =>
    show KR s (match s[a]? with|some (.lst l)=>if 0<=n/\n<=1000000/\l.length*n.toNat<=LIM then ab5 (.lst (aJ9 n.toNat l)) s else .bad|_=>.bad)
    split
    ·exact KR.ia
    ·exact KR.bd
   | _=>exact KR.bd
  | _=>exact KR.bd
 | fdiv=>cases x with
  | int a=>cases y with
   | int b=>exact KR.im
   | _=>exact KR.bd
  | _=>exact KR.bd
 | mod=>cases x with
  | int a=>cases y with
   | int b=>exact KR.im
   | _=>exact KR.bd
  | _=>exact KR.bd
 | pow=>cases x with
  | int a=>cases y with
   | int b=>exact KR.im
   | _=>exact KR.bd
  | _=>exact KR.bd
 | shl=>cases x with
  | int a=>cases y with
   | int b=>exact KR.im
   | _=>exact KR.bd
  | _=>exact KR.bd
 | shr=>cases x with
  | int a=>cases y with
   | int b=>exact KR.im
   | _=>exact KR.bd
  | _=>exact KR.bd
 | band=>cases x with
  | int a=>cases y with
   | int b=>exact KR.im
   | _=>exact KR.bd
  | _=>exact KR.bd
 | _=>exact KR.bd
theorem aU9 (op:COp)(x y:D)(s:Sto):KR s (qb op x y s):=by
 have F:∀ a b:D,KR s (inM a b s):=λ a b=>by
  intro r s' h
  unfold inM at h
  split at h
  ·split at h<;>cases h;exact KP.refl _
  ·split at h
   ·split at h<;>cases h;exact KP.refl _
   ·split at h<;>cases h;exact KP.refl _
   ·split at h<;>cases h;exact KP.refl _
   ·cases h
  ·split at h<;>cases h;exact KP.refl _
  ·cases h
 cases op with
 | isin=>exact KR.bind (F x y) λ _ _=>KR.ok
 | notin=>exact KR.bind (F x y) λ _ _=>KR.ok
 | eq=>intro a s' h;change eqM x y s=_ at h;unfold eqM at h;split at h<;>cases h;exact KP.refl _
 | ne =>
  intro a s' h
  change(match eqv s DEEP x y with|some r=>R.ok (D.bl (!r)) s|none=>.bad)=_ at h
  split at h<;>cases h;exact KP.refl _
 | _ =>
  intro a s' h
  cases x with
  | int i=>(cases y with
   | int j=>cases h;exact KP.refl _
   | _=>cases h)
  | _=>cases h
theorem bP2 (x y:D)(s:Sto):KR s (ixM x y s):=by
 intro a s' h
 unfold ixM at h
 repeat' split at h
 all_goals first|(cases h;exact KP.refl _;done)|(cases h;done)
theorem bu0 (x:D)(lo hi:Option Int)(s:Sto):KR s (slM x lo hi s):=by
 intro a s' h
 unfold slM at h
 repeat' split at h
 all_goals first|(cases h;exact KP.refl _;done)|(cases h;exact KP.app _ _;done)|(cases h;done)
theorem br4 (x:D)(s:Sto):KR s (bv5 x s):=by
 intro a s' h
 unfold bv5 at h
 repeat' split at h
 all_goals first|(cases h;exact KP.refl _;done)|(cases h;done)
theorem av8 (x:D)(s:Sto):KR s (av5 x s):=by
 intro a s' h
 unfold av5 at h
 repeat' split at h
 all_goals first|(cases h;exact KP.refl _;done)|(cases h;done)
theorem bn2 (x:D)(s:Sto):KR s (as9 x s):=by
 intro a s' h
 unfold as9 at h
 repeat' split at h
 all_goals first|(cases h;exact KP.refl _;done)|(cases h;done)
theorem aF0 (x:D)(s:Sto):KR s (aj0 x s):=by
 intro a s' h
 unfold aj0 at h
 repeat' split at h
 all_goals first|(cases h;exact KP.refl _;done)|(cases h;done)
theorem aY5 (x:D)(s:Sto):KR s (ar2 x s):=by
 intro a s' h
 unfold ar2 at h
 repeat' split at h
 all_goals first|(cases h;exact KP.refl _;done)|(cases h;done)
theorem bp2 (x y:D)(s:Sto):KR s (bs2 x y s):=by
 intro a s' h
 unfold bs2 at h
 repeat' split at h
 all_goals first|(cases h;exact KP.refl _;done)|(cases h;done)
theorem bM8 (b:Bi)(l:List D)(s:Sto):KR s (bi b l s):=by
 have k1:∀ f:D->M D,(∀ d,KR s (f d s))->KR s (bi1 f l s):=λ f F=>by
  cases l with
  | nil=>exact KR.bad
  | cons d t=>(cases t with
   | nil=>exact F d
   | cons _ _=>exact KR.bad)
 have k2:∀ k d,KR s (isK k d s):=λ k d=>by
  intro a s' h
  unfold isK at h
  repeat' split at h
  all_goals first|(cases h;exact KP.refl _;done)|(cases h;done)
 have k3:∀ d,KR s (bp7 d s):=λ d=>by
  intro a s' h
  unfold bp7 at h
  repeat' split at h
  all_goals first|(cases h;exact KP.refl _;done)|(cases h;done)
 cases b with
 | len=>exact k1 _ k3
 | isInt=>exact k1 _ (k2 1)
 | isBool=>exact k1 _ (k2 2)
 | isStr=>exact k1 _ (k2 3)
 | isTup=>exact k1 _ (k2 4)
 | isList=>exact k1 _ (k2 5)
 | _ =>
  intro a s' h
  unfold bi at h
  first|(cases h;done)|(simp only at h;split at h<;>first|(cases h;exact KP.refl _;done)|(cases h;done))
theorem bI4 (k:Mk)(l:List D)(s:Sto):KR s (mk k l s):=by
 cases k with
 | tuple=>exact KR.ok
 | list=>exact KR.al
 | lenset=>exact KR.bad
 | _ =>
  intro a s' h
  unfold mk at h
  simp only at h
  repeat' split at h
  all_goals first|(cases h;exact KP.refl _;done)|(cases h;exact KP.app _ _;done)|(cases h;done)
theorem bi0 (k:Mk)(l:List D)(d:D)(s:Sto):KR s (mkD k l d s):=by
 intro a s' h
 unfold mkD at h
 repeat' split at h
 all_goals first|(cases h;exact KP.refl _;done)|(cases h;done)
theorem bu7 (m : Mt) (o : D) (l : List D) (s : Sto) : KR s (meth m o l s) := by
  have lc : ∀ {r : Nat} {f : List D -> R D}, (∀ l, s[r]? = some (.lst l) -> KR s (f l)) -> KR s (match s[r]? with|some (.lst l) => f l|_ => .bad : R D) := λ {r f} h => by
    cases e : s[r]? with
    | none => exact KR.bad
    | some ob => cases ob with
      | lst l => exact h l e
      | _ => exact KR.bad
  cases o with
  | ref r => cases m with
    | append => match l with
      | [d] => exact lc λ l e => KR.if (λ _ _ h => by cases h; exact KP.set e rfl) KR.bad
      | [] => exact KR.bd
      | _ :: _ :: _ => exact KR.bd
    | pop => match l with
      | [] => exact lc λ l e => by
                show KR s (match l.getLast? with|some d => R.ok d (s.set r (.lst l.dropLast))|none => .bad : R D)
                split
                · exact λ _ _ h => by cases h; exact KP.set e rfl
                · exact KR.bad
      | _ :: _ => exact KR.bd
    | reverse => match l with
      | [] => exact lc λ l e => λ _ _ h => by cases h; exact KP.set e rfl
      | _ :: _ => exact KR.bd
    | clear => match l with
      | [] => exact lc λ l e => λ _ _ h => by cases h; exact KP.set e rfl
      | _ :: _ => exact KR.bd
    | index => match l with
      | [d] => exact lc λ l e => by
                show KR s (match inL s d l, idx s d 0 l with|some true, some n => R.ok (.int n) s|_, _ => .bad : R D)
                split
                · exact λ _ _ h => by cases h; exact KP.refl _
                · exact KR.bad
      | [] => exact KR.bd
      | _ :: _ :: _ => exact KR.bd
    | _ => exact KR.bd
  | _ => cases m <;> exact KR.bd
theorem aO0 (o:D)(l:List D)(s:Sto):KR s (bB9 o l s):=by
 intro a s' h
 unfold bB9 at h
 repeat' split at h
 all_goals first|(cases h;done)|(rename_i e _;cases h;exact KP.set e rfl;done)
theorem bb9 (o i v:D)(s:Sto):KR s (setIx o i v s):=by
 intro a s' h
 unfold setIx at h
 cases o with
 | ref r =>
  simp only at h
  cases e:s[r]? with
  | none=>rw[e]at h;cases h
  | some ob =>
   rw[e]at h
   cases ob with
   | lst l =>
    cases i with
    | int k=>simp only at h;split at h<;>cases h;exact KP.set e rfl
    | _=>cases h
   | dic l=>simp only at h;split at h<;>cases h;exact KP.set e rfl
   | dit l=>simp only at h;split at h<;>cases h;exact KP.set e rfl
   | _=>cases h
 | _=>cases h
theorem bi5 (o k e:D)(s:Sto):KR s (bM2 o k e s):=by
 intro a s' h
 unfold bM2 at h
 repeat' split at h
 all_goals first|(cases h;exact KP.refl _;done)|(cases h;done)
theorem br8 (d:D)(s:Sto):KR s (bK6 d s):=by
 intro a s' h
 unfold bK6 at h
 repeat' split at h
 all_goals first|(cases h;exact KP.refl _;done)|(cases h;done)
structure FK (F:Fns):Prop where
 call:∀ f l s,KR s (F.call f l s)
 lam:∀ id cs l s,KR s (F.lam id cs l s)
 xcall:∀ f l s c s',F.xcall f l s=some (c,s')->KP s s'
theorem ao2 {ok:Sto->Bool}{g:D->Env->Sto->R (Option D×Env)}(hg:∀ d ρ s,KR s (g d ρ s)):∀(l:List D) (ρ:Env) (s:Sto),KR s (ac7 ok g l ρ s)
 | [],ρ,s=>KR.if KR.ok KR.bad
 | d::l,ρ,s=>KR.if (KR.bind (hg d ρ s) λ p s1=>KR.bind (ao2 hg l p.2 s1) λ r s2=>KR.ok) KR.bad
section
variable {F:Fns} (hF:FK F)
theorem aR0 (ρ:Env)(i:Nat)(s:Sto):KR s (aF9 ρ i s):=by
 intro a s' h
 unfold aF9 at h
 split at h<;>cases h;exact KP.refl _
include hF
mutual
theorem za:∀(e:E) (ρ:Env) (s:Sto),KR s (ev F e ρ s)
 | .var i,ρ,s=>aR0 ρ i s
 | .cst c,ρ,s=>KR.ok
 | .glob x,ρ,s=>by
  intro a s' h
  change(match F.con x with|some d=>R.ok d s|none=>.bad)=_ at h
  split at h<;>cases h;exact KP.refl _
 | .bin op a b,ρ,s=>KR.bind (za a ρ s) λ x s=>KR.bind (za b ρ s) λ y s=>bb5 op x y s
 | .neg a,ρ,s=>KR.bind (za a ρ s) λ x s=>by
  cases x with
  | int i=>exact KR.ok
  | _=>exact KR.bad
 | .not a,ρ,s=>KR.tru (za a ρ s) λ b s=>KR.ok
 | .cmp op a b,ρ,s=>KR.bind (za a ρ s) λ x s=>KR.bind (za b ρ s) λ y s=>aU9 op x y s
 | .chain o p a b c,ρ,s=>KR.bind (za a ρ s) λ x s=>KR.bind (za b ρ s) λ y s=>KR.tru (aU9 o x y s) λ k s=>KR.if (KR.bind (za c ρ s) λ z s=>aU9 p y z s) KR.ok
 | .isN a,ρ,s=>KR.bind (za a ρ s) λ x s=>KR.ok
 | .notN a,ρ,s=>KR.bind (za a ρ s) λ x s=>KR.ok
 | .isB a b,ρ,s=>KR.bind (za a ρ s) λ x s=>by
  cases x with
  | bl i=>exact KR.ok
  | _=>exact KR.bad
 | .notB a b,ρ,s=>KR.bind (za a ρ s) λ x s=>by
  cases x with
  | bl i=>exact KR.ok
  | _=>exact KR.bad
 | .and a b,ρ,s=>KR.tru (za a ρ s) λ c s=>KR.if (KR.tru (za b ρ s) λ c s=>KR.ok) KR.ok
 | .or a b,ρ,s=>KR.tru (za a ρ s) λ c s=>KR.if KR.ok (KR.tru (za b ρ s) λ c s=>KR.ok)
 | .ite c a b,ρ,s=>KR.tru (za c ρ s) λ k s=>KR.if (za a ρ s) (za b ρ s)
 | .tup es,ρ,s=>KR.bind (ad8 es ρ s) λ l s=>KR.ok
 | .lst es,ρ,s=>KR.bind (ad8 es ρ s) λ l s=>KR.al
 | .dic .nil .nil,ρ,s=>KR.al
 | .dic (.cons k .nil) (.cons v .nil),ρ,s=>by
  intro a s' h
  obtain⟨kd,s1,e1,h⟩:=R.bind_inv (show(ev F k ρ (s++[.dic []])).bind _=_ from h)
  obtain⟨G,s2,e2,h⟩:=R.bind_inv h
  split at h
  case isFalse=>cases h
  rename_i hc
  cases h
  exact((KP.app _ _).trans ((za k ρ _ _ _ e1).trans (za v ρ _ _ _ e2))).trans (KP.set hc.2 rfl)
 | .dic .nil (.cons _ _),ρ,s=>KR.bad
 | .dic (.cons _ .nil) .nil,ρ,s=>KR.bad
 | .dic (.cons _ .nil) (.cons _ (.cons _ _)),ρ,s=>KR.bad
 | .dic (.cons _ (.cons _ _)) _,ρ,s=>KR.bad
 | .dicT,ρ,s=>KR.al
 | .bitl a,ρ,s=>KR.bind (za a ρ s) λ x s=>by
  intro a s' h
  unfold bI1 at h
  repeat' split at h
  all_goals first|(cases h;exact KP.refl _;done)|(cases h;done)
 | .lrng a,ρ,s=>KR.bind (za a ρ s) λ x s=>by
  intro a s' h
  unfold bH8 at h
  repeat' split at h
  all_goals first|(cases h;exact KP.app _ _;done)|(cases h;done)
 | .get2 o k d,ρ,s=>KR.bind (za o ρ s) λ x s=>KR.bind (za k ρ s) λ y s=>KR.bind (za d ρ s) λ z s=>bi5 x y z s
 | .ix a b,ρ,s=>KR.bind (za a ρ s) λ x s=>KR.bind (za b ρ s) λ y s=>bP2 x y s
 | .slL a lo,ρ,s=>KR.bind (za a ρ s) λ x s=>KR.bind (za lo ρ s) λ y s=>by
  cases y with
  | int i=>exact bu0 _ _ _ _
  | _=>exact KR.bad
 | .slU a hi,ρ,s=>KR.bind (za a ρ s) λ x s=>KR.bind (za hi ρ s) λ y s=>by
  cases y with
  | int i=>exact bu0 _ _ _ _
  | _=>exact KR.bad
 | .slLU a lo hi,ρ,s=>KR.bind (za a ρ s) λ x s=>KR.bind (za lo ρ s) λ y s=>by
  cases y with
  | int i =>
   refine KR.bind (za hi ρ s) λ z s=>?_
   cases z with
   | int j=>exact bu0 _ _ _ _
   | _=>exact KR.bad
  | _=>exact KR.bad
 | .rev a,ρ,s=>KR.bind (za a ρ s) λ x s=>by
  cases x with
  | str l=>exact KR.ok
  | ref r =>
   intro a s' h
   unfold bv6 at h
   repeat' split at h
   all_goals first|(cases h;exact KP.refl _;done)|(cases h;exact KP.app _ _;done)|(cases h;done)
  | _=>exact KR.bad
 | .call f as,ρ,s=>KR.bind (ae7 as ρ s) λ l s=>hF.call f l s
 | .callC f as,ρ,s=>KR.bind (ae7 as ρ s) λ l s=>KR.bind (hF.call f l s) λ d s'=>KR.if KR.ok KR.bad
 | .callV i es,ρ,s=>KR.bind (ad8 es ρ s) λ l s=>by
  intro a s' h
  split at h
  ·exact hF.call _ _ _ _ _ h
  ·exact hF.lam _ _ _ _ _ _ h
  ·cases h
 | .bi b es,ρ,s=>KR.bind (ad8 es ρ s) λ l s=>bM8 b l s
 | .mk k it,ρ,s=>KR.bind (aM6 it ρ s) λ q s=>bI4 k q s
 | .mkD k it d,ρ,s=>KR.bind (aM6 it ρ s) λ q s=>KR.bind (za d ρ s) λ d s=>bi0 k q d s
 | .meth m o es,ρ,s=>KR.bind (za o ρ s) λ x s=>KR.bind (ad8 es ρ s) λ l s=>bu7 m x l s
 | .ext o it,ρ,s=>KR.bind (za o ρ s) λ x s=>KR.bind (aM6 it ρ s) λ q s=>aO0 x q s
 | .extS o e,ρ,s=>KR.bind (za o ρ s) λ x s=>KR.bind (za e ρ s) λ y s=>by
  intro a s' h
  unfold extS at h
  repeat' split at h
  all_goals first|(cases h;done)|exact aO0 _ _ _ _ _ h
 | .join o e,ρ,s=>KR.bind (za o ρ s) λ x s=>KR.bind (za e ρ s) λ y s=>bp2 x y s
 | .mks k e,ρ,s=>KR.bind (za e ρ s) λ x s=>KR.bind (av8 x s) λ q s=>bI4 k q s
 | .mkDs k e d,ρ,s=>KR.bind (za e ρ s) λ x s=>KR.bind (za d ρ s) λ z s=>KR.bind (av8 x s) λ q s=>bi0 k q z s
 | .minK _ e j,ρ,s=>KR.bind (za e ρ s) λ x s=>KR.bind (av8 x s) λ q s=>by
  intro a s' h
  unfold ay6 at h
  split at h
  ·split at h<;>cases h;exact KP.refl _
  ·cases h
theorem ad8:∀(es:Es) (ρ:Env) (s:Sto),KR s (evs F es ρ s)
 | .nil,ρ,s=>KR.ok
 | .cons e es,ρ,s=>KR.bind (za e ρ s) λ d s=>KR.bind (ad8 es ρ s) λ l s=>KR.ok
theorem ae7:∀(as:As) (ρ:Env) (s:Sto),KR s (ag9 F as ρ s)
 | .nil,ρ,s=>KR.ok
 | .ex e as,ρ,s=>KR.bind (za e ρ s) λ d s=>KR.bind (ae7 as ρ s) λ l s=>KR.ok
 | .lam id caps as,ρ,s=>by
  intro a s' h
  change(match bl7 ρ caps with|some cs=>(ag9 F as ρ s).bind λ l s=>R.ok (D.clo id cs::l) s|none=>.bad)=_ at h
  split at h
  ·exact KR.bind (ae7 as ρ s) (λ l s=>KR.ok) _ _ h
  ·cases h
 | .fn f as,ρ,s=>KR.bind (ae7 as ρ s) λ l s=>KR.ok
theorem aN9:∀(it:I) (ρ:Env) (s:Sto),KR s (evI F it ρ s)
 | .seq e,ρ,s=>KR.bind (za e ρ s) λ d s=>bn2 d s
 | .rng1 a,ρ,s=>KR.bind (za a ρ s) λ x s=>by
  cases x with
  | int i=>exact KR.if KR.ok KR.bad
  | _=>exact KR.bad
 | .rng2 a b,ρ,s=>KR.bind (za a ρ s) λ x s=>KR.bind (za b ρ s) λ y s=>by
  cases x with
  | int i=>(cases y with
   | int j=>exact KR.if KR.ok KR.bad
   | _=>exact KR.bad)
  | _=>exact KR.bad
 | .rng3 a b c,ρ,s=>KR.bind (za a ρ s) λ x s=>KR.bind (za b ρ s) λ y s=>by
  cases x with
  | int i=>(cases y with
   | int j=>exact KR.if KR.ok KR.bad
   | _=>exact KR.bad)
  | _=>exact KR.bad
 | .enum (.seq e),ρ,s=>KR.bind (za e ρ s) λ d s=>KR.bind (aY5 d s) λ q s=>KR.ok
 | .zip (.seq a) (.seq b),ρ,s=>KR.bind (za a ρ s) λ x s=>KR.bind (za b ρ s) λ y s=>KR.bind (aF0 x s) λ p s=>KR.bind (aF0 y s) λ q s=>KR.ok
 | .enum (.rng1 _),ρ,s=>KR.bad
 | .enum (.rng2 _ _),ρ,s=>KR.bad
 | .enum (.rng3 _ _ _),ρ,s=>KR.bad
 | .enum (.enum _),ρ,s=>KR.bad
 | .enum (.zip _ _),ρ,s=>KR.bad
 | .enum (.items _),ρ,s=>KR.bad
 | .zip (.rng1 _) _,ρ,s=>KR.bad
 | .zip (.rng2 _ _) _,ρ,s=>KR.bad
 | .zip (.rng3 _ _ _) _,ρ,s=>KR.bad
 | .zip (.enum _) _,ρ,s=>KR.bad
 | .zip (.zip _ _) _,ρ,s=>KR.bad
 | .zip (.items _) _,ρ,s=>KR.bad
 | .zip (.seq _) (.rng1 _),ρ,s=>KR.bad
 | .zip (.seq _) (.rng2 _ _),ρ,s=>KR.bad
 | .zip (.seq _) (.rng3 _ _ _),ρ,s=>KR.bad
 | .zip (.seq _) (.enum _),ρ,s=>KR.bad
 | .zip (.seq _) (.zip _ _),ρ,s=>KR.bad
 | .zip (.seq _) (.items _),ρ,s=>KR.bad
 | .items e,ρ,s=>KR.bad
theorem aM6:∀(it:L) (ρ:Env) (s:Sto),KR s (evL F it ρ s)
 | .comp tg it e caps,ρ,s=>KR.bind (aN9 it ρ s) λ q s0=>KR.if (ao2 (λ d ρ s=>by
   intro a s' h
   split at h
   ·exact KR.bind (za e _ s) (λ v s=>KR.ok) _ _ h
   ·cases h) _ _ _) KR.bad
 | .compIf tg it c e caps,ρ,s=>KR.bind (aN9 it ρ s) λ q s0=>KR.if (ao2 (λ d ρ s=>by
   intro a s' h
   split at h
   ·exact KR.tru (za c _ s) (λ k s=>KR.if (KR.bind (za e _ s) λ v s=>KR.ok) KR.ok) _ _ h
   ·cases h) _ _ _) KR.bad
 | .disp es,ρ,s=>ad8 es ρ s
 | .seq e,ρ,s=>KR.bind (za e ρ s) λ d s=>br4 d s
 | .itm e,ρ,s=>KR.bind (za e ρ s) λ d s=>br8 d s
end
theorem ax4 {ok:Sto->Bool}{g:D->Env->Sto->R Ct}(hg:∀ d ρ s,KR s (g d ρ s)):∀(l:List D) (ρ:Env) (s:Sto),KR s (aJ8 ok g l ρ s)
 | [],ρ,s=>KR.if KR.ok KR.bad
 | d::l,ρ,s=>KR.if (KR.bind (hg d ρ s) λ c s=>by
   cases c with
   | next ρ=>exact ax4 hg l ρ s
   | cont ρ=>exact ax4 hg l ρ s
   | brk ρ=>exact KR.ok
   | ret d=>exact KR.ok) KR.bad
theorem ax6 {c:Env->Sto->R D}{g:Env->Sto->R Ct}(hc:∀ ρ s,KR s (c ρ s))(hg:∀ ρ s,KR s (g ρ s)):∀(n:Nat) (ρ:Env) (s:Sto),KR s (qG c g n ρ s)
 | 0,ρ,s=>KR.bad
 | n+1,ρ,s=>KR.tru (hc ρ s) λ b s=>KR.if (KR.bind (hg ρ s) λ h s=>by
   cases h with
   | next ρ=>exact ax6 hc hg n ρ s
   | cont ρ=>exact ax6 hc hg n ρ s
   | brk ρ=>exact KR.ok
   | ret d=>exact KR.ok) KR.ok
mutual
theorem bB1:∀(st:S) (ρ:Env) (s:Sto),KR s (ex F st ρ s)
 | .asg tg e,ρ,s=>KR.bind (za hF e ρ s) λ d s=>by
  intro a s' h
  split at h<;>cases h;exact KP.refl _
 | .setIx o i e,ρ,s=>KR.bind (za hF e ρ s) λ d s=>KR.bind (za hF o ρ s) λ x s=>KR.bind (za hF i ρ s) λ y s=>KR.bind (bb9 x y d s) λ _ s=>KR.ok
 | .aug i e,ρ,s=>KR.bind (aR0 ρ i s) λ x s=>KR.bind (za hF e ρ s) λ y s=>by
  intro a s' h
  repeat' split at h
  all_goals first|(cases h;exact KP.refl _;done)|(cases h;done)
 | .ex e,ρ,s=>KR.bind (za hF e ρ s) λ d s=>KR.ok
 | .ret e,ρ,s=>KR.bind (za hF e ρ s) λ d s=>KR.ok
 | .retN,ρ,s=>KR.ok
 | .ite c a b,ρ,s=>KR.tru (za hF c ρ s) λ k s=>KR.if (ag4 a ρ s) (ag4 b ρ s)
 | .whl c b,ρ,s=>by
  intro r s' h
  change whl (ev F c) (exs F b) ρ s=_ at h
  unfold whl at h
  split at h
  ·exact ax6 hF (λ ρ s=>za hF c ρ s) (λ ρ s=>ag4 b ρ s) _ ρ s _ _ h
  ·cases h
 | .for_ tg it b,ρ,s=>KR.bind (aN9 hF it ρ s) λ q s0=>ax4 hF (λ d ρ s=>by
   intro a s' h
   split at h
   ·exact ag4 b _ _ _ _ h
   ·cases h) _ _ _
 | .pass,ρ,s=>KR.ok
 | .cont,ρ,s=>KR.ok
 | .brk,ρ,s=>KR.ok
 | .raise,ρ,s=>KR.bad
 | .und i,ρ,s=>by
  intro a s' h
  change(match ak1 ρ i with|some ρ=>R.ok (Ct.next ρ) s|none=>.bad)=_ at h
  split at h<;>cases h;exact KP.refl _
theorem ag4:∀(h:Ss) (ρ:Env) (s:Sto),KR s (exs F h ρ s)
 | .nil,ρ,s=>KR.ok
 | .cons st h,ρ,s=>KR.bind (bB1 st ρ s) λ c s=>by
  cases c with
  | next ρ=>exact ag4 h ρ s
  | _=>exact KR.ok
end
end
theorem qf {s st:Sto}{d:D}(h:KP s st):KR s (zu s d st):=by
 have tk:∀ t,KP s (st.take s.length++t):=λ t i o e=>by
  obtain⟨G,e',k⟩:=h i o e
  have hi:=(ac.mp e).1
  have J:=(ac.mp e').1
  refine⟨G,?_,k⟩
  rw[aJ (by rw[dz];omega),iX,if_pos hi];exact e'
 have F:KP s (st.take s.length):=by have:=tk [];rwa [bQ]at this
 intro a s' e
 unfold zu at e
 repeat' split at e
 all_goals first|(cases e;exact F;done)|(cases e;exact tk _;done)|(cases e;exact h;done)|(cases e;done)
theorem aN4 {F:Fns}(G:FK F):∀(b:XB) (ρ:Env) (s:Sto) (c:String) (s':Sto),xB F b ρ s=some (c,s')->KP s s'
 | .no,ρ,s,c,s',h=>by cases h
 | .rais d,ρ,s,c,s',h=>by
  change(if F.xc d=true then some (d,s)else none)=_ at h
  split at h
  ·cases h;exact KP.refl _
  ·cases h
 | .call f as,ρ,s,c,s',h=>by
  change(match ag9 F as ρ s with|.ok l s1=>F.xcall f l s1|_=>none)=_ at h
  split at h
  ·rename_i l s1 e;exact(ae7 G as ρ s _ _ e).trans (G.xcall _ _ _ _ _ h)
  ·cases h
 | .iteT d a r,ρ,s,c,s',h=>by
  change(match ev F d ρ s with|.ok (.bl b) s1=>if b then xB F a ρ s1 else xB F r ρ s1|_=>none)=_ at h
  split at h
  ·rename_i b s1 e
   have k:=za G d ρ s _ _ e
   split at h
   ·exact k.trans (aN4 G a _ _ _ _ h)
   ·exact k.trans (aN4 G r _ _ _ _ h)
  ·cases h
 | .seq st b,ρ,s,c,s',h=>by
  change(match ex F st ρ s with|.ok (.next ρ1) s1=>xB F b ρ1 s1|_=>none)=_ at h
  split at h
  ·rename_i ρ1 s1 e;exact(bB1 G st ρ s _ _ e).trans (aN4 G b _ _ _ _ h)
  ·cases h
theorem bl4 {F:Fns}(G:FK F)(d:Tf)(l:List D)(s:Sto):KR s (bJ4 F d l s):=by
 intro a s' h
 unfold bJ4 at h
 split at h
 ·rename_i c s1 e
  have k:=aN4 G _ _ _ _ _ e
  split at h
  ·exact qf k _ _ h
  ·cases h
 ·obtain⟨c,s1,e1,h⟩:=R.bind_inv h
  have k1:=ag4 G _ _ _ _ _ e1
  cases c with
  | ret v=>exact qf k1 _ _ h
  | next ρ =>
   obtain⟨c,s2,e2,h⟩:=R.bind_inv h
   have k2:=k1.trans (ag4 G _ _ _ _ _ e2)
   cases c with
   | ret v=>exact qf k2 _ _ h
   | next ρ=>exact qf k2 _ _ h
   | _=>cases h
  | _=>cases h
theorem ac6 (P:Pr):∀ n,FK (aa1 P n)
 | 0=>⟨λ _ _ _=>KR.bad,λ _ _ _ _=>KR.bad,λ _ _ _ _ _ h=>by cases h⟩
 | n+1=>by
  refine⟨λ f l s=>?_,λ id cs l s=>?_,λ f l s c s' h=>?_⟩
  ·intro a s' h
   unfold aa1 at h
   simp only at h
   split at h
   case h_2 =>
    split at h
    case h_2=>cases h
    split at h
    case isFalse=>cases h
    exact bl4 (ac6 P n) _ _ _ _ _ h
   split at h
   case isFalse=>cases h
   obtain⟨c,s1,e1,h⟩:=R.bind_inv h
   have k1:=ag4 (ac6 P n) _ _ _ _ _ e1
   cases c with
   | ret v=>exact qf k1 _ _ h
   | next ρ=>exact qf k1 _ _ h
   | _=>cases h
  ·intro a s' h
   unfold aa1 at h
   simp only at h
   split at h
   case h_2=>cases h
   split at h
   case isFalse=>cases h
   obtain⟨v,s1,e1,h⟩:=R.bind_inv h
   exact qf (za (ac6 P n) _ _ _ _ _ e1) _ _ h
  ·unfold aa1 at h
   simp only at h
   split at h
   case h_2=>cases h
   split at h
   case isFalse=>cases h
   exact aN4 (ac6 P n) _ _ _ _ _ h
end DV
end
open DV renaming Sto->kG,D->kH,Env->kJ,R->kK,ev->kL,aa1->kO,LIM->kP,eqv->kQ,tru->kS,DEEP->kT,Pr->kU,Fns->kW,ah6->kX,eqL->kY,rep->kZ,kd->k6,ab9->k8,ab8->k9,O->la,ac0->lf,Es->lh,look->li,ixn->lj,evs->ln,Bi->lq,Tg->lr,Ct->ls,aJ9->lu,chk->lv,ag9->lw,Sq->lx,subC->ly,ab5->lz,inL->lA,qa->lC,minI->lD,az1->lE,M->lF,am0->lG,ac5->lH,ay5->lI,ac7->lJ,ql->lK,As->lL,mk->lM,Lm->lN,Df->lO,COp->lP,aj0->lQ,ai2->lR,E->lS,meth->lT,Mk->lU,Mt->lV,xB->lW,aS5->lX,pur->lY,inM->lZ,bi1->l6,aJ8->l7,av5->l8,evI->l9,aE3->mf,ag5->mh,bi->ml,BOp->mn,isK->mq,W62->mw,ar2->my,aX2->mz,ao5->mB
open DV.D renaming bndL->kI,bnd->kN,hdI->kR,keyS->k7,nclL->lB,ncl->mr
open DV.O renaming bnd->kM
noncomputable section
namespace L2
theorem fb {α:Type}{d:α}{s:kG}{p:Prop}(h:(DV.R.bad:kK α)=.ok d s):p:=nomatch h
open PySem PySem.Spec PyProof.Rows
structure LamI where
 qual:Str
 params:bD
 body:Expr
 scope:Scope
 ps:List Str
 fr:List Str
 nm:Option (Str×Pos)
def CloAt (H:Hp)(f:Addr)(J:LamI)(cap:List V)(clos:List (Str×Addr)):Prop:=match J.nm with
 | none=>ay4 H f J.qual J.params J.body J.scope J.fr cap clos
 | some p=>al7 H f p.1 J.qual J.params [.Return (some J.body) p.2] J.scope J.fr cap clos
def aq7 (H:Hp)(f:Addr)(J:LamI)(clos:List (Str×Addr)):Prop:=match J.nm with
 | none=>∃ pm c' ctv,H f=some (aC3 f (bn "<lambda>" J.qual J.params J.body J.scope clos pm (.ref c') ctv))/\H c'=some (qr c' J.qual)
 | some p=>∃ doc pm c' ctv,H f=some (aC3 f (fI p.1 J.qual J.params [.Return (some J.body) p.2] J.scope clos .none .none doc pm none (.ref c') ctv))/\H c'=some (qr c' J.qual)
structure Gm where
 K:ae
 fa:String->Option Addr
 lg:String->LamI->Prop
 T:List (Addr×Str)
variable (Γ:Gm)
mutual
noncomputable def RV (φ:Nat->Addr)(H:Hp):kH->V->Prop
 | .non,v=>v=.non
 | .bl b,v=>v=.bl b
 | .int i,v=>v=.int i
 | .str x,v=>v=.str ⟨x.toArray⟩/\x.length<=kP
 | .tup l,v=>∃ a xs,v=.ref a/\(SqT Γ.K H a xs/\(kR l=true->H a=some (.tup xs)))/\RVL φ H l xs
 | .ref n,v=>v=.ref (φ n)
 | .fn f,v=>∃ a,Γ.fa f=some a/\v=.ref a
 | .clo id cs,v=>∃ f cap J clos,v=.ref f/\Γ.lg id J/\CloAt H f J cap clos/\cap.length=J.fr.length/\RVL φ H cs cap
noncomputable def RVL (φ:Nat->Addr)(H:Hp):List kH->List V->Prop
 | [],xs=>xs=[]
 | d::l,xs=>∃ x r,xs=x::r/\RV φ H d x/\RVL φ H l r
end
noncomputable def bI7:HO->Bool
 | .tup _=>true
 | .frz _ _=>true
 | .ext _=>true
 | _=>false
def Kp (H H':Hp):Prop:=∀ b o,H b=some o->bI7 o=true->H' b=some o
theorem Kp.refl (H:Hp):Kp H H:=λ _ _ h _=>h
theorem Kp.trans {H G F:Hp}(a:Kp H G)(b:Kp G F):Kp H F:=λ c o h f=>b c o (a c o h f) f
theorem Kp.new {H F:Hp}{p:Addr}{o:HO}(a:Kp H F)(h:F p=none):Kp H (upd F p o):=λ c u e f=>by
 have e1:=a c u e f
 rw[zb (zm e1 h)];exact e1
theorem Kp.put {H F:Hp}{p:Addr}{o u:HO}(a:Kp H F)(h:F p=some u)(G:bI7 u=false):Kp H (upd F p o):=λ c v e f=>by
 have e1:=a c v e f
 rw[zb (λ z=>by subst z;rw[h]at e1;cases e1;rw[G]at f;cases f)];exact e1
theorem Kp.sqT {K:ae}{H H':Hp}{a:Addr}{F:List V}(e:Kp H H')(h:SqT K H a F):SqT K H' a F:=by
 rcases h with(h|⟨o,h⟩)|h
 ·exact .inl (.inl (e _ _ h rfl))
 ·exact .inl (.inr ⟨o,e _ _ h rfl⟩)
 ·exact .inr h
theorem ay4.kp {H H':Hp}{f:Addr}{qual:Str}{params:bD}{body:Expr}{scope:Scope}{fr:List Str}{cap:List V}{F:List (Str×Addr)}(h:ay4 H f qual params body scope fr cap F)(e:Kp H H'):ay4 H' f qual params body scope fr cap F:=by
 obtain⟨pm,c',G,Y,h2,J,h4,h5,Z⟩:=h
 refine⟨pm,c',G,e _ _ Y rfl,e _ _ h2 rfl,λ x c q=>?_,h4,h5,λ i x v a b=>?_⟩
 ·obtain⟨o,v,z,d⟩:=J x c q
  exact⟨o,v,e _ _ z rfl,d⟩
 ·obtain⟨c,o,u,z1,z2,z3⟩:=Z i x v a b
  exact⟨c,o,u,z1,e _ _ z2 rfl,z3⟩
theorem al7.kp {H H':Hp}{f:Addr}{name qual:Str}{params:bD}{body:List Stmt}{scope:Scope}{fr:List Str}{cap:List V}{F:List (Str×Addr)}(h:al7 H f name qual params body scope fr cap F)(e:Kp H H'):al7 H' f name qual params body scope fr cap F:=by
 obtain⟨G,pm,c',J,Z,h2,Y,h4,h5,h6⟩:=h
 refine⟨G,pm,c',J,e _ _ Z rfl,e _ _ h2 rfl,λ x c q=>?_,h4,h5,λ i x v a b=>?_⟩
 ·obtain⟨o,v,z,d⟩:=Y x c q
  exact⟨o,v,e _ _ z rfl,d⟩
 ·obtain⟨c,o,u,z1,z2,z3⟩:=h6 i x v a b
  exact⟨c,o,u,z1,e _ _ z2 rfl,z3⟩
theorem CloAt.kp {H H':Hp}{f:Addr}{J:LamI}{cap:List V}{F:List (Str×Addr)}(h:CloAt H f J cap F)(e:Kp H H'):CloAt H' f J cap F:=by
 unfold CloAt at h ⊢
 cases q:J.nm with
 | none=>rw[q]at h;exact ay4.kp h e
 | some p=>rw[q]at h;exact al7.kp h e
theorem aq7.kp {H H':Hp}{f:Addr}{J:LamI}{F:List (Str×Addr)}(h:aq7 H f J F)(e:Kp H H'):aq7 H' f J F:=by
 unfold aq7 at h ⊢
 cases q:J.nm with
 | none =>
  rw[q]at h
  obtain⟨pm,c',G,h1,Y⟩:=h
  exact⟨pm,c',G,e _ _ h1 rfl,e _ _ Y rfl⟩
 | some p =>
  rw[q]at h
  obtain⟨Z,pm,c',G,h1,Y⟩:=h
  exact⟨Z,pm,c',G,e _ _ h1 rfl,e _ _ Y rfl⟩
theorem CloAt.fn {K:ae}{H:Hp}{f:Addr}{J:LamI}{cap:List V}{F:List (Str×Addr)}(h:CloAt H f J cap F):bI8 K H f:=by
 unfold CloAt at h
 cases q:J.nm with
 | none=>rw[q]at h;obtain⟨Z,c',Y,G,_⟩:=h;exact .inl ⟨_,G⟩
 | some p=>rw[q]at h;exact al7.fn h
structure Gw (φ:Nat->Addr)(n:Nat)(H:Hp)(φ':Nat->Addr)(H':Hp):Prop where
 map:∀ i,i<n->φ' i=φ i
 kp:Kp H H'
variable {Γ:Gm}
mutual
theorem RV.monoW {φ φ':Nat->Addr}{n:Nat}{H H':Hp}(g:Gw φ n H φ' H'):∀(d:kH) (v:V),d.bnd n=true->RV Γ φ H d v->RV Γ φ' H' d v
 | .non,_,_,h=>by unfold RV at h ⊢;exact h
 | .bl _,_,_,h=>by unfold RV at h ⊢;exact h
 | .int _,_,_,h=>by unfold RV at h ⊢;exact h
 | .str _,_,_,h=>by unfold RV at h ⊢;exact h
 | .tup l,_,b,h=>by
  unfold RV at h ⊢
  unfold kN at b
  obtain⟨a,G,e,q,r⟩:=h
  exact⟨a,G,e,⟨g.kp.sqT q.1,λ z=>g.kp _ _ (q.2 z) rfl⟩,RVL.monoW g l G b r⟩
 | .ref k,_,b,h=>by
  unfold RV at h ⊢
  unfold kN at b
  rw[g.map k (of_decide_eq_true b)];exact h
 | .fn _,_,_,h=>by unfold RV at h ⊢;exact h
 | .clo id cs,_,b,h=>by
  unfold RV at h ⊢
  unfold kN at b
  obtain⟨f,cap,J,F,e,Z,h2,Y,h4⟩:=h
  exact⟨f,cap,J,F,e,Z,h2.kp g.kp,Y,RVL.monoW g cs cap b h4⟩
theorem RVL.monoW {φ φ':Nat->Addr}{n:Nat}{H H':Hp}(g:Gw φ n H φ' H'):∀(l:List kH) (F:List V),kI n l=true->RVL Γ φ H l F->RVL Γ φ' H' l F
 | [],_,_,h=>by unfold RVL at h ⊢;exact h
 | d::l,_,b,h=>by
  unfold RVL at h ⊢
  unfold kI at b
  rw[aj]at b
  obtain⟨x,r,e,q,t⟩:=h
  exact⟨x,r,e,RV.monoW g d x b.1 q,RVL.monoW g l r b.2 t⟩
end
mutual
theorem zl {n m:Nat}(h:n<=m):∀ d:kH,d.bnd n=true->d.bnd m=true
 | .non,_=>rfl
 | .bl _,_=>rfl
 | .int _,_=>rfl
 | .str _,_=>rfl
 | .tup l,b=>by unfold kN at b ⊢;exact aa3 h l b
 | .ref k,b=>by unfold kN at b ⊢;exact decide_eq_true (ao (of_decide_eq_true b) h)
 | .fn _,_=>rfl
 | .clo _ l,b=>by unfold kN at b ⊢;exact aa3 h l b
theorem aa3 {n m:Nat}(h:n<=m):∀ l:List kH,kI n l=true->kI m l=true
 | [],_=>rfl
 | d::l,b=>by
  unfold kI at b ⊢
  rw[aj]at b ⊢
  exact⟨zl h d b.1,aa3 h l b.2⟩
end
theorem aa2 {n:Nat}:∀ {l:List kH},kI n l=true↔∀ d∈l,d.bnd n=true
 | []=>by unfold kI;simp
 | d::l=>by
  unfold kI
  rw[aj,aa2 (l:=l)]
  simp
theorem zF {n:Nat}{l m:List kH}(h:kI n l=true)(h':kI n m=true):kI n (l++m)=true :=
 aa2.mpr λ d hd=>(bw.mp hd).elim (aa2.mp h d) (aa2.mp h' d)
theorem aE2 {n:Nat}{l m:List kH}(h:kI n l=true)(s:∀ d∈m,d∈l):kI n m=true:=aa2.mpr λ d hd=>aa2.mp h d (s d hd)
theorem ae4 {n:Nat}{l:List kH}{i:Nat}{d:kH}(h:kI n l=true)(e:l[i]?=some d):d.bnd n=true:=aa2.mp h d (aX e)
section
variable {φ:Nat->Addr} {H:Hp}
theorem RVL.nil:RVL Γ φ H [] []:=by unfold RVL;rfl
theorem RVL.cons {d:kH}{l:List kH}{x:V}{h:List V}(a:RV Γ φ H d x)(b:RVL Γ φ H l h):RVL Γ φ H (d::l) (x::h):=by unfold RVL;exact⟨x,h,rfl,a,b⟩
theorem RVL.unnil {F:List V}(h:RVL Γ φ H [] F):F=[]:=by unfold RVL at h;exact h
theorem RVL.uncons {d:kH}{l:List kH}{F:List V}(h:RVL Γ φ H (d::l) F):∃ x r,F=x::r/\RV Γ φ H d x/\RVL Γ φ H l r:=by unfold RVL at h;exact h
theorem RVL.length:∀ {l:List kH} {F:List V},RVL Γ φ H l F->F.length=l.length
 | [],_,h=>by rw[h.unnil];rfl
 | d::l,_,h=>by
  obtain⟨x,r,rfl,_,t⟩:=h.uncons
  rw[aK,aK,RVL.length t]
theorem RVL.get:∀ {l:List kH} {F:List V} {i:Nat} {d:kH},RVL Γ φ H l F->l[i]?=some d->∃ x,F[i]?=some x/\RV Γ φ H d x
 | [],_,_,_,_,e=>by simp at e
 | d::l,_,0,d',h,e=>by
  obtain⟨x,r,rfl,q,t⟩:=h.uncons
  have e':d=d':=by simpa using e
  subst e'
  exact⟨x,rfl,q⟩
 | d::l,_,i+1,_,h,e=>by
  obtain⟨x,r,rfl,q,t⟩:=h.uncons
  obtain⟨y,e1,e2⟩:=RVL.get (i:=i) t (by simpa using e)
  exact⟨y,by simpa using e1,e2⟩
theorem RVL.get' {l:List kH}{F:List V}{i:Nat}{x:V}(h:RVL Γ φ H l F)(e:F[i]?=some x):∃ d,l[i]?=some d/\RV Γ φ H d x:=by
 have hl:=h.length
 have hi:i<l.length:=by rw[<-hl];exact(ac.mp e).1
 obtain⟨y,e1,e2⟩:=h.get (i:=i) (ag hi)
 rw[e]at e1;cases e1
 exact⟨_,ag hi,e2⟩
theorem RVL.append:∀ {l m:List kH} {F ys:List V},RVL Γ φ H l F->RVL Γ φ H m ys->RVL Γ φ H (l++m) (F++ys)
 | [],_,_,_,h,h'=>by rw[h.unnil];exact h'
 | d::l,_,_,_,h,h'=>by
  obtain⟨x,r,rfl,q,t⟩:=h.uncons
  exact .cons q (RVL.append t h')
theorem RVL.drop:∀ {l:List kH} {F:List V} (n:Nat),RVL Γ φ H l F->RVL Γ φ H (l.drop n) (F.drop n)
 | _,_,0,h=>h
 | [],_,n+1,h=>by rw[h.unnil];exact .nil
 | d::l,_,n+1,h=>by
  obtain⟨x,r,rfl,q,t⟩:=h.uncons
  exact RVL.drop n t
theorem RVL.take:∀ {l:List kH} {F:List V} (n:Nat),RVL Γ φ H l F->RVL Γ φ H (l.take n) (F.take n)
 | _,_,0,h=>.nil
 | [],_,n+1,h=>by rw[h.unnil];exact .nil
 | d::l,_,n+1,h=>by
  obtain⟨x,r,rfl,q,t⟩:=h.uncons
  exact .cons q (RVL.take n t)
theorem RVL.set:∀ {l:List kH} {F:List V} {d:kH} {x:V} (i:Nat),RVL Γ φ H l F->RV Γ φ H d x->RVL Γ φ H (l.set i d) (F.set i x)
 | [],_,_,_,_,h,_=>by rw[h.unnil];exact .nil
 | d::l,_,_,_,0,h,q=>by
  obtain⟨x,r,rfl,_,t⟩:=h.uncons
  exact .cons q t
 | d::l,_,_,_,i+1,h,q=>by
  obtain⟨x,r,rfl,G,t⟩:=h.uncons
  exact .cons G (RVL.set i t q)
theorem RVL.reverse:∀ {l:List kH} {F:List V},RVL Γ φ H l F->RVL Γ φ H l.reverse F.reverse
 | [],_,h=>by rw[h.unnil];exact .nil
 | d::l,_,h=>by
  obtain⟨x,r,rfl,q,t⟩:=h.uncons
  rw[cL,cL]
  exact(RVL.reverse t).append (.cons q .nil)
theorem RV.intE {i:Int}{v:V}(h:RV Γ φ H (.int i) v):v=.int i:=by unfold RV at h;exact h
theorem RV.blE {i:Bool}{v:V}(h:RV Γ φ H (.bl i) v):v=.bl i:=by unfold RV at h;exact h
theorem RV.nonE {v:V}(h:RV Γ φ H .non v):v=.non:=by unfold RV at h;exact h
theorem RV.strE {x:List Nat}{v:V}(h:RV Γ φ H (.str x) v):v=.str ⟨x.toArray⟩:=by unfold RV at h;exact h.1
theorem RV.strL {x:List Nat}{v:V}(h:RV Γ φ H (.str x) v):x.length<=kP:=by unfold RV at h;exact h.2
theorem RV.tupE {l:List kH}{v:V}(h:RV Γ φ H (.tup l) v):∃ a F,v=.ref a/\SqT Γ.K H a F/\RVL Γ φ H l F:=by unfold RV at h;obtain⟨a,F,e,q,r⟩:=h;exact⟨a,F,e,q.1,r⟩
theorem RV.tupZ {l:List kH}{v:V}(h:RV Γ φ H (.tup l) v):∃ a F,(v=.ref a/\(kR l=true->H a=some (.tup F)))/\SqT Γ.K H a F/\RVL Γ φ H l F:=by unfold RV at h;obtain⟨a,F,e,q,r⟩:=h;exact⟨a,F,⟨e,q.2⟩,q.1,r⟩
theorem RVL.tonil {l:List kH}(h:RVL Γ φ H l []):l=[]:=cS.mp h.length.symm
theorem RV.tupK {l:List kH}{v:V}(h:RV Γ φ H (.tup l) v)(z:kR l=true):∃ a F,v=.ref a/\H a=some (.tup F)/\RVL Γ φ H l F:=by unfold RV at h;obtain⟨a,F,e,q,r⟩:=h;exact⟨a,F,e,q.2 z,r⟩
theorem RV.refE {n:Nat}{v:V}(h:RV Γ φ H (.ref n) v):v=.ref (φ n):=by unfold RV at h;exact h
theorem RV.intI {i:Int}:RV Γ φ H (.int i) (.int i):=by unfold RV;rfl
theorem RV.blI {i:Bool}:RV Γ φ H (.bl i) (.bl i):=by unfold RV;rfl
theorem RV.nonI:RV Γ φ H .non .non:=by unfold RV;rfl
theorem RV.strI {x:List Nat}(h:x.length<=kP):RV Γ φ H (.str x) (.str ⟨x.toArray⟩):=by unfold RV;exact⟨rfl,h⟩
theorem RV.tupI {l:List kH}{a:Addr}{F:List V}(h:H a=some (.tup F))(q:RVL Γ φ H l F):RV Γ φ H (.tup l) (.ref a):=by unfold RV;exact⟨a,F,rfl,⟨SqT.of h,λ _=>h⟩,q⟩
theorem RV.tupC {l:List kH}{a:Addr}{F:List V}(h:SqT Γ.K H a F)(z:kR l=true->H a=some (.tup F))(q:RVL Γ φ H l F):RV Γ φ H (.tup l) (.ref a):=by unfold RV;exact⟨a,F,rfl,⟨h,z⟩,q⟩
theorem RV.refI {n:Nat}:RV Γ φ H (.ref n) (.ref (φ n)):=by unfold RV;rfl
end
theorem br2 {n:Nat}{l:List kH}(h:kR (lu n l)=true):kR l=true:=by
 cases n with
 | zero=>cases h
 | succ n =>
  cases l with
  | nil => 
   have:∀ k,lu k ([]:List kH)=[]:=λ k=>by
    induction k with
    | zero=>rfl
    | succ k ih=>show[]++lu k []=[];rw[ih];rfl
   rw[this]at h;cases h
  | cons a l =>
   have e:lu (n+1) (a::l)=a::(l++lu n (a::l)):=rfl
   rw[e]at h
   cases a with
   | int _=>rfl
   | _=>cases h
def SqF (K:ae)(H:Hp)(a:Addr)(xs:List V):Prop:=SqL K H a xs/\∀ H',Kp H H'->SqL K H' a xs
noncomputable def az3:kH->Option Key
 | .int i=>some (.inl i)
 | .str x=>some (.inr ⟨x.toArray⟩)
 | _=>none
noncomputable def zW:List kH->Option (List Key)
 | []=>some []
 | d::l=>match az3 d,zW l with
  | some k,some r=>some (k::r)
  | _,_=>none
noncomputable def bB4:kH->Option (List Key)
 | .tup l=>if(kR l&&(l.all k7&&decide (l.length<=1000)))=true then zW l else none
 | _=>none
noncomputable def RVD {κ:Type}(kf:kH->Option κ)(Γ:Gm)(φ:Nat->Addr)(H:Hp):List (kH×kH)->List (κ×V)->Prop
 | [],kvs=>kvs=[]
 | (d,e)::l,kvs=>∃ k v r,kvs=(k,v)::r/\kf d=some k/\RV Γ φ H e v/\RVD kf Γ φ H l r
variable (Γ)
noncomputable def RO (φ:Nat->Addr)(H:Hp)(a:Addr):la->Prop
 | .lst l=>∃ xs,H a=some (.lst xs)/\RVL Γ φ H l xs
 | .ro l=>∃ xs,SqF Γ.K H a xs/\RVL Γ φ H l xs
 | .dic l=>∃ kvs,H a=some (.dK kvs)/\RVD az3 Γ φ H l kvs
 | .dit l=>∃ kvs,H a=some (.dT kvs)/\RVD bB4 Γ φ H l kvs
 | .ins _ _=>False
noncomputable abbrev okd:la->Nat:=DV.O.kd
noncomputable def isMut:la->Bool
 | .ro _=>false
 | _=>true
structure Rp (φ:Nat->Addr)(H:Hp)(s:kG):Prop where
 inj:∀(i j:Nat) (o o':la),s[i]?=some o->s[j]?=some o'->isMut o=true->isMut o'=true->φ i=φ j->i=j
 obj:∀(i:Nat) (o:la),s[i]?=some o->RO Γ φ H (φ i) o
 wf:∀(i:Nat) (o:la),s[i]?=some o->o.bnd s.length=true
 tab:TabsH Γ.T H
structure RE (φ:Nat->Addr)(H:Hp)(n:Nat)(ρ:kJ)(σ:St):Prop where
 len:ρ.length=σ.length
 val:∀(i:Nat) (d:kH),ρ[i]?=some (some d)->d.bnd n=true/\∃ v,σ[i]?=some (some v)/\RV Γ φ H d v
structure Gr (φ:Nat->Addr)(s:kG)(H:Hp)(φ':Nat->Addr)(s':kG)(H':Hp):Prop where
 w:Gw φ s.length H φ' H'
 le:s.length<=s'.length
 new:∀ i:Nat,s.length<=i->i<s'.length->H (φ' i)=none
 kd:∀(i:Nat) (o o':la),s[i]?=some o->s'[i]?=some o'->okd o'=okd o
 st:∀ b,H b≠none->H' b≠none
 fr:∀ b o,H b=some o->(∀ ps,o≠.tbl ps)->(∀(i:Nat) (ob:la),s[i]?=some ob->isMut ob=true->φ i≠b)->H' b=some o
variable {Γ}
theorem bv3 {o F:la}(h:okd F=okd o)(m:isMut F=true):isMut o=true:=by
 cases o with
 | ro _=>cases F with
  | ro _=>cases m
  | _=>cases h
 | _=>rfl
theorem Gr.mu {φ φ':Nat->Addr}{s s':kG}{H H':Hp}(g:Gr φ s H φ' s' H')(i:Nat)(o h:la)(e:s[i]?=some o)(e':s'[i]?=some h)(m:isMut h=true):isMut o=true:=bv3 (g.kd i o h e e') m
theorem Gr.refl (φ:Nat->Addr)(s:kG)(H:Hp):Gr φ s H φ s H:=⟨⟨λ _ _=>rfl,Kp.refl H⟩,am _,λ i J F=>absurd F (by omega),λ i o G e e'=>by rw[e]at e';cases e';rfl,λ _ h=>h,λ _ _ h _ _=>h⟩
theorem Gr.trans {φ φ1 φ2:Nat->Addr}{s s1 s2:kG}{H Y J:Hp}(a:Gr φ s H φ1 s1 Y)(b:Gr φ1 s1 Y φ2 s2 J)(_h:s.length<=s1.length):Gr φ s H φ2 s2 J:=by
 refine⟨⟨λ i hi=>(b.w.map i (ao hi a.le)).trans (a.w.map i hi),a.w.kp.trans b.w.kp⟩,av a.le b.le,λ i h1 h2=>?_,λ i o o' e e'=>?_,λ c h=>b.st c (a.st c h),λ c o h nt ne=>?_⟩
 ·by_cases hi:i<s1.length
  ·rw[b.w.map i hi];exact a.new i h1 hi
  ·have e:=b.new i (by omega) h2
   cases q:H (φ2 i)with
   | none=>rfl
   | some o=>exact absurd e (a.st _ (by rw[q];simp))
 ·have hl:i<s1.length:=ao (ac.mp e).1 a.le
  obtain⟨F,e1⟩:∃ F,s1[i]?=some F:=⟨s1[i],ag hl⟩
  exact(b.kd i F o' e1 e').trans (a.kd i o F e e1)
 ·refine b.fr c o (a.fr c o h nt ne) nt λ i ob e m z=>?_
  by_cases hi:i<s.length
  ·obtain⟨G,Z⟩:∃ G,s[i]?=some G:=⟨s[i],ag hi⟩
   exact ne i G Z (a.mu i G ob Z e m) (by rw[<-a.w.map i hi];exact z)
  ·have:=a.new i (by omega) (ac.mp e).1
   rw[z,h]at this;cases this
theorem RV.mono {φ φ':Nat->Addr}{s s':kG}{H H':Hp}(g:Gr φ s H φ' s' H')(d:kH)(v:V)(b:d.bnd s.length=true)(h:RV Γ φ H d v):RV Γ φ' H' d v:=RV.monoW g.w d v b h
theorem RVL.mono {φ φ':Nat->Addr}{s s':kG}{H H':Hp}(g:Gr φ s H φ' s' H')(d:List kH)(v:List V)(b:kI s.length d=true)(h:RVL Γ φ H d v):RVL Γ φ' H' d v:=RVL.monoW g.w d v b h
theorem RE.mono {φ φ':Nat->Addr}{s s':kG}{H H':Hp}{ρ:kJ}{σ:St}(h:RE Γ φ H s.length ρ σ)(g:Gr φ s H φ' s' H')(hn:s.length<=s'.length):RE Γ φ' H' s'.length ρ σ :=
 ⟨h.len,λ i d e=>by
  obtain⟨b,v,e1,e2⟩:=h.val i d e
  exact⟨zl hn d b,v,e1,RV.mono g d v b e2⟩⟩
def ac4 (Γ:Gm)(φ:Nat->Addr)(s:kG)(H:Hp)(d:kH)(s':kG)(Q:VK):Prop :=
 ∀ v φ' H',Gr φ s H φ' s' H'->s.length<=s'.length->d.bnd s'.length=true->RV Γ φ' H' d v->Rp Γ φ' H' s'->Q v H'
theorem ac4.trans {φ φ1:Nat->Addr}{s s1 s':kG}{H F:Hp}{d:kH}{Q:VK}(h:ac4 Γ φ s H d s' Q)(g:Gr φ s H φ1 s1 F)(l:s.length<=s1.length):ac4 Γ φ1 s1 F d s' Q :=
 λ v φ' H' g' G b r p=>h v φ' H' (g.trans g' l) (av l G) b r p
theorem ac4.here {φ:Nat->Addr}{s:kG}{H:Hp}{d:kH}{Q:VK}{v:V}(h:ac4 Γ φ s H d s Q)(p:Rp Γ φ H s)(b:d.bnd s.length=true)(r:RV Γ φ H d v):Q v H :=
 h v φ H (Gr.refl φ s H) (am _) b r p
theorem RVD.monoW {κ:Type}{G:kH->Option κ}{φ φ':Nat->Addr}{n:Nat}{H H':Hp}(g:Gw φ n H φ' H'):∀(l:List (kH×kH)) (F:List (κ×V)),kI n (l.map (·.2))=true->RVD G Γ φ H l F->RVD G Γ φ' H' l F
 | [],_,_,h=>h
 | (d,e)::l,_,b,h=>by
  obtain⟨k,v,r,e1,e2,J,Y⟩:=h
  rw[aV]at b
  unfold kI at b
  rw[aj]at b
  exact⟨k,v,r,e1,e2,RV.monoW g e v b.1 J,RVD.monoW g l r b.2 Y⟩
theorem RO.mono {φ φ':Nat->Addr}{n:Nat}{H H':Hp}{a:Addr}{o:la}(h:RO Γ φ H a o)(g:Gw φ n H φ' H')(b:o.bnd n=true)(hl:isMut o=true->∀ u,H a=some u->H' a=some u):RO Γ φ' H' a o:=by
 cases o with
 | lst l =>
  unfold kM at b
  obtain⟨G,e,r⟩:=h
  exact⟨G,hl rfl _ e,RVL.monoW g l G b r⟩
 | ro l =>
  unfold kM at b
  obtain⟨G,e,r⟩:=h
  exact⟨G,⟨e.2 _ g.kp,λ J k=>e.2 _ (g.kp.trans k)⟩,RVL.monoW g l G b r⟩
 | dic l =>
  unfold kM at b
  rw[aj]at b
  obtain⟨F,e,r⟩:=h
  exact⟨F,hl rfl _ e,RVD.monoW g l F b.2 r⟩
 | dit l =>
  unfold kM at b
  rw[aj]at b
  obtain⟨F,e,r⟩:=h
  exact⟨F,hl rfl _ e,RVD.monoW g l F b.2 r⟩
 | ins _ _=>exact h.elim
theorem RO.there {φ:Nat->Addr}{H:Hp}{a:Addr}{o:la}(h:RO Γ φ H a o)(m:isMut o=true):∃ u,H a=some u/\bI7 u=false/\∀ ps,u≠.tbl ps:=by
 cases o with
 | lst l=>obtain⟨F,e,_⟩:=h;exact⟨_,e,rfl,by nofun⟩
 | ro l=>cases m
 | dic l=>obtain⟨F,e,_⟩:=h;exact⟨_,e,rfl,by nofun⟩
 | dit l=>obtain⟨F,e,_⟩:=h;exact⟨_,e,rfl,by nofun⟩
 | ins _ _=>exact h.elim
theorem Rp.addr {φ:Nat->Addr}{H:Hp}{s:kG}(p:Rp Γ φ H s){i:Nat}{l:List kH}(e:s[i]?=some (.lst l)):∃ h,H (φ i)=some (.lst h)/\RVL Γ φ H l h:=p.obj i _ e
theorem zN {n m:Nat}(h:n<=m)(o:la)(b:o.bnd n=true):o.bnd m=true:=by
 cases o with
 | lst l=>unfold kM at b ⊢;exact aa3 h l b
 | ro l=>unfold kM at b ⊢;exact aa3 h l b
 | dic l =>
  unfold kM at b ⊢
  rw[aj]at b ⊢
  exact⟨aa3 h _ b.1,aa3 h _ b.2⟩
 | dit l =>
  unfold kM at b ⊢
  rw[aj]at b ⊢
  exact⟨aa3 h _ b.1,aa3 h _ b.2⟩
 | ins c l=>unfold kM at b ⊢;exact aa3 h _ b
theorem TabsH.keepF {T:List (Addr×Str)}{H H':Hp}(h:TabsH T H)(k:∀ b o,(bI7 o=true\/∃ ps,o=.tbl ps)->H b=some o->H' b=some o):TabsH T H':=λ y hy=>by
 obtain⟨ps,e,t,c⟩:=h y hy
 refine⟨ps,k _ _ (.inr ⟨_,rfl⟩) e,t,λ pos F q=>?_⟩
 obtain⟨G,e1,e2⟩:=c pos F q
 exact⟨G,e1,k _ _ (.inl rfl) e2⟩
theorem Rp.new {φ:Nat->Addr}{H:Hp}{s:kG}{p:Addr}{u:HO}{o:la}(r:Rp Γ φ H s)(hp:H p=none)(hb:o.bnd s.length=true)
  (ho:∀ φ' H',Gw φ s.length H φ' H'->H' p=some u->RO Γ φ' H' p o):Gr φ s H (λ i=>if i=s.length then p else φ i) (s++[o]) (upd H p u)/\Rp Γ (λ i=>if i=s.length then p else φ i) (upd H p u) (s++[o]):=by
 have g:Gw φ s.length H (λ i=>if i=s.length then p else φ i) (upd H p u):=⟨λ i hi=>if_neg (ay hi),(Kp.refl H).new hp⟩
 have key:∀ i F,(s++[o])[i]?=some F->(i<s.length/\s[i]?=some F)\/(i=s.length/\F=o):=λ i F e=>by
  rcases fL i s.length with h|h|h
  ·rw[aJ h]at e;exact .inl ⟨h,e⟩
  ·subst h;simp at e;exact .inr ⟨rfl,e.symm⟩
  ·rw[bS (by simp;omega)]at e;cases e
 refine⟨⟨g,by simp,λ i h1 h2=>?_,λ i o1 o2 e1 e2=>?_,λ b hb=>?_,λ b ob hb _ _=>by rw[zb (zm hb hp)];exact hb⟩,λ i j Z Y J ej mi mj e=>?_,λ i F e=>?_,λ i F e=>?_,r.tab.new hp⟩
 ·rw[aR,b9]at h2
  rw[if_pos (by omega)];exact hp
 ·rcases key i o2 e2 with⟨_,e⟩|⟨hi,_⟩
  ·rw[e1]at e;cases e;rfl
  ·have:=(ac.mp e1).1;omega
 ·unfold upd;split
  ·simp
  ·exact hb
 ·rcases key i Z J with⟨hi,J⟩|⟨hi,rfl⟩<;>rcases key j Y ej with⟨hj,ej⟩|⟨hj,ej'⟩
  ·rw[if_neg (ay hi),if_neg (ay hj)]at e
   exact r.inj i j Z Y J ej mi mj e
  ·rw[if_neg (ay hi),if_pos hj]at e
   obtain⟨u,G,_,_⟩:=(r.obj i Z J).there mi
   rw[e,hp]at G;cases G
  ·rw[if_neg (ay hj),if_pos hi]at e
   obtain⟨u,G,_,_⟩:=(r.obj j Y ej).there mj
   rw[<-e,hp]at G;cases G
  ·rw[hi,hj]
 ·rcases key i F e with⟨hi,e⟩|⟨hi,rfl⟩
  ·show RO Γ _ _ (if i=s.length then p else φ i) F
   rw[if_neg (ay hi)]
   exact(r.obj i F e).mono g (r.wf i F e) λ _ v hv=>by rw[zb (zm hv hp)];exact hv
  ·show RO Γ _ _ (if i=s.length then p else φ i) F
   rw[if_pos hi]
   exact ho _ _ g zg
 ·rw[aR,b9]
  rcases key i F e with⟨hi,e⟩|⟨hi,rfl⟩
  ·exact zN (cM _) _ (r.wf i F e)
  ·exact zN (cM _) _ hb
theorem Rp.set {φ:Nat->Addr}{H:Hp}{s:kG}{k:Nat}{u:HO}{o G:la}(r:Rp Γ φ H s)(hk:s[k]?=some G)(Z:isMut G=true)(hb:o.bnd s.length=true)
  (ho:∀ H',Gw φ s.length H φ H'->H' (φ k)=some u->RO Γ φ H' (φ k) o) (a1:okd o=okd G:=by rfl):Gr φ s H φ (s.set k o) (upd H (φ k) u)/\Rp Γ φ (upd H (φ k) u) (s.set k o):=by
 obtain⟨v0,Y,f0,a0⟩:=(r.obj k G hk).there Z
 have a2:k<s.length:=(ac.mp hk).1
 have g:Gw φ s.length H φ (upd H (φ k) u):=⟨λ _ _=>rfl,(Kp.refl H).put Y f0⟩
 have key:∀ i F,(s.set k o)[i]?=some F->(i≠k/\s[i]?=some F)\/(i=k/\F=o):=λ i F e=>by
  by_cases h:i=k
  ·subst h;rw[aL a2]at e;exact .inr ⟨rfl,(au e).symm⟩
  ·rw[aP (bX h)]at e;exact .inl ⟨h,e⟩
 have mm:∀ i F,(s.set k o)[i]?=some F->isMut F=true->∃ J,s[i]?=some J/\isMut J=true:=λ i F e m=>by
  rcases key i F e with⟨_,e⟩|⟨h,_⟩
  ·exact⟨F,e,m⟩
  ·exact⟨G,by rw[h];exact hk,Z⟩
 refine⟨⟨g,by simp,λ i h1 h2=>by rw[bA]at h2;omega,λ i o1 o2 e1 e2=>?_,λ b hb=>?_,λ b ob hb nt ne=>by rw[zb (bX (ne k G hk Z))];exact hb⟩,λ i j oi oj ei ej mi mj e=>?_,λ i F e=>?_,λ i F e=>?_,r.tab.keepF λ b v hv q=>?_⟩
 ·rcases key i o2 e2 with⟨_,e⟩|⟨h,rfl⟩
  ·rw[e1]at e;cases e;rfl
  ·subst h;rw[hk]at e1;cases e1;exact a1
 ·unfold upd;split
  ·simp
  ·exact hb
 ·obtain⟨o1,e1,m1⟩:=mm i oi ei mi
  obtain⟨o2,e2,m2⟩:=mm j oj ej mj
  exact r.inj i j o1 o2 e1 e2 m1 m2 e
 ·rcases key i F e with⟨h,e⟩|⟨h,rfl⟩
  ·refine(r.obj i F e).mono g (r.wf i F e) λ m v hv=>?_
   rw[zb λ z=>h (r.inj i k F G e hk m Z z)];exact hv
  ·subst h
   exact ho _ g zg
 ·rw[bA]
  rcases key i F e with⟨_,e⟩|⟨_,rfl⟩
  ·exact r.wf i F e
  ·exact hb
 ·rw[zb λ z=>by
   subst z;rw[Y]at q;cases q
   rcases hv with h|⟨ps,h⟩
   ·rw[f0]at h;cases h
   ·exact a0 _ h]
  exact q
theorem Rp.same {φ:Nat->Addr}{H H':Hp}{s:kG}(r:Rp Γ φ H s)(e:ac1 H H'):Gr φ s H φ s H'/\Rp Γ φ H' s:=by
 have g:Gw φ s.length H φ H':=⟨λ _ _=>rfl,λ b o h _=>e b o h⟩
 exact⟨⟨g,am _,λ i Y F=>absurd F (by omega),λ i o J e e'=>by rw[e]at e';cases e';rfl,λ b hb=>by
  cases q:H b with
  | none=>exact absurd q hb
  | some o=>rw[e b o q];simp,λ b o h _ _=>e b o h⟩,r.inj,λ i o h=>(r.obj i o h).mono g (r.wf i o h) λ _ u G=>e _ u G,r.wf,r.tab.same e⟩
section
variable {φ:Nat->Addr} {H:Hp} {s:kG} {Q:VK}
theorem ac4.alloc {l:List kH}{F:List V}(h:ac4 Γ φ s H (.ref s.length) (s++[.lst l]) Q)(r:Rp Γ φ H s)(hl:RVL Γ φ H l F)(hb:kI s.length l=true){p:Addr}(hp:H p=none):Q (.ref p) (upd H p (.lst F)):=by
 obtain⟨g,G⟩:=r.new (o:=.lst l) (u:=.lst F) hp hb λ φ' H' g e=>⟨F,e,RVL.monoW g l F hb hl⟩
 have:=h (.ref p) _ _ g (by simp) (by unfold kN;simp) (by unfold RV;simp) G
 exact this
theorem ac4.tup {l:List kH}{F:List V}(h:ac4 Γ φ s H (.tup l) s Q)(r:Rp Γ φ H s)(hl:RVL Γ φ H l F)(hb:kI s.length l=true){p:Addr}(hp:H p=none):Q (.ref p) (upd H p (.tup F)):=by
 obtain⟨g,G⟩:=r.same (H':=upd H p (.tup F)) ((ac1.refl H).new hp)
 exact h _ _ _ g (am _) (by unfold kN;exact hb) (RV.tupI zg (RVL.mono g l F hb hl)) G
theorem ac4.put {k:Nat}{l l0:List kH}{F:List V}{d:kH}{v:V}(h:ac4 Γ φ s H d (s.set k (.lst l)) Q)(r:Rp Γ φ H s)(hk:s[k]?=some (.lst l0))(hl:RVL Γ φ H l F)(hb:kI s.length l=true)
  (hd:d.bnd s.length=true) (hv:RV Γ φ H d v):Q v (upd H (φ k) (.lst F)):=by
 obtain⟨g,G⟩:=r.set (o:=.lst l) (u:=.lst F) hk rfl hb λ H' g e=>⟨F,e,RVL.monoW g l F hb hl⟩
 exact h _ _ _ g (by simp) (by rw[bA];exact hd) (RV.mono g d v hd hv) G
end
variable {Γ:Gm}
theorem keyOf_inj {a b:kH}{k:Key}(ha:az3 a=some k)(hb:az3 b=some k):a=b:=by
 cases a with
 | int i =>
  cases ha
  cases b with
  | int j=>cases hb;rfl
  | str y=>cases hb
  | _=>cases hb
 | str x =>
  cases ha
  cases b with
  | int j=>cases hb
  | str y =>
   have h:=au hb
   injection h with h
   injection h with h
   have F:y=x:=by simpa using h
   rw[F]
  | _=>cases hb
 | _=>cases ha
theorem ah2 {d:kH}(h:d.key=true):∃ k,az3 d=some k:=by
 cases d with
 | int i=>exact⟨_,rfl⟩
 | str x=>exact⟨_,rfl⟩
 | _=>cases h
theorem au2 {φ:Nat->Addr}{H:Hp}{d:kH}{k:Key}{v:V}(h:az3 d=some k)(r:RV Γ φ H d v):v=kV k:=by
 cases d with
 | int i=>cases h;exact r.intE
 | str x=>cases h;exact r.strE
 | _=>cases h
def bA1 {κ:Type}(kf:kH->Option κ):Prop:=∀ {a b:kH} {k:κ},kf a=some k->kf b=some k->a=b
theorem an1:∀ {a b:List kH} {k:List Key},zW a=some k->zW b=some k->a=b
 | [],[],k,_,_=>rfl
 | [],y::b,k,ha,hb=>by
  cases ha
  unfold zW at hb
  split at hb<;>cases hb
 | x::a,[],k,ha,hb=>by
  cases hb
  unfold zW at ha
  split at ha<;>cases ha
 | x::a,y::b,k,ha,hb=>by
  unfold zW at ha hb
  split at ha
  ·rename_i k1 r1 e1 e2
   cases ha
   split at hb
   ·rename_i k2 G h F
    cases hb
    rw[keyOf_inj e1 h,an1 e2 F]
   ·cases hb
  ·cases ha
theorem an5 {d:kH}{k:List Key}(h:bB4 d=some k):∃ l,d=.tup l/\(kR l=true/\l.all k7=true/\l.length<=1000)/\zW l=some k:=by
 cases d with
 | tup l =>
  have h:(if(kR l&&(l.all k7&&decide (l.length<=1000)))=true then zW l else none)=some k:=h
  by_cases z:(kR l&&(l.all k7&&decide (l.length<=1000)))=true
  ·rw[if_pos z]at h;rw[aj,aj]at z;exact⟨l,rfl,⟨z.1,z.2.1,of_decide_eq_true z.2.2⟩,h⟩
  ·rw[if_neg z]at h;cases h
 | _=>cases h
theorem keyT_inj:bA1 bB4:=λ ha hb=>by
 obtain⟨l,rfl,_,h⟩:=an5 ha
 obtain⟨m,rfl,_,F⟩:=an5 hb
 rw[an1 h F]
theorem aT3 {d:kH}(h:d.keyS=true):∃ k,az3 d=some k:=by
 cases d with
 | int i=>exact⟨_,rfl⟩
 | str x=>exact⟨_,rfl⟩
 | _=>cases h
theorem ah8:∀ {l:List kH},l.all k7=true->∃ k,zW l=some k
 | [],_=>⟨[],rfl⟩
 | d::l,h=>by
  rw[dM,aj]at h
  obtain⟨k,hk⟩:=aT3 h.1
  obtain⟨r,F⟩:=ah8 h.2
  exact⟨k::r,by unfold zW;rw[hk,F]⟩
theorem aj2 {d:kH}(h:d.keyT=true):∃ k,bB4 d=some k:=by
 cases d with
 | tup l =>
  have h:(kR l&&(l.all k7&&decide (l.length<=1000)))=true:=h
  have h':=h
  rw[aj,aj]at h'
  obtain⟨k,hk⟩:=ah8 h'.2.1
  exact⟨k,by show(if(kR l&&(l.all k7&&decide (l.length<=1000)))=true then zW l else none)=some k;rw[if_pos h];exact hk⟩
 | _=>cases h
theorem aM2 {φ:Nat->Addr}{H:Hp}:∀ {l:List kH} {k:List Key} {F:List V},zW l=some k->RVL Γ φ H l F->F=k.map kV
 | [],k,F,h,r=>by cases h;exact r.unnil
 | d::l,k,F,h,r=>by
  unfold zW at h
  split at h
  ·rename_i k1 r1 e1 e2
   cases h
   obtain⟨x,ys,rfl,G,J⟩:=r.uncons
   rw[au2 e1 G,aM2 e2 J,aV]
  ·cases h
theorem av6 {φ:Nat->Addr}{H:Hp}{d:kH}{k:List Key}{v:V}(h:bB4 d=some k)(r:RV Γ φ H d v):∃ b,v=.ref b/\H b=some (.tup (k.map kV)):=by
 obtain⟨l,rfl,z,hk⟩:=an5 h
 obtain⟨a,J,e,F,G⟩:=r.tupK z.1
 rw[aM2 hk G]at F
 exact⟨a,e,F⟩
section
variable {κ:Type} [DecidableEq κ] {kf:kH->Option κ}
theorem RVD.val {φ:Nat->Addr}{H:Hp}{d:kH}{k:κ}(G:bA1 kf)(hk:kf d=some k):∀ {l:List (kH×kH)} {F:List (κ×V)},RVD kf Γ φ H l F->(li d l=none/\av4 F k=none)\/∃ e v,li d l=some e/\av4 F k=some v/\RV Γ φ H e v/\e∈l.map (·.2)
 | [],F,h=>by
  have h:F=[]:=h
  subst h
  exact .inl ⟨rfl,rfl⟩
 | (a,e)::l,F,h=>by
  obtain⟨J,v,r,rfl,e2,Z,e4⟩:=h
  by_cases z:a=d
  ·subst z
   rw[hk]at e2;cases e2
   exact .inr ⟨e,v,by unfold li;rw[if_pos rfl],ah0 rfl,Z,by simp⟩
  ·have Y:¬ J=k:=λ q=>z (G e2 (by rw[q];exact hk))
   have e5:li d ((a,e)::l)=li d l:=by
    conv=>lhs;unfold li
    rw[if_neg z]
   rw[e5,ag8 (show ¬(J,v).1=k from Y)]
   rcases RVD.val G hk e4 with q|⟨e',v',q1,q2,q3,q4⟩
   ·exact .inl q
   ·exact .inr ⟨e',v',q1,q2,q3,by simp at q4 ⊢;exact .inr q4⟩
theorem RVD.repl {φ:Nat->Addr}{H:Hp}{d e:kH}{k:κ}{v:V}(G:bA1 kf)(hk:kf d=some k)(hv:RV Γ φ H e v):∀ {l:List (kH×kH)} {F:List (κ×V)},RVD kf Γ φ H l F->RVD kf Γ φ H (l.map λ p=>if p.1=d then(p.1,e)else p) (F.map λ J=>if J.1=k then(J.1,v)else J)
 | [],F,h=>by
  have h:F=[]:=h
  subst h;exact(rfl:([]:List (κ×V))=[])
 | (a,e0)::l,F,h=>by
  obtain⟨Z,v0,r,rfl,e2,e3,Y⟩:=h
  rw[aV,aV]
  by_cases z:a=d
  ·subst z
   rw[hk]at e2;cases e2
   rw[if_pos rfl,if_pos rfl]
   exact⟨k,v,_,rfl,hk,hv,RVD.repl G hk hv Y⟩
  ·have zk:¬ Z=k:=λ q=>z (G e2 (by rw[q];exact hk))
   rw[if_neg z,if_neg zk]
   exact⟨Z,v0,_,rfl,e2,e3,RVD.repl G hk hv Y⟩
theorem RVD.snoc {φ:Nat->Addr}{H:Hp}{d e:kH}{k:κ}{v:V}(Y:bA1 kf)(hk:kf d=some k)(hv:RV Γ φ H e v):∀ {l:List (kH×kH)} {F:List (κ×V)},RVD kf Γ φ H l F->RVD kf Γ φ H (l++[(d,e)]) (F++[(k,v)])
 | [],F,h=>by
  have h:F=[]:=h
  subst h;exact⟨k,v,[],rfl,hk,hv,rfl⟩
 | (a,e0)::l,F,h=>by
  obtain⟨Z,v0,r,rfl,e2,G,J⟩:=h
  exact⟨Z,v0,_,rfl,e2,G,RVD.snoc Y hk hv J⟩
theorem RVD.put {φ:Nat->Addr}{H:Hp}{d e:kH}{k:κ}{v:V}{l:List (kH×kH)}{F:List (κ×V)}(J:bA1 kf)(hk:kf d=some k)(hv:RV Γ φ H e v)(h:RVD kf Γ φ H l F):RVD kf Γ φ H (kX d e l) (an4 F k v):=by
 unfold kX an4
 rw[ap3]
 rcases h.val J hk with⟨G,q2⟩|⟨e',v',G,q2,_⟩
 ·rw[G,q2];exact h.snoc J hk hv
 ·rw[G,q2];exact h.repl J hk hv
theorem RVD.get {φ:Nat->Addr}{H:Hp}:∀ {l:List (kH×kH)} {F:List (κ×V)} {i:Nat} {d e:kH},RVD kf Γ φ H l F->l[i]?=some (d,e)->∃ k v,F[i]?=some (k,v)/\kf d=some k/\RV Γ φ H e v
 | [],_,_,_,_,_,h=>by cases h
 | (a,b)::l,F,0,d,e,h,q=>by
  obtain⟨k,v,r,rfl,e2,G,J⟩:=h
  cases q
  exact⟨k,v,rfl,e2,G⟩
 | (a,b)::l,F,i+1,d,e,h,q=>by
  obtain⟨k,v,r,rfl,e2,G,J⟩:=h
  exact RVD.get (i:=i) J (show l[i]?=some (d,e)from q)
theorem RVD.keys {φ:Nat->Addr}{H:Hp}:∀ {l:List (kH×kH)} {F:List (κ×V)},RVD kf Γ φ H l F->∀ kv∈F,∃ d,kf d=some kv.1
 | [],F,h,kv,hk=>by
  have h:F=[]:=h
  subst h;cases hk
 | (a,b)::l,F,h,kv,hk=>by
  obtain⟨k,v,r,rfl,e2,J,G⟩:=h
  rcases ax.mp hk with z|z
  ·subst z;exact⟨a,e2⟩
  ·exact RVD.keys G kv z
theorem RVD.length {φ:Nat->Addr}{H:Hp}:∀ {l:List (kH×kH)} {F:List (κ×V)},RVD kf Γ φ H l F->F.length=l.length
 | [],F,h=>by
  have h:F=[]:=h
  subst h;rfl
 | (a,e)::l,F,h=>by
  obtain⟨Y,v,r,rfl,e2,J,G⟩:=h
  rw[aK,aK,RVD.length G]
end
theorem aC1 {n:Nat}{d e:kH}{l:List (kH×kH)}(h:(DV.O.dic l).bnd n=true)(hd:d.bnd n=true)(he:e.bnd n=true):(DV.O.dic (kX d e l)).bnd n=true:=by
 unfold kM at h ⊢
 rw[aj]at h ⊢
 obtain⟨J,G⟩:=h
 have g1:=aa2.mp J
 have F:=aa2.mp G
 unfold kX
 refine⟨aa2.mpr λ x hx=>?_,aa2.mpr λ x hx=>?_⟩
 ·obtain⟨p,hp,rfl⟩:=aS.mp hx
  split at hp
  ·obtain⟨q,hq,rfl⟩:=aS.mp hp
   split
   ·exact g1 _ (bv (f:=(·.1)) hq)
   ·exact g1 _ (bv (f:=(·.1)) hq)
  ·rcases bw.mp hp with q|q
   ·exact g1 _ (bv (f:=(·.1)) q)
   ·rw[bE.mp q];exact hd
 ·obtain⟨p,hp,rfl⟩:=aS.mp hx
  split at hp
  ·obtain⟨q,hq,rfl⟩:=aS.mp hp
   split
   ·exact he
   ·exact F _ (bv (f:=(·.2)) hq)
  ·rcases bw.mp hp with q|q
   ·exact F _ (bv (f:=(·.2)) q)
   ·rw[bE.mp q];exact he
theorem ba1 {n:Nat}{d e:kH}{l:List (kH×kH)}(h:(DV.O.dit l).bnd n=true)(hd:d.bnd n=true)(he:e.bnd n=true):(DV.O.dit (kX d e l)).bnd n=true:=aC1 h hd he
theorem ag6 {f:kH->kH->Option Bool}{a b:kH}{l m:List kH}{z:Bool}(h:kY f (a::l) (b::m)=some z):∃ x y,f a b=some x/\kY f l m=some y/\z=(x&&y):=by
 unfold kY at h
 cases e1:f a b with
 | none=>rw[e1]at h;cases h
 | some x =>
  cases e2:kY f l m with
  | none=>rw[e1,e2]at h;cases h
  | some y=>rw[e1,e2]at h;exact⟨x,y,rfl,rfl,(au h).symm⟩
theorem aM4 {f:kH->kH->Option Bool}:∀ {l m:List kH} {z:Bool},kY f l m=some z->∃ e:Nat->Bool,(∀ j d d',l[j]?=some d->m[j]?=some d'->f d d'=some (e j))/\((l.length==m.length)&&(bf (min l.length m.length)).all e)=z
 | [],[],z,h=>by
  unfold kY at h
  cases h
  exact⟨λ _=>true,λ j d d' h=>by simp at h,by simp⟩
 | [],b::m,z,h=>by
  unfold kY at h
  cases h
  exact⟨λ _=>true,λ j d d' h=>by simp at h,by simp⟩
 | a::l,[],z,h=>by
  unfold kY at h
  cases h
  exact⟨λ _=>true,λ j d d' J F=>by simp at F,by simp⟩
 | a::l,b::m,z,h=>by
  obtain⟨x,y,e1,e2,Y⟩:=ag6 h
  obtain⟨e,J,F⟩:=aM4 e2
  refine⟨λ j=>match j with|0=>x|j+1=>e j,λ j d d' g1 G=>?_,?_⟩
  ·cases j with
   | zero=>simp at g1 G;subst g1;subst G;exact e1
   | succ j=>exact J j d d' (by simpa using g1) (by simpa using G)
  ·rw[aK,aK,show min (l.length+1) (m.length+1)=min l.length m.length+1 by omega,List.range_succ_eq_map,dM,List.all_map,Y,<-F]
   have:((l.length+1==m.length+1)=(l.length==m.length)):=by
    by_cases q:l.length=m.length
    ·simp[q]
    ·have:¬ l.length+1=m.length+1:=by omega
     simp[q]
   rw[this]
   show((l.length==m.length)&&(x&&(bf _).all e))=_
   cases x<;>cases(l.length==m.length)<;>simp
section
variable {X:Cx} {pins:List (Addr×Obj)} {σ:St} {H:Hp} {sh:af} {φ:Nat->Addr} {s:kG}
theorem ah4 (I:Inv X pins σ H sh){a:Addr}{F ys:List V}(h:H a=some (.lst F))(h':SqT X.K H a ys):False:=by
 rcases h' with(z|⟨o,z⟩)|⟨o,its,n,hk,_⟩
 ·rw[h]at z;cases z
 ·rw[h]at z;cases z
 ·have:=(I.bs a o (I.mod.kin a o hk)).2
  rw[h]at this;cases this
theorem rv_two (I:Inv X pins σ H sh)(hK:X.K=Γ.K)(R:Rp Γ φ H s){a b:kH}{x:V}(Y:RV Γ φ H a x)(F:RV Γ φ H b x)(n1:k6 s a≠9)(G:k6 s b≠9):a=b\/∃ l m p Z,a=.tup l/\b=.tup m/\x=.ref p/\RVL Γ φ H l Z/\RVL Γ φ H m Z:=by
 have J:∀ {r:Nat},k6 s (.ref r)≠9->∃ l,s[r]?=some (.lst l):=λ {r} h=>by
  have h:(match s[r]? with|some (DV.O.lst l)=>4|_=>9:Nat)≠9:=h
  cases hs:s[r]? with
  | none=>rw[hs]at h;exact absurd rfl h
  | some o =>
   rw[hs]at h
   cases o with
   | lst l=>exact⟨l,rfl⟩
   | _=>exact absurd rfl h
 cases a with
 | non=>have e:=Y.nonE;subst e;cases b with
  | non=>exact .inl rfl
  | bl _=>cases F.blE
  | int _=>cases F.intE
  | str _=>cases F.strE
  | tup _=>obtain⟨_,_,e,_⟩:=F.tupE;cases e
  | ref _=>cases F.refE
  | fn _=>exact absurd rfl G
  | clo _ _=>exact absurd rfl G
 | bl p=>have e:=Y.blE;subst e;cases b with
  | non=>cases F.nonE
  | bl _=>cases F.blE;exact .inl rfl
  | int _=>cases F.intE
  | str _=>cases F.strE
  | tup _=>obtain⟨_,_,e,_⟩:=F.tupE;cases e
  | ref _=>cases F.refE
  | fn _=>exact absurd rfl G
  | clo _ _=>exact absurd rfl G
 | int p=>have e:=Y.intE;subst e;cases b with
  | non=>cases F.nonE
  | bl _=>cases F.blE
  | int _=>cases F.intE;exact .inl rfl
  | str _=>cases F.strE
  | tup _=>obtain⟨_,_,e,_⟩:=F.tupE;cases e
  | ref _=>cases F.refE
  | fn _=>exact absurd rfl G
  | clo _ _=>exact absurd rfl G
 | str p=>have e:=Y.strE;subst e;cases b with
  | non=>cases F.nonE
  | bl _=>cases F.blE
  | int _=>cases F.intE
  | str q =>
   have e':p.toArray=q.toArray:=Str.mk.inj (V.str.inj F.strE)
   have a0:p=q:=by simpa using congrArg iZ e'
   subst a0;exact .inl rfl
  | tup _=>obtain⟨_,_,e,_⟩:=F.tupE;cases e
  | ref _=>cases F.refE
  | fn _=>exact absurd rfl G
  | clo _ _=>exact absurd rfl G
 | tup l =>
  obtain⟨p,Z,e,q1,d1⟩:=Y.tupE;subst e;cases b with
  | non=>cases F.nonE
  | bl _=>cases F.blE
  | int _=>cases F.intE
  | str _=>cases F.strE
  | tup m =>
   obtain⟨p',ys,e,q2,d2⟩:=F.tupE
   cases e
   rw[<-hK]at q1 q2
   rw[I.tuple_inj q2 q1]at d2
   exact .inr ⟨l,m,p,Z,rfl,rfl,rfl,d1,d2⟩
  | ref r =>
   cases F.refE
   obtain⟨m,hm⟩:=J G
   obtain⟨ys,hy,_⟩:=R.addr hm
   rw[<-hK]at q1
   exact(ah4 I hy q1).elim
  | fn _=>exact absurd rfl G
  | clo _ _=>exact absurd rfl G
 | ref r =>
  have e:=Y.refE;subst e
  obtain⟨l,hl⟩:=J n1
  obtain⟨Z,hx,_⟩:=R.addr hl
  cases b with
  | non=>cases F.nonE
  | bl _=>cases F.blE
  | int _=>cases F.intE
  | str _=>cases F.strE
  | tup m =>
   obtain⟨p',ys,e,q2,d2⟩:=F.tupE
   cases e
   rw[<-hK]at q2
   exact(ah4 I hx q2).elim
  | ref r' =>
   obtain⟨m,hm⟩:=J G
   have e:φ r=φ r':=V.ref.inj F.refE
   rw[R.inj r r' _ _ hl hm rfl rfl e]
   exact .inl rfl
  | fn _=>exact absurd rfl G
  | clo _ _=>exact absurd rfl G
 | fn _=>exact absurd rfl n1
 | clo _ _=>exact absurd rfl n1
theorem qz {a b:kH}{z:Bool}(h:k8 s a b=some z):lX a b=some z\/(lX a b=none/\lE (k6 s a) (k6 s b)=false/\z=false):=by
 unfold k8 at h
 cases e:lX a b with
 | some w=>rw[e]at h;exact .inl h
 | none =>
  rw[e]at h
  cases q:lE (k6 s a) (k6 s b)with
  | true=>rw[q]at h;cases h
  | false=>rw[q]at h;exact .inr ⟨rfl,rfl,(au h).symm⟩
theorem ba8 {a b:kH}{z:Bool}(h:lX a b=some z):k6 s a≠9/\k6 s b≠9:=by
 cases a<;>cases b<;>first|(cases h;done)|(constructor<;>(intro z;cases z))
theorem ae1 {a b:kH}{z:Bool}(h:k8 s a b=some z):k6 s a≠9/\k6 s b≠9:=by
 rcases qz h with h|⟨_,h,_⟩
 ·exact ba8 h
 ·unfold lE at h
  simp only[eP,beq_eq_false_iff_ne]at h
  exact⟨h.1.1,h.1.2⟩
theorem ay1 {a:kH}{z:Bool}(h:k8 s a a=some z):z=true:=by
 rcases qz h with h|⟨_,h,_⟩
 ·cases a<;>cases h<;>first|rfl|exact beq_self_eq_true _
 ·unfold lE at h;simp at h
theorem aB7 (I:Inv X pins σ H sh)(hK:X.K=Γ.K)(R:Rp Γ φ H s):∀(n:Nat) (a b:kH) (x:V) (z:Bool),kQ s n a b=some z->RV Γ φ H a x->RV Γ φ H b x->z=true:=by
 have Y:∀(a b:kH) (x:V) (z:Bool),k8 s a b=some z->RV Γ φ H a x->RV Γ φ H b x->z=true:=by
  intro a b x z h F G
  rcases rv_two I hK R F G (ae1 h).1 (ae1 h).2 with e|⟨l,m,_,_,rfl,rfl,_⟩
  ·subst e;exact ay1 h
  ·rcases qz h with h|⟨_,h,_⟩
   ·cases h
   ·unfold lE at h;simp[k6]at h
 intro n
 induction n with
 | zero=>intro a b x z h;unfold kQ at h;exact Y a b x z h
 | succ n ih =>
  have a0:∀(l m:List kH) (J:List V) (z:Bool),kY (kQ s n) l m=some z->RVL Γ φ H l J->RVL Γ φ H m J->z=true:=by
   intro l
   induction l with
   | nil =>
    intro m J z h F G
    cases m with
    | nil=>unfold kY at h;exact(au h).symm
    | cons b m=>obtain⟨x,r,e,_⟩:=G.uncons;rw[F.unnil]at e;cases e
   | cons a l ihl =>
    intro m J z h F G
    cases m with
    | nil=>obtain⟨x,r,e,_⟩:=F.uncons;rw[G.unnil]at e;cases e
    | cons b m =>
     obtain⟨p,q,e1,e2,ez⟩:=ag6 h
     obtain⟨v,r,rfl,g1,g2⟩:=F.uncons
     obtain⟨v',r',e,g3,g4⟩:=G.uncons
     cases e
     rw[ez,ih a b v p e1 g1 g3,ihl m r q e2 g2 g4];rfl
  intro a b x z h F G
  unfold kQ at h
  split at h
  ·rename_i l m
   obtain⟨a,J,rfl,q1,d1⟩:=F.tupE
   obtain⟨b,ys,e,q2,Z⟩:=G.tupE
   cases e
   rw[<-hK]at q1 q2
   rw[I.tuple_inj q2 q1]at Z
   exact a0 l m J z h d1 Z
  ·rename_i p q
   split at h
   ·rename_i l m hl hm
    obtain⟨J,e1,d1⟩:=R.addr hl
    obtain⟨ys,e2,Z⟩:=R.addr hm
    have e:=F.refE.symm.trans G.refE
    have e':φ p=φ q:=V.ref.inj e
    rw[e',e2]at e1
    have e3:ys=J:=by injection (au e1)
    subst e3
    split at h
    ·exact a0 l m ys z h d1 Z
    ·rename_i a1;exact absurd (d1.length.symm.trans Z.length) a1
   ·cases h
  ·exact Y a b x z h F G
end
variable {Γ:Gm}
inductive Vw (sh:af):Nat->Value->Prop where
 | non:Vw sh 0 .none
 | bl (b:Bool):Vw sh 1 (.bool b)
 | int (i:Int) (t:Tok):Vw sh 1 (.int i t)
 | str (x:Str) (t:Tok):Vw sh 2 (.str x t)
 | tup {l:Addr} {items:Array Value} (h:sh.heap.IsTuple l items):Vw sh 3 (.ref l)
 | lst {l:Addr} {items:Array Value} (h:sh.heap.IsList l items):Vw sh 4 (.ref l)
theorem Vw.eq {A:aM}{sh:af}{k G:Nat}{u v:Value}(a:Vw sh k u)(b:Vw sh G v)(hne:k≠G)(F:A.units<cLine):gA A sh u v false:=by
 cases a with
 | non=>cases b with
  | non=>exact absurd rfl hne
  | bl b=>exact SeqAt.EqAt.none_bool b
  | int i t=>exact SeqAt.EqAt.none_int i t
  | str x t=>exact SeqAt.EqAt.none_str x t
  | tup h=>exact SeqAt.EqAt.none_tuple h F
  | lst h=>exact SeqAt.EqAt.none_list h F
 | bl a=>cases b with
  | non=>exact SeqAt.EqAt.bool_none a
  | bl b=>exact absurd rfl hne
  | int i t=>exact absurd rfl hne
  | str x t=>exact SeqAt.EqAt.bool_str a x t
  | tup h=>exact SeqAt.EqAt.bool_tuple a h F
  | lst h=>exact SeqAt.EqAt.bool_list a h F
 | int a q=>cases b with
  | non=>exact SeqAt.EqAt.int_none a q
  | bl b=>exact absurd rfl hne
  | int i t=>exact absurd rfl hne
  | str x t=>exact iG a q x t
  | tup h=>exact SeqAt.EqAt.int_tuple a q h F
  | lst h=>exact SeqAt.EqAt.int_list a q h F
 | str a q=>cases b with
  | non=>exact SeqAt.EqAt.str_none a q
  | bl b=>exact SeqAt.EqAt.str_bool a q b
  | int i t=>exact iH a q i t
  | str x t=>exact absurd rfl hne
  | tup h=>exact SeqAt.EqAt.str_tuple a q h F
  | lst h=>exact SeqAt.EqAt.str_list a q h F
 | tup g=>cases b with
  | non=>exact SeqAt.EqAt.tuple_none g F
  | bl b=>exact SeqAt.EqAt.tuple_bool b g F
  | int i t=>exact SeqAt.EqAt.tuple_int i t g F
  | str x t=>exact SeqAt.EqAt.tuple_str x t g F
  | tup h=>exact absurd rfl hne
  | lst h=>exact SeqAt.EqAt.tuple_list g h F
 | lst g=>cases b with
  | non=>exact SeqAt.EqAt.list_none g F
  | bl b=>exact SeqAt.EqAt.list_bool b g F
  | int i t=>exact SeqAt.EqAt.list_int i t g F
  | str x t=>exact SeqAt.EqAt.list_str x t g F
  | tup h=>exact SeqAt.EqAt.list_tuple g h F
  | lst h=>exact absurd rfl hne
theorem Vw.rc {A:aM}{sh:af}{k G:Nat}{u v:Value}(a:Vw sh k u)(b:Vw sh G v)(hne:k≠G)(F:A.units<cLine):kB A sh u v false:=by
 cases a with
 | non=>cases b with
  | non=>exact absurd rfl hne
  | bl b=>exact SeqAt.RcAt.none_bool b
  | int i t=>exact SeqAt.RcAt.none_int i t
  | str x t=>exact SeqAt.RcAt.none_str x t
  | tup h=>exact SeqAt.RcAt.none_tuple h F
  | lst h=>exact SeqAt.RcAt.none_list h F
 | bl a=>cases b with
  | non=>exact SeqAt.RcAt.bool_none a
  | bl b=>exact absurd rfl hne
  | int i t=>exact absurd rfl hne
  | str x t=>exact SeqAt.RcAt.bool_str a x t
  | tup h=>exact SeqAt.RcAt.bool_tuple a h F
  | lst h=>exact SeqAt.RcAt.bool_list a h F
 | int a q=>cases b with
  | non=>exact SeqAt.RcAt.int_none a q
  | bl b=>exact absurd rfl hne
  | int i t=>exact absurd rfl hne
  | str x t=>exact SeqAt.RcAt.int_str a q x t
  | tup h=>exact SeqAt.RcAt.int_tuple a q h F
  | lst h=>exact SeqAt.RcAt.int_list a q h F
 | str a q=>cases b with
  | non=>exact SeqAt.RcAt.str_none a q
  | bl b=>exact SeqAt.RcAt.str_bool a q b
  | int i t=>exact SeqAt.RcAt.str_int a q i t
  | str x t=>exact absurd rfl hne
  | tup h=>exact SeqAt.RcAt.str_tuple a q h F
  | lst h=>exact SeqAt.RcAt.str_list a q h F
 | tup g=>cases b with
  | non=>exact SeqAt.RcAt.tuple_none g F
  | bl b=>exact SeqAt.RcAt.tuple_bool b g F
  | int i t=>exact SeqAt.RcAt.tuple_int i t g F
  | str x t=>exact SeqAt.RcAt.tuple_str x t g F
  | tup h=>exact absurd rfl hne
  | lst h=>exact SeqAt.RcAt.tuple_list g h F
 | lst g=>cases b with
  | non=>exact SeqAt.RcAt.list_none g F
  | bl b=>exact SeqAt.RcAt.list_bool b g F
  | int i t=>exact SeqAt.RcAt.list_int i t g F
  | str x t=>exact SeqAt.RcAt.list_str x t g F
  | tup h=>exact SeqAt.RcAt.list_tuple g h F
  | lst h=>exact absurd rfl hne
theorem Vw.ne {A:aM}{sh:af}{k G:Nat}{u v:Value}(a:Vw sh k u)(b:Vw sh G v)(hne:k≠G)(F:A.units<cLine):kh A sh u v true:=by
 cases a with
 | non=>cases b with
  | non=>exact absurd rfl hne
  | bl b=>exact SeqAt.RcNeAt.none_bool b
  | int i t=>exact SeqAt.RcNeAt.none_int i t
  | str x t=>exact SeqAt.RcNeAt.none_str x t
  | tup h=>exact SeqAt.RcNeAt.none_tuple h F
  | lst h=>exact SeqAt.RcNeAt.none_list h F
 | bl a=>cases b with
  | non=>exact SeqAt.RcNeAt.bool_none a
  | bl b=>exact absurd rfl hne
  | int i t=>exact absurd rfl hne
  | str x t=>exact SeqAt.RcNeAt.bool_str a x t
  | tup h=>exact SeqAt.RcNeAt.bool_tuple a h F
  | lst h=>exact SeqAt.RcNeAt.bool_list a h F
 | int a q=>cases b with
  | non=>exact SeqAt.RcNeAt.int_none a q
  | bl b=>exact absurd rfl hne
  | int i t=>exact absurd rfl hne
  | str x t=>exact SeqAt.RcNeAt.int_str a q x t
  | tup h=>exact SeqAt.RcNeAt.int_tuple a q h F
  | lst h=>exact SeqAt.RcNeAt.int_list a q h F
 | str a q=>cases b with
  | non=>exact SeqAt.RcNeAt.str_none a q
  | bl b=>exact SeqAt.RcNeAt.str_bool a q b
  | int i t=>exact SeqAt.RcNeAt.str_int a q i t
  | str x t=>exact absurd rfl hne
  | tup h=>exact SeqAt.RcNeAt.str_tuple a q h F
  | lst h=>exact SeqAt.RcNeAt.str_list a q h F
 | tup g=>cases b with
  | non=>exact SeqAt.RcNeAt.tuple_none g F
  | bl b=>exact SeqAt.RcNeAt.tuple_bool b g F
  | int i t=>exact SeqAt.RcNeAt.tuple_int i t g F
  | str x t=>exact SeqAt.RcNeAt.tuple_str x t g F
  | tup h=>exact absurd rfl hne
  | lst h=>exact SeqAt.RcNeAt.tuple_list g h F
 | lst g=>cases b with
  | non=>exact SeqAt.RcNeAt.list_none g F
  | bl b=>exact SeqAt.RcNeAt.list_bool b g F
  | int i t=>exact SeqAt.RcNeAt.list_int i t g F
  | str x t=>exact SeqAt.RcNeAt.list_str x t g F
  | tup h=>exact SeqAt.RcNeAt.list_tuple g h F
  | lst h=>exact absurd rfl hne
theorem bF9 (a b:List Nat):((⟨a.toArray⟩:Str)==⟨b.toArray⟩)=(a==b):=by
 by_cases e:a=b
 ·subst e;simp
 ·have:(⟨a.toArray⟩:Str)≠⟨b.toArray⟩:=λ q=>e (by simpa using congrArg (λ z=>z.cps.toList) q)
  rw[beq_eq_false_iff_ne.mpr this,beq_eq_false_iff_ne.mpr e]
structure Cmp (A:aM)(sh:af)(u v:Value)(z:Bool):Prop where
 rc:kB A sh u v z
 ne:kh A sh u v (!z)
section
variable {X:Cx} {pins:List (Addr×Obj)} {σ:St} {H:Hp} {sh:af} {φ:Nat->Addr} {s:kG}
theorem bE2 (I:Inv X pins σ H sh)(G:X.K=Γ.K)(R:Rp Γ φ H s){d:kH}{x:V}{u:Value}(h:RV Γ φ H d x)(r:RelV x u)(hk:k6 s d≠9):Vw sh (k6 s d) u:=by
 cases d with
 | non=>have e:=h.nonE;subst e;cases r;exact .non
 | bl b=>have e:=h.blE;subst e;cases r;exact .bl b
 | int i=>have e:=h.intE;subst e;obtain⟨t,rfl⟩:=r;exact .int i t
 | str y=>have e:=h.strE;subst e;obtain⟨t,rfl⟩:=r;exact .str _ t
 | tup l =>
  obtain⟨a,F,e,q,_⟩:=h.tupE
  subst e;cases r
  rw[<-G]at q
  obtain⟨its,_,t,_⟩:=I.tuple q
  exact .tup t
 | ref n =>
  have e:=h.refE;subst e;cases r
  have hk:(match s[n]? with|some (DV.O.lst l)=>4|_=>9:Nat)≠9:=hk
  show Vw sh (match s[n]? with|some (DV.O.lst l)=>4|_=>9:Nat) _
  cases hs:s[n]? with
  | none=>rw[hs]at hk;exact absurd rfl hk
  | some o =>
   rw[hs]at hk
   cases o with
   | lst l =>
    obtain⟨F,e,_⟩:=R.addr hs
    obtain⟨its,_,t,_⟩:=I.list (SqL.of e)
    exact .lst t.isList
   | _=>exact absurd rfl hk
 | fn _=>exact absurd rfl hk
 | clo _ _=>exact absurd rfl hk
theorem as6 (I:Inv X pins σ H sh)(hK:X.K=Γ.K)(R:Rp Γ φ H s){a b:kH}{x y:V}{u v:Value}{A:aM}{z:Bool}(h:k8 s a b=some z)(J:RV Γ φ H a x)(F:RV Γ φ H b y)(r1:RelV x u)(G:RelV y v)(Z:A.units<cLine) :
  gA A sh u v z/\Cmp A sh u v z:=by
 rcases qz h with h|⟨_,hn,hz⟩
 ·cases a<;>cases b<;>try cases h
  ·cases J.nonE;cases F.nonE;cases r1;cases G
   exact⟨gF _,SeqAt.RcAt.none_none,SeqAt.RcNeAt.none_none⟩
  ·cases J.blE;cases F.blE;cases r1;cases G
   exact⟨SeqAt.EqAt.bool_bool _ _,SeqAt.RcAt.bool_bool _ _,SeqAt.RcNeAt.bool_bool _ _⟩
  ·cases J.blE;cases F.intE;cases r1;obtain⟨t',rfl⟩:=G
   exact⟨SeqAt.EqAt.bool_int _ _ _,SeqAt.RcAt.bool_int _ _ _,SeqAt.RcNeAt.bool_int _ _ _⟩
  ·cases J.intE;cases F.blE;obtain⟨t,rfl⟩:=r1;cases G
   exact⟨SeqAt.EqAt.int_bool _ _ _,SeqAt.RcAt.int_bool _ _ _,SeqAt.RcNeAt.int_bool _ _ _⟩
  ·cases J.intE;cases F.intE;obtain⟨t,rfl⟩:=r1;obtain⟨t',rfl⟩:=G
   exact⟨SeqAt.EqAt.int_int _ _ _ _,SeqAt.RcAt.int_int _ _ _ _,SeqAt.RcNeAt.int_int _ _ _ _⟩
  ·cases J.strE;cases F.strE;obtain⟨t,rfl⟩:=r1;obtain⟨t',rfl⟩:=G
   rw[<-bF9]
   exact⟨SeqAt.EqAt.str_str _ _ _ _,SeqAt.RcAt.str_str _ _ _ _,SeqAt.RcNeAt.str_str _ _ _ _⟩
 ·subst hz
  unfold lE at hn
  simp only[eP,beq_eq_false_iff_ne]at hn
  have Y:=bE2 I hK R J r1 hn.1.1
  have w2:=bE2 I hK R F G hn.1.2
  exact⟨Y.eq w2 hn.2 Z,Y.rc w2 hn.2 Z,Y.ne w2 hn.2 Z⟩
theorem aU7 (I:Inv X pins σ H sh)(hK:X.K=Γ.K)(R:Rp Γ φ H s):∀(n:Nat) (a b:kH) (x y:V) (u v:Value) (A:aM) (z:Bool),kQ s n a b=some z->RV Γ φ H a x->RV Γ φ H b y->RelV x u->RelV y v->Room n A ->
  gA A sh u v z/\Cmp A sh u v z:=by
 intro n
 induction n with
 | zero=>intro a b x y u v A z h h1 h2 r1 r2 G;unfold kQ at h;exact as6 I hK R h h1 h2 r1 r2 G.units0
 | succ n ih =>
  have F:∀ {l m:List kH} {xs ys:List V} {its its':List Value} {A:aM} {e:Nat->Bool},RVL Γ φ H l xs->RVL Γ φ H m ys->Vals xs its->Vals ys its'->Room n A->(∀ j d d',l[j]?=some d->m[j]?=some d'->kQ s n d d'=some (e j)) ->
    ∀ j (h1:j<its.toArray.size) (h2:j<its'.toArray.size),gA A sh its.toArray[j] its'.toArray[j] (e j):=by
   intro l m xs ys its its' A e d1 d2 Z v2 G he j h1 h2
   have l1:=Z.length
   have l2:=v2.length
   have e1:=d1.length
   have e2:=d2.length
   have a3:j<its.length:=by simpa using h1
   have a4:j<its'.length:=by simpa using h2
   have hj:j<l.length:=by omega
   have a1:j<m.length:=by omega
   obtain⟨x,ex,dx⟩:=d1.get (ag hj)
   obtain⟨y,ey,dy⟩:=d2.get (ag a1)
   obtain⟨u,eu,ru⟩:=Z.get ex
   obtain⟨w,ew,a2⟩:=v2.get ey
   have g1:its.toArray[j]=u:=by
    have:=ag a3
    rw[eu]at this
    simpa using(au this).symm
   have g2:its'.toArray[j]=w:=by
    have:=ag a4
    rw[ew]at this
    simpa using(au this).symm
   rw[g1,g2]
   exact(ih _ _ x y u w A (e j) (he j _ _ (ag hj) (ag a1)) dx dy ru a2 G).1
  intro a b x y u v A z h h1 h2 r1 r2 G
  have hz:=h
  unfold kQ at h
  split at h
  ·rename_i l m
   obtain⟨p,xs,ex,q1,d1⟩:=id h1.tupE
   obtain⟨q,ys,ey,q2,d2⟩:=id h2.tupE
   subst ex;subst ey
   cases r1;cases r2
   rw[<-hK]at q1 q2
   obtain⟨its,Z,t1,_⟩:=I.tuple q1
   obtain⟨its',v2,t2,_⟩:=I.tuple q2
   obtain⟨e,he,J⟩:=aM4 h
   have l1:=Z.length
   have l2:=v2.length
   have e1:=d1.length
   have e2:=d2.length
   have sz:((bf (min its.toArray.size its'.toArray.size)).all e&&its.toArray.size==its'.toArray.size)=z:=by
    rw[<-J,Bool.and_comm,show its.toArray.size=l.length by simp;omega,show its'.toArray.size=m.length by simp;omega]
   have key:=SeqAt.RcAt.tuples (A:=A) (s:=sh) (e:=e) t1 t2 G.units0 (F d1 d2 Z v2 G.in1 he)
   have Y:=SeqAt.RcNeAt.tuples (A:=A) (s:=sh) (e:=e) t1 t2 G.units0 (F d1 d2 Z v2 G.in1 he)
   rw[sz]at key Y
   refine⟨?_,key,Y⟩
   by_cases hab:p=q
   ·subst hab
    rw[aB7 I hK R _ _ _ _ _ hz h1 h2]
    exact gF _
   ·exact iY hab key
  ·rename_i p q
   split at h
   ·rename_i l m hl hm
    obtain⟨xs,e1,d1⟩:=R.addr hl
    obtain⟨ys,e2,d2⟩:=R.addr hm
    have ex:=h1.refE
    have ey:=h2.refE
    subst ex;subst ey
    cases r1;cases r2
    obtain⟨its,Z,t1,_⟩:=I.list (SqL.of e1)
    obtain⟨its',v2,t2,_⟩:=I.list (SqL.of e2)
    have l1:=Z.length
    have l2:=v2.length
    have c1:=d1.length
    have c2:=d2.length
    have fin:Cmp A sh (.ref (φ p)) (.ref (φ q)) z:=by
     split at h
     ·rename_i a0
      obtain⟨e,he,J⟩:=aM4 h
      have sz:(bf its.toArray.size).all e=z:=by
       rw[<-J,show its.toArray.size=l.length by simp;omega,a0]
       simp
      have key:=SeqAt.RcAt.lists (A:=A) (s:=sh) (e:=e) t1.isList t2.isList (by simp;omega) G.units0 (F d1 d2 Z v2 G.in1 he)
      have Y:=SeqAt.RcNeAt.lists (A:=A) (s:=sh) (e:=e) t1.isList t2.isList (by simp;omega) G.units0 (F d1 d2 Z v2 G.in1 he)
      rw[sz]at key Y
      exact⟨key,Y⟩
     ·rename_i a0
      cases h
      have hs:(its.toArray.size != its'.toArray.size)=true:=by simp;omega
      exact⟨SeqAt.RcAt.lists_lengths t1.isList t2.isList hs G.units0,SeqAt.RcNeAt.lists_lengths t1.isList t2.isList hs G.units0⟩
    refine⟨?_,fin⟩
    by_cases hab:φ p=φ q
    ·rw[aB7 I hK R _ _ _ _ _ hz RV.refI (by rw[hab];exact RV.refI),hab]
     exact gF _
    ·exact iY hab fin.rc
   ·cases h
  ·exact as6 I hK R h h1 h2 r1 r2 G.units0
end
variable {Γ:Gm} {X:Cx}
noncomputable def bQ3:mn->Operator
 | .add=>.Add|.sub=>.Sub|.mul=>.Mult|.fdiv=>.FloorDiv|.mod=>.Mod|.pow=>.Pow|.shl=>.LShift|.shr=>.RShift|.band=>.BitAnd|.bor=>.BitOr
noncomputable def al3:lP->CmpOp
 | .eq=>.Eq|.ne=>.NotEq|.lt=>.Lt|.le=>.LtE|.gt=>.Gt|.ge=>.GtE|.isin=>.In|.notin=>.NotIn
def rOp (Γ:Gm)(f:kH->kH->kG->kK kH):R2:=λ x y H Q=>∃ φ s a b d s',Rp Γ φ H s/\RV Γ φ H a x/\RV Γ φ H b y/\a.bnd s.length=true/\b.bnd s.length=true/\f a b s=.ok d s'/\ac4 Γ φ s H d s' Q
theorem zG {d e:kH}{s t:kG}(h:lY d s=.ok e t):d=e/\s=t:=by
 unfold lY at h
 cases h
 exact⟨rfl,rfl⟩
theorem zR {o:la}{e:kH}{s t:kG}(h:lz o s=.ok e t):e=.ref s.length/\t=s++[o]:=by
 unfold lz at h
 cases h
 exact⟨rfl,rfl⟩
theorem bn6 (a b:List Nat):(⟨a.toArray⟩:Str)++⟨b.toArray⟩=⟨(a++b).toArray⟩:=by
 show Str.append _ _=_
 unfold Str.append
 simp
theorem zX:kP<=aH:=by rw[eN];decide
theorem bp0:OpR X (bZ .Mult) (rI (λ i j=>DV.mulOk i j=true) λ i j=>.int (i*j)):=opI λ i j _ _ _ _ _ hc q=>mul_int q (by
 unfold DV.mulOk at hc
 simp only[bW,aj,decide_eq_true_eq]at hc
 rcases hc with(h|h)|⟨F,G⟩
 ·exact bK2.ok (.inl (by omega))
 ·exact bK2.ok (.inr (by omega))
 ·unfold DV.BIG at F G
  exact IntMulOk.of_le (m:=60000) (n:=60000) (intBits_le_iff.mpr F) (intBits_le_iff.mpr G) (by decide))
theorem aD2 (l:List Nat):∀(n:Nat) (h:Array Nat),(aE n l.toArray).foldl (·++·) h=h++(kZ n l).toArray
 | 0,h=>by simp[kZ]
 | n+1,h=>by
  rw[bH,db,aD2 l n]
  simp[kZ,iI]
theorem bj9 (l:List Nat):kZ 1 l=l:=by simp[kZ]
theorem aQ4:∀ n,kZ n []=[]
 | 0=>rfl
 | n+1=>by simp[kZ,aQ4 n]
theorem rep_len (l:List Nat):∀ n,(kZ n l).length=l.length*n
 | 0=>by simp[kZ]
 | n+1=>by simp[kZ,rep_len l n,jA];omega
theorem bm6:OpR X (bZ .Mult) (λ x y H Q=>∃(l:List Nat) (n:Int),x=.str ⟨l.toArray⟩/\y=.int n/\(0<=n/\n<=1000000/\l.length*n.toNat<=kP)/\Q (.str ⟨(kZ n.toNat l).toArray⟩) H):=by
 intro J s σ H x y v u Q I Z ry h
 obtain⟨l,n,rfl,rfl,⟨h0,Y,h2⟩,q⟩:=h
 obtain⟨t,rfl⟩:=Z
 obtain⟨t',rfl⟩:=ry
 have F:(⟨l.toArray⟩:Str).length=l.length:=by show l.toArray.size=_;simp
 have hL:=zX
 have a1:=ag0
 refine SB.mul ⟨?_,λ hn _=>?_,λ hn _=>?_⟩ λ t2 k=>?_
 ·rw[decide_eq_false (by omega),decide_eq_false (by omega)];rfl
 ·rw[F]
  have G:1<=n:=by omega
  intro a0
  have h3:(l.length:Int)*n<=1000000:=by
   have:((l.length*n.toNat:Nat):Int)<=(kP:Nat):=Int.ofNat_le.mpr h2
   rw[jD,e8 h0]at this
   have e:((kP:Nat):Int)=1000000:=by unfold kP;rfl
   omega
  have h4:(l.length:Int)<=1000000:=by
   have:(l.length:Int)*1<=(l.length:Int)*n:=eR G (by omega)
   omega
  have h5:(1000000:Int)<=(2^63 - 1) / n:=by
   rw[Int.le_ediv_iff_mul_le (by omega)]
   have:(1000000:Int)*n<=1000000*1000000:=eR Y (by omega)
   omega
  omega
 ·rw[F]
  unfold jX
  exact decide_eq_false (by omega)
 ·have e:Txt.mul ⟨l.toArray⟩ n=⟨(kZ n.toNat l).toArray⟩:=by
   unfold Txt.mul
   split
   ·have:n.toNat=0:=by omega
    rw[this];rfl
   ·split
    ·rename_i hc
     rw[bW]at hc
     rcases hc with hc|hc
     ·have:n=1:=by simpa using hc
      subst this
      show(⟨l.toArray⟩:Str)=⟨(kZ 1 l).toArray⟩
      rw[bj9]
     ·have:l=[]:=by
       have:=eq_of_beq hc
       rw[F]at this
       exact cS.mp this
      subst this
      rw[aQ4]
    ·show(⟨(aE n.toNat l.toArray).foldl (·++·) #[]⟩:Str)=_
     rw[aD2];simp
  rw[e]
  exact⟨.str _,H,I.tok _,⟨_,rfl⟩,q⟩
theorem ai5 {n:Nat}{l:List kH}(h:kI n l=true):∀ k,kI n (lu k l)=true
 | 0=>rfl
 | k+1=>zF h (ai5 h k)
theorem RVL.repD {φ:Nat->Addr}{H:Hp}{l:List kH}{F:List V}(h:RVL Γ φ H l F):∀ k,RVL Γ φ H (lu k l) (al2 k F)
 | 0=>RVL.nil
 | k+1=>h.append (RVL.repD h k)
theorem ar5 {α:Type}(h:List α):∀ k,al2 k h=(aE k h).flatten
 | 0=>rfl
 | k+1=>by rw[bH,du,<-ar5 h k];rfl
theorem bA2 (hK:X.K=Γ.K)(op:mn):OpR X (bZ (bQ3 op)) (rOp Γ (DV.af0 op)):=by
 intro G s σ H x y v u Q I Y Z h
 obtain⟨φ,st,a,b,d,a0,R,ha,hb,na,nb,F,q⟩:=h
 cases op with
 | add =>
  cases a with
  | int a =>
   cases b with
   | int b =>
    change(lY _) st=_ at F
    obtain⟨rfl,rfl⟩:=zG F
    have ex:=ha.intE;have J:=hb.intE;subst ex;subst J
    exact bE1 G s σ H _ _ v u Q I Y Z ⟨_,_,rfl,rfl,q.here R rfl RV.intI⟩
   | _=>exact fb F
  | str a =>
   cases b with
   | str b =>
    change(if _ then _ else _:lF kH) st=_ at F
    split at F
    ·rename_i hl
     obtain⟨rfl,rfl⟩:=zG F
     have ex:=ha.strE;have J:=hb.strE;subst ex;subst J
     refine aJ3 G s σ H _ _ v u Q I Y Z ⟨_,_,rfl,rfl,?_,?_⟩
     ·show a.toArray.size+b.toArray.size<=_
      simp only[ar]
      exact av hl zX
     ·rw[bn6];exact q.here R rfl (RV.strI (by rw[aR];exact hl))
    ·exact fb F
   | _=>exact fb F
  | tup a =>
   cases b with
   | tup b =>
    change(if _ then _ else _:lF kH) st=_ at F
    split at F
    ·rename_i hl
     obtain⟨rfl,rfl⟩:=zG F
     obtain⟨p,xs,⟨rfl,z1⟩,h1,d1⟩:=ha.tupZ
     obtain⟨p',ys,⟨rfl,z2⟩,h2,d2⟩:=hb.tupZ
     refine bo2 hK G s σ H _ _ v u Q I Y Z ⟨p,p',xs,ys,rfl,rfl,h1,h2,?_,λ t H' e ht hn=>?_⟩
     ·rw[d1.length,d2.length];exact av hl zX
     ·obtain⟨g,r'⟩:=R.same e
      unfold kN at na nb
      refine q _ _ _ g (am _) (by unfold kN;exact zF na nb) (RV.tupC ht (λ z=>?_) ((RVL.mono g _ _ na d1).append (RVL.mono g _ _ nb d2))) r'
      rcases hn with hn|⟨rfl,rfl⟩|⟨rfl,rfl⟩
      ·exact hn
      ·rw[d2.tonil,bQ]at z;rw[bQ];exact e _ _ (z1 z)
      ·rw[d1.tonil]at z;exact e _ _ (z2 z)
    ·exact fb F
   | _=>exact fb F
  | ref a =>
   cases b with
   | ref b =>
    change(match st[a]?,st[b]? with|some (DV.O.lst l),some (DV.O.lst m)=>if l.length+m.length<=kP then lz (.lst (l++m)) st else .bad|_,_=>.bad:kK kH)=_ at F
    split at F
    ·rename_i l m h1 h2
     split at F
     ·rename_i hl
      obtain⟨rfl,rfl⟩:=zR F
      obtain⟨xs,e1,d1⟩:=R.addr h1
      obtain⟨ys,e2,d2⟩:=R.addr h2
      have ex:=ha.refE;have J:=hb.refE;subst ex;subst J
      have b1:=R.wf _ _ h1
      have b2:=R.wf _ _ h2
      unfold kM at b1 b2
      refine bx0 G s σ H _ _ v u Q I Y Z ⟨φ a,φ b,xs,ys,rfl,rfl,e1,e2,?_,λ p hp=>?_⟩
      ·rw[d1.length,d2.length];exact av hl zX
      ·exact q.alloc R (d1.append d2) (zF b1 b2) hp
     ·exact fb F
    ·exact fb F
   | _=>exact fb F
  | _=>exact fb F
 | sub =>
  cases a with
  | int a =>
   cases b with
   | int b =>
    change(lY _) st=_ at F
    obtain⟨rfl,rfl⟩:=zG F
    have ex:=ha.intE;have J:=hb.intE;subst ex;subst J
    exact bw8 G s σ H _ _ v u Q I Y Z ⟨_,_,rfl,rfl,q.here R rfl RV.intI⟩
   | _=>exact fb F
  | _=>exact fb F
 | mul =>
  cases a with
  | int a =>
   cases b with
   | int b =>
    change(if _ then _ else _:lF kH) st=_ at F
    split at F
    ·rename_i hc
     obtain⟨rfl,rfl⟩:=zG F
     have ex:=ha.intE;have J:=hb.intE;subst ex;subst J
     exact bp0 G s σ H _ _ v u Q I Y Z ⟨_,_,rfl,rfl,hc,q.here R rfl RV.intI⟩
    ·exact fb F
   | _=>exact fb F
  | str a =>
   cases b with
   | int b =>
    change(if _ then _ else _:lF kH) st=_ at F
    split at F
    ·rename_i hc
     obtain⟨rfl,rfl⟩:=zG F
     have ex:=ha.strE;have J:=hb.intE;subst ex;subst J
     exact bm6 G s σ H _ _ v u Q I Y Z ⟨_,_,rfl,rfl,hc,q.here R rfl (RV.strI (by rw[rep_len];exact hc.2.2))⟩
    ·exact fb F
   | _=>exact fb F
  | tup a =>
   cases b with
   | int b =>
    change(if _ then _ else _:lF kH) st=_ at F
    split at F
    ·rename_i hc
     obtain⟨rfl,rfl⟩:=zG F
     obtain⟨p,xs,⟨rfl,z1⟩,h1,d1⟩:=ha.tupZ
     have J:=hb.intE;subst J
     refine bt4 hK G s σ H _ _ v u Q I Y Z ⟨p,xs,_,rfl,rfl,h1,⟨hc.1,hc.2.1,by rw[d1.length];exact hc.2.2⟩,λ t H' e ht hn=>?_⟩
     obtain⟨g,r'⟩:=R.same e
     unfold kN at na
     refine q _ _ _ g (am _) (by unfold kN;exact ai5 na _) (RV.tupC ht (λ z=>?_) (RVL.repD (RVL.mono g _ _ na d1) _)) r'
     rcases hn with hn|⟨rfl,ex⟩
     ·exact hn
     ·rw[ex];exact e _ _ (z1 (br2 z))
    ·exact fb F
   | _=>exact fb F
  | ref a =>
   cases b with
   | int b =>
    change(match st[a]? with|some (DV.O.lst l)=>if 0<=b/\b<=1000000/\l.length*b.toNat<=kP then lz (.lst (lu b.toNat l)) st else .bad|_=>.bad:kK kH)=_ at F
    split at F
    ·rename_i l h1
     split at F
     ·rename_i hc
      obtain⟨rfl,rfl⟩:=zR F
      obtain⟨xs,e1,d1⟩:=R.addr h1
      have ex:=ha.refE;have J:=hb.intE;subst ex;subst J
      have b1:=R.wf _ _ h1
      unfold kM at b1
      refine bC7 G s σ H _ _ v u Q I Y Z ⟨φ a,b,xs,rfl,rfl,e1,by omega,by omega,?_,λ p hp=>?_⟩
      ·rw[d1.length];exact av hc.2.2 zX
      ·rw[<-ar5];exact q.alloc R (RVL.repD d1 _) (ai5 b1 _) hp
     ·exact fb F
    ·exact fb F
   | _=>exact fb F
  | _=>exact fb F
 | fdiv =>
  cases a with
  | int a =>
   cases b with
   | int b =>
    change(if _ then _ else _:lF kH) st=_ at F
    split at F
    ·rename_i hc
     obtain⟨rfl,rfl⟩:=zG F
     have ex:=ha.intE;have J:=hb.intE;subst ex;subst J
     refine bd9 G s σ H _ _ v u Q I Y Z ⟨_,_,rfl,rfl,⟨hc.1,?_⟩,q.here R rfl RV.intI⟩
     have:=hc.2
     unfold DV.DIVL at this
     simpa using this
    ·exact fb F
   | _=>exact fb F
  | _=>exact fb F
 | mod =>
  cases a with
  | int a =>
   cases b with
   | int b =>
    change(if _ then _ else _:lF kH) st=_ at F
    split at F
    ·rename_i hc
     obtain⟨rfl,rfl⟩:=zG F
     have ex:=ha.intE;have J:=hb.intE;subst ex;subst J
     exact bG2 G s σ H _ _ v u Q I Y Z ⟨_,_,rfl,rfl,hc,q.here R rfl RV.intI⟩
    ·exact fb F
   | _=>exact fb F
  | _=>exact fb F
 | pow =>
  cases a with
  | int a =>
   cases b with
   | int b =>
    change(if _ then _ else _:lF kH) st=_ at F
    split at F
    ·rename_i hc
     obtain⟨rfl,rfl⟩:=zG F
     have ex:=ha.intE;have J:=hb.intE;subst ex;subst J
     exact bG6 G s σ H _ _ v u Q I Y Z ⟨_,_,rfl,rfl,hc,q.here R rfl RV.intI⟩
    ·exact fb F
   | _=>exact fb F
  | _=>exact fb F
 | shl =>
  cases a with
  | int a =>
   cases b with
   | int b =>
    change(if _ then _ else _:lF kH) st=_ at F
    split at F
    ·rename_i hc
     obtain⟨rfl,rfl⟩:=zG F
     have ex:=ha.intE;have J:=hb.intE;subst ex;subst J
     exact bz6 G s σ H _ _ v u Q I Y Z ⟨_,_,rfl,rfl,hc,q.here R rfl RV.intI⟩
    ·exact fb F
   | _=>exact fb F
  | _=>exact fb F
 | shr =>
  cases a with
  | int a =>
   cases b with
   | int b =>
    change(if _ then _ else _:lF kH) st=_ at F
    split at F
    ·rename_i hc
     obtain⟨rfl,rfl⟩:=zG F
     have ex:=ha.intE;have J:=hb.intE;subst ex;subst J
     exact bC4 G s σ H _ _ v u Q I Y Z ⟨_,_,rfl,rfl,hc,q.here R rfl RV.intI⟩
    ·exact fb F
   | _=>exact fb F
  | _=>exact fb F
 | band =>
  cases a with
  | int a =>
   cases b with
   | int b =>
    change(if _ then _ else _:lF kH) st=_ at F
    split at F
    ·rename_i hc
     obtain⟨rfl,rfl⟩:=zG F
     have ex:=ha.intE;have J:=hb.intE;subst ex;subst J
     exact bk5 G s σ H _ _ v u Q I Y Z ⟨_,_,rfl,rfl,hc,q.here R rfl RV.intI⟩
    ·exact fb F
   | _=>exact fb F
  | _=>exact fb F
 | bor=>exact fb F
variable {Γ:Gm} {X:Cx} {pins:List (Addr×Obj)} {σ:St} {H:Hp} {sh:af} {φ:Nat->Addr} {s:kG}
theorem aC0 {n:Nat}{a b:kH}{z:Bool}(h:kQ s n a b=some z):k6 s a≠9:=by
 cases n with
 | zero=>unfold kQ at h;exact(ae1 h).1
 | succ n =>
  unfold kQ at h
  split at h
  ·simp[k6]
  ·split at h
   ·rename_i F _;simp[k6,F]
   ·cases h
  ·exact(ae1 h).1
theorem aU5 (I:Inv X pins σ H sh)(Y:X.K=Γ.K)(R:Rp Γ φ H s):∀(n:Nat) (a b c:kH) (x:V) (p q:Bool),RV Γ φ H a x->RV Γ φ H b x->kQ s n a c=some p->kQ s n b c=some q->p=q:=by
 intro n
 induction n with
 | zero =>
  intro a b c x p q F h e1 e2
  rcases rv_two I Y R F h (aC0 e1) (aC0 e2)with e|⟨l,m,_,_,rfl,rfl,_⟩
  ·subst e;rw[e1]at e2;exact au e2
  ·unfold kQ at e1 e2
   have:k8 s (.tup l) c=k8 s (.tup m) c:=by unfold k8;cases c<;>rfl
   rw[this,e2]at e1;exact(au e1).symm
 | succ n ih =>
  have J:∀(l m k:List kH) (G:List V) (p q:Bool),RVL Γ φ H l G->RVL Γ φ H m G->kY (kQ s n) l k=some p->kY (kQ s n) m k=some q->p=q:=by
   intro l
   induction l with
   | nil =>
    intro m k G p q F h e1 e2
    have:=F.unnil;subst this
    have hm:m=[]:=by have:=h.length;exact cS.mp this.symm
    subst hm
    rw[e1]at e2;exact au e2
   | cons a l ihl =>
    intro m k G p q F h e1 e2
    obtain⟨x,r,rfl,g1,g2⟩:=F.uncons
    cases m with
    | nil=>have:=h.unnil;cases this
    | cons b m =>
     obtain⟨x',r',e,g3,g4⟩:=h.uncons
     cases e
     cases k with
     | nil=>unfold kY at e1 e2;rw[<-au e1,<-au e2]
     | cons c k =>
      obtain⟨p1,Z,a1,a2,a3⟩:=ag6 e1
      obtain⟨q1,q2,b1,b2,b3⟩:=ag6 e2
      rw[a3,b3,ih a b c x p1 q1 g1 g3 a1 b1,ihl m k r Z q2 g2 g4 a2 b2]
  intro a b c x p q F h e1 e2
  rcases rv_two I Y R F h (aC0 e1) (aC0 e2)with e|⟨l,m,_,G,rfl,rfl,_,d1,d2⟩
  ·subst e;rw[e1]at e2;exact au e2
  ·cases c with
   | tup k=>unfold kQ at e1 e2;exact J l m k G p q d1 d2 e1 e2
   | _ =>
    unfold kQ at e1 e2
    simp only at e1 e2
    have e3:k8 s (.tup l)=k8 s (.tup m):=by funext c;unfold k8;cases c<;>rfl
    rw[e3]at e1
    exact au (e1.symm.trans e2)
theorem bh2 {x:kH}:∀ {l:List kH} {z:Bool},lA s x l=some z->∃ e:Nat->Bool,(∀ j d,l[j]?=some d->kQ s kT d x=some (e j))/\(z=true↔∃ j,j<l.length/\e j=true)
 | [],z,h=>by
  unfold lA at h
  cases h
  exact⟨λ _=>true,λ j d h=>by simp at h,by simp⟩
 | y::l,z,h=>by
  unfold lA at h
  cases e1:kQ s kT y x with
  | none=>rw[e1]at h;cases h
  | some a =>
   cases e2:lA s x l with
   | none=>rw[e1,e2]at h;cases h
   | some b =>
    rw[e1,e2]at h
    obtain⟨e,G,F⟩:=bh2 e2
    refine⟨λ j=>match j with|0=>a|j+1=>e j,λ j d g=>?_,?_⟩
    ·cases j with
     | zero=>simp at g;subst g;exact e1
     | succ j=>exact G j d (by simpa using g)
    ·have hz:(a||b)=z:=au h
     rw[<-hz,bW,F]
     constructor
     ·rintro(q|⟨j,hj,q⟩)
      ·exact⟨0,by simp,q⟩
      ·exact⟨j+1,by simpa using hj,q⟩
     ·rintro⟨j,hj,q⟩
      cases j with
      | zero=>exact .inl q
      | succ j=>exact .inr ⟨j,by simpa using hj,q⟩
theorem bg0 (I:Inv X pins σ H sh)(hK:X.K=Γ.K)(R:Rp Γ φ H s){x:kH}{xv:V}{xu:Value}(hx:RV Γ φ H x xv)(rx:RelV xv xu){l:List kH}{ys:List V}{its:List Value}(hl:RVL Γ φ H l ys)(hv:Vals ys its){z:Bool}(h:lA s x l=some z){A:aM}(hr:Room kT A) :
  ∃ e:Value->Bool,(∀ y,y∈its.toArray->gA A sh y xu (e y))/\its.toArray.any e=z:=by
 obtain⟨e,Z,h2⟩:=bh2 h
 have len:its.length=l.length:=by rw[<-hv.length];exact hl.length
 have F:∀ j u,its[j]?=some u->∃ d y,l[j]?=some d/\ys[j]?=some y/\RV Γ φ H d y/\RelV y u:=λ j u g=>by
  have hj:j<l.length:=by rw[<-len];exact(ac.mp g).1
  obtain⟨y,g1,g2⟩:=hl.get (ag hj)
  obtain⟨u',G,Y⟩:=hv.get g1
  rw[g]at G;cases G
  exact⟨_,y,ag hj,g1,g2,Y⟩
 classical
 let f:Value->Bool:=λ u=>decide (∃ j,its[j]?=some u/\e j=true)
 have hf:∀ j u,its[j]?=some u->f u=e j:=λ j u g=>by
  obtain⟨d,y,g1,g2,G,Y⟩:=F j u g
  cases q:e j with
  | true=>exact decide_eq_true ⟨j,g,q⟩
  | false =>
   refine decide_eq_false λ⟨k,g',q'⟩=>?_
   obtain⟨d',y',k1,k2,k3,k4⟩:=F k u g'
   have ey:y'=y:=k4.inj Y
   subst ey
   have:=aU5 I hK R _ d d' x _ _ _ G k3 (Z j d g1) (Z k d' k1)
   rw[q,q']at this;cases this
 refine⟨f,λ u hu=>?_,?_⟩
 ·obtain⟨j,hj,g⟩:=cq.mp (by simpa using hu:u∈its)
  have g':its[j]?=some u:=by rw[ag hj,g]
  obtain⟨d,y,g1,g2,G,Y⟩:=F j u g'
  rw[hf j u g']
  exact(aU7 I hK R _ d x y xv u xu A _ (Z j d g1) G hx Y rx hr).1
 ·have e1:its.toArray.any f=true↔z=true:=by
   rw[h2,List.any_toArray,jr]
   constructor
   ·rintro⟨u,hu,q⟩
    obtain⟨j,hj,g⟩:=cq.mp hu
    have g':its[j]?=some u:=by rw[ag hj,g]
    exact⟨j,by omega,by rw[<-hf j u g'];exact q⟩
   ·rintro⟨j,hj,q⟩
    have J:j<its.length:=by omega
    exact⟨its[j],eF J,by rw[hf j _ (ag J)];exact q⟩
  cases z<;>cases q:its.toArray.any f
  ·rfl
  ·have:=e1.mp q;cases this
  ·rw[q]at e1;have:=e1.mpr rfl;cases this
  ·rfl
variable {Γ:Gm} {X:Cx}
theorem aa0 {α β:Type}{r:kK α}{f:α->kG->kK β}{b:β}{t:kG}(h:r.bind f=.ok b t):∃ a s,r=.ok a s/\f a s=.ok b t:=DV.R.bind_inv h
theorem be3 (hK:X.K=Γ.K)(hr:Room (kT+1) X.A)(F:Bool){J:List (Addr×Obj)}{sh:af}{σ:St}{H:Hp}{x y:V}{v u:Value}{φ:Nat->Addr}{st a2:kG}{a b:kH}{z:Bool}
  (I:Inv X J σ H sh) (Y:RelV x v) (ry:RelV y u) (R:Rp Γ φ H st) (ha:RV Γ φ H a x) (hb:RV Γ φ H b y) (h:lZ a b st=.ok z a2) :
  a2=st/\∀ Q:Value->af->Prop,(∀ a1,Inv X J σ H a1->Q (.bool (if F then !z else z)) a1)->wpAny (model X.prog X.w) X.A (cr (if F then .NotIn else .In) v u) Q X.xe sh:=by
 unfold lZ at h
 cases b with
 | tup l =>
  simp only at h
  cases e:lA st a l with
  | none=>rw[e]at h;cases h
  | some w =>
   rw[e]at h
   cases h
   obtain⟨p,ys,rfl,q,d⟩:=hb.tupE
   cases ry
   rw[<-hK]at q
   obtain⟨its,rv,t,_⟩:=I.tuple q
   obtain⟨f,h1,h2⟩:=bg0 I hK R ha Y d rv e (A:=X.A.in1) hr.in1
   refine⟨rfl,λ Q hq=>?_⟩
   cases F with
   | false=>exact SeqAt.in_tupleAt f t h1 (by rw[h2];exact hq _ I)
   | true=>exact SeqAt.notIn_tupleAt f t h1 (by rw[h2];exact hq _ I)
 | str y0 =>
  simp only at h
  split at h
  case h_2=>exact fb h
  rename_i c
  cases h
  refine⟨rfl,λ Q hq=>?_⟩
  have e1:=ha.strE
  have e2:=hb.strE
  subst e1 e2
  obtain⟨t1,rfl⟩:=Y
  obtain⟨t2,rfl⟩:=ry
  have a0:=j8 (⟨y0.toArray⟩:Str) c
  cases F with
  | false=>exact in_str (by rw[show(⟨[c].toArray⟩:Str)=⟨#[c]⟩from rfl,a0];simpa using hq _ I)
  | true=>exact notIn_str (by rw[show(⟨[c].toArray⟩:Str)=⟨#[c]⟩from rfl,a0];simpa using hq _ I)
 | ref r =>
  simp only at h
  cases hs:st[r]? with
  | none=>rw[hs]at h;cases h
  | some o =>
   rw[hs]at h
   cases o with
   | lst l =>
    simp only at h
    cases e:lA st a l with
    | none=>rw[e]at h;cases h
    | some w =>
     rw[e]at h
     cases h
     obtain⟨ys,e1,d⟩:=R.addr hs
     have ey:=hb.refE;subst ey
     cases ry
     obtain⟨its,rv,t,_⟩:=I.list (SqL.of e1)
     obtain⟨f,h1,h2⟩:=bg0 I hK R ha Y d rv e (A:=X.A.in1) hr.in1
     refine⟨rfl,λ Q hq=>?_⟩
     cases F with
     | false=>exact SeqAt.in_listAt f t.isList h1 (by rw[h2];exact hq _ I)
     | true=>exact SeqAt.notIn_listAt f t.isList h1 (by rw[h2];exact hq _ I)
   | dic l =>
    simp only at h
    split at h
    case isFalse=>exact fb h
    rename_i G
    cases h
    obtain⟨k,hk⟩:=ah2 G
    obtain⟨Z,e1,d⟩:=R.obj r _ hs
    have ey:=hb.refE;subst ey
    cases ry
    have ex:=au2 hk ha;subst ex
    have ez:(li a l).isSome=(av4 Z k).isSome:=by
     rcases d.val keyOf_inj hk with⟨q1,q2⟩|⟨_,_,q1,q2,_⟩<;>rw[q1,q2]<;>rfl
    refine⟨rfl,λ Q hq=>?_⟩
    rw[ez]at hq
    cases F with
    | false=>exact bT2 (aH5 hr) I (av3.k e1) Y hq
    | true=>exact aL2 (aH5 hr) I (av3.k e1) Y hq
   | dit l =>
    simp only at h
    split at h
    case isFalse=>exact fb h
    rename_i G
    cases h
    obtain⟨k,hk⟩:=aj2 G
    obtain⟨Z,e1,d⟩:=R.obj r _ hs
    have ey:=hb.refE;subst ey
    cases ry
    obtain⟨kb,ex,hkb⟩:=av6 hk ha;subst ex
    have ez:(li a l).isSome=(av4 Z k).isSome:=by
     rcases d.val keyT_inj hk with⟨q1,q2⟩|⟨_,_,q1,q2,_⟩<;>rw[q1,q2]<;>rfl
    refine⟨rfl,λ Q hq=>?_⟩
    rw[ez]at hq
    cases F with
    | false=>exact bT2 (aH5 hr) I (av3.t e1 hkb) Y hq
    | true=>exact aL2 (aH5 hr) I (av3.t e1 hkb) Y hq
   | ro l=>exact fb h
   | ins c l=>exact fb h
 | _=>exact fb h
theorem ao4 {op:lP}{a b d:kH}{st F:kG}(ho:op=.lt\/op=.le\/op=.gt\/op=.ge)(h:DV.qb op a b st=.ok d F):∃ i j,a=.int i/\b=.int j:=by
 rcases ho with rfl|rfl|rfl|rfl <;>
 (cases a with
 | int i =>
  (cases b with
  | int j=>exact⟨i,j,rfl,rfl⟩
  | _=>cases h)
 | _=>cases h)
theorem aR4 (hK:X.K=Γ.K)(hr:Room (kT+1) X.A)(op:lP):OpR X (cr (al3 op)) (rOp Γ (DV.qb op)):=by
 intro G s σ H x y v u Q I Y Z h
 obtain⟨φ,st,a,b,d,J,R,ha,hb,na,nb,F,q⟩:=h
 cases op with
 | eq =>
  have F:DV.eqM a b st=.ok d J:=F
  unfold DV.eqM at F
  cases e:kQ st kT a b with
  | none=>rw[e]at F;cases F
  | some z =>
   rw[e]at F;cases F
   exact(aU7 I hK R _ a b x y v u X.A z e ha hb Y Z (hr.mono (by omega))).2.rc X.prog X.w X.xe _ ⟨.bl z,H,I,rfl,q.here R rfl RV.blI⟩
 | ne =>
  have F:(match kQ st kT a b with|some r=>.ok (.bl (!r)) st|none=>.bad:kK kH)=.ok d J:=F
  cases e:kQ st kT a b with
  | none=>rw[e]at F;cases F
  | some z =>
   rw[e]at F;cases F
   exact(aU7 I hK R _ a b x y v u X.A z e ha hb Y Z (hr.mono (by omega))).2.ne X.prog X.w X.xe _ ⟨.bl (!z),H,I,rfl,q.here R rfl RV.blI⟩
 | lt =>
  obtain⟨i,j,rfl,rfl⟩:=ao4 (.inl rfl) F
  cases F
  have ex:=ha.intE;have ey:=hb.intE;subst ex;subst ey
  exact bN0 G s σ H _ _ v u Q I Y Z ⟨_,_,rfl,rfl,q.here R rfl RV.blI⟩
 | le =>
  obtain⟨i,j,rfl,rfl⟩:=ao4 (.inr (.inl rfl)) F
  cases F
  have ex:=ha.intE;have ey:=hb.intE;subst ex;subst ey
  exact bQ7 G s σ H _ _ v u Q I Y Z ⟨_,_,rfl,rfl,q.here R rfl RV.blI⟩
 | gt =>
  obtain⟨i,j,rfl,rfl⟩:=ao4 (.inr (.inr (.inl rfl))) F
  cases F
  have ex:=ha.intE;have ey:=hb.intE;subst ex;subst ey
  exact bQ8 G s σ H _ _ v u Q I Y Z ⟨_,_,rfl,rfl,q.here R rfl RV.blI⟩
 | ge =>
  obtain⟨i,j,rfl,rfl⟩:=ao4 (.inr (.inr (.inr rfl))) F
  cases F
  have ex:=ha.intE;have ey:=hb.intE;subst ex;subst ey
  exact bP1 G s σ H _ _ v u Q I Y Z ⟨_,_,rfl,rfl,q.here R rfl RV.blI⟩
 | isin =>
  have F:(lZ a b st).bind (λ r s=>.ok (.bl r) s)=.ok d J:=F
  obtain⟨z,s1,e1,e2⟩:=aa0 F
  obtain⟨rfl,w⟩:=be3 hK hr false I Y Z R ha hb e1
  cases e2
  exact w _ λ s' I'=>⟨.bl z,H,I',rfl,q.here R rfl RV.blI⟩
 | notin =>
  have F:(lZ a b st).bind (λ r s=>.ok (.bl (!r)) s)=.ok d J:=F
  obtain⟨z,s1,e1,e2⟩:=aa0 F
  obtain⟨rfl,w⟩:=be3 hK hr true I Y Z R ha hb e1
  cases e2
  exact w _ λ s' I'=>⟨.bl (!z),H,I',rfl,q.here R rfl RV.blI⟩
theorem aD9 {φ:Nat->Addr}{H:Hp}{l:List kH}{F:List V}{i:Int}{d:kH}(h:RVL Γ φ H l F)(e:((lj l.length i).bind λ j=>l[j]?)=some d):∃ v,atI F i=some v/\RV Γ φ H d v:=by
 cases hj:lj l.length i with
 | none=>rw[hj]at e;cases e
 | some j =>
  rw[hj]at e
  obtain⟨v,e1,e2⟩:=h.get (show l[j]?=some d from e)
  refine⟨v,?_,e2⟩
  unfold atI
  have:ixN F.length i=some j:=by rw[h.length];exact hj
  rw[this];exact e1
theorem aw9 {l:List kH}{i:Int}{d:kH}(e:((lj l.length i).bind λ j=>l[j]?)=some d):d∈l:=by
 cases hj:lj l.length i with
 | none=>rw[hj]at e;cases e
 | some j=>rw[hj]at e;exact aX (show l[j]?=some d from e)
theorem bN6 (hK:X.K=Γ.K)(hu:X.A.units+1<cLine):IxR X (rOp Γ DV.ixM):=by
 intro G J Y s σ H x y v u Q I rx ry h hs
 obtain⟨φ,st,a,b,d,a2,R,ha,hb,na,nb,F,q⟩:=h
 unfold DV.ixM at F
 cases a with
 | tup l =>
  cases b with
  | int i =>
   simp only at F
   split at F
   ·rename_i d' e
    cases F
    obtain⟨p,xs,rfl,h1,d1⟩:=ha.tupE
    have ey:=hb.intE;subst ey
    obtain⟨w,e1,e2⟩:=aD9 d1 e
    unfold kN at na
    exact bt9 hK G J Y s σ H _ _ v u Q I rx ry ⟨p,xs,i,w,rfl,rfl,h1,e1,q.here R (aa2.mp na _ (aw9 e)) e2⟩ hs
   ·exact fb F
  | _=>exact fb F
 | str l =>
  cases b with
  | int i =>
   simp only at F
   split at F
   ·rename_i c e
    cases F
    have hl:=ha.strL
    have ex:=ha.strE;have ey:=hb.intE;subst ex;subst ey
    exact ix_str G J Y s σ H _ _ v u Q I rx ry ⟨⟨l.toArray⟩,i,c,rfl,rfl,by show l.toArray.size<=_;rw[ar];exact av hl zX,e,q.here R rfl (RV.strI (by simp;decide))⟩ hs
   ·exact fb F
  | _=>exact fb F
 | ref r =>
  have ex:=ha.refE;subst ex
  simp only at F
  cases hsr:st[r]? with
  | none=>rw[hsr]at F;cases F
  | some o =>
   rw[hsr]at F
   cases o with
   | lst l =>
    cases b with
    | int i =>
     simp only at F
     split at F
     ·rename_i d' e
      cases F
      have ey:=hb.intE;subst ey
      obtain⟨xs,e1,d1⟩:=R.addr hsr
      obtain⟨w,e2,e3⟩:=aD9 d1 e
      have wf:=R.wf _ _ hsr
      unfold kM at wf
      exact aC4 hK G J Y s σ H _ _ v u Q I rx ry ⟨φ r,xs,i,w,rfl,rfl,SqL.of e1,e2,q.here R (aa2.mp wf _ (aw9 e)) e3⟩ hs
     ·exact fb F
    | _=>exact fb F
   | ro l =>
    cases b with
    | int i =>
     simp only at F
     split at F
     ·rename_i d' e
      cases F
      have ey:=hb.intE;subst ey
      obtain⟨xs,e1,d1⟩:=R.obj _ _ hsr
      obtain⟨w,e2,e3⟩:=aD9 d1 e
      have wf:=R.wf _ _ hsr
      unfold kM at wf
      exact aC4 hK G J Y s σ H _ _ v u Q I rx ry ⟨φ r,xs,i,w,rfl,rfl,e1.1,e2,q.here R (aa2.mp wf _ (aw9 e)) e3⟩ hs
     ·exact fb F
    | _=>exact fb F
   | dic l =>
    simp only at F
    split at F
    case isFalse=>exact fb F
    rename_i Z
    obtain⟨k,hk⟩:=ah2 Z
    obtain⟨a1,e1,d1⟩:=R.obj r _ hsr
    have ey:=au2 hk hb;subst ey
    cases rx
    rcases d1.val keyOf_inj hk with⟨q1,_⟩|⟨e,v',q1,q2,q3,q4⟩
    ·rw[q1]at F;cases F
    ·rw[q1]at F
     cases F
     have wf:=R.wf _ _ hsr
     unfold kM at wf
     rw[aj]at wf
     have g:av3 H (φ r) (kV k) (some v'):=by rw[<-q2];exact av3.k e1
     exact jM (al1 I g) fA.lookup (aq1 hu I g ry λ w' s' I' a0=>⟨v',H,I',a0,q.here R (aa2.mp wf.2 _ q4) q3⟩) hs
   | dit l =>
    simp only at F
    split at F
    case isFalse=>exact fb F
    rename_i Z
    obtain⟨k,hk⟩:=aj2 Z
    obtain⟨a1,e1,d1⟩:=R.obj r _ hsr
    obtain⟨kb,ey,hkb⟩:=av6 hk hb;subst ey
    cases rx
    rcases d1.val keyT_inj hk with⟨q1,_⟩|⟨e,v',q1,q2,q3,q4⟩
    ·rw[q1]at F;cases F
    ·rw[q1]at F
     cases F
     have wf:=R.wf _ _ hsr
     unfold kM at wf
     rw[aj]at wf
     have g:av3 H (φ r) (.ref kb) (some v'):=by rw[<-q2];exact av3.t e1 hkb
     exact jM (al1 I g) fA.lookup (aq1 hu I g ry λ w' s' I' a0=>⟨v',H,I',a0,q.here R (aa2.mp wf.2 _ q4) q3⟩) hs
   | ins c l=>cases b<;>cases F
 | _=>cases b<;>cases F
variable {Γ:Gm} {X:Cx}
def rCl (Γ:Gm)(f:List kH->kG->kK kH):List V->Hp->VK->Prop:=λ xs H Q=>∃ φ s l d s',Rp Γ φ H s/\RVL Γ φ H l xs/\kI s.length l=true/\f l s=.ok d s'/\ac4 Γ φ s H d s' Q
theorem RVL.one {φ:Nat->Addr}{H:Hp}{d:kH}{F:List V}(h:RVL Γ φ H [d] F):∃ x,F=[x]/\RV Γ φ H d x:=by
 obtain⟨x,r,rfl,J,G⟩:=h.uncons
 rw[G.unnil];exact⟨x,rfl,J⟩
noncomputable def biN:lq->Option (String×Nat)
 | .len=>some ("len",1)|.abs=>some ("abs",1)|.min2=>some ("min",2)|.max2=>some ("max",2)|_=>none
theorem zO:∀ {l:List kH} {is:List Int},lC l=some is->l=is.map DV.D.int
 | [],is,h=>by unfold lC at h;cases h;rfl
 | d::l,is,h=>by
  cases d with
  | int i =>
   have h:(lC l).map (i::·)=some is:=h
   cases e:lC l with
   | none=>rw[e]at h;cases h
   | some m=>rw[e]at h;cases h;rw[zO e];rfl
  | _=>cases h
theorem aj3:∀ {l:List kH} {is:List Bool},lG l=some is->l=is.map DV.D.bl
 | [],is,h=>by unfold lG at h;cases h;rfl
 | d::l,is,h=>by
  cases d with
  | bl i =>
   have h:(lG l).map (i::·)=some is:=h
   cases e:lG l with
   | none=>rw[e]at h;cases h
   | some m=>rw[e]at h;cases h;rw[aj3 e];rfl
  | _=>cases h
theorem RVL.ints {φ:Nat->Addr}{H:Hp}:∀ {is:List Int} {F:List V},RVL Γ φ H (is.map DV.D.int) F->F=is.map V.int
 | [],_,h=>h.unnil
 | i::is,_,h=>by
  obtain⟨x,r,rfl,J,G⟩:=RVL.uncons h
  rw[J.intE,RVL.ints G];rfl
theorem RVL.bls {φ:Nat->Addr}{H:Hp}:∀ {is:List Bool} {F:List V},RVL Γ φ H (is.map DV.D.bl) F->F=is.map V.bl
 | [],_,h=>h.unnil
 | i::is,_,h=>by
  obtain⟨x,r,rfl,J,G⟩:=RVL.uncons h
  rw[J.blE,RVL.bls G];rfl
theorem aU4 {f:kH->lF kH}{l:List kH}{s s':kG}{d:kH}(h:l6 f l s=.ok d s'):∃ a,l=[a]/\f a s=.ok d s':=by
 match l,h with
 | [a],h=>exact⟨a,rfl,h⟩
 | [],h=>exact fb h
 | _::_::_,h=>exact fb h
theorem bb3 (Y:X.K=Γ.K)(hc:X.calm=true){b:lq}{nm:String}{k:Nat}(hn:biN b=some (nm,k)):ab1 X (.builtin nm) (rCl Γ (ml b)):=by
 intro F s σ H xs us Q I r h
 obtain⟨φ,st,l,d,J,R,hl,nl,G,q⟩:=h
 cases b with
 | len =>
  cases hn
  have G:l6 DV.bp7 l st=.ok d J:=G
  obtain⟨a,rfl,hg⟩:=aU4 G
  clear G
  obtain⟨x,rfl,hx⟩:=hl.one
  unfold DV.bp7 at hg
  cases a with
  | tup l =>
   cases hg
   obtain⟨p,ys,rfl,Z,d1⟩:=hx.tupE
   refine aj5 Y F s σ H _ us Q I r ⟨p,ys,rfl,.inr Z,?_⟩
   rw[d1.length];exact q.here R rfl RV.intI
  | str l =>
   cases hg
   have hL:=hx.strL
   have e:=hx.strE;subst e
   refine au4 F s σ H _ us Q I r ⟨_,rfl,by show l.toArray.size<=_;rw[ar];exact av hL zX,?_⟩
   show Q (.int ((l.toArray.size:Nat):Int)) H
   rw[ar]
   exact q.here R rfl RV.intI
  | ref n =>
   have e:=hx.refE;subst e
   simp only at hg
   cases hs:st[n]? with
   | none=>rw[hs]at hg;cases hg
   | some o =>
    rw[hs]at hg
    cases o with
    | lst l =>
     cases hg
     obtain⟨ys,e1,d1⟩:=R.addr hs
     refine aj5 Y F s σ H _ us Q I r ⟨φ n,ys,rfl,.inl (SqL.of e1),?_⟩
     rw[d1.length];exact q.here R rfl RV.intI
    | ro l =>
     cases hg
     obtain⟨ys,e1,d1⟩:=R.obj _ _ hs
     refine aj5 Y F s σ H _ us Q I r ⟨φ n,ys,rfl,.inl e1.1,?_⟩
     rw[d1.length];exact q.here R rfl RV.intI
    | dic l=>exact fb hg
    | dit l=>exact fb hg
    | ins c l=>exact fb hg
  | _=>exact fb hg
 | abs =>
  cases hn
  have G:(match lC l with|some [i]=>.ok (.int (if i<0 then -i else i)) st|_=>.bad:kK kH)=.ok d J:=G
  split at G
  ·rename_i i e
   cases G
   have:=zO e;subst this
   have:=RVL.ints hl;subst this
   exact aZ1 F s σ H _ us Q I r ⟨i,rfl,q.here R rfl RV.intI⟩
  ·exact fb G
 | min2 =>
  cases hn
  have G:(match lC l with|some [a,b]=>.ok (.int (if b<a then b else a)) st|_=>.bad:kK kH)=.ok d J:=G
  split at G
  ·rename_i a b e
   cases G
   have:=zO e;subst this
   have:=RVL.ints hl;subst this
   exact aQ2 hc F s σ H _ us Q I r ⟨_,_,rfl,q.here R rfl RV.intI⟩
  ·exact fb G
 | max2 =>
  cases hn
  have G:(match lC l with|some [a,b]=>.ok (.int (if b > a then b else a)) st|_=>.bad:kK kH)=.ok d J:=G
  split at G
  ·rename_i a b e
   cases G
   have:=zO e;subst this
   have:=RVL.ints hl;subst this
   exact aM3 hc F s σ H _ us Q I r ⟨_,_,rfl,q.here R rfl RV.intI⟩
  ·exact fb G
 | _=>cases hn
theorem bG5:ab1 X (.type "int") (rCl Γ (ml .int)):=by
 intro G s σ H Y us Q I r h
 obtain⟨φ,st,l,d,J,R,hl,Z,F,q⟩:=h
 have F:(match lG l with|some [b]=>.ok (.int (if b then 1 else 0)) st|_=>.bad:kK kH)=.ok d J:=F
 split at F
 ·rename_i b e
  cases F
  have:=aj3 e;subst this
  have:=RVL.bls hl;subst this
  exact aL9 G s σ H _ us Q I r (.inr ⟨b,rfl,q.here R rfl RV.intI⟩)
 ·exact fb F
noncomputable def al9:Nat->String
 | 1 => "int" | 2 => "bool" | 3 => "str" | 4 => "tuple" | _ => "list"
theorem bu3 {K:ae}(k:Nat)(hk:1<=k/\k<=5):bN K (.type "NoneType") (.type (al9 k))=some false/\bN K (.type "bool") (.type (al9 k))=some (k==1||k==2) /\
  bN K (.type "int") (.type (al9 k))=some (k==1)/\bN K (.type "str") (.type (al9 k))=some (k==3)/\bN K (.type "tuple") (.type (al9 k))=some (k==4)/\bN K (.type "list") (.type (al9 k))=some (k==5):=by
 obtain⟨F,G⟩:=hk
 rcases(by omega:k=1\/k=2\/k=3\/k=4\/k=5)with h|h|h|h|h<;>subst h<;>refine⟨?_,?_,?_,?_,?_,?_⟩<;>with_unfolding_all rfl
theorem aJ0 {F:List (Addr×Obj)}{σ:St}{H:Hp}{s:af}{A:aM}{E:Value->af->Prop}{Q:Value->af->Prop}{c:Value}{b:Bool}{a:Addr}{G:List V}(I:Inv X F σ H s)(J:SqT X.K H a G)(e:bN X.K (.type "tuple") c=some b)
  (h:∀ tk,Q (.bool b) { s with toks:=tk }):wpAny (model X.prog X.w) A (call (.builtin "isinstance") [.ref a,c]) Q E s:=by
 obtain⟨its,_,⟨o,g1,Y,_⟩,_⟩:=I.tuple J
 exact bz iM I.kIn ⟨o,g1,Y⟩ e (λ z=>nomatch z) h
theorem bH6 (hK:X.K=Γ.K){k:Nat}(hk:1<=k/\k<=5):ab1 X (.builtin "isinstance") (λ G H Q=>∃ x,G=[x,.ty (al9 k)]/\rCl Γ (l6 (mq k)) [x] H Q):=by
 intro Z s σ H G us Q I r h
 obtain⟨x,rfl,φ,st,l,d,F,R,hl,nl,Y,q⟩:=h
 obtain⟨a,rfl,hg⟩:=aU4 Y
 clear Y
 obtain⟨u,w',rfl,r1,r2⟩:=aV7 r
 cases r2
 obtain⟨x',e',hx⟩:=hl.one
 cases e'
 obtain⟨k0,k1,k2,k3,k4,k5⟩:=bu3 (K:=X.K) k hk
 unfold mq at hg
 cases a with
 | non=>cases hg;have e:=hx.nonE;subst e;exact qo I r1 .non k0 λ tk=>⟨.bl _,H,I.tok _,rfl,q.here R rfl RV.blI⟩
 | bl b=>cases hg;have e:=hx.blE;subst e;exact qo I r1 (.bl b) k1 λ tk=>⟨.bl _,H,I.tok _,rfl,q.here R rfl RV.blI⟩
 | int b=>cases hg;have e:=hx.intE;subst e;exact qo I r1 (.int b) k2 λ tk=>⟨.bl _,H,I.tok _,rfl,q.here R rfl RV.blI⟩
 | str b=>cases hg;have e:=hx.strE;subst e;exact qo I r1 (.str _) k3 λ tk=>⟨.bl _,H,I.tok _,rfl,q.here R rfl RV.blI⟩
 | tup l =>
  cases hg
  obtain⟨p,ys,rfl,J,d1⟩:=hx.tupE
  cases r1
  rw[<-hK]at J
  exact aJ0 I J k4 λ tk=>⟨.bl _,H,I.tok _,rfl,q.here R rfl RV.blI⟩
 | ref n =>
  have e:=hx.refE;subst e
  have hg:(match st[n]? with|some (.lst _)=>.ok (.bl (k==5)) st|_=>.bad:kK kH)=.ok d F:=hg
  cases hs:st[n]? with
  | none=>rw[hs]at hg;cases hg
  | some o =>
   rw[hs]at hg
   cases o with
   | lst l =>
    cases hg
    obtain⟨ys,e1,d1⟩:=R.addr hs
    exact qo I r1 (.lst e1) k5 λ tk=>⟨.bl _,H,I.tok _,rfl,q.here R rfl RV.blI⟩
   | _=>exact fb hg
 | _=>exact fb hg
variable {X:Cx}
theorem bt7 {bs:List Bool}{its:List Value}(r:Vals (bs.map V.bl) its){i:Nat}{v:Value}(h:its[i]?=some v):∃ z,bs[i]?=some z/\v=Value.bool z:=by
 induction bs generalizing its i with
 | nil=>rw[dA]at r;cases r;simp at h
 | cons b bs ih =>
  rw[aV]at r
  cases r with
  | cons r1 r2 =>
   cases i with
   | zero =>
    cases r1
    have:_=v:=au h
    exact⟨b,rfl,this.symm⟩
   | succ i=>exact ih r2 h
theorem aN7 {bs:List Bool}:(bf bs.length).all (λ i=>bs.getD i false)=bs.all id:=by
 rw[e6,aU,aU]
 constructor
 ·intro h b hb
  obtain⟨i,hi,e⟩:=cq.mp hb
  have:=h i (bL.mpr hi)
  rw[aG,ag hi]at this
  rw[<-e];exact this
 ·intro h i hi
  have hi:=bL.mp hi
  rw[aG,ag hi]
  exact h _ (eF hi)
theorem aQ7 {K:ae}(hc:X.calm=true)(hK:X.K=K):ab1 X (.builtin "all") (λ Y H Q=>∃(a:Addr) (bs:List Bool),Y=[.ref a]/\SqL K H a (bs.map V.bl)/\Q (.bl (bs.all id)) H):=by
 subst hK
 intro a0 s σ H Y us Q I r h
 obtain⟨a,bs,rfl,hS,q⟩:=h
 obtain⟨u,rfl,ru⟩:=af3 r
 cases ru
 obtain⟨its,Z,G,hz⟩:=I.list hS
 have hl:=Z.length
 rw[aw]at hl
 refine call_all_walk (cK G.isList ?_)
 have J:a<s.heap.objs.size:=by obtain⟨o,_,e,_⟩:=G;exact az e
 have W:=iT (prog:=X.prog) (w:=X.w) (A:=X.A.in1) (I.ok.hd hc) s.heap.objs.size a (ay J) its.toArray
 refine⟨_,_,_,_,_,_,λ i=>bs.getD i false,rfl,W,⟨⟨_,aC _ rfl,rfl,rfl⟩,?_⟩,λ i v s' Q' E' F hQ=>?_,λ h' tk k=>?_⟩
 ·obtain⟨o,e,r⟩:=G.isList
  exact⟨o,ai _ e,r⟩
 ·obtain⟨z,e1,e2⟩:=bt7 Z (i:=i) (v:=v) (by have F:its.toArray[i]?=some v:=F;rw[bI]at F;exact F)
  subst e2
  refine br ?_
  have:bs.getD i false=z:=by rw[aG,e1];rfl
  rw[<-this];exact hQ
 ·have es:its.toArray.size=bs.length:=by rw[ar];omega
  rw[es,aN7]
  refine⟨.bl (bs.all id),H,I.kept (h':=h') (t':=tk) λ b o q=>k b o ?_ (ai _ q),rfl,q⟩
  intro z
  have z':b=s.heap.objs.size:=by simpa using z
  exact absurd (az q) (by rw[z'];exact bo _)
noncomputable def sgV (x:List Nat):List V:=x.map λ c=>.str ⟨#[c]⟩
theorem bp1 {vs:List V}{F:List Value}(hl:vs.length=F.length)(h:∀(i:Nat) (x:V) (u:Value),vs[i]?=some x->F[i]?=some u->RelV x u):Vals vs F:=by
 induction vs generalizing F with
 | nil=>cases F with
  | nil=>exact .nil
  | cons _ _=>cases hl
 | cons v vs ih=>cases F with
  | nil=>cases hl
  | cons a F=>exact .cons (h 0 v a rfl rfl) (ih (by simpa using hl) λ i x u e1 e2=>h (i+1) x u e1 e2)
theorem am5 {x:List Nat}{F:Array Value}(h:ItemsOf (SignAt ⟨x.toArray⟩) F x.length):Vals (sgV x) F.toList:=by
 have hl:(sgV x).length=F.toList.length:=by unfold sgV;rw[aw];simpa using h.1.symm
 refine bp1 hl λ i v u e1 e2=>?_
 obtain⟨c,t,G,J⟩:=h.2 i u (by rw[<-Array.getElem?_toList];exact e2)
 unfold sgV at e1
 rw[aB]at e1
 have G:x[i]?=some c:=by simpa using G
 rw[G]at e1
 cases e1
 exact⟨t,J⟩
theorem ax9 (hc:X.calm=true):ab1 X (.type "tuple") (λ J H Q=>∃ x:List Nat,J=[.str ⟨x.toArray⟩]/\x.length<=kP/\∀ l,H l=none->Q (.ref l) (upd H l (.tup (sgV x)))):=by
 intro F s σ H J us Q I r h
 obtain⟨x,rfl,hl,q⟩:=h
 obtain⟨u,rfl,Z⟩:=af3 r
 obtain⟨t,rfl⟩:=Z
 have hz:(sgV x).length<=aH:=by unfold sgV;rw[aw];exact av hl zX
 refine call_tuple_str (I.ok.hd hc) _ t (λ h' tk G kp hi=>?_) (by show x.toArray.size<=_;rw[ar];exact av hl zX)
 have hi:ItemsOf (SignAt ⟨x.toArray⟩) G x.length:=by simpa using hi
 have rv:=am5 hi
 have Y:Inv X F σ H { s with heap:=h',toks:=tk }:=I.kept (t':=tk) kp
 have I2:Inv X F σ (upd H h'.objs.size (.tup (sgV x))) { s with heap:=h'.push { cls:=.type "tuple",data:=.seq G },toks:=tk } :=
  Y.laid (t':=tk) (λ b o e=>ai _ e) (am _) (show aa8 X.prog X.w _ _ _ (.tup (sgV x))from⟨hz,G.toList,rv,j4 _ _⟩)
 exact⟨.ref h'.objs.size,_,I2,rfl,q _ (Y.hok.fresh (am _))⟩
theorem aI0 (hc:X.calm=true):ab1 X (.type "list") (λ G H Q=>∃ x:List Nat,G=[.str ⟨x.toArray⟩]/\x.length<=kP/\∀ l,H l=none->Q (.ref l) (upd H l (.lst (sgV x)))):=by
 intro J s σ H G us Q I r h
 obtain⟨x,rfl,hl,q⟩:=h
 obtain⟨u,rfl,Y⟩:=af3 r
 obtain⟨t,rfl⟩:=Y
 have hz:(sgV x).length<=aH:=by unfold sgV;rw[aw];exact av hl zX
 refine call_list_str (I.ok.hd hc) _ t (λ h' tk F c' kp e hi=>?_) (by show x.toArray.size<=_;rw[ar];exact av hl zX)
 have hi:ItemsOf (SignAt ⟨x.toArray⟩) F x.length:=by simpa using hi
 have Z:=am5 hi
 exact⟨.ref s.heap.objs.size,_,I.laid (t':=tk) kp (am _) (show aa8 X.prog X.w _ h' _ (.lst (sgV x))from⟨hz,F.toList,c',Z,e⟩),rfl,q _ (I.hok.fresh (am _))⟩
section
variable {Γ:Gm} {φ φ':Nat->Addr} {H H' H1 H2 H3:Hp} {clos:List (Str×Addr)} {s s':kG}
theorem zC (hc:Cells clos H){a:Addr}{u:HO}(e:H a=some u)(h:∀ o,u≠.frz o (.own a)):isC clos a≠true:=λ z=>by
 obtain⟨o,v,q,_⟩:=hc.at z
 rw[e]at q;cases q;exact h o rfl
theorem SqT.dropC {K:ae}{a:Addr}{F:List V}(hc:Cells clos H)(h:SqT K H a F):SqT K (ab0 clos H) a F:=by
 rcases h with(h|⟨o,h⟩)|h
 ·exact .inl (.inl (by rw[ab0.ne (zC hc h (λ _ z=>by cases z))];exact h))
 ·exact .inl (.inr ⟨o,by rw[ab0.ne (zC hc h (λ _ z=>by cases z))];exact h⟩)
 ·exact .inr h
theorem SqL.dropC {K:ae}{a:Addr}{F:List V}(hc:Cells clos H)(h:SqL K H a F):SqL K (ab0 clos H) a F:=by
 rcases h with(h|⟨o,h⟩)|h
 ·exact .inl (.inl (by rw[ab0.ne (zC hc h (λ _ z=>by cases z))];exact h))
 ·exact .inl (.inr ⟨o,by rw[ab0.ne (zC hc h (λ _ z=>by cases z))];exact h⟩)
 ·exact .inr h
theorem SqF.dropC {K:ae}{a:Addr}{G:List V}(hc:Cells clos H)(h:SqF K H a G):SqF K (ab0 clos H) a G:=by
 refine⟨SqL.dropC hc h.1,λ F k=>?_⟩
 have hk:Kp H (λ b=>if isC clos b=true then H b else F b):=λ b o e f=>by
  by_cases z:isC clos b=true
  ·show(if isC clos b=true then H b else F b)=_;rw[if_pos z];exact e
  ·show(if isC clos b=true then H b else F b)=_
   rw[if_neg z]
   exact k b o (by rw[ab0.ne z];exact e) f
 have q:=h.2 _ hk
 have at_:∀ u,(if isC clos a=true then H a else F a)=some u->(∀ o,u≠.frz o (.own a))->F a=some u:=λ u e J=>by
  by_cases z:isC clos a=true
  ·rw[if_pos z]at e
   exact absurd z (zC hc e J)
  ·rw[if_neg z]at e;exact e
 rcases q with(q|⟨o,q⟩)|q
 ·exact .inl (.inl (at_ _ q (λ _ z=>by cases z)))
 ·exact .inl (.inr ⟨o,at_ _ q (λ _ z=>by cases z)⟩)
 ·exact .inr q
mutual
theorem RV.dropC (hc:Cells clos H):∀(d:kH) (v:V),d.ncl=true->RV Γ φ H d v->RV Γ φ (ab0 clos H) d v
 | .non,_,_,h=>by unfold RV at h ⊢;exact h
 | .bl _,_,_,h=>by unfold RV at h ⊢;exact h
 | .int _,_,_,h=>by unfold RV at h ⊢;exact h
 | .str _,_,_,h=>by unfold RV at h ⊢;exact h
 | .tup l,_,n,h=>by
  unfold RV at h ⊢
  unfold mr at n
  obtain⟨a,F,e,q,r⟩:=h
  exact⟨a,F,e,⟨SqT.dropC hc q.1,λ z=>by rw[ab0.ne (zC hc (q.2 z) (λ _ z=>by cases z))];exact q.2 z⟩,RVL.dropC hc l F n r⟩
 | .ref k,_,_,h=>by unfold RV at h ⊢;exact h
 | .fn _,_,_,h=>by unfold RV at h ⊢;exact h
 | .clo id cs,_,n,h=>by unfold mr at n;cases n
theorem RVL.dropC (hc:Cells clos H):∀(l:List kH) (F:List V),lB l=true->RVL Γ φ H l F->RVL Γ φ (ab0 clos H) l F
 | [],_,_,h=>by unfold RVL at h ⊢;exact h
 | d::l,_,n,h=>by
  unfold lB at n
  rw[aj]at n
  obtain⟨x,r,e,J,G⟩:=h.uncons
  subst e
  exact .cons (RV.dropC hc d x n.1 J) (RVL.dropC hc l r n.2 G)
end
theorem RVD.dropC {κ:Type}{G:kH->Option κ}(hc:Cells clos H):∀(l:List (kH×kH)) (F:List (κ×V)),lB (l.map (·.2))=true->RVD G Γ φ H l F->RVD G Γ φ (ab0 clos H) l F
 | [],_,_,h=>h
 | (d,e)::l,_,n,h=>by
  obtain⟨k,v,r,e1,e2,J,Y⟩:=h
  rw[aV]at n
  unfold lB at n
  rw[aj]at n
  exact⟨k,v,r,e1,e2,RV.dropC hc e v n.1 J,RVD.dropC hc l r n.2 Y⟩
theorem RO.dropC {a:Addr}{o:la}(hc:Cells clos H)(h:RO Γ φ H a o)(n:o.ncl=true):RO Γ φ (ab0 clos H) a o:=by
 cases o with
 | lst l =>
  obtain⟨F,e,r⟩:=h
  exact⟨F,by rw[ab0.ne (zC hc e (λ _ z=>by cases z))];exact e,RVL.dropC hc l F n r⟩
 | ro l =>
  obtain⟨F,e,r⟩:=h
  exact⟨F,SqF.dropC hc e,RVL.dropC hc l F n r⟩
 | dic l =>
  obtain⟨F,e,r⟩:=h
  exact⟨F,by rw[ab0.ne (zC hc e (λ _ z=>by cases z))];exact e,RVD.dropC hc l F n r⟩
 | dit l =>
  obtain⟨F,e,r⟩:=h
  exact⟨F,by rw[ab0.ne (zC hc e (λ _ z=>by cases z))];exact e,RVD.dropC hc l F n r⟩
 | ins _ _=>exact h.elim
theorem TabsH.dropC {T:List (Addr×Str)}(hc:Cells clos H)(h:TabsH T H):TabsH T (ab0 clos H):=λ y hy=>by
 obtain⟨ps,e,t,c⟩:=h y hy
 refine⟨ps,by rw[ab0.ne (zC hc e (λ _ z=>by cases z))];exact e,t,λ pos G q=>?_⟩
 obtain⟨F,e1,e2⟩:=c pos G q
 exact⟨F,e1,by rw[ab0.ne (zC hc e2 (λ _ z=>by unfold qr at z;cases z))];exact e2⟩
theorem Rp.dropC (hc:Cells clos H)(r:Rp Γ φ H s)(n:s.all DV.O.ncl=true):Rp Γ φ (ab0 clos H) s :=
 ⟨r.inj,λ i o e=>RO.dropC hc (r.obj i o e) (aU.mp n o (aX e)),r.wf,TabsH.dropC hc r.tab⟩
theorem aL7 (h:∀ b,isC clos b=true->H' b=none):ac1 H' (Put clos H H'):=λ b o e=>by
 rw[Put.ne (λ z=>by rw[h b z]at e;cases e)];exact e
theorem Gr.put (hc:Cells clos H)(F:∀ b,isC clos b=true->H' b=none)(Z:∀ b o,Γ.K.lookup b=some o->H b=none)(R':Rp Γ φ' H' s')(g:Gr φ s (ab0 clos H) φ' s' H'):Gr φ s H φ' s' (Put clos H H'):=by
 refine⟨⟨g.w.map,λ b o e f=>?_⟩,g.le,λ i h1 J=>?_,g.kd,λ b e=>?_,λ b o e Y no=>?_⟩
 ·by_cases z:isC clos b=true
  ·rw[Put.cell z];exact e
  ·rw[Put.ne z];exact g.w.kp b o (by rw[ab0.ne z];exact e) f
 ·have hd:=g.new i h1 J
  by_cases z:isC clos (φ' i)=true
  ·have hg:=F _ z
   obtain⟨o,eo⟩:∃ o,s'[i]?=some o:=⟨s'[i],ag J⟩
   have h:=R'.obj i o eo
   cases o with
   | lst l=>obtain⟨G,e,_⟩:=h;rw[hg]at e;cases e
   | ro l =>
    obtain⟨G,e,_⟩:=h
    rcases e.1 with(e|⟨_,e⟩)|⟨ob,its,n,e,_⟩
    ·rw[hg]at e;cases e
    ·rw[hg]at e;cases e
    ·exact Z _ _ e
   | dic l=>obtain⟨G,e,_⟩:=h;rw[hg]at e;cases e
   | dit l=>obtain⟨G,e,_⟩:=h;rw[hg]at e;cases e
   | ins _ _=>exact h.elim
  ·rw[ab0.ne z]at hd;exact hd
 ·by_cases z:isC clos b=true
  ·rw[Put.cell z];exact e
  ·rw[Put.ne z];exact g.st b (by rw[ab0.ne z];exact e)
 ·by_cases z:isC clos b=true
  ·rw[Put.cell z];exact e
  ·rw[Put.ne z];exact g.fr b o (by rw[ab0.ne z];exact e) Y no
theorem aV8 {T:List (Addr×Str)}{cells:List (Str×Addr)}{P:Addr}{q:Str}{params:bD}{body:Expr}{scope:Scope}{pos:Pos}{σ:St}{H:Hp}{Q:VK}(hT:TabsH T H)(nd:(T.map (·.1)).Nodup)(hm:(P,q)∈T)
  (go:∀(f:Addr) (H':Hp),ba0 H H'->(∀ b,H b≠none->H' b≠none)->TabsH T H'->H f=none->(∃ pm J F,H' f=some (aC3 f (bn "<lambda>" q params body scope (af8 cells scope.names []) pm (.ref J) F))/\H' J=some (qr J q))->Q (.ref f) H') :
  bT0 cells P q params body scope pos σ H Q:=by
 obtain⟨ps,Z,ht,hc⟩:=hT _ hm
 refine⟨ps,Z,ht,λ hn J f pm F n1 n2 ne=>?_,λ cv e=>?_⟩
 ·have cP:J≠P:=λ z=>by rw[z,Z]at n1;cases n1
  have fP:f≠P:=λ z=>by rw[z,Z]at n2;cases n2
  have G:∀ b,b≠P->H b≠none->∀ o1 o2 o3,upd (upd (upd H P o1) J o2) f o3 b=H b:=λ b z1 z2 o1 o2 o3=>by
   rw[zb λ z=>by subst z;exact z2 n2,zb λ z=>by subst z;exact z2 n1,zb z1]
  refine go f _ (λ b o d e=>?_) (λ b hb=>?_) (λ y hy=>?_) n2 ⟨pm,J,F,zg,by rw[zb ne,zg]⟩
  ·rw[G b (λ z=>by subst z;rw[Z]at e;cases e;exact d _ rfl) (by rw[e];simp)];exact e
  ·by_cases z:b=P
   ·subst z;rw[zb (bX fP),zb (bX cP),zg];simp
   ·rw[G b z hb];exact hb
  ·by_cases z:y.1=P
   ·have ey:y=(P,q):=by
     have:∀(l:List (Addr×Str)),(l.map (·.1)).Nodup->y∈l->(P,q)∈l->y=(P,q):=by
      intro l
      induction l with
      | nil=>intro _ h;simp at h
      | cons a l ih =>
       intro hn h1 h2
       rw[aV,dN]at hn
       rcases ax.mp h1 with e1|h1<;>rcases ax.mp h2 with e2|h2
       ·rw[e1,e2]
       ·exact absurd (by rw[<-e1,z];exact bv (f:=(·.1)) h2) hn.1
       ·exact absurd (by rw[<-e2,<-z];exact bv (f:=(·.1)) h1) hn.1
       ·exact ih hn.2 h1 h2
     exact this T nd hy hm
    subst ey
    refine⟨_,by rw[zb (bX fP),zb (bX cP),zg],?_,λ Y cv e=>?_⟩
    ·rw[iq];exact TriplesOk_snoc _ _ _ _ ht
    ·rw[iq]at e
     rcases codeAmong_add _ ht e with e'|e'
     ·obtain⟨c2,e1,e2⟩:=hc Y cv e'
      exact⟨c2,e1,by rw[G c2 (λ z=>by subst z;rw[Z]at e2;unfold qr at e2;cases e2) (by rw[e2];simp)];exact e2⟩
     ·exact⟨J,e',by rw[zb ne,zg]⟩
   ·obtain⟨qs,e1,e2,e3⟩:=hT y hy
    refine⟨qs,by rw[G y.1 z (by rw[e1];simp)];exact e1,e2,λ Y cv e=>?_⟩
    obtain⟨c2,e4,e5⟩:=e3 Y cv e
    exact⟨c2,e4,by rw[G c2 (λ z=>by subst z;rw[Z]at e5;unfold qr at e5;cases e5) (by rw[e5];simp)];exact e5⟩
 ·obtain⟨J,e1,e2⟩:=hc pos cv e
  refine⟨J,e1,λ f pm F n=>go f _ (.of ((ac1.refl H).new n)) (λ b hb=>by
   by_cases z:b=f
   ·subst z;rw[zg];simp
   ·rw[zb z];exact hb) (hT.new n) n ⟨pm,J,F,zg,?_⟩⟩
  rw[zb (zm e2 n)];exact e2
theorem bn9 {P:aD}{w:World}{K:ae}{mg:Str->Option Value}{base:Heap}{k:Nat}{f:Addr}{N ps fr:List Str}{name qual:Str}{params:bD}{body:List Stmt}{scope:Scope}{h:List (Str×Addr)}{cap:List V}{sp:Sp}
  (S:LamScope N ps fr scope) (len:∀ vs H Q E,sp vs H Q E->vs.length=ps.length) (a6:cap.length=fr.length)
  (a0:∀(Y pm:Value) (c':Addr) (a1:Value) (us:List Value),us.length=ps.length->dw (fI name qual params body scope h .none .none Y pm none (.ref c') a1) ⟨us,[]⟩=pure (ps.zip us))
  (Z:∀(A:aM) (F:List Env) (s:af) (H:Hp) (cd:Value) (vs:List V) (Q:VK),Room k (A.deeper (c6 qual scope s.heap.objs.size f cd (aI (s.heap.objs.size+1) scope.names h)))->al7 H f name qual params body scope fr cap h->(∀ b o,K.lookup b=some o->H b=none)->sp vs H Q E0 ->
   ∃ t,PSs (ax7 P w K mg base N qual scope f cd h A F s H) body t/\t { nx:=λ _ H'=>(∀ b,isC h b=true->H' b=none)->Q .non (Put h H H'),rt:=λ v H'=>(∀ b,isC h b=true->H' b=none)->Q v (Put h H H') } (vs.map some++cap.map some) (ab0 h H)) :
  ClOk P w K mg base (k+1) (λ H=>al7 H f name qual params body scope fr cap h) f sp:=by
 refine⟨λ A F s H us vs Q hr G hR r a3=>?_⟩
 have hl:=len _ _ _ _ a3
 obtain⟨Y,pm,c',a1,h1,h2,h3,h4,h5,h6⟩:=id hR
 have a4:s.heap.NoLimit:=G.mod.nolimit.keeps λ b o e=>(G.bs b o e).1
 refine gJ hr.depth (ah1 G.hok h1) rfl S.co S.gen rfl (ak9 G.hok h2) ?_
 rw[a0 Y pm c' a1 us (by rw[<-r.length];exact hl)]
 refine aA (af6 S.kind (λ y hy=>?_) λ env he s1 x=>?_)
 ·rcases S.par y.1 (dP (show(y.1,y.2)∈ps.zip us from hy)).1 with q|q
  ·exact .inl q
  ·exact .inr ⟨q,zI q⟩
 ·subst he
  refine⟨a4.keeps x.toInCall.keep,codeAny_func ?_⟩
  obtain⟨t,ht,hq⟩:=Z A F s H (.ref c') vs Q (hr.deeper _) hR (λ b o e=>(G.bs b o (G.mod.kin b o e)).2) a3
  have I:=aV3 S hr.hd G hl a6 r h3 h4 h5 h6 x
  refine bj (ht [] s1 _ _ _ I hq) (λ fl s' hs=>?_) λ e s' hs=>hs.elim
  have fin:∀ {σ':St} {H':Hp} {v:V} {u:Value},Inv (ax7 P w K mg base N qual scope f (.ref c') h A F s H) [] σ' H' s'->RelV v u->((∀ b,isC h b=true->H' b=none)->Q v (Put h H H'))->CE F P w H s Q u s':=λ {σ' H' v u} J rv q=>by
   obtain⟨un,a5⟩:=aR1 G.hok h3 G.frf J.base J.hok
   have a2:∀ b,isC h b=true->H' b=none:=λ b y=>by
    obtain⟨o,v,z,_⟩:=h3.at y
    exact(show Un (frs F) [] (ab0 h H) H' s.heap s'.heap from J.base).free b o (G.hok b _ z).1 (ab0.cell y) (by simp)
   exact⟨v,_,J.os,J.bare,un,a5,rv,q a2⟩
  cases fl with
  | ret u =>
   obtain⟨v,σ',H',J,rv,q⟩:=hs
   exact fin J rv q
  | next =>
   obtain⟨σ',H',J,q⟩:=hs
   exact fin (v:=V.non) (u:=Value.none) J rfl q
  | brk =>
   obtain⟨_,_,_,q⟩:=hs
   exact bB q
  | cont =>
   obtain⟨_,_,_,q⟩:=hs
   exact bB q
theorem bn4 {P:aD}{w:World}{K:ae}{mg:Str->Option Value}{base:Heap}{k:Nat}{f:Addr}{N ps fr:List Str}{qual:Str}{params:bD}{body:Expr}{scope:Scope}{h:List (Str×Addr)}{cap:List V}{sp:Sp}
  (S:LamScope N ps fr scope) (len:∀ vs H Q E,sp vs H Q E->vs.length=ps.length) (a5:cap.length=fr.length)
  (Z:∀(pm:Value) (c':Addr) (a0:Value) (us:List Value),us.length=ps.length->dw (bn "<lambda>" qual params body scope h pm (.ref c') a0) ⟨us,[]⟩=pure (ps.zip us))
  (Y:∀(A:aM) (F:List Env) (s:af) (H:Hp) (cd:Value) (vs:List V) (Q:VK),Room k (A.deeper (c6 qual scope s.heap.objs.size f cd (aI (s.heap.objs.size+1) scope.names h)))->ay4 H f qual params body scope fr cap h->(∀ b o,K.lookup b=some o->H b=none)->sp vs H Q E0 ->
   ∃ t,PE (ax7 P w K mg base N qual scope f cd h A F s H) body t/\t (vs.map some++cap.map some) (ab0 h H) λ v H'=>(∀ b,isC h b=true->H' b=none)->Q v (Put h H H')) :
  ClOk P w K mg base (k+1) (λ H=>ay4 H f qual params body scope fr cap h) f sp:=by
 refine⟨λ A F s H us vs Q hr G hR r a2=>?_⟩
 have hl:=len _ _ _ _ a2
 obtain⟨pm,c',a0,h1,h2,h3,h4,h5,h6⟩:=id hR
 have a3:s.heap.NoLimit:=G.mod.nolimit.keeps λ b o e=>(G.bs b o e).1
 refine hJ hr.depth (ah1 G.hok h1) rfl S.co S.gen rfl (ak9 G.hok h2) ?_
 rw[Z pm c' a0 us (by rw[<-r.length];exact hl)]
 refine aA (af6 S.kind (λ y hy=>?_) λ env he s1 x=>?_)
 ·rcases S.par y.1 (dP (show(y.1,y.2)∈ps.zip us from hy)).1 with q|q
  ·exact .inl q
  ·exact .inr ⟨q,zI q⟩
 ·subst he
  refine⟨a3.keeps x.toInCall.keep,hU ?_⟩
  obtain⟨t,ht,hq⟩:=Y A F s H (.ref c') vs Q (hr.deeper _) hR (λ b o e=>(G.bs b o (G.mod.kin b o e)).2) a2
  have I:=aV3 S hr.hd G hl a5 r h3 h4 h5 h6 x
  refine bj (ht [] s1 _ _ _ I hq) (λ u s' hs=>?_) λ e s' hs=>hs.elim
  obtain⟨v,H',J,rv,q⟩:=hs
  obtain⟨un,a4⟩:=aR1 G.hok h3 G.frf J.base J.hok
  have a1:∀ b,isC h b=true->H' b=none:=λ b y=>by
   obtain⟨o,v,z,_⟩:=h3.at y
   exact(show Un (frs F) [] (ab0 h H) H' s.heap s'.heap from J.base).free b o (G.hok b _ z).1 (ab0.cell y) (by simp)
  exact⟨v,_,J.os,J.bare,un,a4,rv,q a1⟩
theorem Rp.sameT {φ:Nat->Addr}{H H':Hp}{s:kG}(r:Rp Γ φ H s)(e:ba0 H H')(st:∀ b,H b≠none->H' b≠none)(tb:TabsH Γ.T H'):Gr φ s H φ s H'/\Rp Γ φ H' s:=by
 have kp:Kp H H':=λ b o h f=>e b o (λ ps z=>by subst z;cases f) h
 have Y:Gw φ s.length H φ H':=⟨λ _ _=>rfl,kp⟩
 refine⟨⟨Y,am _,λ i h1 h2=>absurd h2 (by omega),λ i o o' e e'=>by rw[e]at e';cases e';rfl,st,λ b o h J _=>e b o J h⟩,r.inj,λ i o G=>?_,r.wf,tb⟩
 exact(r.obj i o G).mono Y (r.wf i o G) λ m u Z=>by
  obtain⟨u',F,_,J⟩:=(r.obj i o G).there m
  rw[Z]at F;cases F
  exact e _ _ J Z
theorem Cells.kp {H H':Hp}(h:Cells clos H)(k:Kp H H'):Cells clos H':=λ x c e=>by
 obtain⟨o,v,q,d⟩:=h x c e
 exact⟨o,v,k _ _ q rfl,d⟩
noncomputable def PVp (Γ : Gm) (cells : List (Str × Addr)) (N : List Str) (σ : St) (φ : Nat -> Addr) (H : Hp) (d : DV.D) (v : V) : Prop := RV Γ φ H d v \/ ∃ id cs, d = .clo id cs /\ ∃ f J, v = .ref f /\ Γ.lg id J /\ aq7 H f J (af8 cells J.scope.names []) /\
      cs.length = J.fr.length /\ (∀ x, J.scope.names.lookup x = some .free -> ∃ c, cells.lookup x = some c) /\
      ∃ cap, RVL Γ φ H cs cap /\ ∀(i : Nat) (x : Str) (v : V), J.fr[i]? = some x -> cap[i]? = some v -> J.scope.names.lookup x = some .free /\ ∃ j : Nat, N[j]? = some x /\ σ[j]? = some (some v)
inductive PVL (Γ:Gm)(cells:List (Str×Addr))(N:List Str)(σ:St)(φ:Nat->Addr)(H:Hp):List kH->List V->Prop where
 | nil:PVL Γ cells N σ φ H [] []
 | cons {d v l vs} (a:PVp Γ cells N σ φ H d v) (b:PVL Γ cells N σ φ H l vs):PVL Γ cells N σ φ H (d::l) (v::vs)
theorem PVp.mono {cells:List (Str×Addr)}{N:List Str}{σ:St}{φ φ':Nat->Addr}{s s':kG}{H H':Hp}(g:Gr φ s H φ' s' H'){d:kH}{v:V}(b:d.bnd s.length=true)(h:PVp Γ cells N σ φ H d v):PVp Γ cells N σ φ' H' d v:=by
 rcases h with h|⟨id,cs,rfl,h⟩
 ·exact .inl (RV.mono g _ _ b h)
 ·obtain⟨f,J,e,F,Z,Y,h5,cap,G,h7⟩:=h
  unfold kN at b
  exact .inr ⟨id,cs,rfl,f,J,e,F,Z.kp g.w.kp,Y,h5,cap,RVL.mono g cs cap b G,h7⟩
end
variable {Γ:Gm} {X:Cx}
def TEv (Γ:Gm)(m:kJ->kG->kK kH):TE:=λ σ H Q=>∃ φ ρ s d s',RE Γ φ H s.length ρ σ/\Rp Γ φ H s/\m ρ s=.ok d s'/\ac4 Γ φ s H d s' Q
def bF3 (Γ:Gm)(φ:Nat->Addr)(s:kG)(H:Hp)(l:List kH)(s':kG)(Q:List V->Hp->Prop):Prop :=
 ∀ vs φ' H',Gr φ s H φ' s' H'->s.length<=s'.length->kI s'.length l=true->RVL Γ φ' H' l vs->Rp Γ φ' H' s'->Q vs H'
def TAv (Γ:Gm)(m:kJ->kG->kK (List kH)):TA:=λ σ H Q=>∃ φ ρ s l s',RE Γ φ H s.length ρ σ/\Rp Γ φ H s/\m ρ s=.ok l s'/\bF3 Γ φ s H l s' Q
def aC5 (Γ:Gm)(φ:Nat->Addr)(s:kG)(H:Hp)(b:Bool)(s':kG)(Q:Bool->Hp->Prop):Prop :=
 ∀ φ' H',Gr φ s H φ' s' H'->s.length<=s'.length->Rp Γ φ' H' s'->Q b H'
def TTv (Γ:Gm)(m:kJ->kG->kK kH):TT:=λ σ H Q=>∃ φ ρ s b s',RE Γ φ H s.length ρ σ/\Rp Γ φ H s/\m ρ s=.ok (.bl b) s'/\aC5 Γ φ s H b s' Q
theorem PE.imp {e:Expr}{t t':TE}(h:PE X e t)(i:∀ σ H Q,t' σ H Q->t σ H Q):PE X e t':=λ F s σ H Q I q=>h F s σ H Q I (i σ H Q q)
theorem PT.imp {e:Expr}{t t':TT}(h:PT X e t)(i:∀ σ H Q,t' σ H Q->t σ H Q):PT X e t':=λ F s σ H Q I q=>h F s σ H Q I (i σ H Q q)
theorem PA.imp {e:List Expr}{t t':TA}(h:PA X e t)(i:∀ σ H Q,t' σ H Q->t σ H Q):PA X e t':=λ pos F s σ H Q I q=>h pos F s σ H Q I (i σ H Q q)
theorem aC5.trans {φ φ1:Nat->Addr}{s s1 s':kG}{H F:Hp}{b:Bool}{Q:Bool->Hp->Prop}(h:aC5 Γ φ s H b s' Q)(g:Gr φ s H φ1 s1 F)(l:s.length<=s1.length):aC5 Γ φ1 s1 F b s' Q :=
 λ φ' H' g' G p=>h φ' H' (g.trans g' l) (av l G) p
theorem bE9 (i:Nat){σ:St}{H:Hp}{Q:VK}(h:TEv Γ (λ ρ s=>DV.aF9 ρ i s) σ H Q):bJ0 i σ H Q:=by
 obtain⟨φ,ρ,s,d,s',E,R,F,q⟩:=h
 simp only[DV.aF9]at F
 split at F
 ·rename_i d' e
  cases F
  obtain⟨b,v,e1,e2⟩:=E.val i _ e
  exact⟨v,e1,q.here R b e2⟩
 ·exact fb F
theorem aq0 {c:kH}{v:V}(hb:∀ n,c.bnd n=true)(hv:∀ φ H,RV Γ φ H c v){σ:St}{H:Hp}{Q:VK}(h:TEv Γ (λ ρ s=>.ok c s) σ H Q):tC v σ H Q:=by
 obtain⟨φ,ρ,s,d,s',E,R,F,q⟩:=h
 cases F
 exact q.here R (hb _) (hv _ _)
theorem bc7 {J G:kJ->kG->kK kH}{f:kH->kH->kG->kK kH}{σ:St}{H:Hp}{Q:VK}(h:TEv Γ (λ ρ s=>(J ρ s).bind λ x s=>(G ρ s).bind λ y s=>f x y s) σ H Q):tOp (rOp Γ f) (TEv Γ J) (TEv Γ G) σ H Q:=by
 obtain⟨φ,ρ,s,d,s',E,R,F,q⟩:=h
 obtain⟨x,s1,e1,F⟩:=aa0 F
 obtain⟨y,s2,e2,F⟩:=aa0 F
 refine⟨φ,ρ,s,x,s1,E,R,e1,λ v1 φ1 H1 g1 l1 Y r1 R1=>?_⟩
 refine⟨φ1,ρ,s1,y,s2,E.mono g1 l1,R1,e2,λ v2 φ2 H2 g2 Z b2 r2 R2=>?_⟩
 exact⟨φ2,s2,x,y,d,s',R2,RV.mono g2 x v1 Y r1,r2,zl Z x Y,b2,F,q.trans (g1.trans g2 l1) (av l1 Z)⟩
theorem zz {α:Type}{r:kK kH}{f:Bool->kG->kK α}{a:α}{t:kG}(h:kS r f=.ok a t):∃ b s,r=.ok (.bl b) s/\f b s=.ok a t:=by
 unfold kS at h
 obtain⟨d,s,e,h⟩:=aa0 h
 cases d with
 | bl b=>exact⟨b,s,e,h⟩
 | _=>exact fb h
theorem az8 {m:kJ->kG->kK kH}{σ:St}{H:Hp}{Q:Bool->Hp->Prop}(h:TTv Γ m σ H Q):tB (TEv Γ m) σ H Q:=by
 obtain⟨φ,ρ,s,b,s',E,R,F,q⟩:=h
 refine⟨φ,ρ,s,.bl b,s',E,R,F,λ v φ' H' g l J r G=>?_⟩
 exact⟨b,r.blE,q φ' H' g l G⟩
theorem aP7 {m:kJ->kG->kK kH}{σ:St}{H:Hp}{Q:Bool->Hp->Prop}(h:TTv Γ m σ H Q):bm8 (TEv Γ m) σ H Q:=az8 h
theorem bE5 {m:kJ->kG->kK kH}{σ:St}{H:Hp}{Q:Bool->Hp->Prop}(h:TTv Γ (λ ρ s=>kS (m ρ s) λ b s=>.ok (.bl (!b)) s) σ H Q):bS4 (TTv Γ m) σ H Q:=by
 obtain⟨φ,ρ,s,b,s',E,R,F,q⟩:=h
 obtain⟨c,s1,e1,F⟩:=zz F
 cases F
 exact⟨φ,ρ,s,c,_,E,R,e1,q⟩
theorem bg3 {G J:kJ->kG->kK kH}{σ:St}{H:Hp}{Q:Bool->Hp->Prop}(h:TTv Γ (λ ρ s=>kS (G ρ s) λ c s=>if c then kS (J ρ s) λ c s=>.ok (.bl c) s else .ok (.bl false) s) σ H Q):bR4 (TTv Γ G) (TTv Γ J) σ H Q:=by
 obtain⟨φ,ρ,s,b,s',E,R,F,q⟩:=h
 obtain⟨c,s1,e1,F⟩:=zz F
 refine⟨φ,ρ,s,c,s1,E,R,e1,λ φ1 Y g1 l1 R1=>?_⟩
 cases c with
 | true =>
  rw[if_pos rfl]at F ⊢
  obtain⟨Z,s2,e2,F⟩:=zz F
  cases F
  exact⟨φ1,ρ,s1,_,_,E.mono g1 l1,R1,e2,q.trans g1 l1⟩
 | false =>
  rw[if_neg aQ]at F ⊢
  cases F
  exact q φ1 Y g1 l1 R1
theorem bz5 {G J:kJ->kG->kK kH}{σ:St}{H:Hp}{Q:Bool->Hp->Prop}(h:TTv Γ (λ ρ s=>kS (G ρ s) λ c s=>if c then .ok (.bl true) s else kS (J ρ s) λ c s=>.ok (.bl c) s) σ H Q):tOr (TTv Γ G) (TTv Γ J) σ H Q:=by
 obtain⟨φ,ρ,s,b,s',E,R,F,q⟩:=h
 obtain⟨c,s1,e1,F⟩:=zz F
 refine⟨φ,ρ,s,c,s1,E,R,e1,λ φ1 Y g1 l1 R1=>?_⟩
 cases c with
 | true =>
  rw[if_pos rfl]at F ⊢
  cases F
  exact q φ1 Y g1 l1 R1
 | false =>
  rw[if_neg aQ]at F ⊢
  obtain⟨Z,s2,e2,F⟩:=zz F
  cases F
  exact⟨φ1,ρ,s1,_,_,E.mono g1 l1,R1,e2,q.trans g1 l1⟩
theorem bx4 {m:kJ->kG->kK kH}{σ:St}{H:Hp}{Q:VK}(h:TEv Γ (λ ρ s=>kS (m ρ s) λ b s=>.ok (.bl (!b)) s) σ H Q):bz8 (TEv Γ m) σ H Q:=by
 obtain⟨φ,ρ,s,d,s',E,R,F,q⟩:=h
 obtain⟨c,s1,e1,F⟩:=zz F
 cases F
 exact⟨φ,ρ,s,.bl c,_,E,R,e1,λ v φ1 G g l b r R1=>⟨c,r.blE,q _ φ1 G g l rfl RV.blI R1⟩⟩
theorem bf5 {G J:kJ->kG->kK kH}{σ:St}{H:Hp}{Q:VK}(h:TEv Γ (λ ρ s=>kS (G ρ s) λ c s=>if c then kS (J ρ s) λ c s=>.ok (.bl c) s else .ok (.bl false) s) σ H Q):bv9 (TEv Γ G) (TEv Γ J) σ H Q:=by
 obtain⟨φ,ρ,s,d,s',E,R,F,q⟩:=h
 obtain⟨c,s1,e1,F⟩:=zz F
 refine⟨φ,ρ,s,.bl c,s1,E,R,e1,λ v φ1 Y g1 l1 Z r1 R1=>⟨c,r1.blE,?_⟩⟩
 cases c with
 | true =>
  rw[if_pos rfl]at F ⊢
  obtain⟨c,s2,e2,F⟩:=zz F
  cases F
  exact⟨φ1,ρ,s1,.bl c,_,E.mono g1 l1,R1,e2,q.trans g1 l1⟩
 | false =>
  rw[if_neg aQ]at F ⊢
  cases F
  exact q _ φ1 Y g1 l1 rfl RV.blI R1
theorem bG3 {G J:kJ->kG->kK kH}{σ:St}{H:Hp}{Q:VK}(h:TEv Γ (λ ρ s=>kS (G ρ s) λ c s=>if c then .ok (.bl true) s else kS (J ρ s) λ c s=>.ok (.bl c) s) σ H Q):bT5 (TEv Γ G) (TEv Γ J) σ H Q:=by
 obtain⟨φ,ρ,s,d,s',E,R,F,q⟩:=h
 obtain⟨c,s1,e1,F⟩:=zz F
 refine⟨φ,ρ,s,.bl c,s1,E,R,e1,λ v φ1 Y g1 l1 Z r1 R1=>⟨c,r1.blE,?_⟩⟩
 cases c with
 | true =>
  rw[if_pos rfl]at F ⊢
  cases F
  exact q _ φ1 Y g1 l1 rfl RV.blI R1
 | false =>
  rw[if_neg aQ]at F ⊢
  obtain⟨c,s2,e2,F⟩:=zz F
  cases F
  exact⟨φ1,ρ,s1,.bl c,_,E.mono g1 l1,R1,e2,q.trans g1 l1⟩
theorem bx7 {mc G J:kJ->kG->kK kH}{σ:St}{H:Hp}{Q:VK}(h:TEv Γ (λ ρ s=>kS (mc ρ s) λ k s=>if k then G ρ s else J ρ s) σ H Q):tIf (TTv Γ mc) (TEv Γ G) (TEv Γ J) σ H Q:=by
 obtain⟨φ,ρ,s,d,s',E,R,F,q⟩:=h
 obtain⟨c,s1,e1,F⟩:=zz F
 refine⟨φ,ρ,s,c,s1,E,R,e1,λ φ1 Y g1 l1 R1=>?_⟩
 cases c with
 | true =>
  rw[if_pos rfl]at F ⊢
  exact⟨φ1,ρ,s1,d,s',E.mono g1 l1,R1,F,q.trans g1 l1⟩
 | false =>
  rw[if_neg aQ]at F ⊢
  exact⟨φ1,ρ,s1,d,s',E.mono g1 l1,R1,F,q.trans g1 l1⟩
theorem aA1 {ma mb mc:kJ->kG->kK kH}{f g:kH->kH->kG->kK kH}{σ:St}{H:Hp}{Q:VK}(h:TEv Γ (λ ρ s=>(ma ρ s).bind λ x s=>(mb ρ s).bind λ y s=>kS (f x y s) λ k s=>if k then(mc ρ s).bind λ z s=>g y z s else .ok (.bl false) s) σ H Q) :
  aP3 (rOp Γ f) (rOp Γ g) (TEv Γ ma) (TEv Γ mb) (TEv Γ mc) σ H Q:=by
 obtain⟨φ,ρ,s,d,s',E,R,F,q⟩:=h
 obtain⟨x,s1,e1,F⟩:=aa0 F
 obtain⟨y,s2,e2,F⟩:=aa0 F
 obtain⟨c,s3,e3,F⟩:=zz F
 refine⟨φ,ρ,s,x,s1,E,R,e1,λ v1 φ1 H1 g1 l1 b1 r1 R1=>?_⟩
 refine⟨φ1,ρ,s1,y,s2,E.mono g1 l1,R1,e2,λ v2 φ2 H2 g2 J Z r2 R2=>?_⟩
 refine⟨φ2,s2,x,y,.bl c,s3,R2,RV.mono g2 x v1 b1 r1,r2,zl J x b1,Z,e3,λ v3 φ3 H3 g3 Y b3 r3 R3=>⟨c,r3.blE,?_⟩⟩
 have G:=(g1.trans g2 l1).trans g3 (av l1 J)
 have L:=av (av l1 J) Y
 cases c with
 | true =>
  rw[if_pos rfl]at F ⊢
  obtain⟨z,s4,e4,F⟩:=aa0 F
  refine⟨φ3,ρ,s3,z,s4,E.mono G L,R3,e4,λ v4 φ4 H4 g4 l4 b4 r4 R4=>?_⟩
  exact⟨φ4,s4,y,z,d,s',R4,RV.mono (g3.trans g4 Y) y v2 Z r2,r4,zl (av Y l4) y Z,b4,F,q.trans (G.trans g4 L) (av L l4)⟩
 | false =>
  rw[if_neg aQ]at F ⊢
  cases F
  exact q _ φ3 H3 G L rfl RV.blI R3
theorem aC9 {σ:St}{H:Hp}{Q:List V->Hp->Prop}(h:TAv Γ (λ ρ s=>.ok [] s) σ H Q):aK9 σ H Q:=by
 obtain⟨φ,ρ,s,d,s',E,R,F,q⟩:=h
 cases F
 exact q [] φ H (Gr.refl _ _ _) (am _) rfl .nil R
theorem bj3 {m:kJ->kG->kK kH}{ms:kJ->kG->kK (List kH)}{σ:St}{H:Hp}{Q:List V->Hp->Prop}(h:TAv Γ (λ ρ s=>(m ρ s).bind λ d s=>(ms ρ s).bind λ l s=>.ok (d::l) s) σ H Q):al6 (TEv Γ m) (TAv Γ ms) σ H Q:=by
 obtain⟨φ,ρ,s,l,s',E,R,F,q⟩:=h
 obtain⟨x,s1,e1,F⟩:=aa0 F
 obtain⟨y,s2,e2,F⟩:=aa0 F
 cases F
 refine⟨φ,ρ,s,x,s1,E,R,e1,λ G φ1 H1 g1 l1 J r1 R1=>?_⟩
 refine⟨φ1,ρ,s1,y,_,E.mono g1 l1,R1,e2,λ v2 φ2 H2 Z Y b2 r2 R2=>?_⟩
 refine q (G::v2) φ2 H2 (g1.trans Z l1) (av l1 Y) ?_ (.cons (RV.mono Z x G J r1) r2) R2
 unfold kI
 rw[zl Y x J,b2];rfl
theorem aw2 {G:kJ->kG->kK (List kH)}{f:List kH->kG->kK kH}{σ:St}{H:Hp}{Q:VK}(h:TEv Γ (λ ρ s=>(G ρ s).bind λ l s=>f l s) σ H Q):tCB (rCl Γ f) (TAv Γ G) σ H Q:=by
 obtain⟨φ,ρ,s,d,s',E,R,F,q⟩:=h
 obtain⟨l,s1,e1,F⟩:=aa0 F
 exact⟨φ,ρ,s,l,s1,E,R,e1,λ vs φ1 Y g1 l1 J r1 R1=>⟨φ1,s1,l,d,s',R1,r1,J,F,q.trans g1 l1⟩⟩
variable {Γ:Gm} {X:Cx}
def ad0 (Γ:Gm)(J:It)(φ0:Nat->Addr)(H0:Hp)(s0:kG)(q:lx):Prop :=
 ∀ φ H s,Gr φ0 s0 H0 φ s H->s0.length<=s.length->Rp Γ φ H s->lv s0 s q.src=true->∀ i:Nat,
  (i<q.its.length->J.go i H/\∀ x H',J.yld i H x H'->ac1 H H'/\∀ d,q.its[i]?=some d->RV Γ φ H' d x)/\(q.its.length<=i->J.stop i H)
def TIv (Γ:Gm)(m:kJ->kG->kK lx):TI:=λ σ H R=>∃ φ ρ s q s',RE Γ φ H s.length ρ σ/\Rp Γ φ H s/\m ρ s=.ok q s' /\
 ∀ J φ' H',Gr φ s H φ' s' H'->s.length<=s'.length->kI s'.length q.its=true->Rp Γ φ' H' s'->ad0 Γ J φ' H' s' q->R J H'
theorem PI.imp {tg e:Expr}{t t':TI}(h:PI X tg e t)(i:∀ σ H R,t' σ H R->t σ H R):PI X tg e t':=λ F s σ H R I q=>h F s σ H R I (i σ H R q)
theorem PI.or {tg e:Expr}{t t':TI}(h:PI X tg e t)(h':PI X tg e t'):PI X tg e (λ σ H R=>t σ H R\/t' σ H R):=λ F s σ H R I q=>q.elim (h F s σ H R I) (h' F s σ H R I)
theorem aD4 {φ0:Nat->Addr}{H0:Hp}{s0:kG}{a:Addr}{F:List V}{l:List kH}(h:SqT Γ.K H0 a F)(hl:RVL Γ φ0 H0 l F)(hb:kI s0.length l=true):ad0 Γ (Itt Γ.K a) φ0 H0 s0 ⟨l,[]⟩:=by
 intro φ H s g _ R _ i
 have h':=g.w.kp.sqT h
 have G:=RVL.mono g l F hb hl
 refine⟨λ hlt=>⟨⟨F,F[i]'(by rw[G.length];exact hlt),h',ag _⟩,λ x H' y=>?_⟩,λ J=>⟨F,h',by rw[G.length];exact J⟩⟩
 obtain⟨e,y⟩:=y
 subst e
 refine⟨ac1.refl _,λ d hd=>?_⟩
 obtain⟨v,e1,e2⟩:=G.get hd
 rw[y F h']at e1;cases e1
 exact e2
theorem aR3 {φ0:Nat->Addr}{H0:Hp}{s0:kG}{a:Addr}{F:List V}{l:List kH}(h:SqF Γ.K H0 a F)(hl:RVL Γ φ0 H0 l F)(hb:kI s0.length l=true):ad0 Γ (Itl Γ.K a) φ0 H0 s0 ⟨l,[]⟩:=by
 intro φ H s g _ R _ i
 have h':=h.2 _ g.w.kp
 have G:=RVL.mono g l F hb hl
 refine⟨λ hlt=>⟨⟨F,F[i]'(by rw[G.length];exact hlt),h',ag _⟩,λ x H' y=>?_⟩,λ J=>⟨F,h',by rw[G.length];exact J⟩⟩
 obtain⟨e,y⟩:=y
 subst e
 refine⟨ac1.refl _,λ d hd=>?_⟩
 obtain⟨v,e1,e2⟩:=G.get hd
 rw[y F h']at e1;cases e1
 exact e2
theorem aB0 {φ0:Nat->Addr}{H0:Hp}{s0:kG}{r:Nat}{l:List kH}(Z:s0[r]?=some (.lst l)):ad0 Γ (Itl Γ.K (φ0 r)) φ0 H0 s0 ⟨l,[r]⟩:=by
 intro φ H s g _ R Y i
 have G:r<s0.length:=(ac.mp Z).1
 have hs:s[r]?=some (.lst l):=by
  unfold lv at Y
  simp only[dM,ki,iD,decide_eq_true_eq]at Y
  rw[Y];exact Z
 obtain⟨F,e,h⟩:=R.addr hs
 rw[g.w.map r G]at e
 have h':SqL Γ.K H (φ0 r) F:=SqL.of e
 refine⟨λ hlt=>⟨⟨F,F[i]'(by rw[h.length];exact hlt),h',ag _⟩,λ x H' y=>?_⟩,λ J=>⟨F,h',by rw[h.length];exact J⟩⟩
 obtain⟨e,y⟩:=y
 subst e
 refine⟨ac1.refl _,λ d hd=>?_⟩
 obtain⟨v,e1,e2⟩:=h.get hd
 rw[y F h']at e1;cases e1
 exact e2
theorem aB4 {φ0:Nat->Addr}{H0:Hp}{s0:kG}{l:List Nat}:ad0 Γ (Its ⟨l.toArray⟩) φ0 H0 s0 ⟨l.map λ c=>.str [c],[]⟩:=by
 intro φ H s g _ R _ i
 have hsz:(⟨l.toArray⟩:Str).cps.size=l.length:=by simp
 refine⟨λ hlt=>?_,λ h=>?_⟩
 ·simp only[aw]at hlt
  refine⟨show i<(⟨l.toArray⟩:Str).cps.size by rw[hsz];exact hlt,λ x H' y=>?_⟩
  obtain⟨e,c,hc,rfl⟩:=y
  subst e
  refine⟨ac1.refl _,λ d hd=>?_⟩
  have F:l[i]?=some c:=by simpa using hc
  rw[aB,F]at hd
  cases hd
  exact RV.strI (by simp;decide)
 ·simp only[aw]at h
  show(⟨l.toArray⟩:Str).cps.size<=i
  rw[hsz];exact h
theorem bd7 {φ0:Nat->Addr}{H0:Hp}{s0:kG}{a b:Int}:ad0 Γ (Itr a (b - a).toNat) φ0 H0 s0 ⟨lH a b,[]⟩:=by
 intro φ H s g _ R _ i
 have hn:(lH a b).length=(b - a).toNat:=by simp[lH]
 refine⟨λ hlt=>⟨show i<(b - a).toNat by rw[<-hn];exact hlt,λ x H' y=>?_⟩,λ h=>show(b - a).toNat<=i by rw[<-hn];exact h⟩
 obtain⟨e,rfl⟩:=y
 subst e
 refine⟨ac1.refl _,λ d hd=>?_⟩
 simp only[lH]at hd hlt
 rw[aB,dH (by simpa using hlt)]at hd
 cases hd
 exact RV.intI
theorem bp8 {m:kJ->kG->kK kH}{σ:St}{H:Hp}{R:It->Hp->Prop}(h:TIv Γ (λ ρ s=>(m ρ s).bind λ x s=>match x with|.int i=>if -mw<=i/\i<mw then .ok ⟨lH 0 i,[]⟩ s else .bad|_=>.bad) σ H R) :
  bC2 (al6 (TEv Γ m) aK9) σ H R:=by
 obtain⟨φ,ρ,s,q,s',E,P,F,k⟩:=h
 obtain⟨x,s1,e1,F⟩:=aa0 F
 refine⟨φ,ρ,s,x,s1,E,P,e1,λ v φ1 G g l b r J=>?_⟩
 cases x with
 | int i =>
  simp only at F
  split at F
  ·rename_i hi
   cases F
   have hw:mw=2^62:=by decide
   rw[hw]at hi
   refine⟨i,by rw[r.intE],hi.1,hi.2,k _ φ1 G g l ?_ J ?_⟩
   ·refine aa2.mpr λ d hd=>?_
    simp only[lH,aS]at hd
    obtain⟨_,_,rfl⟩:=hd
    rfl
   ·have:=bd7 (Γ:=Γ) (φ0:=φ1) (H0:=G) (s0:=s') (a:=0) (b:=i)
    rwa [jf]at this
  ·exact fb F
 | _=>exact fb F
theorem bw9 {m:kJ->kG->kK kH}{σ:St}{H:Hp}{R:It->Hp->Prop}(h:TIv Γ (λ ρ s=>(m ρ s).bind λ d s=>DV.as9 d s) σ H R) :
  bO0 Γ.K (TEv Γ m) σ H R\/bm0 Γ.K (TEv Γ m) σ H R\/bR0 (TEv Γ m) σ H R:=by
 obtain⟨φ,ρ,s,q,s',E,P,F,k⟩:=h
 obtain⟨x,s1,e1,F⟩:=aa0 F
 unfold DV.as9 at F
 cases x with
 | tup l =>
  cases F
  refine .inl ⟨φ,ρ,s,_,_,E,P,e1,λ v φ1 J g l b r G=>?_⟩
  obtain⟨a,Y,rfl,h1,d1⟩:=r.tupE
  unfold kN at b
  exact⟨a,rfl,⟨Y,h1⟩,k _ φ1 J g l b G (aD4 h1 d1 b)⟩
 | str l =>
  cases F
  refine .inr (.inr ⟨φ,ρ,s,_,_,E,P,e1,λ v φ1 J g Z b r G=>?_⟩)
  refine⟨_,r.strE,k _ φ1 J g Z ?_ G aB4⟩
  refine aa2.mpr λ d hd=>?_
  simp only[aS]at hd
  obtain⟨_,_,rfl⟩:=hd
  rfl
 | ref r =>
  simp only at F
  cases hs:s1[r]? with
  | none=>rw[hs]at F;cases F
  | some o =>
   rw[hs]at F
   cases o with
   | lst l =>
    cases F
    refine .inr (.inl ⟨φ,ρ,s,_,_,E,P,e1,λ v φ1 J g Z b rr G=>?_⟩)
    have e:=rr.refE;subst e
    obtain⟨Y,e2,d1⟩:=G.addr hs
    have wf:=G.wf _ _ hs
    unfold kM at wf
    exact⟨φ1 r,rfl,⟨Y,SqL.of e2⟩,k _ φ1 J g Z wf G (aB0 hs)⟩
   | ro l =>
    cases F
    refine .inr (.inl ⟨φ,ρ,s,_,_,E,P,e1,λ v φ1 J g Z b rr G=>?_⟩)
    have e:=rr.refE;subst e
    obtain⟨Y,e2,d1⟩:=G.obj _ _ hs
    have wf:=G.wf _ _ hs
    unfold kM at wf
    exact⟨φ1 r,rfl,⟨Y,e2.1⟩,k _ φ1 J g Z wf G (aR3 e2 d1 wf)⟩
   | dic l=>exact fb F
   | dit l=>exact fb F
   | ins c l=>exact fb F
 | _=>exact fb F
theorem bl6 {d:kH}{s s':kG}{q:lx}(h:lQ d s=.ok q s'):s'=s/\∀ φ H v,RV Γ φ H d v->Rp Γ φ H s->d.bnd s.length=true ->
  ∃ J,Sr Γ.K H v J/\ad0 Γ J φ H s q/\kI s.length q.its=true:=by
 unfold lQ at h
 cases d with
 | tup l =>
  cases h
  refine⟨rfl,λ φ H v r P b=>?_⟩
  obtain⟨a,F,rfl,Y,d1⟩:=r.tupE
  unfold kN at b
  exact⟨_,.inr (.inl ⟨a,rfl,⟨F,Y⟩,rfl⟩),aD4 Y d1 b,b⟩
 | str l =>
  cases h
  refine⟨rfl,λ φ H v r P b=>⟨_,.inr (.inr ⟨_,r.strE,rfl⟩),aB4,?_⟩⟩
  refine aa2.mpr λ d hd=>?_
  simp only[aS]at hd
  obtain⟨_,_,rfl⟩:=hd
  rfl
 | ref r =>
  simp only at h
  cases hs:s[r]? with
  | none=>rw[hs]at h;cases h
  | some o =>
   rw[hs]at h
   cases o with
   | lst l =>
    cases h
    refine⟨rfl,λ φ H v G P b=>?_⟩
    have e:=G.refE;subst e
    obtain⟨F,e2,d1⟩:=P.addr hs
    have wf:=P.wf _ _ hs
    unfold kM at wf
    exact⟨_,.inl ⟨_,rfl,⟨F,SqL.of e2⟩,rfl⟩,aB0 hs,wf⟩
   | ro l =>
    cases h
    refine⟨rfl,λ φ H v G P b=>?_⟩
    have e:=G.refE;subst e
    obtain⟨F,e2,d1⟩:=P.obj _ _ hs
    have wf:=P.wf _ _ hs
    unfold kM at wf
    exact⟨_,.inl ⟨_,rfl,⟨F,e2.1⟩,rfl⟩,aR3 e2 d1 wf,wf⟩
   | dic l=>exact fb h
   | dit l=>exact fb h
   | ins c l=>exact fb h
 | _=>exact fb h
theorem aL3 {d:kH}{s s':kG}{q:lx}(h:my d s=.ok q s'):lQ d s=.ok q s'/\∀ x,d≠.str x:=by
 unfold my at h
 unfold lQ
 cases d with
 | tup l=>exact⟨h,λ x e=>nomatch e⟩
 | ref r=>exact⟨h,λ x e=>nomatch e⟩
 | _=>exact fb h
theorem ah9:∀(l:List kH) (n i:Nat),(lf n l)[i]?=(l[i]?).map λ d=>.tup [.int ((n+i:Nat):Int),d]
 | [],n,i=>by rw[lf];simp
 | a::l,n,0=>by rw[lf];simp
 | a::l,n,i+1=>by
  rw[lf]
  have:=ah9 l (n+1) i
  simp only[cV]
  rw[this]
  rw[show n+1+i=n+(i+1)from by omega]
theorem enumL_len:∀(l:List kH) (n:Nat),(lf n l).length=l.length
 | [],n=>by rw[lf]
 | a::l,n=>by rw[lf];simp[enumL_len l (n+1)]
theorem as7 {φ0:Nat->Addr}{H0:Hp}{s0:kG}{G:It}{p:lx}(w1:ad0 Γ G φ0 H0 s0 p)(Z:kI s0.length p.its=true) :
  ad0 Γ (Je G) φ0 H0 s0 ⟨lf 0 p.its,p.src⟩:=by
 intro φ H s g hl R ck i
 obtain⟨Y,u2⟩:=w1 φ H s g hl R ck i
 refine⟨λ hlt=>?_,λ h=>?_⟩
 ·simp only[enumL_len]at hlt
  obtain⟨g1,y1⟩:=Y hlt
  refine⟨g1,λ x H' y=>?_⟩
  obtain⟨a,x1,e1,hn,rfl,rfl⟩:=y
  have J:ac1 H (upd H a (.tup [.int i,x1])):=(ac1.refl H).new hn
  refine⟨J,λ d hd=>?_⟩
  have F:(lf 0 p.its)[i]?=some d:=hd
  rw[ah9,ag hlt,d8]at F
  cases F
  obtain⟨gr,R'⟩:=R.same J
  have c1:=aa2.mp Z _ (eF hlt)
  exact RV.tupI zg (RVL.cons RV.intI (RVL.cons (RV.mono gr _ _ (zl hl _ c1) ((y1 _ _ e1).2 _ (ag hlt))) RVL.nil))
 ·simp only[enumL_len]at h
  exact u2 h
theorem aE1 {n:Nat}{l:List kH}(a:kI n l=true):kI n (lf 0 l)=true:=by
 refine aa2.mpr λ d hd=>?_
 obtain⟨i,hi⟩:=eS hd
 rw[ah9]at hi
 cases e:l[i]? with
 | none=>rw[e]at hi;cases hi
 | some x =>
  rw[e]at hi;cases hi
  unfold kN
  exact aa2.mpr λ d hd=>by
   simp only[ax,bp,or_false]at hd
   rcases hd with rfl|rfl
   ·rfl
   ·exact aa2.mp a _ (aX e)
theorem br3 {m1:kJ->kG->kK kH}{σ:St}{H:Hp}{R:It->Hp->Prop}(h:TIv Γ (λ ρ s=>(m1 ρ s).bind λ x s=>(my x s).bind λ p s=>.ok ⟨lf 0 p.its,p.src⟩ s) σ H R) :
  bI0 Γ.K (al6 (TEv Γ m1) aK9) σ H R:=by
 obtain⟨φ,ρ,s,q,s',E,P,F,k⟩:=h
 obtain⟨x,s1,e1,F⟩:=aa0 F
 obtain⟨p1,s3,G,F⟩:=aa0 F
 cases F
 obtain⟨G,ns⟩:=aL3 G
 obtain⟨rfl,d1⟩:=bl6 (Γ:=Γ) G
 refine⟨φ,ρ,s,x,_,E,P,e1,λ v φ1 Z g l b r Y=>?_⟩
 obtain⟨J1,S1,w1,J⟩:=d1 φ1 Z v r Y b
 rcases S1 with⟨a,e,S,ej⟩|⟨a,e,S,ej⟩|⟨y,e,ej⟩
 ·exact⟨a,J1,by rw[e],.inl ⟨S,ej⟩,k _ φ1 Z g l (aE1 J) Y (as7 w1 J)⟩
 ·exact⟨a,J1,by rw[e],.inr ⟨S,ej⟩,k _ φ1 Z g l (aE1 J) Y (as7 w1 J)⟩
 ·subst e
  cases x with
  | str z=>exact absurd rfl (ns z)
  | tup l=>obtain⟨_,_,z,_⟩:=r.tupE;cases z
  | ref n=>cases r.refE
  | _=>simp[lQ]at G
variable {Γ:Gm} {X:Cx}
noncomputable def bJ2:List Nat->TGs
 | []=>bS3
 | i::is=>bG0 (as8 i) (bJ2 is)
noncomputable def gOf (K:ae):lr->TG
 | .one i=>as8 i
 | .tup is=>bK8 K is.length (bJ2 is)
theorem bg9 {φ:Nat->Addr}{H:Hp}{n:Nat}{ρ ρ':kJ}{σ:St}{i:Nat}{d:kH}{v:V}(E:RE Γ φ H n ρ σ)(r:RV Γ φ H d v)(b:d.bnd n=true)(h:lI ρ i d=some ρ'):RE Γ φ H n ρ' (σ.set i (some v)):=by
 unfold lI at h
 split at h
 ·rename_i hi
  cases h
  refine⟨by rw[bA,bA];exact E.len,λ j e hj=>?_⟩
  by_cases hij:j=i
  ·subst hij
   rw[aL hi]at hj
   cases hj
   exact⟨b,v,by rw[aL (by rw[<-E.len];exact hi)],r⟩
  ·rw[aP (bX hij)]at hj
   obtain⟨G,w,J,F⟩:=E.val j e hj
   exact⟨G,w,by rw[aP (bX hij)];exact J,F⟩
 ·cases h
theorem bB3 {φ:Nat->Addr}{H:Hp}{n:Nat}{Q:St->Hp->Prop}:∀(is:List Nat) (l:List kH) (F:List V) (ρ ρ':kJ) (σ:St),RE Γ φ H n ρ σ->RVL Γ φ H l F->kI n l=true->lR ρ is l=some ρ'->(∀ σ',RE Γ φ H n ρ' σ'->Q σ' H)->bJ2 is F σ H Q
 | [],[],F,ρ,ρ',σ,E,r,_,h,k=>by
  cases h
  exact⟨r.unnil,k σ E⟩
 | [],d::l,_,_,_,_,_,_,_,h,_=>by cases h
 | i::is,[],_,_,_,_,_,_,_,h,_=>by cases h
 | i::is,d::l,F,ρ,ρ',σ,E,r,b,h,k=>by
  have h:(lI ρ i d).bind (λ ρ=>lR ρ is l)=some ρ':=h
  obtain⟨x,G,rfl,Y,J⟩:=r.uncons
  unfold kI at b
  rw[aj]at b
  cases e:lI ρ i d with
  | none=>rw[e]at h;cases h
  | some ρ1 =>
   rw[e]at h
   exact⟨x,G,rfl,bB3 is l G ρ1 ρ' _ (bg9 E Y b.1 e) J b.2 h k⟩
theorem aP2 {l:List kH}:∀ {is:List Nat} {ρ ρ':kJ},lR ρ is l=some ρ'->is.length=l.length:=by
 induction l with
 | nil=>intro is ρ ρ' h;cases is with
  | nil=>rfl
  | cons i is=>cases h
 | cons d l ih=>intro is ρ ρ' h;cases is with
  | nil=>cases h
  | cons i is =>
   have h:(lI ρ i d).bind (λ ρ=>lR ρ is l)=some ρ':=h
   cases e:lI ρ i d with
   | none=>rw[e]at h;cases h
   | some ρ1=>rw[e]at h;rw[aK,aK,ih h]
theorem bq9 {φ:Nat->Addr}{H:Hp}{n:Nat}{Q:St->Hp->Prop}{tg:lr}{d:kH}{v:V}{ρ ρ':kJ}{σ:St}(E:RE Γ φ H n ρ σ)(r:RV Γ φ H d v)(b:d.bnd n=true)(h:k9 ρ tg d=some ρ')(k:∀ σ',RE Γ φ H n ρ' σ'->Q σ' H):gOf Γ.K tg v σ H Q:=by
 cases tg with
 | one i=>exact k _ (bg9 E r b h)
 | tup is =>
  cases d with
  | tup l =>
   have h:lR ρ is l=some ρ':=h
   obtain⟨a,F,rfl,G,d1⟩:=r.tupE
   unfold kN at b
   exact⟨a,F,rfl,G,by rw[d1.length,aP2 h],bB3 is l F ρ ρ' σ E d1 b h k⟩
  | _=>cases h
def Off (φ:Nat->Addr)(s:kG)(b:Addr):Prop:=∀(i:Nat) (ob:la),s[i]?=some ob->isMut ob=true->φ i≠b
theorem Off.mono {φ φ':Nat->Addr}{s s':kG}{H H':Hp}{b:Addr}{o:HO}(h:Off φ s b)(g:Gr φ s H φ' s' H')(hb:H b=some o):Off φ' s' b:=λ i ob e m z=>by
 by_cases hi:i<s.length
 ·obtain⟨F,G⟩:∃ F,s[i]?=some F:=⟨s[i],ag hi⟩
  exact h i F G (g.mu i F ob G e m) (by rw[<-g.w.map i hi];exact z)
 ·have:=g.new i (by omega) (ac.mp e).1
  rw[z,hb]at this;cases this
theorem Off.new {φ:Nat->Addr}{s:kG}{H:Hp}{b:Addr}(r:Rp Γ φ H s)(h:H b=none):Off φ s b:=λ i ob e m z=>by
 obtain⟨u,F,_⟩:=(r.obj i ob e).there m
 rw[z,h]at F;cases F
theorem Rp.foreign {φ:Nat->Addr}{s:kG}{H:Hp}{b:Addr}{ys h:List V}(r:Rp Γ φ H s)(hb:H b=some (.lst ys))(ho:Off φ s b):Rp Γ φ (upd H b (.lst h)) s:=by
 have g:Gw φ s.length H φ (upd H b (.lst h)):=⟨λ _ _=>rfl,(Kp.refl H).put hb rfl⟩
 exact⟨r.inj,λ i o e=>(r.obj i o e).mono g (r.wf i o e) λ m u F=>by rw[zb (ho i o e m)];exact F,r.wf,r.tab.put hb⟩
theorem Gr.foreign {φ φ':Nat->Addr}{s s':kG}{H H':Hp}{b:Addr}{ys G:List V}(g:Gr φ s H φ' s' H')(h0:H b=none)(hb:H' b=some (.lst ys)):Gr φ s H φ' s' (upd H' b (.lst G)):=by
 have ne:∀ c o,H c=some o->c≠b:=λ c o e=>zm e h0
 refine⟨⟨g.w.map,λ c o e f=>?_⟩,g.le,g.new,g.kd,λ c hc=>?_,λ c o e h F=>?_⟩
 ·rw[zb (ne c o e)];exact g.w.kp c o e f
 ·unfold upd;split
  ·simp
  ·exact g.st c hc
 ·rw[zb (ne c o e)];exact g.fr c o e h F
def bE3 (Γ:Gm)(φ:Nat->Addr)(s:kG)(H:Hp)(l:List kH)(s':kG)(Q:VK):Prop :=
 ∀ p ys φ' H',Gr φ s H φ' s' H'->s.length<=s'.length->kI s'.length l=true->H' p=some (.lst ys)->H p=none->Off φ' s' p->RVL Γ φ' H' l ys->Rp Γ φ' H' s'->Q (.ref p) H'
def TFv (Γ:Gm)(m:kJ->kG->kK (List kH)):TE:=λ σ H Q=>∃ φ ρ s l s',RE Γ φ H s.length ρ σ/\Rp Γ φ H s/\m ρ s=.ok l s'/\bE3 Γ φ s H l s' Q
theorem aP4 {m:kJ->kG->kK (List kH)}{σ:St}{H:Hp}{Q:VK}(h:TEv Γ (λ ρ s=>(m ρ s).bind λ l s=>lz (.lst l) s) σ H Q):TFv Γ m σ H Q:=by
 obtain⟨φ,ρ,s,d,s',E,R,Z,q⟩:=h
 obtain⟨l,s1,e1,Z⟩:=aa0 Z
 obtain⟨rfl,rfl⟩:=zR Z
 refine⟨φ,ρ,s,l,s1,E,R,e1,λ p ys φ' H' g hl hb hp h0 ho r J=>?_⟩
 have gw:Gw φ' s1.length H' (λ i=>if i=s1.length then p else φ' i) H':=⟨λ i hi=>if_neg (ay hi),Kp.refl _⟩
 have key:∀(i:Nat) (F:la),(s1++[DV.O.lst l])[i]?=some F->(i<s1.length/\s1[i]?=some F)\/(i=s1.length/\F=.lst l):=λ i F e=>by
  rcases fL i s1.length with h|h|h
  ·rw[aJ h]at e;exact .inl ⟨h,e⟩
  ·subst h;simp at e;exact .inr ⟨rfl,e.symm⟩
  ·rw[bS (by simp;omega)]at e;cases e
 have G:Gr φ s H (λ i=>if i=s1.length then p else φ' i) (s1++[.lst l]) H':=by
  refine⟨⟨λ i hi=>by show(if i=s1.length then p else φ' i)=_;rw[if_neg (by omega)];exact g.w.map i hi,g.w.kp⟩,by simp;omega,λ i h1 h2=>?_,λ i o F e e'=>?_,g.st,g.fr⟩
  ·by_cases hi:i=s1.length
   ·show H (if i=s1.length then p else φ' i)=none
    rw[if_pos hi];exact h0
   ·show H (if i=s1.length then p else φ' i)=none
    rw[if_neg hi];exact g.new i h1 (by simp at h2;omega)
  ·rcases key i F e' with⟨_,e2⟩|⟨hi,_⟩
   ·exact g.kd i o F e e2
   ·have:=(ac.mp e).1;omega
 have P:Rp Γ (λ i=>if i=s1.length then p else φ' i) H' (s1++[.lst l]):=by
  refine⟨λ i j oi oj Y ej mi mj e=>?_,λ i o e=>?_,λ i o e=>?_,J.tab⟩
  ·rcases key i oi Y with⟨hi,Y⟩|⟨hi,_⟩<;>rcases key j oj ej with⟨hj,ej⟩|⟨hj,_⟩
   ·rw[if_neg (ay hi),if_neg (ay hj)]at e
    exact J.inj i j oi oj Y ej mi mj e
   ·rw[if_neg (ay hi),if_pos hj]at e
    exact absurd e (ho i oi Y mi)
   ·rw[if_neg (ay hj),if_pos hi]at e
    exact absurd e.symm (ho j oj ej mj)
   ·rw[hi,hj]
  ·rcases key i o e with⟨hi,e⟩|⟨hi,rfl⟩
   ·show RO Γ _ _ (if i=s1.length then p else φ' i) o
    rw[if_neg (ay hi)]
    exact(J.obj i o e).mono gw (J.wf i o e) λ _ u hu=>hu
   ·show RO Γ _ _ (if i=s1.length then p else φ' i) _
    rw[if_pos hi]
    exact⟨ys,hp,RVL.monoW gw l ys hb r⟩
  ·rw[aR,b9]
   rcases key i o e with⟨_,e⟩|⟨_,rfl⟩
   ·exact zN (cM _) _ (J.wf i o e)
   ·exact zN (cM _) _ (by unfold kM;exact hb)
 exact q (.ref p) _ H' G (by simp;omega) (by unfold kN;simp) (by unfold RV;simp) P
theorem bA7 {φ:Nat->Addr}{H:Hp}{n:Nat}{ρ:kJ}{σ:St}(E:RE Γ φ H n ρ σ)(h:List (Option Nat)):RE Γ φ H n (lK ρ h) (au0 h σ):=by
 refine⟨by unfold lK au0;simp,λ i d e=>?_⟩
 unfold lK at e
 rw[aB]at e
 cases q:h[i]? with
 | none=>rw[q]at e;cases e
 | some o =>
  rw[q]at e
  cases o with
  | none=>cases e
  | some j =>
   have e':(ρ[j]?).join=some d:=au e
   have ej:ρ[j]?=some (some d):=by
    cases q2:ρ[j]? with
    | none=>rw[q2]at e';cases e'
    | some o2=>rw[q2]at e';exact congrArg some e'
   obtain⟨b,v,G,F⟩:=E.val j d ej
   refine⟨b,v,?_,F⟩
   unfold au0
   rw[aB,q]
   show some ((σ[j]?).join)=_
   rw[G];rfl
theorem aQ0 {mI:kJ->kG->kK lx}{mc me:kJ->kG->kK kH}{tg:lr}{Y:List (Option Nat)}{σ:St}{H:Hp}{Q:VK}
  (h:TFv Γ (λ ρ s=>(mI ρ s).bind λ q s0=>if q.its.length<=kP then lJ (λ s=>lv s0 s q.src) (λ d ρ s=>match k9 ρ tg d with
   | some ρ=>kS (mc ρ s) λ k s=>if k then(me ρ s).bind λ v s=>.ok (some v,ρ) s else .ok (none,ρ) s
   | none=>.bad) q.its (lK ρ Y) s0 else .bad) σ H Q):tComp Y (TIv Γ mI) (gOf Γ.K tg) (TTv Γ mc) (TEv Γ me) σ H Q:=by
 obtain⟨φ,ρ,s,l,s',E,R,hm,k⟩:=h
 obtain⟨q,s0,e1,hm⟩:=aa0 hm
 split at hm
 case isFalse=>exact fb hm
 rename_i b6
 refine⟨φ,ρ,s,q,s0,E,R,e1,λ J φ1 H1 g1 l1 b1 R1 wk D hD=>?_⟩
 have h0:H D=none:=by
  cases e:H D with
  | none=>rfl
  | some o=>exact absurd hD (g1.st D (by rw[e];simp))
 refine⟨λ i m σ' H'=>∃ φ' ρ' t F ys rest,Gr φ1 s0 H1 φ' t H'/\Rp Γ φ' H' t/\RE Γ φ' H' t.length ρ' σ'/\H' D=some (.lst ys)/\Off φ' t D/\RVL Γ φ' H' F ys/\kI t.length F=true/\F.length<=i/\i<=q.its.length/\m=q.its.length - i /\
  lJ (λ s=>lv s0 s q.src) (λ d ρ s=>match k9 ρ tg d with
   | some ρ=>kS (mc ρ s) λ k s=>if k then(me ρ s).bind λ v s=>.ok (some v,ρ) s else .ok (none,ρ) s
   | none=>.bad) (q.its.drop i) ρ' t=.ok rest s'/\l=F++rest,⟨q.its.length,?_⟩,?_⟩
 ·obtain⟨g2,R2⟩:=R1.same (H':=upd H1 D (.lst [])) ((ac1.refl H1).new hD)
  exact⟨φ1,lK ρ Y,s0,[],[],l,g2,R2,bA7 ((E.mono g1 l1).mono g2 (am _)) Y,zg,Off.new R1 hD,.nil,rfl,am _,eO _,by simp,by rw[fw];exact hm,rfl⟩
 ·rintro i m σ' H' ⟨φ',ρ',t,F,ys,rest,g,R',E',hy,a3,ra,ba,c1,c0,rfl,hc,hl⟩
  have G:=g.le
  rcases kj i q.its.length with hlt|hge
  ·have hd:q.its[i]?=some q.its[i]:=ag hlt
   rw[cG hlt]at hc
   unfold lJ at hc
   split at hc
   case isFalse=>exact fb hc
   rename_i a2
   obtain⟨b0,b2⟩:=(wk φ' H' t g G R' a2 i).1 hlt
   refine .inr ⟨b0,_,λ σ2 H2 n=>⟨q.its.length - (i+1),by omega,n⟩,λ x H2 b3=>?_⟩
   obtain⟨sm,rv⟩:=b2 x H2 b3
   obtain⟨g2,R2⟩:=R'.same sm
   have rd:=rv _ hd
   have bd:(q.its[i]).bnd t.length=true:=zl G _ (ae4 b1 hd)
   obtain⟨p,t3,hs,hc⟩:=aa0 hc
   obtain⟨r2,t4,a5,hc⟩:=aa0 hc
   cases hb:k9 ρ' tg q.its[i]with
   | none=>rw[hb]at hs;cases hs
   | some ρ3 =>
    rw[hb]at hs
    refine bq9 (E'.mono g2 (am _)) rd bd hb λ σ3 E3=>?_
    obtain⟨c,t1,ec,hs⟩:=zz hs
    refine⟨φ',ρ3,t,c,t1,E3,R2,ec,λ φ2 H4 g4 l4 R4=>?_⟩
    have a6:H2 D=some (.lst ys):=sm _ _ hy
    have a4:H4 D=some (.lst ys):=g4.fr D _ a6 (by nofun) a3
    have Z:Off φ2 t1 D:=a3.mono g4 a6
    have G4:=(g.trans g2 G).trans g4 G
    cases c with
    | true =>
     rw[if_pos rfl]at hs
     refine iteT ?_
     obtain⟨v,t2,ev,hs⟩:=aa0 hs
     cases hs
     refine⟨φ2,ρ3,t1,v,t3,E3.mono g4 l4,R4,ev,λ w φ3 H5 g5 l5 b5 r5 R5=>?_⟩
     have a0:H5 D=some (.lst ys):=g5.fr D _ a4 (by nofun) Z
     have a1:Off φ3 t3 D:=Z.mono g5 a4
     refine⟨ys,a0,?_,?_⟩
     ·rw[ra.length]
      have:=zX
      omega
     ·have gw:Gw φ3 t3.length H5 φ3 (upd H5 D (.lst (ys++[w]))):=⟨λ _ _=>rfl,(Kp.refl H5).put a0 rfl⟩
      have G5:=G4.trans g5 (av G l4)
      have GG:=g2.trans (g4.trans g5 l4) (am _)
      have b4:RVL Γ φ3 H5 F ys:=RVL.mono GG _ _ ba ra
      have bb:kI t3.length (F++[v])=true:=zF (aa3 GG.le _ ba) (by unfold kI;rw[b5];rfl)
      refine⟨φ3,ρ3,t3,F++[v],ys++[w],r2,G5.foreign hD a0,R5.foreign a0 a1,?_,zg,a1,RVL.monoW gw _ _ bb (b4.append (.cons r5 .nil)),bb,by simp;omega,hlt,rfl,?_,?_⟩
      ·have E5:=(E3.mono g4 l4).mono g5 l5
       exact⟨E5.len,λ j e hj=>by
        obtain⟨h1,z,h2,h3⟩:=E5.val j e hj
        exact⟨h1,z,h2,RV.monoW gw _ _ h1 h3⟩⟩
      ·cases hc;exact a5
      ·cases hc;rw[hl];simp
    | false =>
     rw[if_neg aQ]at hs
     refine bU3 ?_
     cases hs
     have GG:=g2.trans g4 (am _)
     exact⟨φ2,ρ3,t3,F,ys,r2,G4,R4,E3.mono g4 l4,a4,Z,RVL.mono GG _ _ ba ra,aa3 l4 _ ba,by omega,hlt,rfl,by cases hc;exact a5,by cases hc;exact hl⟩
  ·have hi:i=q.its.length:=by omega
   rw[gB hge]at hc
   unfold lJ at hc
   split at hc
   case isFalse=>exact fb hc
   rename_i a2
   cases hc
   refine .inl ⟨(wk φ' H' s' g G R' a2 i).2 hge,?_⟩
   rw[bQ]at hl
   subst hl
   exact k D ys φ' H' (g1.trans g l1) (av l1 G) ba hy h0 a3 ra R'
variable {Γ:Gm} {X:Cx}
noncomputable def bT6 (Γ:Gm)(φ:Nat->Addr)(H:Hp)(n:Nat)(D:Ends):ls->Prop
 | .next ρ=>∀ σ,RE Γ φ H n ρ σ->D.nx σ H
 | .ret d=>∀ v,d.bnd n=true->RV Γ φ H d v->D.rt v H
 | .cont ρ=>∀ σ,RE Γ φ H n ρ σ->D.ct σ H
 | .brk ρ=>∀ σ,RE Γ φ H n ρ σ->D.bk σ H
def aj8 (Γ:Gm)(φ:Nat->Addr)(s:kG)(H:Hp)(c:ls)(s':kG)(D:Ends):Prop :=
 ∀ φ' H',Gr φ s H φ' s' H'->s.length<=s'.length->Rp Γ φ' H' s'->bT6 Γ φ' H' s'.length D c
def TSv (Γ:Gm)(m:kJ->kG->kK ls):TS:=λ D σ H=>∃ φ ρ s c s',RE Γ φ H s.length ρ σ/\Rp Γ φ H s/\m ρ s=.ok c s'/\aj8 Γ φ s H c s' D
theorem PS.imp {e:Stmt}{t t':TS}(h:PS X e t)(i:∀ D σ H,t' D σ H->t D σ H):PS X e t':=λ F s σ H Q I q=>h F s σ H Q I (i Q σ H q)
theorem PSs.imp {e:List Stmt}{t t':TS}(h:PSs X e t)(i:∀ D σ H,t' D σ H->t D σ H):PSs X e t':=λ F s σ H Q I q=>h F s σ H Q I (i Q σ H q)
theorem aj8.trans {φ φ1:Nat->Addr}{s s1 s':kG}{H F:Hp}{c:ls}{D:Ends}(h:aj8 Γ φ s H c s' D)(g:Gr φ s H φ1 s1 F)(l:s.length<=s1.length):aj8 Γ φ1 s1 F c s' D :=
 λ φ' H' g' G p=>h φ' H' (g.trans g' l) (av l G) p
theorem aj8.here {φ:Nat->Addr}{s:kG}{H:Hp}{c:ls}{D:Ends}(h:aj8 Γ φ s H c s D)(p:Rp Γ φ H s):bT6 Γ φ H s.length D c:=h φ H (Gr.refl φ s H) (am _) p
variable {D:Ends} {σ:St} {H:Hp}
theorem bs3 {m:kJ->kG->kK ls}(F:∀ ρ s,m ρ s=.ok (.next ρ) s)(h:TSv Γ m D σ H):bC6 D σ H:=by
 obtain⟨φ,ρ,s,c,s',E,R,e,q⟩:=h
 rw[F]at e;cases e
 exact q.here R σ E
theorem bu8 (h:TSv Γ (λ ρ s=>.ok (.cont ρ) s) D σ H):by5 D σ H:=by
 obtain⟨φ,ρ,s,c,s',E,R,e,q⟩:=h
 cases e
 exact q.here R σ E
theorem bH4 {m:kJ->kG->kK kH}(h:TSv Γ (λ ρ s=>(m ρ s).bind λ d s=>.ok (.ret d) s) D σ H):bS0 (TEv Γ m) D σ H:=by
 obtain⟨φ,ρ,s,c,s',E,R,e,q⟩:=h
 obtain⟨x,s1,e1,e⟩:=aa0 e
 cases e
 exact⟨φ,ρ,s,x,_,E,R,e1,λ v φ1 G g1 l1 F r1 R1=>q φ1 G g1 l1 R1 v F r1⟩
theorem bk6 {m:kJ->kG->kK kH}(h:TSv Γ (λ ρ s=>(m ρ s).bind λ _ s=>.ok (.next ρ) s) D σ H):bF1 (TEv Γ m) D σ H:=by
 obtain⟨φ,ρ,s,c,s',E,R,e,q⟩:=h
 obtain⟨x,s1,e1,e⟩:=aa0 e
 cases e
 exact⟨φ,ρ,s,x,_,E,R,e1,λ v φ1 F g1 l1 G r1 R1=>q φ1 F g1 l1 R1 σ (E.mono g1 l1)⟩
theorem aP0 {m:kJ->kG->kK kH}{tg:lr}(h:TSv Γ (λ ρ s=>(m ρ s).bind λ d s=>match k9 ρ tg d with|some ρ=>.ok (.next ρ) s|none=>.bad) D σ H):aY1 (TEv Γ m) (gOf Γ.K tg) D σ H:=by
 obtain⟨φ,ρ,s,c,s',E,R,e,q⟩:=h
 obtain⟨x,s1,e1,e⟩:=aa0 e
 refine⟨φ,ρ,s,x,s1,E,R,e1,λ v φ1 J g1 l1 G r1 R1=>?_⟩
 cases hb:k9 ρ tg x with
 | none=>rw[hb]at e;cases e
 | some ρ1 =>
  rw[hb]at e
  cases e
  exact bq9 (E.mono g1 l1) r1 G hb λ σ' F=>q φ1 J g1 l1 R1 σ' F
theorem bb4 {m:kJ->kG->kK (List kH)}(h:TSv Γ (λ ρ s=>((m ρ s).bind λ l s=>lz (.lst l) s).bind λ d s=>match k9 ρ tg d with|some ρ=>.ok (.next ρ) s|none=>.bad) D σ H):aY1 (TFv Γ m) (gOf Γ.K tg) D σ H :=
 aP4 (aP0 h)
def bD1 (Γ:Gm):bJ6:=λ o i v H Q=>∃ φ s x y d s',Rp Γ φ H s/\RV Γ φ H x o/\RV Γ φ H y i/\RV Γ φ H d v/\x.bnd s.length=true/\y.bnd s.length=true/\d.bnd s.length=true/\DV.setIx x y d s=.ok () s' /\
 ∀ φ' H',Gr φ s H φ' s' H'->s.length<=s'.length->Rp Γ φ' H' s'->Q H'
theorem bb1 {me mo mi:kJ->kG->kK kH}(h:TSv Γ (λ ρ s=>(me ρ s).bind λ d s=>(mo ρ s).bind λ x s=>(mi ρ s).bind λ y s=>(DV.setIx x y d s).bind λ _ s=>.ok (.next ρ) s) D σ H) :
  aY1 (TEv Γ me) (bR7 (TEv Γ mo) (TEv Γ mi) (bD1 Γ)) D σ H:=by
 obtain⟨φ,ρ,s,c,s',E,R,e,q⟩:=h
 obtain⟨d,s1,e1,e⟩:=aa0 e
 obtain⟨x,s2,e2,e⟩:=aa0 e
 obtain⟨y,s3,e3,e⟩:=aa0 e
 obtain⟨u,s4,e4,e⟩:=aa0 e
 cases e
 refine⟨φ,ρ,s,d,s1,E,R,e1,λ v1 φ1 H1 g1 l1 b1 r1 R1=>?_⟩
 refine⟨φ1,ρ,s1,x,s2,E.mono g1 l1,R1,e2,λ v2 φ2 H2 g2 F b2 r2 R2=>?_⟩
 have Z:=g1.trans g2 l1
 have L2:=av l1 F
 refine⟨φ2,ρ,s2,y,s3,E.mono Z L2,R2,e3,λ v3 φ3 H3 J G b3 r3 R3=>?_⟩
 refine⟨φ3,s3,x,y,d,_,R3,RV.mono J x v2 b2 r2,r3,RV.mono (g2.trans J F) d v1 b1 r1,zl G x b2,b3,zl (av F G) d b1,e4,λ φ4 H4 g4 Y R4=>?_⟩
 have G3:=Z.trans J L2
 have L3:=av L2 G
 exact q φ4 H4 (G3.trans g4 L3) (av L3 Y) R4 σ (E.mono (G3.trans g4 L3) (av L3 Y))
theorem bH5 (hu:X.A.units+1<cLine):bQ6 X (bD1 Γ):=by
 intro a0 sh σ H o i v ov iv u Q I ro ri rv h
 obtain⟨φ,s,x,y,d,s',R,rx,ry,rd,bx,a1,bd,F,q⟩:=h
 cases x with
 | ref r =>
  have F:(match s[r]? with
   | some (.lst l)=>(match y with
    | .int i=>(match lj l.length i with|some j=>DV.R.ok () (s.set r (.lst (l.set j d)))|none=>.bad)
    | _=>.bad)
   | some (.dic l)=>if y.key&&decide (l.length<kP)then .ok () (s.set r (.dic (kX y d l)))else .bad
   | some (.dit l)=>if y.keyT&&decide (l.length<kP)then .ok () (s.set r (.dit (kX y d l)))else .bad
   | _=>.bad)=.ok () s':=F
  cases e:s[r]? with
  | none=>rw[e]at F;cases F
  | some ob =>
   rw[e]at F
   cases ob with
   | lst l =>
    cases y with
    | int k =>
     have F:(match lj l.length k with|some j=>DV.R.ok () (s.set r (.lst (l.set j d)))|none=>.bad)=.ok () s':=F
     cases ej:lj l.length k with
     | none=>rw[ej]at F;cases F
     | some j =>
      rw[ej]at F
      cases F
      obtain⟨xs,Z,G⟩:=R.addr e
      have hb:kI s.length (l.set j d)=true:=aa2.mpr λ z hz=>by
       rcases fB hz with h|h
       ·exact aa2.mp (by have:=R.wf r _ e;unfold kM at this;exact this) z h
       ·subst h;exact bd
      refine aW9 a0 sh σ H o i v ov iv u Q I ro ri rv ⟨φ r,xs,k,j,rx.refE,ry.intE,Z,?_,?_⟩
      ·rw[G.length];exact ej
      ·obtain⟨g,R'⟩:=R.set (o:=.lst (l.set j d)) (u:=.lst (xs.set j v)) e rfl hb λ H' g e=>⟨_,e,RVL.monoW g _ _ hb (G.set j rd)⟩
       exact q _ _ g (by simp) R'
    | _=>exact fb F
   | dic l =>
    have F:(if y.key&&decide (l.length<kP)then DV.R.ok () (s.set r (.dic (kX y d l)))else .bad)=.ok () s':=F
    split at F
    case isFalse=>exact fb F
    rename_i hc
    cases F
    rw[aj]at hc
    obtain⟨k,hk⟩:=ah2 hc.1
    have hlt:=of_decide_eq_true hc.2
    obtain⟨Y,Z,G⟩:=R.obj r _ e
    have ex:=rx.refE;subst ex
    cases ro
    have ey:=au2 hk ry;subst ey
    have hb:(DV.O.dic (kX y d l)).bnd s.length=true:=aC1 (R.wf r _ e) a1 bd
    have J:kI s.length ((kX y d l).map (·.2))=true:=by
     unfold kM at hb
     rw[aj]at hb
     exact hb.2
    obtain⟨g,R'⟩:=R.set (o:=.dic (kX y d l)) (u:=.dK (an4 Y k v)) e rfl hb λ H' g e=>⟨_,e,RVD.monoW g _ _ J (G.put keyOf_inj hk rd)⟩
    exact at7 hu I (bt2.k Z (by rw[G.length];exact ao hlt zX)) ri rv λ s4 I4=>⟨_,I4,q _ _ g (by simp) R'⟩
   | dit l =>
    have F:(if y.keyT&&decide (l.length<kP)then DV.R.ok () (s.set r (.dit (kX y d l)))else .bad)=.ok () s':=F
    split at F
    case isFalse=>exact fb F
    rename_i hc
    cases F
    rw[aj]at hc
    obtain⟨k,hk⟩:=aj2 hc.1
    have hlt:=of_decide_eq_true hc.2
    obtain⟨Y,Z,G⟩:=R.obj r _ e
    have ex:=rx.refE;subst ex
    cases ro
    obtain⟨kb,ey,hkb⟩:=av6 hk ry;subst ey
    have hb:(DV.O.dit (kX y d l)).bnd s.length=true:=ba1 (R.wf r _ e) a1 bd
    have J:kI s.length ((kX y d l).map (·.2))=true:=by
     unfold kM at hb
     rw[aj]at hb
     exact hb.2
    obtain⟨g,R'⟩:=R.set (o:=.dit (kX y d l)) (u:=.dT (an4 Y k v)) e rfl hb λ H' g e=>⟨_,e,RVD.monoW g _ _ J (G.put keyT_inj hk rd)⟩
    exact at7 hu I (bt2.t Z hkb (by rw[G.length];exact ao hlt zX)) ri rv λ s4 I4=>⟨_,I4,q _ _ g (by simp) R'⟩
   | _=>exact fb F
 | _=>exact fb F
theorem bN3 {mc:kJ->kG->kK kH}{G J:kJ->kG->kK ls}(h:TSv Γ (λ ρ s=>kS (mc ρ s) λ k s=>if k then G ρ s else J ρ s) D σ H):bS5 (TTv Γ mc) (TSv Γ G) (TSv Γ J) D σ H:=by
 obtain⟨φ,ρ,s,d,s',E,R,F,q⟩:=h
 obtain⟨c,s1,e1,F⟩:=zz F
 refine⟨φ,ρ,s,c,s1,E,R,e1,λ φ1 Y g1 l1 R1=>?_⟩
 cases c with
 | true =>
  rw[if_pos rfl]at F ⊢
  exact⟨φ1,ρ,s1,d,s',E.mono g1 l1,R1,F,q.trans g1 l1⟩
 | false =>
  rw[if_neg aQ]at F ⊢
  exact⟨φ1,ρ,s1,d,s',E.mono g1 l1,R1,F,q.trans g1 l1⟩
theorem bx2 {J Y:kJ->kG->kK ls}(h:TSv Γ (λ ρ s=>(J ρ s).bind λ c s=>match c with|.next ρ=>Y ρ s|c=>.ok c s) D σ H):bS2 (TSv Γ J) (TSv Γ Y) D σ H:=by
 obtain⟨φ,ρ,s,c,s',E,R,F,q⟩:=h
 obtain⟨Z,s1,e1,F⟩:=aa0 F
 refine⟨φ,ρ,s,Z,s1,E,R,e1,λ φ1 G g1 l1 R1=>?_⟩
 cases Z with
 | next ρ1=>exact λ σ1 E1=>⟨φ1,ρ1,s1,c,s',E1,R1,F,q.trans g1 l1⟩
 | ret d=>cases F;exact q φ1 G g1 l1 R1
 | cont ρ=>cases F;exact q φ1 G g1 l1 R1
 | brk ρ=>cases F;exact q φ1 G g1 l1 R1
theorem aY8 {mc:kJ->kG->kK kH}{J:kJ->kG->kK ls}(h:TSv Γ (DV.whl mc J) D σ H):bf9 (TTv Γ mc) (TSv Γ J) D σ H:=by
 obtain⟨φ,ρ,s,c,s',E,R,F,q⟩:=h
 unfold DV.whl at F
 split at F
 case isFalse=>exact fb F
 rename_i hn
 generalize hn.choose=n at F
 refine⟨λ n σ H=>∃ φ ρ s,RE Γ φ H s.length ρ σ/\Rp Γ φ H s/\DV.qG mc J n ρ s=.ok c s'/\aj8 Γ φ s H c s' D,⟨n,φ,ρ,s,E,R,F,q⟩,?_⟩
 clear E R F q hn
 rintro n σ H ⟨φ,ρ,s,E,R,F,q⟩
 cases n with
 | zero=>exact fb F
 | succ n =>
  unfold DV.qG at F
  obtain⟨b,s1,e1,F⟩:=zz F
  refine⟨φ,ρ,s,b,s1,E,R,e1,λ φ1 H1 g1 l1 R1=>?_⟩
  cases b with
  | false =>
   rw[if_neg aQ]at F ⊢
   cases F
   exact q φ1 H1 g1 l1 R1 σ (E.mono g1 l1)
  | true =>
   rw[if_pos rfl]at F ⊢
   obtain⟨c1,s2,e2,F⟩:=aa0 F
   refine⟨_,λ σ' H' w=>⟨n,dB n,w⟩,φ1,ρ,s1,c1,s2,E.mono g1 l1,R1,e2,λ φ2 Z g2 l2 R2=>?_⟩
   have G:=g1.trans g2 l1
   have L:=av l1 l2
   cases c1 with
   | next ρ1=>exact λ σ1 Y=>⟨φ2,ρ1,s2,Y,R2,F,q.trans G L⟩
   | cont ρ1=>exact λ σ1 Y=>⟨φ2,ρ1,s2,Y,R2,F,q.trans G L⟩
   | ret d=>cases F;exact q φ2 Z G L R2
   | brk ρ=>cases F;exact q φ2 Z G L R2
theorem bw3 {mI : DV.Env -> DV.Sto -> DV.R DV.Sq} {mb : DV.Env -> DV.Sto -> DV.R DV.Ct} {tg : DV.Tg} (h : TSv Γ (λ ρ s => (mI ρ s).bind λ q s0 => DV.aJ8 (λ s => DV.chk s0 s q.src) (λ d ρ s => match DV.ab8 ρ tg d with
      | some ρ => mb ρ s
      | none => .bad) q.its ρ s0) D σ H) : bS9 (TIv Γ mI) (gOf Γ.K tg) (TSv Γ mb) D σ H := by
  obtain⟨φ, ρ, s, c, s', E, R, hm, k⟩ := h
  obtain⟨q, s0, e1, hm⟩ := aa0 hm
  refine⟨φ, ρ, s, q, s0, E, R, e1, λ J φ1 H1 g1 l1 b1 R1 wk => ?_⟩
  refine⟨λ i m σ' H' => ∃ φ' ρ' t, Gr φ1 s0 H1 φ' t H' /\ Rp Γ φ' H' t /\ RE Γ φ' H' t.length ρ' σ' /\ i <= q.its.length /\ m = q.its.length - i /\
    l7 (λ s => lv s0 s q.src) (λ d ρ s => match k9 ρ tg d with
      | some ρ => mb ρ s
      | none => .bad) (q.its.drop i) ρ' t = .ok c s', ⟨q.its.length, ?_⟩, ?_⟩
  · exact⟨φ1, ρ, s0, Gr.refl _ _ _, R1, E.mono g1 l1, eO _, by simp, by rw[fw]; exact hm⟩
  · rintro i m σ' H' ⟨φ', ρ', t, g, R', E', hil, rfl, hc⟩
    have hle := g.le
    rcases kj i q.its.length with hlt|hge
    · have hd : q.its[i]? = some q.its[i] := ag hlt
      rw[cG hlt]at hc
      unfold l7 at hc
      split at hc
      case isFalse => exact fb hc
      rename_i hck
      obtain⟨hgo, hy2⟩ := (wk φ' H' t g hle R' hck i).1 hlt
      refine .inr ⟨hgo, _, λ σ2 H2 n => ⟨q.its.length - (i + 1), by omega, n⟩, λ x H2 hyl => ?_⟩
      obtain⟨sm, rv⟩ := hy2 x H2 hyl
      obtain⟨g2, R2⟩ := R'.same sm
      have rd := rv _ hd
      have bd : (q.its[i]).bnd t.length = true := zl hle _ (ae4 b1 hd)
      obtain⟨c1, t3, hs, hc⟩ := aa0 hc
      cases hb : k9 ρ' tg q.its[i]with
      | none => rw[hb]at hs; cases hs
      | some ρ3 =>
        rw[hb]at hs
        refine bq9 (E'.mono g2 (am _)) rd bd hb λ σ3 E3 => ?_
        refine⟨φ', ρ3, t, c1, t3, E3, R2, hs, λ φ2 H4 g4 l4 R4 => ?_⟩
        have G4 := (g.trans g2 hle).trans g4 hle
        have L4 := av hle l4
        have GG := g1.trans G4 l1
        cases c1 with
        | next ρ1 => exact λ σ1 E1 => ⟨φ2, ρ1, t3, G4, R4, E1, hlt, rfl, hc⟩
        | cont ρ1 => exact λ σ1 E1 => ⟨φ2, ρ1, t3, G4, R4, E1, hlt, rfl, hc⟩
        | ret d => cases hc; exact k φ2 H4 GG (av l1 L4) R4
        | brk ρ => cases hc; exact k φ2 H4 GG (av l1 L4) R4
    · rw[gB hge]at hc
      unfold l7 at hc
      split at hc
      case isFalse => exact fb hc
      rename_i hck
      cases hc
      exact .inl ⟨(wk φ' H' s' g hle R' hck i).2 hge, k φ' H' (g1.trans g l1) (av l1 hle) R' σ' E'⟩
structure Ck where
 N:List Str
 sc:Scope
 lk:String->List Nat->Expr->Bool
noncomputable abbrev ck0 (N:List Str)(sc:Scope):Ck:=⟨N,sc,λ _ _ _=>false⟩
noncomputable def Ck.vis (c:Ck)(x:Str):Bool:=match c.sc.names.lookup x with|some .local=>true|some .cell=>true|some .free=>true|_=>false
noncomputable def Ck.loc (c:Ck)(x:Str):Bool:=match c.sc.names.lookup x with|some .local=>true|some .cell=>true|_=>false
noncomputable def Ck.gl (c:Ck)(x:Str):Bool:=(match c.sc.names.lookup x with|some .globalImplicit=>true|_=>false)&&!(x==("__debug__":Str))&&!decide (x=("__name__":Str))
noncomputable def Ck.var (c:Ck)(i:Nat)(x:Str):Bool:=decide (c.N[i]?=some x)&&c.vis x&&!(x==("__debug__":Str))&&!(x==("__classdict__":Str))
noncomputable def shp:Expr->Bool
 | .Starred ..=>false
 | .Set ..=>false
 | .SetComp ..=>false
 | .DictComp ..=>false
 | .GeneratorExp ..=>false
 | .Slice ..=>false
 | .NamedExpr ..=>false
 | _=>true
noncomputable def at9:Expr->Bool
 | .ListComp ..=>false
 | .SetComp ..=>false
 | .DictComp ..=>false
 | _=>true
noncomputable def bC1:Expr->Bool
 | .Tuple ..=>false
 | _=>true
noncomputable def bL1:Expr->Bool
 | .Call _ [] [] _=>false
 | _=>true
noncomputable def mC:DV.Cn->Const->Bool
 | .non,.none=>true
 | .bl b,.bool c=>b==c
 | .int i,.int j=>decide (i=j)
 | .str x,.str y=>decide (y=⟨x.toArray⟩)&&decide (x.length<=1000)
 | _,_=>false
noncomputable def bI6 (ck:Ck):List Nat->List Expr->Bool
 | [],[]=>true
 | i::is,.Name x _::es=>decide (ck.N[i]?=some x)&&ck.loc x&&bI6 ck is es
 | _,_=>false
noncomputable def mTg (ck:Ck):lr->Expr->Bool
 | .one i,.Name x _=>decide (ck.N[i]?=some x)&&ck.loc x
 | .tup is,.Tuple es _ _=>bI6 ck is es
 | _,_=>false
noncomputable def tgN:Expr->List Str
 | .Name x _=>[x]
 | .Tuple es _ _=>es.filterMap λ e=>match e with|.Name x _=>some x|_=>none
 | _=>[]
structure ItT where
 x:Str
 y:Str
 ob:Expr
 sc:Scope
 p1:Pos
 p2:Pos
 p3:Pos
 p4:Pos
 p5:Pos
 p6:Pos
 p7:Pos
 k1:Nat
 k2:Nat
 ap:Pos
 cp:Pos
 pos:Pos
noncomputable def ItT.tg (q:ItT):Expr:=.Tuple [.Name q.x q.p5,.Name q.y q.p6] q.k2 q.p7
noncomputable def ItT.it (q:ItT):Expr:=.Call (.Attribute q.ob "items" q.ap) [] [] q.cp
noncomputable def ItT.text (q:ItT):Expr:=.ListComp (.BinOp (.Name q.x q.p1) .Add (.Tuple [.Name q.y q.p2] q.k1 q.p3) q.p4) [⟨q.tg,q.it,[],0⟩] q.sc q.pos
noncomputable def ckC (ck:Ck)(tgt:Expr)(caps:List (Option Nat))(scope:Scope):Ck:=⟨tgN tgt++(caps.filterMap id).map λ j=>ck.N.getD j "",scope,λ _ _ _=>false⟩
noncomputable def aI6 (ck:Ck)(tg:lr)(tgt iter:Expr)(caps:List (Option Nat))(scope:Scope):Bool :=
 zJ (ckC ck tgt caps scope).N caps scope ck.N ck.sc&&decide ((ckC ck tgt caps scope).N.Nodup)&&mTg (ckC ck tgt caps scope) tg tgt&&shp iter
noncomputable def bB5:Expr->Bool
 | .Tuple ..=>true
 | _=>false
noncomputable def biT:lq->Option Str
 | .len=>some "len" | .abs=>some "abs" | .min2=>some "min" | .max2=>some "max" | .int=>some "int" | _=>none
noncomputable def biK:lq->Option (Nat×Str)
 | .isInt=>some (1, "int")|.isBool=>some (2, "bool")|.isStr=>some (3, "str")|.isTup=>some (4, "tuple")|.isList=>some (5, "list")|_=>none
noncomputable def mkT:lU->Option Str
 | .tuple=>some "tuple" | .list=>some "list" | _=>none
noncomputable def mkF:lU->Option Str
 | .all=>some "all" | .min=>some "min" | _=>none
noncomputable def mtT:lV->Option (Str×Nat)
 | .append=>some ("append",1)|.reverse=>some ("reverse",0)|_=>none
noncomputable def bR9:Expr->Bool
 | .UnaryOp .USub (.Constant (.int i) _ _) _=>decide (i=1)
 | _=>false
noncomputable def bJ1 (ck:Ck)(b:lq)(x:Str)(xs:List Expr)(m1 m2:Bool):Bool:=match biK b with
 | some p=>(match xs with|[_,.Name y _]=>decide (x=("isinstance":Str))&&ck.gl x&&decide (y=p.2)&&ck.gl y&&m2|_=>false)
 | none=>(match xs with|_::_=>decide (biT b=some x)&&ck.gl x&&m1|[]=>false)
noncomputable def qv:bD->Option (List Str)
 | ⟨[],args,none,[],[],none,[]⟩=>some (args.map (·.arg))
 | _=>none
noncomputable def bf7 (j:Int):Expr->Bool
 | .Lambda params body scope _=>(match body with
  | .Subscript o i _=>(match o,i with
   | .Name y _,.Constant c _ _=>decide (c=.int j)&&decide (qv params=some [y])&&decide (scope.names.lookup y=some .local)&&!(y==("__debug__":Str))
   | _,_=>false)
  | _=>false)
 | _=>false
mutual
noncomputable def mE (ck:Ck):lS->Expr->Bool
 | .var i,E=>match E with|.Name x _=>ck.var i x|_=>false
 | .cst c,E=>match E with|.Constant v _ _=>mC c v|_=>false
 | .glob g,E=>match E with|.Name x _=>decide (x=(g:Str))&&ck.gl x|_=>false
 | .bin op a b,E=>match E with|.BinOp l o r _=>decide (o=bQ3 op)&&mE ck a l&&mE ck b r|_=>false
 | .neg _,_=>false
 | .not a,E=>match E with|.UnaryOp .Not l _=>mE ck a l|_=>false
 | .cmp op a b,E=>match E with|.Compare l [o] [r] _=>decide (o=al3 op)&&mE ck a l&&mE ck b r|_=>false
 | .chain o p a b c,E=>match E with|.Compare l [o1,o2] [m,r] _=>decide (o1=al3 o)&&decide (o2=al3 p)&&mE ck a l&&mE ck b m&&mE ck c r|_=>false
 | .isN a,E=>match E with|.Compare l [.Is] [.Constant .none _ _] _=>mE ck a l|_=>false
 | .notN a,E=>match E with|.Compare l [.IsNot] [.Constant .none _ _] _=>mE ck a l|_=>false
 | .isB _ _,_=>false
 | .notB _ _,_=>false
 | .and a b,E=>match E with
  | .BoolOp .And [l,r] _=>mE ck a l&&mE ck b r
  | .BoolOp .And (l::m::r::es) p=>mE ck a l&&mE ck b (.BoolOp .And (m::r::es) p)
  | _=>false
 | .or a b,E=>match E with
  | .BoolOp .Or [l,r] _=>mE ck a l&&mE ck b r
  | .BoolOp .Or (l::m::r::es) p=>mE ck a l&&mE ck b (.BoolOp .Or (m::r::es) p)
  | _=>false
 | .ite c a b,E=>match E with|.IfExp t l r _=>mE ck c t&&mE ck a l&&mE ck b r|_=>false
 | .tup es,E=>match E with|.Tuple xs _ _=>mEs ck es xs&&decide (xs.length<=1000)|_=>false
 | .lst es,E=>match E with|.List xs _=>mEs ck es xs&&decide (xs.length<=1000)|_=>false
 | .dic ks vs,E=>match E with|.Dict a b _=>(match a,b with|[],[]=>mEs ck ks []&&mEs ck vs []|[some x],[y]=>mEs ck ks [x]&&mEs ck vs [y]|_,_=>false)|_=>false
 | .slL _ _,_=>false
 | .slU _ _,_=>false
 | .slLU _ _ _,_=>false
 | .rev a,E=>match E with|.Subscript o (.Slice none none (some u) _) _=>bR9 u&&mE ck a o|_=>false
 | .bitl _,_=>false
 | .lrng _,_=>false
 | .dicT,_=>false
 | .get2 _ _ _,_=>false
 | .ix a b,E=>match E with|.Subscript o i _=>mE ck a o&&mE ck b i|_=>false
 | .call f as,E=>match E with|.Call (.Name x _) xs [] _=>decide (x=(f:Str))&&ck.gl x&&mAs ck as xs|_=>false
 | .callC _ _,_=>false
 | .callV _ _,_=>false
 | .bi b es,E=>match E with|.Call (.Name x _) xs [] _=>bJ1 ck b x xs (mEs ck es xs) (mEs ck es (xs.take 1))|_=>false
 | .mk k l,E=>match E with
  | .Call (.Name x _) [a] [] _=>ck.gl x&&shp a&&((decide (mkT k=some x)&&mL ck 2 l a)||(decide (mkF k=some x)&&mL ck 1 l a))
  | .ListComp e gs sc p=>decide (k=.list)&&mL ck 0 l (.ListComp e gs sc p)
  | _=>false
 | .mkD _ _ _,_=>false
 | .meth m o es,E=>match E with
  | .Call (.Attribute ob x ap) xs [] cp=>decide (mtT m=some (x,xs.length))&&bL1 ob&&(ap.endLine==cp.line)&&mE ck o ob&&mEs ck es xs
  | _=>false
 | .ext _ _,_=>false
 | .extS _ _,_=>false
 | .mks _ _,_=>false
 | .mkDs k e d,E=>match E with
  | .Call (.Name x _) [a] [⟨some y,de,_⟩] _=>decide (k=.min)&&decide (x=("min":Str))&&decide (y=("default":Str))&&ck.gl "min"&&shp a&&mE ck e a&&mE ck d de
  | _=>false
 | .minK id e j,E=>match E with
  | .Call (.Name x _) [a] [⟨some y,le,_⟩] _=>decide (x=("min":Str))&&decide (y=("key":Str))&&ck.gl "min"&&shp a&&mE ck e a&&ck.lk id [] le&&bf7 j le
  | _=>false
 | .join _ _,_=>false
noncomputable def mEs (ck:Ck):lh->List Expr->Bool
 | .nil,xs=>match xs with|[]=>true|_=>false
 | .cons e es,xs=>match xs with|x::xs=>mE ck e x&&shp x&&mEs ck es xs|_=>false
noncomputable def mAs (ck:Ck):lL->List Expr->Bool
 | .nil,xs=>match xs with|[]=>true|_=>false
 | .ex e es,xs=>match xs with|x::xs=>mE ck e x&&shp x&&mAs ck es xs|_=>false
 | .lam _ _ _,_=>false
 | .fn _ _,_=>false
noncomputable def bR8 (ck:Ck):lL->List Expr->Bool
 | .nil,xs=>match xs with|[]=>true|_=>false
 | .ex e es,xs=>match xs with|x::xs=>mE ck e x&&shp x&&bR8 ck es xs|_=>false
 | .lam _ _ _,_=>false
 | .fn _ _,_=>false
noncomputable def mI (ck:Ck)(tgt:Expr):DV.I->Expr->Bool
 | .rng1 a,E=>match E with|.Call (.Name x _) [l] [] _=>decide (x=("range":Str))&&ck.gl x&&mE ck a l&&shp l|_=>false
 | .rng2 _ _,_=>false
 | .seq e,x=>mE ck e x&&shp x
 | .rng3 _ _ _,_=>false
 | .enum (.seq a),E=>match E with|.Call (.Name x _) [l] [] _=>decide (x=("enumerate":Str))&&ck.gl x&&mE ck a l&&shp l&&bB5 tgt|_=>false
 | .zip (.seq _) (.seq _),_=>false
 | .enum _,_=>false
 | .zip _ _,_=>false
 | .items _,_=>false
noncomputable def mL (ck:Ck)(k:Nat):DV.L->Expr->Bool
 | .comp tg it e caps,E=>match E with|.ListComp elt [⟨tgt,iter,[],z⟩] scope _=>decide (z=0)&&aI6 ck tg tgt iter caps scope&&mI ck tgt it iter&&mE (ckC ck tgt caps scope) e elt|_=>false
 | .compIf tg it c e caps,E=>match E with|.ListComp elt [⟨tgt,iter,[i],z⟩] scope _=>decide (z=0)&&aI6 ck tg tgt iter caps scope&&mI ck tgt it iter&&mE (ckC ck tgt caps scope) c i&&mE (ckC ck tgt caps scope) e elt|_=>false
 | .disp es,E=>match E with|.List xs _=>decide (1<=k)&&mEs ck es xs&&decide (xs.length<=1000)|_=>false
 | .seq e,x=>decide (k=2)&&mE ck e x
 | .itm _,_=>false
end
theorem ff {p:Prop}(h:false=true):p:=Bool.noConfusion h
mutual
noncomputable def mS (ck:Ck):DV.S->Stmt->Bool
 | .asg tg e,S=>match S with
  | .Assign [t] v _=>mTg ck tg t&&mE ck e v&&(match tg with|.one _=>true|.tup _=>bC1 v&&at9 v)
  | _=>false
 | .setIx o i e,S=>match S with|.Assign [.Subscript ob ix _] v _=>mE ck o ob&&mE ck i ix&&mE ck e v&&at9 v|_=>false
 | .aug _ _,_=>false
 | .ex e,S=>match S with|.Expr v _=>mE ck e v&&at9 v|_=>false
 | .ret e,S=>match S with|.Return (some v) _=>mE ck e v|_=>false
 | .retN,_=>false
 | .ite c a b,S=>match S with|.If t l r _=>mE ck c t&&mSs ck a l&&mSs ck b r|_=>false
 | .whl c b,S=>match S with|.While t l [] _=>mE ck c t&&mSs ck b l|_=>false
 | .for_ tg it b,S=>match S with|.For tgt iter l [] _=>mTg ck tg tgt&&mI ck tgt it iter&&mSs ck b l|_=>false
 | .pass,_=>false
 | .cont,S=>match S with|.Continue _=>true|_=>false
 | .brk,_=>false
 | .raise,_=>true
 | .und _,_=>false
noncomputable def mSs (ck:Ck):DV.Ss->List Stmt->Bool
 | .nil,xs=>match xs with|[]=>true|_=>false
 | .cons s ss,xs=>match xs with|x::xs=>(mS ck s x&&mSs ck ss xs)|_=>false
end
theorem ar8 {F:Ck}{e:lS}{E:Expr}(h:mE F e E=true):shp E=true:=by
 cases E<;>first|rfl|(exfalso;cases e<;>exact ff h)
theorem bG8 {G:Ck}{F:Expr}{e:DV.I}{E:Expr}(h:mI G F e E=true):shp E=true:=by
 cases e with
 | seq e=>have h:(mE G e E&&shp E)=true:=h;rw[aj]at h;exact h.2
 | enum a=>cases E<;>first|rfl|(exfalso;cases a<;>exact ff h)
 | zip a b=>cases E<;>first|rfl|(exfalso;cases a<;>first|exact ff h|(cases b<;>exact ff h))
 | _=>cases E<;>first|rfl|exact ff h
theorem zd {e:Expr}{es:List Expr}{env:Env}(h:shp e=true):bq (e::es) env=(false,eval e env)::bq es env:=by
 cases e<;>first|rfl|cases h
theorem zE {env:Env}{pos:Pos}:∀ {es:List Expr},(∀ e∈es,shp e=true)->(eT pos (bq es env)).any (·.1)=false/\(eT pos (bq es env)).all (λ x=>!x.1)=true
 | [],_=>⟨rfl,rfl⟩
 | e::es,h=>by
  have J:=zd (es:=es) (env:=env) (h e (aq ..))
  obtain⟨G,F⟩:=zE (env:=env) (pos:=pos) (es:=es) λ x hx=>h x (ak _ hx)
  rw[J]
  unfold eT at G F ⊢
  simp only[aV,eI,dM,G,F]
  exact⟨rfl,rfl⟩
theorem aw7 {e:Expr}{env:Env}(h:shp e=true)(x:Value):dq e env x=pure x:=by
 cases e<;>first|rfl|cases h
theorem ak8 {e:Expr}{op:CmpOp}(h:shp e=true):cO op e=false:=by
 cases e<;>first|rfl|cases h
theorem ak3 {e:Expr}{t:Option Expr}{l:Nat}{env:Env}(h:at9 e=true):fh e t l env=pure false:=by
 cases e<;>first|rfl|cases h
theorem aT8 {e:Expr}{f:Str}{env:Env}(h:bL1 e=true):fT e f env (eval e env)=eval e env:=by
 cases e with
 | Call g a k p =>
  cases g with
  | Name x p' =>
   cases a with
   | nil=>cases k with
    | nil=>cases h
    | cons _ _=>rfl
   | cons _ _=>rfl
  | _=>rfl
 | _=>rfl
theorem aG4 {es:List Expr}{k:Nat}{p:Pos}{e:Expr}{env:Env}(h:bC1 e=true):iy [.Tuple es k p] e env=pure none:=by
 cases e<;>first|rfl|cases h
theorem aJ4 {o i:Expr}{p:Pos}{e:Expr}{env:Env}:iy [.Subscript o i p] e env=pure none:=by
 cases e<;>rfl
theorem aH3 {e:Expr}(h:shp e=true):aO5 e:=by
 intro o i
 cases e<;>first|rfl|cases h
def spV (Γ:Gm)(c:List kH->kG->kK kH):Sp:=λ vs H Q _=>rCl Γ c vs H Q
noncomputable def bNames:List Str:=["len", "abs", "min", "max", "int", "isinstance", "bool", "str", "tuple", "list", "range", "sum", "all", "any", "sorted", "zip", "enumerate", "ord"]
def spL (Γ:Gm)(c:List kH->List kH->kG->kK kH)(cap:List V):Sp:=λ vs H Q _=>∃ φ s cs l d s',Rp Γ φ H s/\RVL Γ φ H l vs/\RVL Γ φ H cs cap/\kI s.length l=true/\kI s.length cs=true/\c cs l s=.ok d s'/\ac4 Γ φ s H d s' Q
noncomputable def LamI.own (J:LamI):Str:=match J.nm with|none => "<lambda>" | some p=>p.1
noncomputable def lamText (J:LamI)(params:bD)(body:Expr)(scope:Scope)(pos:Pos):Expr:=match J.nm with
 | none=>.Lambda params body scope pos
 | some p=>.NamedExpr (.Name p.1 p.2) (.Lambda params body scope pos) pos
structure LamHere (Γ:Gm)(X:Cx)(N:List Str)(id:String)(caps:List Nat)(params:bD)(body:Expr)(scope:Scope)(c P:Addr)(J:LamI):Prop where
 code:X.env.code=.ref c
 hd:bG X.base c P
 bm:BM X.mg X.base
 ck:lamCheck scope X.env.scope=true
 df:jR params X.env=([],[])
 lg:Γ.lg id J
 q:J.qual=X.env.qual++J.own
 p:J.params=params
 b:J.body=body
 s:J.scope=scope
 len:J.fr.length=caps.length
 at_:∀(i j:Nat) (x:Str),caps[i]?=some j->J.fr[i]?=some x->N[j]?=some x
 fr:∀ x∈J.fr,scope.names.lookup x=some .free
 cl:∀ x,scope.names.lookup x=some .free->∃ c,X.env.cells.lookup x=some c
 tab:(P,J.qual)∈Γ.T
 nd:(Γ.T.map (·.1)).Nodup
 fn:∀ x,X.fn x=true
 kd:∀ x c,X.env.cells.lookup x=some c->X.env.kindOf x=some .cell\/X.env.kindOf x=some .free
 gs:LamScope (J.ps++J.fr) J.ps J.fr J.scope
 gp:qv J.params=some J.ps
 gb:∀(clos:List (Str×Addr)) (pm:Value) (c':Addr) (ctv:Value) (us:List Value),us.length=J.ps.length->dw (bn "<lambda>" J.qual J.params J.body J.scope clos pm (.ref c') ctv) ⟨us,[]⟩=pure (J.ps.zip us)
structure CG (Γ:Gm)(F:kW)(n:Nat)(X:Cx)(ck:Ck):Prop where
 K:X.K=Γ.K
 N:X.N=ck.N
 nd:ck.N.Nodup
 xe:X.xe=λ _ _=>False
 calm:X.calm=true
 deep:kT+1<=n
 room:Room n X.A
 sc:∀ x k,ck.sc.names.lookup x=some k->X.env.scope.names.lookup x=some k\/(k=.free/\X.env.scope.names.lookup x=some .cell)
 fn:∀ x,ck.sc.names.lookup x=some .cell->X.fn x=true
 bi:∀ x∈bNames,X.mg x=none
 call:∀ f:String,(∀ l s,F.call f l s=.bad)\/∃ a fd ps,FnOk X.prog X.w X.K X.mg X.base CX0 n a fd ps (spV Γ (F.call f))/\X.mg (f:Str)=some (.ref a)/\ci X.K (.ref a)=true/\Binds X.K fd ps []
 con:∀ x d,F.con x=some d->∃ v u,X.mg (x:Str)=some u/\RelV v u/\(∀ m,d.bnd m=true)/\∀ φ H,RV Γ φ H d v
 lam:∀ id caps E,ck.lk id caps E=true->∃ c P params body scope pos J,E=lamText J params body scope pos/\LamHere Γ X ck.N id caps params body scope c P J
 cl:∀(id:String) (J:LamI) (f:Addr) (cap:List V) (clos:List (Str×Addr)),Γ.lg id J->cap.length=J.fr.length->ClOk X.prog X.w X.K X.mg X.base n (λ H=>CloAt H f J cap clos) f (spL Γ (F.lam id) cap)
 fa:∀(f:String) (a:Addr),Γ.fa f=some a->X.mg (f:Str)=some (.ref a)/\∃ oc od fd sl,X.K.lookup a=some ⟨oc,od,.func fd,sl⟩
 fk:DV.FK F
section
variable {Γ:Gm} {F:kW} {n:Nat} {X:Cx} {ck:Ck}
theorem CG.vis (G:CG Γ F n X ck){x:Str}(h:ck.vis x=true):Vis X.env.scope x:=by
 unfold Ck.vis at h
 split at h
 ·rename_i e;rcases G.sc _ _ e with z|⟨z,_⟩
  ·exact .inl z
  ·cases z
 ·rename_i e;rcases G.sc _ _ e with z|⟨z,_⟩
  ·exact .inr (.inl z)
  ·cases z
 ·rename_i e;rcases G.sc _ _ e with z|⟨_,z⟩
  ·exact .inr (.inr z)
  ·exact .inr (.inl z)
 ·cases h
theorem CG.loc (G:CG Γ F n X ck){x:Str}(h:ck.loc x=true):Loc X.env.scope x/\(X.fn x=true\/X.env.scope.names.lookup x=some .local):=by
 unfold Ck.loc at h
 split at h
 ·rename_i e;rcases G.sc _ _ e with z|⟨z,_⟩
  ·exact⟨.inl z,.inr z⟩
  ·cases z
 ·rename_i e;rcases G.sc _ _ e with z|⟨z,_⟩
  ·exact⟨.inr z,.inl (G.fn _ e)⟩
  ·cases z
 ·cases h
theorem CG.gl (G:CG Γ F n X ck){x:Str}(h:ck.gl x=true):Gl X x/\(x==("__debug__":Str))=false/\x ≠ "__name__":=by
 unfold Ck.gl at h
 simp only[aj,fM]at h
 obtain⟨⟨J,Z⟩,Y⟩:=h
 refine⟨?_,Z,of_decide_eq_false Y⟩
 split at J
 ·rename_i e;rcases G.sc _ _ e with z|⟨z,_⟩
  ·exact z
  ·cases z
 ·cases J
theorem be9 (G:CG Γ F n X ck):∀ {is:List Nat} {es:List Expr},bI6 ck is es=true->PGs X es (bJ2 is)/\(cy es X.env).length=is.length/\(cy es X.env).findIdx? (·.1)=none
 | [],[],_=>⟨bi8,rfl,rfl⟩
 | [],_::_,h=>by cases h
 | i::is,[],h=>by cases h
 | i::is,e::es,h=>by
  cases e with
  | Name x p =>
   unfold bI6 at h
   simp only[aj,decide_eq_true_eq]at h
   obtain⟨⟨h1,Y⟩,J⟩:=h
   obtain⟨l1,Z⟩:=G.loc Y
   obtain⟨a,b,c⟩:=be9 G J
   have hs:cy (.Name x p::es) X.env=(false,gd (.Name x p) X.env)::cy es X.env:=rfl
   refine⟨aZ4 (aR8 (by rw[G.N];exact G.nd) (by rw[G.N];exact h1) l1 Z) a (by rw[hs];rfl),by rw[hs,aK,aK,b],?_⟩
   rw[hs,List.findIdx?_cons]
   simp[c]
  | _=>cases h
theorem bs4 (G:CG Γ F n X ck){tg:lr}{e:Expr}(h:mTg ck tg e=true):PG X e (gOf Γ.K tg):=by
 unfold mTg at h
 split at h
 ·simp only[aj,decide_eq_true_eq]at h
  obtain⟨l1,J⟩:=G.loc h.2
  exact aR8 (by rw[G.N];exact G.nd) (by rw[G.N];exact h.1) l1 J
 ·obtain⟨a,b,c⟩:=be9 G h
  exact bu6 G.K G.calm a b c
 ·cases h
theorem CG.comp (G:CG Γ F n X ck){tg:lr}{Y iter:Expr}{J:List (Option Nat)}{scope:Scope}(h:aI6 ck tg Y iter J scope=true) :
  zJ (ckC ck Y J scope).N J scope X.N X.env.scope=true/\shp iter=true /\
  ∀(C:Addr) (cells:List (Str×Addr)) (s:af) (H:Hp) (ex:List Addr),CG Γ F n (zA X (ckC ck Y J scope).N scope C cells s H ex) (ckC ck Y J scope)/\PG (zA X (ckC ck Y J scope).N scope C cells s H ex) Y (gOf Γ.K tg):=by
 unfold aI6 at h
 simp only[aj,decide_eq_true_eq]at h
 obtain⟨⟨⟨Z,h2⟩,h3⟩,h4⟩:=h
 refine⟨?_,h4,λ C cells s H ex=>?_⟩
 ·rw[G.N]
  unfold zJ at Z ⊢
  simp only[aj]at Z ⊢
  obtain⟨⟨⟨⟨⟨a1,a2⟩,a3⟩,a4⟩,a5⟩,a6⟩:=Z
  refine⟨⟨⟨⟨⟨a1,?_⟩,a3⟩,a4⟩,a5⟩,a6⟩
  rw[aU]at a2 ⊢
  intro y hy
  have:=a2 y hy
  rw[bW]at this ⊢
  rcases this with q|q
  ·exact .inl q
  ·right
   rw[bW]at q ⊢
   rcases q with q|q
   ·rcases G.sc _ _ (eq_of_beq q)with z|⟨z,_⟩
    ·left;rw[z];exact beq_self_eq_true _
    ·cases z
   ·rcases G.sc _ _ (eq_of_beq q)with z|⟨_,z⟩
    ·right;rw[z];exact beq_self_eq_true _
    ·left;rw[z];exact beq_self_eq_true _
 ·have G':CG Γ F n (zA X (ckC ck Y J scope).N scope C cells s H ex) (ckC ck Y J scope):=by
   refine⟨G.K,rfl,h2,rfl,G.calm,G.deep,G.room,λ x k e=>?_,λ x e=>?_,G.bi,G.call,G.con,λ _ _ _ h=>(by cases h),G.cl,G.fa,G.fk⟩
   ·have q:=zZ (env:=X.env) e
    have q':(eG scope X.env).names.lookup x=some (if(k==NameKind.free&&X.env.scope.kind==.function&&X.env.kindOf x==some .cell)then NameKind.cell else k):=q
    show(eG scope X.env).names.lookup x=some k\/_
    rw[q']
    split
    ·rename_i hc
     simp only[aj]at hc
     exact .inr ⟨eq_of_beq hc.1.1,rfl⟩
    ·exact .inl rfl
   ·show(scope.names.lookup x==some .cell)=true
    rw[show scope.names.lookup x=some .cell from e];rfl
  exact⟨G',bs4 G' h3⟩
end
section
variable {Γ:Gm} {F:kW} {n:Nat} {X:Cx} {ck:Ck} {σ:St} {H:Hp} {Q:VK}
theorem TEv.eq {m m':kJ->kG->kK kH}(e:∀ ρ s,m ρ s=m' ρ s)(q:TEv Γ m σ H Q):TEv Γ m' σ H Q:=by
 have:m=m':=funext λ ρ=>funext λ s=>e ρ s
 subst this;exact q
theorem TTv.eq {m m':kJ->kG->kK kH}{Q:Bool->Hp->Prop}(e:∀ ρ s,m ρ s=m' ρ s)(q:TTv Γ m σ H Q):TTv Γ m' σ H Q:=by
 have:m=m':=funext λ ρ=>funext λ s=>e ρ s
 subst this;exact q
theorem TAv.eq {m m':kJ->kG->kK (List kH)}{Q:List V->Hp->Prop}(e:∀ ρ s,m ρ s=m' ρ s)(q:TAv Γ m σ H Q):TAv Γ m' σ H Q:=by
 have:m=m':=funext λ ρ=>funext λ s=>e ρ s
 subst this;exact q
theorem TFv.eq {m m':kJ->kG->kK (List kH)}(e:∀ ρ s,m ρ s=m' ρ s)(q:TFv Γ m σ H Q):TFv Γ m' σ H Q:=by
 have:m=m':=funext λ ρ=>funext λ s=>e ρ s
 subst this;exact q
theorem TIv.eq {m m':kJ->kG->kK lx}{R:It->Hp->Prop}(e:∀ ρ s,m ρ s=m' ρ s)(q:TIv Γ m σ H R):TIv Γ m' σ H R:=by
 have:m=m':=funext λ ρ=>funext λ s=>e ρ s
 subst this;exact q
theorem TSv.eq {m m':kJ->kG->kK ls}{D:Ends}(e:∀ ρ s,m ρ s=m' ρ s)(q:TSv Γ m D σ H):TSv Γ m' D σ H:=by
 have:m=m':=funext λ ρ=>funext λ s=>e ρ s
 subst this;exact q
def EvT (Γ:Gm)(X:Cx)(E:Expr)(m:kJ->kG->kK kH):Prop:=PE X E (TEv Γ m)/\PT X E (TTv Γ m)
theorem EvT.val {E:Expr}{m:kJ->kG->kK kH}(h:PE X E (TEv Γ m))(he:∀ F,dQ E X.env F=(do let v <- F;standAt E.pos;fD [v] (truthy v)):=by intro _;rfl):EvT Γ X E m :=
 ⟨h,(aM0 h he).imp λ σ H Q q=>az8 q⟩
theorem aX6 {c a b:Expr}{pos:Pos}{J tb Z:TT}(hc:PT X c J)(ha:PT X a tb)(hb:PT X b Z):PT X (.IfExp c a b pos) (λ σ H Q=>J σ H λ k G=>if k=true then tb σ G Q else Z σ G Q):=by
 intro F s σ H Q I h
 have e:dQ (.IfExp c a b pos) X.env (eval (.IfExp c a b pos) X.env)=(do if <- dQ c X.env (eval c X.env)then dQ a X.env (eval a X.env)else dQ b X.env (eval b X.env)):=by rw[dQ]
 rw[e]
 refine ah (thn (hc F s σ H _ I h) λ k s1 ⟨G,I1,Y⟩=>?_)
 cases k with
 | true=>exact ha F s1 σ G Q I1 Y
 | false=>exact hb F s1 σ G Q I1 Y
theorem bC5 {mc J Y:kJ->kG->kK kH}{Q:Bool->Hp->Prop}(h:TTv Γ (λ ρ s=>kS (mc ρ s) λ k s=>if k then J ρ s else Y ρ s) σ H Q):TTv Γ mc σ H λ k G=>if k=true then TTv Γ J σ G Q else TTv Γ Y σ G Q:=by
 obtain⟨φ,ρ,s,d,s',E,R,F,q⟩:=h
 obtain⟨c,s1,e1,F⟩:=zz F
 refine⟨φ,ρ,s,c,s1,E,R,e1,λ φ1 G g1 l1 R1=>?_⟩
 cases c with
 | true =>
  rw[if_pos rfl]at F ⊢
  exact⟨φ1,ρ,s1,d,s',E.mono g1 l1,R1,F,q.trans g1 l1⟩
 | false =>
  rw[if_neg aQ]at F ⊢
  exact⟨φ1,ρ,s1,d,s',E.mono g1 l1,R1,F,q.trans g1 l1⟩
section
variable {a b c:lS} {l r t:Expr} {pos:Pos}
theorem bl5 (G:CG Γ F n X ck)(op:mn)(ha:EvT Γ X l (kL F a))(hb:EvT Γ X r (kL F b)):EvT Γ X (.BinOp l (bQ3 op) r pos) (kL F (.bin op a b)) :=
 .val ((bP8 (bA2 G.K op) ha.1 hb.1).imp λ σ H Q q=>bc7 (TEv.eq (λ ρ s=>rfl) q))
theorem bs1 (ha:EvT Γ X l (kL F a)):EvT Γ X (.UnaryOp .Not l pos) (kL F (.not a)) :=
 ⟨(bf3 ha.1).imp λ σ H Q q=>bx4 (TEv.eq (λ ρ s=>rfl) q),(bf0 ha.2).imp λ σ H Q q=>bE5 (TTv.eq (λ ρ s=>rfl) q)⟩
theorem br5 (G:CG Γ F n X ck)(op:lP)(hs:shp r=true)(ha:EvT Γ X l (kL F a))(hb:EvT Γ X r (kL F b)):EvT Γ X (.Compare l [al3 op] [r] pos) (kL F (.cmp op a b)):=by
 have ho:=aR4 (Γ:=Γ) G.K (G.room.mono G.deep) op
 refine⟨(bk9 ho ha.1 hb.1 (ak8 hs)).imp λ σ H Q q=>bc7 (TEv.eq (λ ρ s=>rfl) q),(bu5 ho ha.1 hb.1 (ak8 hs)).imp λ σ H Q q=>?_⟩
 have q:=aP7 q
 exact bc7 (TEv.eq (λ ρ s=>rfl) q)
theorem aT4 (G:CG Γ F n X ck)(o p:lP)(J:shp t=true)(ha:EvT Γ X l (kL F a))(hb:EvT Γ X r (kL F b))(hc:EvT Γ X t (kL F c)):EvT Γ X (.Compare l [al3 o,al3 p] [r,t] pos) (kL F (.chain o p a b c)):=by
 have ho:=aR4 (Γ:=Γ) G.K (G.room.mono G.deep) o
 have hp:=aR4 (Γ:=Γ) G.K (G.room.mono G.deep) p
 have h:j3 [al3 o,al3 p] [r,t]=false:=by
  show cO (al3 p) t=false
  exact ak8 J
 refine⟨(aX3 ho hp ha.1 hb.1 hc.1 h).imp λ σ H Q q=>aA1 (TEv.eq (λ ρ s=>rfl) q),(aX4 ho hp ha.1 hb.1 hc.1 h).imp λ σ H Q q=>?_⟩
 have q:=aP7 q
 exact aA1 (TEv.eq (λ ρ s=>rfl) q)
theorem RV.nonIff {φ:Nat->Addr}{x:kH}{v:V}(r:RV Γ φ H x v):decide (v=.non)=decide (x=.non):=by
 cases x with
 | non=>rw[r.nonE];rfl
 | bl b=>rw[r.blE];rfl
 | int i=>rw[r.intE];rfl
 | str z=>rw[r.strE];rfl
 | tup l=>obtain⟨a,h,rfl,_⟩:=r.tupE;rfl
 | ref k=>rw[r.refE];rfl
 | fn f=>unfold RV at r;obtain⟨a,_,rfl⟩:=r;rfl
 | clo f cs=>unfold RV at r;obtain⟨f,_,_,_,rfl,_⟩:=r;rfl
theorem bj8 {j pos'}(ha:EvT Γ X l (kL F a)):EvT Γ X (.Compare l [.Is] [.Constant .none j pos'] pos) (kL F (.isN a)):=by
 have key:∀ σ H Q,TEv Γ (kL F (.isN a)) σ H Q->bR5 (TEv Γ (kL F a)) σ H Q:=λ σ H Q q=>by
  obtain⟨φ,ρ,s,d,s',E,R,h,k⟩:=q
  obtain⟨x,s1,e1,h⟩:=aa0 h
  cases h
  refine⟨φ,ρ,s,x,_,E,R,e1,λ v φ1 G g1 l1 J r1 R1=>?_⟩
  show Q (.bl (decide (v=.non))) G
  rw[r1.nonIff]
  exact k _ φ1 G g1 l1 rfl RV.blI R1
 exact⟨(be0 (bh4 ha.1)).imp key,(bg5 (bh4 ha.1)).imp λ σ H Q q=>key _ _ _ (az8 q)⟩
theorem aW1 {j pos'}(ha:EvT Γ X l (kL F a)):EvT Γ X (.Compare l [.IsNot] [.Constant .none j pos'] pos) (kL F (.notN a)):=by
 have key:∀ σ H Q,TEv Γ (kL F (.notN a)) σ H Q->bD0 (TEv Γ (kL F a)) σ H Q:=λ σ H Q q=>by
  obtain⟨φ,ρ,s,d,s',E,R,h,k⟩:=q
  obtain⟨x,s1,e1,h⟩:=aa0 h
  cases h
  refine⟨φ,ρ,s,x,_,E,R,e1,λ v φ1 G g1 l1 J r1 R1=>?_⟩
  show Q (.bl (!decide (v=.non))) G
  rw[r1.nonIff]
  exact k _ φ1 G g1 l1 rfl RV.blI R1
 exact⟨(be0 (aN5 ha.1)).imp key,(bg5 (aN5 ha.1)).imp λ σ H Q q=>key _ _ _ (az8 q)⟩
theorem aT1 {op:BoolOp}{es:List Expr}{t:TT}(h:PT X (.BoolOp op es pos) t):PW X (.BoolOp op es pos) t:=by
 intro G F s σ H Q I q
 have:=h F s σ H Q I q
 have e:∀ w,dQ (.BoolOp op es pos) X.env w=allTrue op es X.env:=λ w=>by rw[dQ]
 rw[e]at this ⊢
 exact this
theorem bl1 (ha:EvT Γ X l (kL F a))(hb:EvT Γ X r (kL F b)):EvT Γ X (.BoolOp .And [l,r] pos) (kL F (.and a b)) :=
 ⟨(be8 ha.1 (aU0 hb.1)).imp λ σ H Q q=>bf5 (TEv.eq (λ ρ s=>rfl) q),(bh8 ha.2 (bp6 hb.2)).pt.imp λ σ H Q q=>bg3 (TTv.eq (λ ρ s=>rfl) q)⟩
theorem bn0 {es:List Expr}(ha:EvT Γ X l (kL F a))(hb:EvT Γ X (.BoolOp .And (r::es) pos) (kL F b)):EvT Γ X (.BoolOp .And (l::r::es) pos) (kL F (.and a b)) :=
 ⟨(be8 ha.1 hb.1).imp λ σ H Q q=>bf5 (TEv.eq (λ ρ s=>rfl) q),(bh8 ha.2 (aT1 hb.2)).pt.imp λ σ H Q q=>bg3 (TTv.eq (λ ρ s=>rfl) q)⟩
theorem bF8 (ha:EvT Γ X l (kL F a))(hb:EvT Γ X r (kL F b)):EvT Γ X (.BoolOp .Or [l,r] pos) (kL F (.or a b)) :=
 ⟨(bl3 ha.1 (aU0 hb.1)).imp λ σ H Q q=>bG3 (TEv.eq (λ ρ s=>rfl) q),(br1 ha.2 (be1 hb.2)).pt.imp λ σ H Q q=>bz5 (TTv.eq (λ ρ s=>rfl) q)⟩
theorem bD2 {es:List Expr}(ha:EvT Γ X l (kL F a))(hb:EvT Γ X (.BoolOp .Or (r::es) pos) (kL F b)):EvT Γ X (.BoolOp .Or (l::r::es) pos) (kL F (.or a b)) :=
 ⟨(bl3 ha.1 hb.1).imp λ σ H Q q=>bG3 (TEv.eq (λ ρ s=>rfl) q),(br1 ha.2 (aT1 hb.2)).pt.imp λ σ H Q q=>bz5 (TTv.eq (λ ρ s=>rfl) q)⟩
theorem bm9 (hc:EvT Γ X t (kL F c))(ha:EvT Γ X l (kL F a))(hb:EvT Γ X r (kL F b)):EvT Γ X (.IfExp t l r pos) (kL F (.ite c a b)) :=
 ⟨(bd6 hc.2 ha.1 hb.1).imp λ σ H Q q=>bx7 (TEv.eq (λ ρ s=>rfl) q),(aX6 hc.2 ha.2 hb.2).imp λ σ H Q q=>bC5 (TTv.eq (λ ρ s=>rfl) q)⟩
theorem bv8 (G:CG Γ F n X ck)(hs:shp r=true)(ha:EvT Γ X l (kL F a))(hb:EvT Γ X r (kL F b)):EvT Γ X (.Subscript l r pos) (kL F (.ix a b)) :=
 .val ((bP5 (bN6 G.K (aH5 G.room)) ha.1 hb.1 (aH3 hs)).imp λ σ H Q q=>bc7 (TEv.eq (λ ρ s=>rfl) q))
theorem bF6 {m:kJ->kG->kK kH}{Q:VK}(h:TEv Γ (λ ρ s=>(m ρ s).bind λ x s=>DV.bv6 x s) σ H Q):bw2 Γ.K (TEv Γ m) (tUn (rU λ i=>.int (-i)) (tC (.int 1))) σ H Q:=by
 obtain⟨φ,ρ,s,d,s',E,R,F,q⟩:=h
 obtain⟨x,s1,e1,F⟩:=aa0 F
 refine⟨φ,ρ,s,x,s1,E,R,e1,λ Y φ1 Z g1 l1 b1 r1 R1=>?_⟩
 unfold DV.bv6 at F
 cases x with
 | str x =>
  cases F
  have hl:=r1.strL
  refine⟨1,rfl,rfl,.inl ⟨⟨x.toArray⟩,r1.strE,?_,?_⟩⟩
  ·show x.toArray.size<=aH
   rw[ar]
   have:kP<aH:=by rw[eN];decide
   omega
  ·have e:(⟨(⟨x.toArray⟩:Str).cps.reverse⟩:Str)=⟨x.reverse.toArray⟩:=by simp
   rw[e]
   exact(q.trans g1 l1).here R1 rfl (RV.strI (by rw[dF];exact hl))
 | ref r =>
  simp only at F
  cases hsr:s1[r]? with
  | none=>rw[hsr]at F;cases F
  | some o =>
   rw[hsr]at F
   cases o with
   | lst l =>
    obtain⟨rfl,rfl⟩:=zR F
    obtain⟨G,J,d1⟩:=R1.addr hsr
    have wf:=R1.wf _ _ hsr
    unfold kM at wf
    exact⟨1,rfl,rfl,.inr ⟨φ1 r,G,r1.refE,SqL.of J,λ p hp=>(q.trans g1 l1).alloc R1 d1.reverse (aE2 wf λ d hd=>jv.mp hd) hp⟩⟩
   | _=>exact fb F
 | _=>exact fb F
theorem bt5 (G:CG Γ F n X ck){p1 h p3:Pos}{k:Nat}(ha:EvT Γ X l (kL F a)):EvT Γ X (.Subscript l (.Slice none none (some (.UnaryOp .USub (.Constant (.int 1) k p1) p3)) h) pos) (kL F (.rev a)) :=
 .val ((bo5 G.K ha.1 (bN7 by0 bh0)).imp λ σ H Q q=>bF6 q)
end
end
section
variable {Γ:Gm} {F:kW} {n:Nat} {X:Cx} {ck:Ck} {σ:St} {H:Hp} {Q:VK}
theorem ap1:∀ {es:lh} {ρ:kJ} {s s':kG} {l:List kH} {G:List Expr} {J:Ck},ln F es ρ s=.ok l s'->mEs J es G=true->l.length=G.length
 | .nil,ρ,s,s',l,G,J,h,m=>by
  cases h
  cases G with
  | nil=>rfl
  | cons _ _=>rw[mEs]at m<;>first|cases m|(intros;simp_all)
 | .cons e es,ρ,s,s',l,G,J,h,m=>by
  obtain⟨d,s1,e1,h⟩:=aa0 h
  obtain⟨r,s2,e2,h⟩:=aa0 h
  cases h
  cases G with
  | nil=>rw[mEs]at m<;>first|cases m|(intros;simp_all)
  | cons x G =>
   rw[mEs,aj]at m
   rw[aK,aK,ap1 e2 m.2]
theorem aw6:∀ {es:lh} {F:List Expr},mEs ck es F=true->∀ x∈F,shp x=true
 | .nil,[],_,x,hx=>by cases hx
 | .nil,_::_,m,_,_=>by rw[mEs]at m<;>first|cases m|(intros;simp_all)
 | .cons e es,[],m,x,hx=>by cases hx
 | .cons e es,y::F,m,x,hx=>by
  rw[mEs,aj,aj]at m
  rcases ax.mp hx with h|h
  ·rw[h];exact m.1.2
  ·exact aw6 m.2 x h
theorem ax1:∀ {es:lL} {F:List Expr},mAs ck es F=true->∀ x∈F,shp x=true
 | .nil,[],_,x,hx=>by cases hx
 | .nil,_::_,m,_,_=>by rw[mAs]at m<;>first|cases m|(intros;simp_all)
 | .ex e es,[],m,x,hx=>by cases hx
 | .lam _ _ _,_,m,_,_=>by rw[mAs]at m<;>first|cases m|(intros;simp_all)
 | .fn _ _,_,m,_,_=>by rw[mAs]at m<;>first|cases m|(intros;simp_all)
 | .ex e es,y::F,m,x,hx=>by
  rw[mAs,aj,aj]at m
  rcases ax.mp hx with h|h
  ·rw[h];exact m.1.2
  ·exact ax1 m.2 x h
theorem aF2 {e:lS}{x:Expr}{h:List Expr}{G:kJ->kG->kK (List kH)}(hs:shp x=true)(Y:PE X x (TEv Γ (kL F e)))(J:PA X h (TAv Γ G)) :
  PA X (x::h) (TAv Γ (λ ρ s=>(kL F e ρ s).bind λ d s=>(G ρ s).bind λ l s=>.ok (d::l) s)) :=
 (zw Y J (zd hs)).imp λ σ H Q q=>bj3 q
theorem aM5 {k:Nat}(h:k<=1000):k<=aH:=by rw[eN];omega
theorem bo6 {es:lh}{G:List Expr}{k:Nat}{pos:Pos}(m:mEs ck es G=true)(hz:G.length<=1000)(h:PA X G (TAv Γ (ln F es))):EvT Γ X (.Tuple G k pos) (kL F (.tup es)) :=
 .val ((bg6 h).imp λ σ H Q q=>tv_tup' hz m q)
where
 tv_tup' {es:lh} {G:List Expr} {σ:St} {H:Hp} {Q:VK} (hz:G.length<=1000) (m:mEs ck es G=true) (q:TEv Γ (kL F (.tup es)) σ H Q):bR6 (TAv Γ (ln F es)) σ H Q:=by
  obtain⟨φ,ρ,s,d,s',E,R,J,q⟩:=q
  obtain⟨l,s1,e1,J⟩:=aa0 J
  cases J
  refine⟨φ,ρ,s,l,_,E,R,e1,λ vs φ1 Z g1 l1 Y r1 R1=>⟨by rw[r1.length,ap1 e1 m];exact aM5 hz,λ p hp=>?_⟩⟩
  exact(q.trans g1 l1).tup R1 r1 Y hp
theorem bo1 {es:lh}{G:List Expr}{pos:Pos}(m:mEs ck es G=true)(hz:G.length<=1000)(h:PA X G (TAv Γ (ln F es))):EvT Γ X (.List G pos) (kL F (.lst es)):=by
 refine .val ((be2 h).imp λ σ H Q q=>?_)
 obtain⟨φ,ρ,s,d,s',E,R,J,q⟩:=q
 obtain⟨l,s1,e1,J⟩:=aa0 J
 obtain⟨rfl,rfl⟩:=zR J
 refine⟨φ,ρ,s,l,_,E,R,e1,λ vs φ1 Z g1 l1 Y r1 R1=>⟨by rw[r1.length,ap1 e1 m];exact aM5 hz,λ p hp=>?_⟩⟩
 exact(q.trans g1 l1).alloc R1 r1 Y hp
theorem aY0 {f:String}{as:lL}{J:List Expr}{p pos:Pos}(G:CG Γ F n X ck)(hg:ck.gl (f:Str)=true)(m:mAs ck as J=true)(h:PA X J (TAv Γ (lw F as))):EvT Γ X (.Call (.Name (f:Str) p) J [] pos) (kL F (.call f as)):=by
 refine .val ?_
 obtain⟨g1,g2,g3⟩:=G.gl hg
 rcases G.call f with hbad|⟨a,fd,ps,hF,Y,hk,hb⟩
 ·intro a0 s σ H Q I q
  obtain⟨φ,ρ,s,d,s',E,R,Z,q⟩:=q
  obtain⟨l,s1,e1,Z⟩:=aa0 Z
  rw[hbad]at Z
  cases Z
 have key:∀ σ H Q,TEv Γ (kL F (.call f as)) σ H Q->aF6 (spV Γ (F.call f)) [] E0 (TAv Γ (lw F as)) σ H Q:=λ σ H Q q=>by
  have:=aw2 (TEv.eq (m':=λ ρ s=>(lw F as ρ s).bind λ l s=>F.call f l s) (λ ρ s=>rfl) q)
  unfold tCB at this
  unfold aF6 spV
  simpa only[bQ]using this
 cases J with
 | nil =>
  have h0:PE X (.Call (.Name (f:Str) p) [] [] pos) (aF6 (spV Γ (F.call f)) [] E0 aK9):=bc4 hF G.room g1 Y hk hb .nil bB2 g2
  cases as with
  | nil =>
   refine h0.imp λ σ H Q q=>?_
   have q1:=key σ H Q q
   unfold aF6 at q1 ⊢
   exact aC9 (TAv.eq (λ ρ s=>rfl) q1)
  | _=>rw[mAs]at m<;>first|cases m|(intros;simp_all)
 | cons x J =>
  have hs:=ax1 m
  exact(aT7 hF G.room g1 Y hk hb .nil bB2 h g2 (zd (hs x (aq ..))) (zE λ e he=>hs e (ak _ he)).1).imp key
def BiC (Γ:Gm)(X:Cx)(b:lq)(x:Str):Prop:=(∃ id,a9 x=some (.builtin id)/\ab1 X (.builtin id) (rCl Γ (ml b)))\/∃ T,a9 x=some (.type T)/\ab1 X (.type T) (rCl Γ (ml b))
theorem bH0 (G:CG Γ F n X ck){b:lq}{x:Str}(h:biT b=some x):x∈bNames/\BiC Γ X b x:=by
 cases b<;>first|cases h|skip
 ·exact⟨by decide,.inl ⟨_,bQ4,bb3 G.K G.calm (k:=1) rfl⟩⟩
 ·exact⟨by decide,.inl ⟨_,bK4,bb3 G.K G.calm (k:=1) rfl⟩⟩
 ·exact⟨by decide,.inr ⟨_,bG4,bG5⟩⟩
 ·exact⟨by decide,.inl ⟨_,aV6,bb3 G.K G.calm (k:=2) rfl⟩⟩
 ·exact⟨by decide,.inl ⟨_,bL4,bb3 G.K G.calm (k:=2) rfl⟩⟩
theorem bx3 {b:lq}{es:lh}{x:Str}{y:Expr}{J:List Expr}{p pos:Pos}(G:CG Γ F n X ck)(hb:biT b=some x)(hg:ck.gl x=true)(m:mEs ck es (y::J)=true)(h:PA X (y::J) (TAv Γ (ln F es))) :
  EvT Γ X (.Call (.Name x p) (y::J) [] pos) (kL F (.bi b es)):=by
 refine .val ?_
 obtain⟨g1,g2,g3⟩:=G.gl hg
 obtain⟨hm,hc⟩:=bH0 G hb
 have hs:=aw6 m
 have s1:=zd (es:=J) (env:=X.env) (hs y (aq ..))
 have s2:=(zE (env:=X.env) (pos:=pos) λ e he=>hs e (ak _ he)).1
 rcases hc with⟨id,Y,Z⟩|⟨T,Y,Z⟩
 ·exact(ae0 Z g1 (G.bi _ hm) Y h g3 g2 s1 s2).imp λ σ H Q q=>aw2 (TEv.eq (λ ρ s=>rfl) q)
 ·exact(ai4 Z g1 (G.bi _ hm) Y h g3 g2 s1 s2).imp λ σ H Q q=>aw2 (TEv.eq (λ ρ s=>rfl) q)
theorem bD8 {b:lq}{k:Nat}{t:Str}(h:biK b=some (k,t)):(1<=k/\k<=5)/\t∈bNames/\a9 t=some (.type (al9 k))/\ml b=l6 (mq k):=by
 cases b<;>cases h
 ·exact⟨by omega,by decide,bG4,rfl⟩
 ·exact⟨by omega,by decide,bB7,rfl⟩
 ·exact⟨by omega,by decide,bL9,rfl⟩
 ·exact⟨by omega,by decide,aR7,rfl⟩
 ·exact⟨by omega,by decide,bi2,rfl⟩
noncomputable def PEs (Γ:Gm)(F:kW)(X:Cx):lh->List Expr->Prop
 | .nil,[]=>True
 | .cons e es,x::xs=>(shp x=true/\EvT Γ X x (kL F e))/\PEs Γ F X es xs
 | _,_=>False
theorem am4:∀ {es:lh} {G:List Expr},PEs Γ F X es G->PA X G (TAv Γ (ln F es))
 | .nil,[],_=>ab6.imp λ σ H Q q=>aC9 (TAv.eq (λ ρ s=>rfl) q)
 | .nil,_::_,h=>h.elim
 | .cons _ _,[],h=>h.elim
 | .cons e es,x::G,h=>(aF2 h.1.1 h.1.2.1 (am4 h.2)).imp λ σ H Q q=>TAv.eq (λ ρ s=>rfl) q
theorem bu4 {b:lq}{es:lh}{k:Nat}{t:Str}{a:Expr}{p py pos:Pos}(G:CG Γ F n X ck)(hb:biK b=some (k,t))(hg:ck.gl "isinstance"=true)(Z:ck.gl t=true)(h:PEs Γ F X es [a]) :
  EvT Γ X (.Call (.Name "isinstance" p) [a,.Name t py] [] pos) (kL F (.bi b es)):=by
 refine .val ?_
 obtain⟨g1,g2,g3⟩:=G.gl hg
 obtain⟨t1,t2,t3⟩:=G.gl Z
 obtain⟨hk,J,hv,Y⟩:=bD8 hb
 have a0:PE X (.Name t py) (tC (.ty (al9 k))):=bk1 t1 (G.bi _ J) hv rfl t3 t2
 cases es with
 | nil=>exact h.elim
 | cons e es =>
  cases es with
  | cons _ _=>exact h.2.elim
  | nil =>
   obtain⟨⟨hs,ha,_⟩,_⟩:=h
   have hA:PA X [a,.Name t py] (al6 (TEv Γ (kL F e)) (al6 (tC (.ty (al9 k))) aK9)):=zw ha (zw a0 ab6 (zd rfl)) (zd hs)
   refine(ae0 (bH6 G.K hk) g1 (G.bi _ (by decide)) qu hA g3 g2 (zd hs) (zE λ e he=>by rw[bE.mp he];rfl).1).imp λ σ H Q q=>?_
   obtain⟨φ,ρ,s,d,s',E,R,J,q⟩:=q
   obtain⟨l,s1,e1,J⟩:=aa0 J
   obtain⟨x,s2,e2,e1⟩:=aa0 e1
   obtain⟨l2,s3,e3,e1⟩:=aa0 e1
   cases e3
   cases e1
   rw[Y]at J
   refine⟨φ,ρ,s,x,_,E,R,e2,λ v φ1 H1 g1 l1 b1 r1 R1=>?_⟩
   exact⟨v,rfl,φ1,_,[x],d,s',R1,.cons r1 .nil,by unfold kI;rw[b1];rfl,J,q.trans g1 l1⟩
end
section
variable {Γ:Gm} {F:kW} {n:Nat} {X:Cx} {ck:Ck} {σ:St} {H:Hp}
def TAp (Γ:Gm)(cells:List (Str×Addr))(N:List Str)(m:kJ->kG->kK (List kH)):TA:=λ σ H Q=>∃ φ ρ s l s',RE Γ φ H s.length ρ σ/\Rp Γ φ H s/\m ρ s=.ok l s' /\
 ∀ vs φ' H',Gr φ s H φ' s' H'->s.length<=s'.length->kI s'.length l=true->PVL Γ cells N σ φ' H' l vs->Rp Γ φ' H' s'->Q vs H'
theorem TAp.eq {cells:List (Str×Addr)}{N:List Str}{m m':kJ->kG->kK (List kH)}{Q:List V->Hp->Prop}(e:∀ ρ s,m ρ s=m' ρ s)(q:TAp Γ cells N m σ H Q):TAp Γ cells N m' σ H Q:=by
 obtain⟨φ,ρ,s,l,s',E,R,h,q⟩:=q
 exact⟨φ,ρ,s,l,s',E,R,by rw[<-e];exact h,q⟩
theorem bu9 {cells:List (Str×Addr)}{N:List Str}{Q:List V->Hp->Prop}(h:TAp Γ cells N (λ ρ s=>.ok [] s) σ H Q):aK9 σ H Q:=by
 obtain⟨φ,ρ,s,l,s',E,R,F,q⟩:=h
 cases F
 exact q [] φ H (Gr.refl _ _ _) (am _) rfl .nil R
theorem by3 {cells:List (Str×Addr)}{N:List Str}{m:kJ->kG->kK kH}{Z:kJ->kG->kK (List kH)}{Q:List V->Hp->Prop}(h:TAp Γ cells N (λ ρ s=>(m ρ s).bind λ d s=>(Z ρ s).bind λ l s=>.ok (d::l) s) σ H Q):al6 (TEv Γ m) (TAp Γ cells N Z) σ H Q:=by
 obtain⟨φ,ρ,s,l,s',E,R,F,q⟩:=h
 obtain⟨x,s1,e1,F⟩:=aa0 F
 obtain⟨y,s2,e2,F⟩:=aa0 F
 cases F
 refine⟨φ,ρ,s,x,s1,E,R,e1,λ v φ1 H1 g1 l1 G r1 R1=>?_⟩
 refine⟨φ1,ρ,s1,y,s',E.mono g1 l1,R1,e2,λ vs φ2 H2 Y J b2 r2 R2=>?_⟩
 exact q (v::vs) φ2 H2 (g1.trans Y l1) (av l1 J) (by unfold kI;rw[zl J x G,b2];rfl) (.cons (PVp.mono Y G (.inl r1)) r2) R2
end
section
variable {Γ:Gm} {F:kW} {n:Nat} {X:Cx} {ck:Ck} {σ:St} {H:Hp} {Q:VK}
def bU9 (K:ae)(H:Hp)(v:V)(ys:List V)(z:Bool):Prop:=(∃ a,v=.ref a/\(SqL K H a ys\/(SqT K H a ys/\(z=true->H a=some (.tup ys)))))\/∃ x:List Nat,v=.str ⟨x.toArray⟩/\x.length<=kP/\ys=sgV x
def TLv (Γ:Gm)(m:kJ->kG->kK (List kH)):TE:=λ σ H Q=>∃ φ ρ s l s',RE Γ φ H s.length ρ σ/\Rp Γ φ H s/\m ρ s=.ok l s' /\
 ∀ v ys φ' H',Gr φ s H φ' s' H'->s.length<=s'.length->kI s'.length l=true->bU9 Γ.K H' v ys (kR l)->RVL Γ φ' H' l ys->Rp Γ φ' H' s'->Q v H'
theorem aD1 {m:kJ->kG->kK (List kH)}(h:TLv Γ m σ H Q):TFv Γ m σ H Q:=by
 obtain⟨φ,ρ,s,l,s',E,R,F,q⟩:=h
 exact⟨φ,ρ,s,l,s',E,R,F,λ p ys φ' H' g hl hb hp h0 ho r G=>q (.ref p) ys φ' H' g hl hb (.inl ⟨p,rfl,.inl (SqL.of hp)⟩) r G⟩
theorem ar9 {φ:Nat->Addr}:∀ x:List Nat,RVL Γ φ H (x.map λ c=>.str [c]) (sgV x)
 | []=>.nil
 | c::x=>.cons (RV.strI (by unfold kP;simp)) (ar9 x)
theorem am3 {k:Nat}:∀ x:List Nat,kI k (x.map λ c=>.str [c])=true
 | []=>rfl
 | c::x=>by rw[aV];unfold kI;rw[am3 x];rfl
theorem bA6 {m:kJ->kG->kK kH}(h:TLv Γ (λ ρ s=>(m ρ s).bind λ d s=>DV.bv5 d s) σ H Q):TEv Γ m σ H Q:=by
 obtain⟨φ,ρ,s,l,s',E,R,F,q⟩:=h
 obtain⟨d,s1,e1,F⟩:=aa0 F
 refine⟨φ,ρ,s,d,s1,E,R,e1,λ v φ1 Z g1 l1 b1 r1 R1=>?_⟩
 cases d with
 | tup l' =>
  cases F
  obtain⟨a,J,⟨rfl,z1⟩,Y,G⟩:=r1.tupZ
  unfold kN at b1
  exact q _ J φ1 Z g1 l1 b1 (.inl ⟨a,rfl,.inr ⟨Y,z1⟩⟩) G R1
 | str x =>
  cases F
  exact q v (sgV x) φ1 Z g1 l1 (am3 x) (.inr ⟨x,r1.strE,r1.strL,rfl⟩) (ar9 x) R1
 | ref k =>
  have F:(match s1[k]? with
   | some (.lst l)=>DV.R.ok l s1
   | some (.ro l)=>.ok l s1
   | _=>.bad)=.ok l s':=F
  rw[r1.refE]
  cases e:s1[k]? with
  | none=>rw[e]at F;exact fb F
  | some ob =>
   rw[e]at F
   cases ob with
   | lst l' =>
    cases F
    obtain⟨J,Y,G⟩:=R1.addr e
    have:=R1.wf k _ e
    unfold kM at this
    exact q _ J φ1 Z g1 l1 this (.inl ⟨_,rfl,.inl (SqL.of Y)⟩) G R1
   | ro l' =>
    cases F
    obtain⟨J,Y,G⟩:=R1.obj k _ e
    have:=R1.wf k _ e
    unfold kM at this
    exact q _ J φ1 Z g1 l1 this (.inl ⟨_,rfl,.inl Y.1⟩) G R1
   | _=>exact fb F
 | _=>exact fb F
theorem TLv.eq {m m':kJ->kG->kK (List kH)}(e:∀ ρ s,m ρ s=m' ρ s)(q:TLv Γ m σ H Q):TLv Γ m' σ H Q:=by
 have:m=m':=funext λ ρ=>funext λ s=>e ρ s
 subst this;exact q
theorem aG3 {m:kJ->kG->kK (List kH)}{a:Expr}{p pos:Pos}(G:CG Γ F n X ck)(hg:ck.gl "tuple"=true)(hs:shp a=true)(h:PE X a (TLv Γ m)) :
  PE X (.Call (.Name "tuple" p) [a] [] pos) (TEv Γ (λ ρ s=>(m ρ s).bind λ l s=>lM .tuple l s)):=by
 obtain⟨g1,g2,g3⟩:=G.gl hg
 refine(ai4 ((av9 G.K).or (ax9 G.calm)) g1 (G.bi _ (by decide)) aR7 (zw h ab6 (zd hs)) g3 g2 (zd hs) rfl).imp λ σ H Q q=>?_
 obtain⟨φ,ρ,s,d,s',E,R,J,q⟩:=q
 obtain⟨l,s1,e1,J⟩:=aa0 J
 cases J
 refine⟨φ,ρ,s,l,_,E,R,e1,λ v ys φ1 Z g1 l1 Y hq r1 R1=>?_⟩
 rcases hq with⟨a,rfl,hq|hq⟩|⟨x,rfl,hx,rfl⟩
 ·exact .inl ⟨a,ys,rfl,.inl ⟨hq,λ p hp=>(q.trans g1 l1).tup R1 r1 Y hp⟩⟩
 ·exact .inl ⟨a,ys,rfl,.inr ⟨hq.1,q _ φ1 Z g1 l1 (by unfold kN;exact Y) (RV.tupC hq.1 hq.2 r1) R1⟩⟩
 ·exact .inr ⟨x,rfl,hx,λ p hp=>(q.trans g1 l1).tup R1 r1 Y hp⟩
theorem aO8 {m:kJ->kG->kK (List kH)}{a:Expr}{p pos:Pos}(G:CG Γ F n X ck)(hg:ck.gl "list"=true)(hs:shp a=true)(h:PE X a (TLv Γ m)) :
  PE X (.Call (.Name "list" p) [a] [] pos) (TEv Γ (λ ρ s=>(m ρ s).bind λ l s=>lM .list l s)):=by
 obtain⟨g1,Z,g3⟩:=G.gl hg
 refine(ai4 ((aI5 G.K).or (aI0 G.calm)) g1 (G.bi _ (by decide)) bi2 (zw h ab6 (zd hs)) g3 Z (zd hs) rfl).imp λ σ H Q q=>?_
 obtain⟨φ,ρ,s,d,s',E,R,J,q⟩:=q
 obtain⟨l,s1,e1,J⟩:=aa0 J
 obtain⟨rfl,rfl⟩:=zR J
 refine⟨φ,ρ,s,l,_,E,R,e1,λ v ys φ1 H1 g1 l1 Y hq r1 R1=>?_⟩
 rcases hq with⟨a,rfl,hq⟩|⟨x,rfl,hx,rfl⟩
 ·exact .inl ⟨a,ys,rfl,hq.imp id (·.1),λ p hp=>(q.trans g1 l1).alloc R1 r1 Y hp⟩
 ·exact .inr ⟨x,rfl,hx,λ p hp=>(q.trans g1 l1).alloc R1 r1 Y hp⟩
theorem bD3 {m:kJ->kG->kK (List kH)}{k:lU}{x:Str}{a:Expr}{p pos:Pos}(G:CG Γ F n X ck)(hk:mkT k=some x)(hg:ck.gl x=true)(hs:shp a=true)(h:PE X a (TLv Γ m)) :
  PE X (.Call (.Name x p) [a] [] pos) (TEv Γ (λ ρ s=>(m ρ s).bind λ l s=>lM k l s)):=by
 cases k<;>cases hk
 ·exact aG3 G hg hs h
 ·exact aO8 G hg hs h
def FrC (Γ:Gm)(X:Cx)(x:Str)(k:lU):Prop:=∃ id r,a9 x=some (.builtin id)/\x∈bNames/\ab1 X (.builtin id) r/\∀ φ H s l ys p d s' Q,Rp Γ φ H s->RVL Γ φ H l ys->H p=some (.lst ys)->lM k l s=.ok d s'->ac4 Γ φ s H d s' Q->r [.ref p] H Q
theorem aE9:∀(l:List Int) (a:Int),(l.foldl min a=a\/l.foldl min a∈l)/\l.foldl min a<=a/\∀ y∈l,l.foldl min a<=y
 | [],a=>⟨.inl rfl,dW _,λ y hy=>by cases hy⟩
 | b::l,a=>by
  obtain⟨G,J,F⟩:=aE9 l (min a b)
  rw[db]
  refine⟨?_,by omega,λ y hy=>?_⟩
  ·rcases G with h|h
   ·rw[h]
    rcases km a b with z|z
    ·left;omega
    ·right;rw[show min a b=b by omega];exact aq ..
   ·exact .inr (ak _ h)
  ·rcases ax.mp hy with z|z
   ·rw[z];omega
   ·exact F y z
theorem aB9 {l:List Int}{m:Int}(h:lD l=some m):m∈l/\∀ y∈l,m<=y:=by
 cases l with
 | nil=>cases h
 | cons a l =>
  cases h
  obtain⟨J,G,F⟩:=aE9 l a
  refine⟨?_,λ y hy=>?_⟩
  ·rcases J with h|h
   ·rw[h];exact aq ..
   ·exact ak _ h
  ·rcases ax.mp hy with z|z
   ·rw[z];exact G
   ·exact F y z
theorem bl0 (G:CG Γ F n X ck){k:lU}{x:Str}(hk:mkF k=some x):FrC Γ X x k:=by
 cases k<;>cases hk
 ·refine⟨_,_,bP0,by decide,aQ7 G.calm G.K,λ φ H s l ys p d s' Q R r hp h q=>?_⟩
  unfold lM at h
  dsimp only at h
  cases e:lG l with
  | none=>rw[e]at h;exact fb h
  | some bs =>
   rw[e]at h
   cases h
   have:=aj3 e
   subst this
   exact⟨p,bs,rfl,SqL.of (by rw[<-r.bls];exact hp),q.here R rfl RV.blI⟩
 ·refine⟨_,_,aV6,by decide,aS2 G.calm G.K,λ φ H s l ys p d s' Q R r hp h q=>?_⟩
  unfold lM at h
  dsimp only at h
  cases e:lC l with
  | none=>rw[e]at h;exact fb h
  | some is =>
   rw[e]at h
   have h:(match lD is with|some m=>DV.R.ok (DV.D.int m) s|none=>.bad)=.ok d s':=h
   cases e2:lD is with
   | none=>rw[e2]at h;exact fb h
   | some mm =>
    rw[e2]at h
    cases h
    have:=zO e
    subst this
    refine⟨p,is,rfl,SqL.of (by rw[<-r.ints];exact hp),(λ(z:is=[])=>by rw[z]at e2;cases e2),λ m h J=>?_⟩
    obtain⟨a,b⟩:=aB9 e2
    have:m=mm:=jE (J mm a) (b m h)
    rw[this]
    exact q.here R rfl RV.intI
theorem bH1 {m:kJ->kG->kK (List kH)}{k:lU}{x:Str}{a:Expr}{p pos:Pos}(G:CG Γ F n X ck)(hk:mkF k=some x)(hg:ck.gl x=true)(hs:shp a=true)(h:PE X a (TFv Γ m)) :
  PE X (.Call (.Name x p) [a] [] pos) (TEv Γ (λ ρ s=>(m ρ s).bind λ l s=>lM k l s)):=by
 obtain⟨g1,Z,g3⟩:=G.gl hg
 obtain⟨id,r,hb,hx,hc,hr⟩:=bl0 (Γ:=Γ) G hk
 refine(ae0 hc g1 (G.bi _ hx) hb (zw h ab6 (zd hs)) g3 Z (zd hs) rfl).imp λ σ H Q q=>?_
 obtain⟨φ,ρ,s,d,s',E,R,J,q⟩:=q
 obtain⟨l,s1,e1,J⟩:=aa0 J
 exact⟨φ,ρ,s,l,_,E,R,e1,λ p ys φ1 Y g1 l1 b1 hp h0 ho r1 R1=>hr φ1 Y s1 l ys p d s' Q R1 r1 hp J (q.trans g1 l1)⟩
theorem aF1 {x:kH}{s s':kG}{l:List kH}(h:l8 x s=.ok l s'):s'=s/\∃ r,x=.ref r/\s[r]?=some (.lst l):=by
 unfold l8 at h
 split at h
 ·rename_i r
  split at h
  ·rename_i F e;cases h;exact⟨rfl,r,rfl,e⟩
  ·exact fb h
 ·exact fb h
theorem bq5 {md me:kJ->kG->kK (kH)}{a de:Expr}{p pos kp:Pos}(G:CG Γ F n X ck)(hg:ck.gl "min"=true)(hs:shp a=true)(h:PE X a (TEv Γ me))(hd:PE X de (TEv Γ md)) :
  PE X (.Call (.Name "min" p) [a] [⟨some "default",de,kp⟩] pos) (TEv Γ (λ ρ s=>(me ρ s).bind λ x s=>(md ρ s).bind λ d s=>(l8 x s).bind λ l s=>DV.mkD .min l d s)):=by
 obtain⟨g1,g2,g3⟩:=G.gl hg
 refine(bo8 rfl G.calm g1 (G.bi _ (by decide)) h hd (zd hs)).imp λ σ H Q q=>?_
 obtain⟨φ,ρ,s,d,s',E,R,hm,q⟩:=q
 obtain⟨x0,s1,e1,a0⟩:=aa0 hm
 obtain⟨d0,s2,e2,J⟩:=aa0 a0
 obtain⟨l,s3,e3,Y⟩:=aa0 J
 clear hm a0 J
 obtain⟨rfl,r0,rfl,er⟩:=aF1 e3
 refine⟨φ,ρ,s,_,s1,E,R,e1,λ v0 φ1 H1 g1 l1 b1 r1 R1=>?_⟩
 refine⟨φ1,ρ,s1,d0,_,E.mono g1 l1,R1,e2,λ v φ2 H2 g2 l2 b2 r2 R2=>?_⟩
 obtain⟨ys,a1,hy⟩:=R2.addr er
 have hlt:r0<s1.length:=by unfold kN at b1;exact of_decide_eq_true b1
 rw[g2.w.map r0 hlt]at a1
 unfold DV.mkD at Y
 dsimp only at Y
 cases e:lC l with
 | none=>rw[e]at Y;exact fb Y
 | some is =>
  rw[e]at Y
  have J:(match lD is with|some m=>DV.R.ok (DV.D.int m) _|none=>DV.R.ok d0 _)=.ok d s':=Y
  have:=zO e
  subst this
  have hq:=q.trans (g1.trans g2 l1) (av l1 l2)
  refine⟨φ1 r0,is,r1.refE,SqL.of (by rw[<-hy.ints];exact a1),λ z=>?_,λ m Z a2=>?_⟩
  ·subst z
   cases J
   exact hq.here R2 b2 r2
  ·clear e2
   cases e2:lD is with
   | none =>
    cases is with
    | nil=>cases Z
    | cons _ _=>cases e2
   | some mm =>
    rw[e2]at J
    cases J
    obtain⟨x,y⟩:=aB9 e2
    have:m=mm:=jE (a2 mm x) (y m Z)
    rw[this]
    exact hq.here R2 rfl RV.intI
theorem aX9 {φ φ':Nat->Addr}{s s':kG}{H':Hp}{r:Nat}{l:List kH}(R:Rp Γ φ H s)(g:Gr φ s H φ' s' H')(hb:r<s.length)(e:s'[r]?=some (.lst l)):tyV Γ.K "list" (.ref (φ r)) H:=by
 obtain⟨h,F⟩:∃ h,s[r]?=some h:=⟨s[r],ag hb⟩
 have G:=g.mu r h _ F e rfl
 have ho:=R.obj r h F
 cases h with
 | lst l0 =>
  obtain⟨J,Y,_⟩:=ho
  exact .inl ⟨rfl,J,SqL.of Y⟩
 | ro _=>cases G
 | dic _=>have:=g.kd r _ _ F e;cases this
 | dit _=>have:=g.kd r _ _ F e;cases this
 | ins _ _=>exact ho.elim
def mtR (Γ:Gm)(m:lV):V->List V->Hp->VK->Prop:=λ x vs H Q=>∃ φ s a l d s',Rp Γ φ H s/\RV Γ φ H a x/\RVL Γ φ H l vs/\a.bnd s.length=true/\kI s.length l=true/\lT m a l s=.ok d s'/\ac4 Γ φ s H d s' Q
theorem bA8:kP<aH:=by rw[eN];decide
theorem ao0 {m:lV}{x:Str}{k:Nat}(J:mtT m=some (x,k)){a:kH}{l:List kH}{s s':kG}{d:kH}(h:lT m a l s=.ok d s'):∃ r l0,a=.ref r/\s[r]?=some (.lst l0):=by
 have go:∀ {r:Nat} {f:List kH->kK kH},(match s[r]? with|some (.lst l)=>f l|_=>.bad)=.ok d s'->∃ l0,s[r]?=some (.lst l0):=λ {r f} h=>by
  cases e:s[r]? with
  | none=>rw[e]at h;exact fb h
  | some ob =>
   cases ob with
   | lst l0=>exact⟨l0,rfl⟩
   | _=>rw[e]at h;exact fb h
 cases a with
 | ref r =>
  have F:∀ {f:List kH->kK kH},(match s[r]? with|some (.lst l)=>f l|_=>.bad)=.ok d s'->∃ G l0,DV.D.ref r=.ref G/\s[G]?=some (.lst l0):=λ h=>by obtain⟨l0,e⟩:=go h;exact⟨_,l0,rfl,e⟩
  cases m with
  | append=>match l with
   | [d]=>exact F h
   | []=>exact fb h
   | _::_::_=>exact fb h
  | pop=>match l with
   | []=>exact F h
   | _::_=>exact fb h
  | reverse=>match l with
   | []=>exact F h
   | _::_=>exact fb h
  | clear=>match l with
   | []=>exact F h
   | _::_=>exact fb h
  | index=>match l with
   | [d]=>exact F h
   | []=>exact fb h
   | _::_::_=>exact fb h
  | _=>exact fb h
 | _=>cases m<;>exact fb h
theorem bc6:MtR X "list.append" (mtR Γ .append):=by
 intro G sh σ H x vs v us Q I rx rv h
 obtain⟨φ,s,a,l,d,s',R,ra,rl,ba,bl,F,q⟩:=h
 obtain⟨r,l0,rfl,e⟩:=ao0 (m:=.append) rfl F
 cases l with
 | nil=>exact fb F
 | cons y t =>
  cases t with
  | cons _ _=>exact fb F
  | nil =>
   simp only[lT,e]at F
   split at F
   case isFalse=>exact fb F
   rename_i hlt
   cases F
   obtain⟨z,rfl,rz⟩:=rl.one
   obtain⟨Z,h1,Y⟩:=R.addr e
   have J:kI s.length l0=true:=by have:=R.wf r _ e;unfold kM at this;exact this
   refine as3 G sh σ H x [z] v us Q I rx rv ⟨φ r,Z,z,ra.refE,rfl,h1,by rw[Y.length];have:=bA8;omega,?_⟩
   exact q.put R e (Y.append (.cons rz .nil)) (zF J bl) rfl RV.nonI
theorem aM1:MtR X "list.reverse" (mtR Γ .reverse):=by
 intro F sh σ H x vs v us Q I rx rv h
 obtain⟨φ,s,a,l,d,s',R,ra,rl,ba,bl,G,q⟩:=h
 obtain⟨r,l0,rfl,e⟩:=ao0 (m:=.reverse) rfl G
 cases l with
 | cons _ _=>exact fb G
 | nil =>
  simp only[lT,e]at G
  cases G
  have hv:=rl.unnil
  subst hv
  obtain⟨Y,Z,h2⟩:=R.addr e
  have J:kI s.length l0=true:=by have:=R.wf r _ e;unfold kM at this;exact this
  refine aI4 F sh σ H x [] v us Q I rx rv ⟨φ r,Y,ra.refE,rfl,Z,?_⟩
  exact q.put R e h2.reverse (aE2 J λ d hd=>jv.mp hd) rfl RV.nonI
structure MtOk (Γ:Gm)(X:Cx)(m:lV)(x:Str):Prop where
 ex:∃ id,PySem.Slot "list" x id/\jm (.builtin id)=pure (.type "method_descriptor")/\MtR X id (mtR Γ m)
theorem bx1 (J:X.K=Γ.K)(G:Room (kT+1) X.A){m:lV}{x:Str}{k:Nat}(h:mtT m=some (x,k)):MtOk Γ X m x:=by
 cases m<;>cases h
 ·exact⟨_,gK,PySem.F.type_list_append,bc6⟩
 ·exact⟨_,gq,PySem.F.type_list_reverse,aM1⟩
theorem bd5 {m:lV}{o:lS}{es:lh}{ob:Expr}{Y:List Expr}{x:Str}{ap cp:Pos}(G:CG Γ F n X ck)(hm:mtT m=some (x,Y.length))(hab:bL1 ob=true)(hl:(ap.endLine==cp.line)=true)(ho:PE X ob (TEv Γ (kL F o)))
  (a3:mEs ck es Y=true) (h:PEs Γ F X es Y):EvT Γ X (.Call (.Attribute ob x ap) Y [] cp) (kL F (.meth m o es)):=by
 refine .val ?_
 obtain⟨id,slot,a2,hr⟩:=(bx1 (Γ:=Γ) (X:=X) G.K (G.room.mono G.deep) hm).ex
 have hs:=aw6 a3
 have key:∀ σ H Q,TEv Γ (kL F (.meth m o es)) σ H Q->tBM Γ.K "list" (mtR Γ m) (TEv Γ (kL F o)) (TAv Γ (ln F es)) σ H Q:=λ σ H Q q=>by
  obtain⟨φ,ρ,s,d,s',E,R,J,q⟩:=q
  obtain⟨a,s1,e1,J⟩:=aa0 J
  obtain⟨l,s2,e2,J⟩:=aa0 J
  refine⟨φ,ρ,s,a,s1,E,R,e1,λ v φ1 H1 g1 l1 Z r1 R1=>?_⟩
  obtain⟨r,l0,rfl,er⟩:=ao0 hm J
  rw[r1.refE]
  have hk:∀ φ2 H2,Gr φ1 s1 H1 φ2 s2 H2->tyV Γ.K "list" (.ref (φ1 r)) H1:=λ φ2 H2 g2=>aX9 R1 g2 (by unfold kN at Z;exact of_decide_eq_true Z) er
  have a1:TAv Γ (ln F es) σ H1 λ Y H2=>mtR Γ m (.ref (φ1 r)) Y H2 Q:=by
   refine⟨φ1,ρ,s1,l,s2,E.mono g1 l1,R1,e2,λ vs φ2 H2 g2 l2 b2 r2 R2=>?_⟩
   refine⟨φ2,s2,.ref r,l,d,s',R2,?_,r2,zl l2 _ Z,b2,J,q.trans (g1.trans g2 l1) (av l1 l2)⟩
   have:=RV.mono g2 _ _ Z r1
   rw[r1.refE]at this
   exact this
  refine⟨?_,a1⟩
  have hlt:r<s1.length:=by unfold kN at Z;exact of_decide_eq_true Z
  obtain⟨o0,e0⟩:∃ o0,s1[r]?=some o0:=⟨s1[r],ag hlt⟩
  have a0:=R1.obj r o0 e0
  cases o0 with
  | lst l0 =>
   obtain⟨Y,h1,_⟩:=a0
   exact .inl ⟨rfl,Y,SqL.of h1⟩
  | ro l0 =>
   obtain⟨Y,h1,_⟩:=a0
   exact .inl ⟨rfl,Y,h1.1⟩
  | dic _ =>
   obtain⟨o',eo,ek⟩:=DV.ad8 G.fk es ρ s1 _ _ e2 r _ e0
   rw[er]at eo;cases eo;cases ek
  | dit _ =>
   obtain⟨o',eo,ek⟩:=DV.ad8 G.fk es ρ s1 _ _ e2 r _ e0
   rw[er]at eo;cases eo;cases ek
  | ins _ _=>exact a0.elim
 cases Y with
 | nil =>
  have p0:PE X (.Call (.Attribute ob x ap) [] [] cp) (bR1 X.K "list" (mtR Γ m) (TEv Γ (kL F o))):=by8 f7 slot a2 hr ho (aT8 hab) hl
  rw[G.K]at p0
  refine p0.imp λ σ H Q q=>?_
  cases es with
  | cons _ _=>exact h.elim
  | nil =>
   obtain⟨φ,ρ,s,d,s',E,R,J,k⟩:=key σ H Q q
   refine⟨φ,ρ,s,d,s',E,R,J,λ v φ1 H1 g1 l1 Z r1 R1=>?_⟩
   obtain⟨h1,h2⟩:=k v φ1 H1 g1 l1 Z r1 R1
   exact⟨h1,aC9 (TAv.eq (λ ρ s=>rfl) h2)⟩
 | cons y ys =>
  refine(bH7 G.K f7 slot a2 hr ho (am4 h) (aT8 hab) ?_ hl (zd (hs y (aq ..))) (zE λ e he=>hs e (ak _ he)).1).imp key
  rw[(zE hs).2]
  have:(y::ys).length<=1:=by
   unfold mtT at hm
   split at hm<;>first|(have:=au hm;have:=congrArg Prod.snd this;simp at this;simp;omega)|cases hm
  simp only[iE,eZ,kn]
  show(true&&decide ((y::ys).length+0+0<30))=true
  rw[iE]
  exact decide_eq_true (by omega)
end
section
variable {Γ:Gm} {F:kW} {n:Nat} {X:Cx} {ck:Ck} {σ:St} {H:Hp} {Q:VK}
theorem PIf.imp {e:List Expr}{t t':TT}(h:PIf X e t)(i:∀ σ H Q,t' σ H Q->t σ H Q):PIf X e t':=λ F s σ H Q I q=>h F s σ H Q I (i σ H Q q)
structure CompF (Γ:Gm)(X:Cx)(m:kJ->kG->kK (List kH))(E:Expr):Prop where
 ex:∃ elt tgt iter ifs scope pos N' caps wi g tc te,E=.ListComp elt [⟨tgt,iter,ifs,0⟩] scope pos/\zJ N' caps scope X.N X.env.scope=true/\PI X tgt iter wi /\
  (∀(C:Addr) (cells:List (Str×Addr)) (s:af) (H:Hp) (ex:List Addr),PG (zA X N' scope C cells s H ex) tgt g/\PIf (zA X N' scope C cells s H ex) ifs tc/\PE (zA X N' scope C cells s H ex) elt te) /\
  (∀ x,dq iter X.env x=pure x)/\∀ σ H Q,TFv Γ m σ H Q->tComp caps wi g tc te σ H Q
theorem CompF.pe {m:kJ->kG->kK (List kH)}{E:Expr}(h:CompF Γ X m E)(hc:X.calm=true):PE X E (TFv Γ m):=by
 obtain⟨a0,a1,iter,J,scope,pos,N',F,wi,g,tc,te,rfl,Y,h2,G,Z,h5⟩:=h.ex
 exact(aM8 N' F Y h2 hc G Z).imp h5
theorem bj5 {tg:lr}{mI:kJ->kG->kK lx}{mc Z:kJ->kG->kK kH}{h:List (Option Nat)}{Y J iter i:Expr}{scope:Scope}{pos:Pos}(G:CG Γ F n X ck)(hm:aI6 ck tg J iter h scope=true)
  (hi:PI X J iter (TIv Γ mI)) (hc:∀ C cells s H ex,PT (zA X (ckC ck J h scope).N scope C cells s H ex) i (TTv Γ mc)) (he:∀ C cells s H ex,PE (zA X (ckC ck J h scope).N scope C cells s H ex) Y (TEv Γ Z)) :
  CompF Γ X (λ ρ s=>(mI ρ s).bind λ q s0=>if q.its.length<=kP then lJ (λ s=>lv s0 s q.src) (λ d ρ s=>match k9 ρ tg d with
   | some ρ=>kS (mc ρ s) λ k s=>if k then(Z ρ s).bind λ v s=>.ok (some v,ρ) s else .ok (none,ρ) s
   | none=>.bad) q.its (lK ρ h) s0 else .bad) (.ListComp Y [⟨J,iter,[i],0⟩] scope pos):=by
 obtain⟨c1,c2,c3⟩:=G.comp hm
 exact⟨Y,J,iter,[i],scope,pos,_,h,_,_,_,_,rfl,c1,hi,λ C cells s H ex=>⟨(c3 C cells s H ex).2,bs8 (hc C cells s H ex),he C cells s H ex⟩,aw7 c2,λ σ H Q q=>aQ0 q⟩
theorem ba2 {tg:lr}{mI:kJ->kG->kK lx}{me:kJ->kG->kK kH}{h:List (Option Nat)}{Y J iter:Expr}{scope:Scope}{pos:Pos}(G:CG Γ F n X ck)(Z:aI6 ck tg J iter h scope=true)
  (hi:PI X J iter (TIv Γ mI)) (he:∀ C cells s H ex,PE (zA X (ckC ck J h scope).N scope C cells s H ex) Y (TEv Γ me)) :
  CompF Γ X (λ ρ s=>(mI ρ s).bind λ q s0=>if q.its.length<=kP then lJ (λ s=>lv s0 s q.src) (λ d ρ s=>match k9 ρ tg d with
   | some ρ=>(me ρ s).bind λ v s=>.ok (some v,ρ) s
   | none=>.bad) q.its (lK ρ h) s0 else .bad) (.ListComp Y [⟨J,iter,[],0⟩] scope pos):=by
 obtain⟨c1,c2,c3⟩:=G.comp Z
 refine⟨Y,J,iter,[],scope,pos,_,h,_,_,TTv Γ (λ ρ s=>.ok (.bl true) s),_,rfl,c1,hi,λ C cells s H ex=>⟨(c3 C cells s H ex).2,bk2.imp λ σ H Q q=>?_,he C cells s H ex⟩,aw7 c2,λ σ H Q q=>aQ0 (TFv.eq (λ ρ s=>?_) q)⟩
 ·obtain⟨φ,ρ,s,b,s',E,R,Z,q⟩:=q
  cases Z
  exact q φ H (Gr.refl _ _ _) (am _) R
 ·congr 1
theorem bj4 {tg:Expr}{e:lS}{E:Expr}(G:CG Γ F n X ck)(h:PE X E (TEv Γ (kL F e))):PI X tg E (TIv Γ (l9 F (.seq e))):=by
 refine(PI.or (bm3 G.K h) (PI.or (aW5 G.K h) (bF7 h))).imp λ σ H R q=>bw9 (TIv.eq (λ ρ s=>rfl) q)
theorem aX1 {tg:Expr}{a:lS}{l:Expr}{p pos:Pos}(G:CG Γ F n X ck)(hg:ck.gl "range"=true)(hs:shp l=true)(h:PE X l (TEv Γ (kL F a))):PI X tg (.Call (.Name "range" p) [l] [] pos) (TIv Γ (l9 F (.rng1 a))) :=
 (aK1 (G.gl hg).1 (G.bi _ (by decide)) (zw h ab6 (zd hs)) (zd hs)).imp λ σ H R q=>bp8 (TIv.eq (λ ρ s=>rfl) q)
theorem aY6 {elts:List Expr}{ek:Nat}{epos:Pos}{a:lS}{l:Expr}{p pos:Pos}(G:CG Γ F n X ck)(hg:ck.gl "enumerate"=true)(hs:shp l=true)(h:PE X l (TEv Γ (kL F a))):PI X (.Tuple elts ek epos) (.Call (.Name "enumerate" p) [l] [] pos) (TIv Γ (l9 F (.enum (.seq a)))):=by
 have q:=bk8 (elts:=elts) (ek:=ek) (epos:=epos) (p:=p) (pos:=pos) (G.gl hg).1 (G.bi _ (by decide)) (zw h ab6 (zd hs)) (zd hs)
 rw[G.K]at q
 exact q.imp λ σ H R q=>br3 (TIv.eq (λ ρ s=>rfl) q)
theorem by6 (h:TEv Γ (λ ρ s=>lz (.dic []) s) σ H Q):bh3 σ H Q:=by
 obtain⟨φ,ρ,s,d,s',E,R,F,q⟩:=h
 obtain⟨rfl,rfl⟩:=zR F
 intro p hp
 obtain⟨g,G⟩:=R.new (o:=.dic []) (u:=.dK []) hp rfl λ φ' H' g e=>⟨[],e,rfl⟩
 exact q (.ref p) _ _ g (by simp) (by unfold kN;simp) (by unfold RV;simp) G
theorem bz7 {mk mv:kJ->kG->kK kH}(h:TEv Γ (λ ρ s=>(mk ρ (s++[.dic []])).bind λ kd s1=>(mv ρ s1).bind λ J s2=>if kd.key=true/\s2[s.length]?=some (.dic [])then .ok (.ref s.length) (s2.set s.length (.dic [(kd,J)]))else .bad) σ H Q):bw6 [(TEv Γ mk,TEv Γ mv)] σ H Q:=by
 obtain⟨φ,ρ,s,d,s',E,R,F,q⟩:=h
 obtain⟨kd,s1,e1,F⟩:=aa0 F
 obtain⟨J,s2,e2,F⟩:=aa0 F
 split at F
 case isFalse=>exact fb F
 rename_i hc
 cases F
 intro p hp
 obtain⟨g0,R0⟩:=R.new (o:=.dic []) (u:=.dK []) hp rfl λ φ' H' g e=>⟨[],e,rfl⟩
 have l0:s.length<=(s++[DV.O.dic []]).length:=by simp
 refine⟨_,ρ,s++[DV.O.dic []],kd,s1,E.mono g0 l0,R0,e1,λ v1 φ1 H1 g1 l1 b1 r1 R1=>?_⟩
 refine⟨φ1,ρ,s1,J,s2,(E.mono g0 l0).mono g1 l1,R1,e2,λ v2 φ2 H2 Z Y b2 r2 R2=>?_⟩
 have G:φ2 s.length=p:=by
  rw[Z.w.map s.length (ao (by simp) l1),g1.w.map s.length (by simp)];simp
 obtain⟨k,hk⟩:=ah2 hc.1
 have ek:=au2 hk (RV.mono Z kd v1 b1 r1)
 obtain⟨a0,z1,z2⟩:=R2.obj s.length _ hc.2
 have z2:a0=[]:=z2
 subst z2
 rw[G]at z1
 refine⟨z1,[(k,v2)],by rw[ek];rfl,by simp,?_⟩
 have hb:(DV.O.dic [(kd,J)]).bnd s2.length=true:=by
  unfold kM
  simp only[aV,dA,kI,iD,aj]
  exact⟨zl Y _ b1,b2⟩
 obtain⟨g3,R3⟩:=R2.set (o:=.dic [(kd,J)]) (u:=.dK [(k,v2)]) hc.2 rfl hb λ H' g e=>⟨_,e,k,v2,[],rfl,hk,RV.monoW g _ _ b2 r2,rfl⟩
 rw[G]at g3 R3
 have L:s.length<=s2.length:=av l0 (av l1 Y)
 have lt:s.length<s2.length:=ao (by simp) (av l1 Y)
 exact q (.ref p) _ _ (((g0.trans g1 l0).trans Z (av l0 l1)).trans g3 L) (by rw[bA];exact L) (by unfold kN;rw[bA];exact decide_eq_true lt) (by unfold RV;rw[G]) R3
end
theorem aO7 (f:Nat->Int):∀ k,mf f k=bu (λ i j=>decide (f i<f j)) k
 | 0=>rfl
 | k+1=>by
  unfold mf bu
  rw[aO7 f k]
  by_cases h:f (k+1)<f (bu (λ i j=>decide (f i<f j)) k)
  ·rw[if_pos h,if_pos (by simpa using h)]
  ·rw[if_neg h,if_neg (by simpa using h)]
theorem bb6 {j:Int}{d:kH}{z:Int}(h:mz j d=some z):∃ t,d=.tup t/\((lj t.length j).bind λ k=>t[k]?)=some (.int z):=by
 cases d with
 | tup t =>
  have h:(match(lj t.length j).bind λ k=>t[k]? with|some (.int z)=>some z|_=>none)=some z:=h
  split at h
  ·rename_i e;cases h;exact⟨t,rfl,e⟩
  ·cases h
 | _=>cases h
theorem aD6 {j:Int}:∀ {l:List kH} {F:List Int},mh j l=some F->F.length=l.length/\∀(i:Nat) d,l[i]?=some d->∃ z t,d=.tup t/\((lj t.length j).bind λ k=>t[k]?)=some (.int z)/\F[i]?=some z
 | [],F,h=>by cases h;exact⟨rfl,λ i d e=>by cases e⟩
 | d::l,F,h=>by
  have h:(match mz j d with|some z=>(match mh j l with|some zs=>some (z::zs)|none=>none)|none=>none)=some F:=h
  cases e1:mz j d with
  | none=>rw[e1]at h;cases h
  | some z =>
   rw[e1]at h
   cases e2:mh j l with
   | none=>rw[e2]at h;cases h
   | some zs =>
    rw[e2]at h
    cases h
    obtain⟨Z,J⟩:=aD6 e2
    refine⟨by rw[aK,aK,Z],λ i d' G=>?_⟩
    cases i with
    | zero=>cases G;obtain⟨t,Y,q2⟩:=bb6 e1;exact⟨z,t,Y,q2,rfl⟩
    | succ i=>exact J i d' G
section
variable {Γ:Gm} {F:kW} {n:Nat} {X:Cx} {ck:Ck}
theorem bc3 {id:String}{j:Int}{me:kJ->kG->kK kH}{a:Expr}{params:bD}{body:Expr}{scope:Scope}{c P:Addr}{J:LamI}{p pos kp lp:Pos}(G:CG Γ F n X ck)(hg:ck.gl "min"=true)(hs:shp a=true)(h:PE X a (TEv Γ me))
  (L:LamHere Γ X X.N id [] params body scope c P J) (a5:J.nm=none) (hk:bf7 j (.Lambda params body scope lp)=true) :
  PE X (.Call (.Name "min" p) [a] [⟨some "key",.Lambda params body scope lp,kp⟩] pos) (TEv Γ (λ ρ s=>(me ρ s).bind λ x s=>(l8 x s).bind λ l s=>DV.ay6 j l s)):=by
 obtain⟨g1,g2,g3⟩:=G.gl hg
 cases body with
 | Subscript o i p3 =>
  cases o with
  | Name y p1 =>
   cases i with
   | Constant cc k p2 =>
    have hk:(decide (cc=.int j)&&decide (qv params=some [y])&&decide (scope.names.lookup y=some .local)&&!(y==("__debug__":Str)))=true:=hk
    rw[aj,aj,aj]at hk
    obtain⟨⟨⟨k1,k2⟩,k3⟩,k4⟩:=hk
    have e1:=of_decide_eq_true k1
    have e2:=of_decide_eq_true k2
    have e3:=of_decide_eq_true k3
    subst e1
    have a4:(y==("__debug__":Str))=false:=by simpa using k4
    have a3:J.ps=[y]:=by
     have:=L.gp
     rw[L.p,e2]at this
     exact(au this).symm
    have hq:J.qual=X.env.qual ++ "<lambda>":=by rw[L.q];unfold LamI.own;rw[a5]
    have hr:bT7 X (λ x f H Q=>∃ a xs fa c' Z pm a0,∃ kf:Nat->Int,x=.ref a/\f=.ref fa/\SqL X.K H a xs/\0<xs.length/\H fa=some (aC3 fa (bn "<lambda>" J.qual params (.Subscript (.Name y p1) (.Constant (.int j) k p2) p3) scope Z pm (.ref c') a0))/\H c'=some (qr c' J.qual) /\
      (∀(i:Nat) v,xs[i]?=some v->∃ p ys,v=.ref p/\SqT X.K H p ys/\atI ys j=some (.int (kf i)))/\∀ v,xs[bu (λ i j=>decide (kf i<kf j)) (xs.length - 1)]?=some v->Q v H):=by
     intro c1 s σ H x f v u Q I rx rf hh
     obtain⟨a,xs,fa,c',Z,pm,a0,kf,rfl,rfl,h1,h2,h3,h4,h5,h6⟩:=hh
     cases rx
     cases rf
     have gs:=L.gs
     rw[L.s]at gs
     refine aY2 kf G.calm G.room.depth I h1 h2 gs a3 e3 a4 h3 h4 (λ us b6=>?_) h5 h6
     have:=L.gb Z pm c' a0 us b6
     rw[L.p,L.b,L.s]at this
     exact this
    refine(br0 hr g1 (G.bi _ (by decide)) h (aU6 L.code L.hd L.bm L.ck L.df) (zd hs)).imp λ σ H Q q=>?_
    obtain⟨φ,ρ,s,d,s',E,R,hm,q⟩:=q
    obtain⟨x0,s1,e1,a2⟩:=aa0 hm
    obtain⟨l,s2,b2,Y⟩:=aa0 a2
    clear hm a2
    obtain⟨rfl,r0,rfl,er⟩:=aF1 b2
    refine⟨φ,ρ,s,_,_,E,R,e1,λ v φ1 H1 g1 l1 b1 r1 R1=>?_⟩
    rw[<-hq]
    refine aV8 R1.tab L.nd L.tab λ f H' e st tb hf ho=>?_
    obtain⟨gg,R2⟩:=R1.sameT e st tb
    obtain⟨pm,c',a0,a6,b0⟩:=ho
    obtain⟨xs,hp,hy⟩:=R2.addr er
    have c0:=hy.length
    unfold DV.ay6 at Y
    cases ek:mh j l with
    | none=>rw[ek]at Y;exact fb Y
    | some ks =>
     rw[ek]at Y
     have Y:(match l[mf (λ i=>ks.getD i 0) (l.length - 1)]? with|some d=>DV.R.ok d _|none=>.bad)=.ok d s':=Y
     obtain⟨kl,b3⟩:=aD6 ek
     cases el:l[mf (λ i=>ks.getD i 0) (l.length - 1)]? with
     | none=>rw[el]at Y;exact fb Y
     | some d0 =>
      rw[el]at Y
      cases Y
      refine⟨_,xs,f,c',_,pm,a0,λ i=>ks.getD i 0,r1.refE,rfl,by rw[G.K];exact SqL.of hp,by have:=(ac.mp el).1;omega,a6,b0,λ i v hv=>?_,λ v hv=>?_⟩
      ·obtain⟨d1,a1,rv⟩:=hy.get' hv
       obtain⟨z,t,rfl,hz,b5⟩:=b3 i d1 a1
       obtain⟨a',ys,rfl,hT,rt⟩:=rv.tupE
       obtain⟨w',hw,b4⟩:=aD9 rt hz
       have:=b4.intE
       subst this
       refine⟨a',ys,rfl,by rw[G.K];exact hT,?_⟩
       rw[hw]
       show _=some (V.int (ks.getD i 0))
       rw[aG,b5]
       rfl
      ·rw[<-aO7,c0]at hv
       obtain⟨d1,a1,rv⟩:=hy.get' hv
       rw[el]at a1
       cases a1
       have wf:=R1.wf _ _ er
       unfold kM at wf
       exact q v φ1 H' (g1.trans gg l1) l1 (ae4 wf el) rv R2
   | _=>exact ff hk
  | _=>exact ff hk
 | _=>exact ff hk
end
section
variable {Γ:Gm} {F:kW} {n:Nat}
theorem bI2 {X:Cx}{c:DV.Cn}{v:Const}{k:Nat}{pos:Pos}(h:mC c v=true):EvT Γ X (.Constant v k pos) (kL F (.cst c)):=by
 refine .val ?_
 unfold mC at h
 split at h
 ·exact bG7.imp λ σ H Q q=>aq0 (c:=.non) (λ _=>rfl) (λ _ _=>RV.nonI) (TEv.eq (λ ρ s=>rfl) q)
 ·rename_i b c
  have e:=eq_of_beq h
  subst e
  exact bA3.imp λ σ H Q q=>aq0 (c:=.bl b) (λ _=>rfl) (λ _ _=>RV.blI) (TEv.eq (λ ρ s=>rfl) q)
 ·rename_i i j
  have e:=of_decide_eq_true h
  subst e
  exact bh0.imp λ σ H Q q=>aq0 (c:=.int i) (λ _=>rfl) (λ _ _=>RV.intI) (TEv.eq (λ ρ s=>rfl) q)
 ·rename_i x y
  rw[aj]at h
  have e:=of_decide_eq_true h.1
  have e2:=of_decide_eq_true h.2
  subst e
  exact bh6.imp λ σ H Q q=>aq0 (c:=.str x) (λ _=>rfl) (λ _ _=>RV.strI (by unfold kP;omega)) (TEv.eq (λ ρ s=>rfl) q)
 ·cases h
theorem bq7 {X:Cx}{ck:Ck}{es:lh}{G:List Expr}{pos:Pos}(m:mEs ck es G=true)(hz:G.length<=1000)(h:PA X G (TAv Γ (ln F es))):PE X (.List G pos) (TFv Γ (DV.evL F (.disp es))):=by
 refine(be2 h).imp λ σ H Q q=>?_
 obtain⟨φ,ρ,s,l,s',E,R,J,q⟩:=q
 refine⟨φ,ρ,s,l,s',E,R,J,λ vs φ1 Y g1 l1 Z r1 R1=>⟨by rw[r1.length,ap1 J m];exact aM5 hz,λ p hp=>?_⟩⟩
 obtain⟨g2,R2⟩:=R1.same (H':=upd Y p (.lst vs)) ((ac1.refl Y).new hp)
 refine q p vs φ1 _ (g1.trans g2 l1) l1 Z zg ?_ (Off.new R1 hp) (RVL.mono g2 _ _ Z r1) R2
 cases e:H p with
 | none=>rfl
 | some o=>exact absurd hp (g1.st p (by rw[e];simp))
theorem CompF.eq {X:Cx}{m m':kJ->kG->kK (List kH)}{E:Expr}(c:CompF Γ X m E)(e:∀ ρ s,m' ρ s=m ρ s):CompF Γ X m' E:=by
 have:m'=m:=funext λ ρ=>funext λ s=>e ρ s
 subst this;exact c
theorem zh {a b:Bool}(h:(a&&b)=true):a=true/\b=true:=by rw[aj]at h;exact h
theorem bp9 {X:Cx}{Y:Ck}{g:String}{p:Pos}(G:CG Γ F n X Y)(h:Y.gl (g:Str)=true):EvT Γ X (.Name (g:Str) p) (kL F (.glob g)):=by
 refine .val ?_
 obtain⟨g1,g2,g3⟩:=G.gl h
 cases e:F.con g with
 | none =>
  intro Z s σ H Q I q
  obtain⟨φ,ρ,s,d,s',E,R,J,q⟩:=q
  have J:(match F.con g with|some d=>DV.R.ok d s|none=>.bad)=.ok d s':=J
  rw[e]at J
  cases J
 | some d =>
  obtain⟨v,u,h1,h2,h3,h4⟩:=G.con g d e
  exact(ak6 g1 h1 h2 g2).imp λ σ H Q q=>aq0 (c:=d) h3 h4 (TEv.eq (λ ρ s=>by show(match F.con g with|some d=>DV.R.ok d s|none=>.bad)=DV.R.ok d s;rw[e]) q)
theorem bD9 {X:Cx}{J:Ck}{i:Nat}{x:Str}{p:Pos}(G:CG Γ F n X J)(h:J.var i x=true):EvT Γ X (.Name x p) (kL F (.var i)):=by
 refine .val ?_
 unfold Ck.var at h
 obtain⟨h,h4⟩:=zh h
 obtain⟨h,Y⟩:=zh h
 obtain⟨h1,Z⟩:=zh h
 have e1:(x==("__debug__":Str))=false:=by simpa using Y
 have e2:(x==("__classdict__":Str))=false:=by simpa using h4
 exact(aP6 (by rw[G.N];exact of_decide_eq_true h1) (G.vis Z) e1 e2).imp λ σ H Q q=>bE9 i (TEv.eq (λ ρ s=>rfl) q)
theorem aA3 {X:Cx}{E:Expr}{m:kJ->kG->kK kH}(h:∀ ρ s,m ρ s=.bad):EvT Γ X E m:=by
 refine⟨λ G s σ H Q I q=>?_,λ G s σ H Q I q=>?_⟩
 ·obtain⟨φ,ρ,s,d,s',E,R,F,q⟩:=q
  rw[h]at F;exact fb F
 ·obtain⟨φ,ρ,s,d,s',E,R,F,q⟩:=q
  rw[h]at F;exact fb F
inductive LK (Γ:Gm)(X:Cx)(m:kJ->kG->kK (List kH))(E:Expr)(k:Nat):Prop where
 | c (h:CompF Γ X m E):LK Γ X m E k
 | f (hk:1<=k) (h:PE X E (TFv Γ m)):LK Γ X m E k
 | s (hk:k=2) (h:PE X E (TLv Γ m)):LK Γ X m E k
theorem bH3 {X:Cx}{m:kJ->kG->kK (List kH)}{E:Expr}(h:LK Γ X m E 0):CompF Γ X m E:=by
 cases h with
 | c h=>exact h
 | f hk h=>omega
 | s hk h=>omega
theorem bP6 {X:Cx}{J:Ck}{m:kJ->kG->kK (List kH)}{E:Expr}(G:CG Γ F n X J)(h:LK Γ X m E 1):PE X E (TFv Γ m):=by
 cases h with
 | c h=>exact h.pe G.calm
 | f hk h=>exact h
 | s hk h=>omega
theorem bM4 {X:Cx}{J:Ck}{m:kJ->kG->kK (List kH)}{E:Expr}(G:CG Γ F n X J)(h:LK Γ X m E 2):PE X E (TLv Γ m):=by
 cases h with
 | c h=>exact(h.pe G.calm).imp λ σ H Q q=>aD1 q
 | f hk h=>exact h.imp λ σ H Q q=>aD1 q
 | s hk h=>exact h
theorem aZ8 {u : Expr} (h : bR9 u = true) : ∃ k p1 p2, u = .UnaryOp .USub (.Constant (.int 1) k p1) p2 := by
  cases u with
  | UnaryOp o l p => cases o with
    | USub => cases l with
      | Constant c k p1 => cases c with
        | int i => have e : i = 1 := of_decide_eq_true h
                   subst e; exact⟨k, p1, p, rfl⟩
        | _ => exact ff h
      | _ => exact ff h
    | _ => exact ff h
  | _ => exact ff h
theorem biOk_inv {F:Ck}{b:lq}{x:Str}{G:List Expr}{es:lh}(h:bJ1 F b x G (mEs F es G) (mEs F es (G.take 1))=true) :
  (∃ k t a y py,biK b=some (k,t)/\G=[a,.Name y py]/\x=("isinstance":Str)/\y=t/\F.gl x=true/\F.gl y=true/\mEs F es [a]=true)\/∃ a ys,G=a::ys/\biT b=some x/\F.gl x=true/\mEs F es (a::ys)=true:=by
 unfold bJ1 at h
 cases hk:biK b with
 | none =>
  rw[hk]at h
  cases G with
  | nil=>exact ff h
  | cons a ys =>
   obtain⟨h,J⟩:=zh h
   obtain⟨Z,Y⟩:=zh h
   exact .inr ⟨a,ys,rfl,of_decide_eq_true Z,Y,J⟩
 | some p =>
  rw[hk]at h
  cases G with
  | nil=>exact ff h
  | cons a ys=>cases ys with
   | nil=>exact ff h
   | cons b ys=>cases b with
    | Name y py=>cases ys with
     | nil =>
      obtain⟨h,h5⟩:=zh h
      obtain⟨h,h4⟩:=zh h
      obtain⟨h,J⟩:=zh h
      obtain⟨Z,Y⟩:=zh h
      exact .inl ⟨p.1,p.2,a,y,py,rfl,rfl,of_decide_eq_true Z,of_decide_eq_true J,Y,h4,h5⟩
     | cons _ _=>exact ff h
    | _=>exact ff h
mutual
theorem sE:∀(e:lS) (E:Expr) (X:Cx) (Y:Ck),CG Γ F n X Y->mE Y e E=true->EvT Γ X E (kL F e)
 | .var i,E,X,Y,G,h=>by
  cases E with
  | Name x p =>
   exact bD9 G h
  | _=>exact ff h
 | .cst c,E,X,Y,G,h=>by
  cases E with
  | Constant v k p =>
   exact bI2 h
  | _=>exact ff h
 | .glob g,E,X,Y,G,h=>by
  cases E with
  | Name x p =>
   obtain⟨h1,Z⟩:=zh h
   have e:=of_decide_eq_true h1
   subst e
   exact bp9 G Z
  | _=>exact ff h
 | .bin op a b,E,X,Y,G,h=>by
  cases E with
  | BinOp l o r pE =>
   obtain⟨h,h3⟩:=zh h
   obtain⟨h1,Z⟩:=zh h
   have e:=of_decide_eq_true h1
   subst e
   exact bl5 G op (sE a _ X Y G Z) (sE b _ X Y G h3)
  | _=>exact ff h
 | .neg _,E,X,Y,G,h=>ff h
 | .not a,E,X,Y,G,h=>by
  cases E with
  | UnaryOp o l p =>
   cases o with
   | Not =>
    exact bs1 (sE a _ X Y G h)
   | _=>exact ff h
  | _=>exact ff h
 | .cmp op a b,E,X,Y,G,h=>by
  cases E with
  | Compare l os rs pE =>
   cases os with
   | cons o os_0 =>
    cases os_0 with
    | nil =>
     cases rs with
     | cons r rs_0 =>
      cases rs_0 with
      | nil =>
       obtain⟨h,h3⟩:=zh h
       obtain⟨h1,Z⟩:=zh h
       have e:=of_decide_eq_true h1
       subst e
       exact br5 G op (ar8 h3) (sE a _ X Y G Z) (sE b _ X Y G h3)
      | _=>exact ff h
     | _=>exact ff h
    | _=>exact ff h
   | _=>exact ff h
  | _=>exact ff h
 | .chain o p a b c,E,X,Y,G,h=>by
  cases E with
  | Compare l os rs pE =>
   cases os with
   | cons o1 os_0 =>
    cases os_0 with
    | cons o2 os_1 =>
     cases os_1 with
     | nil =>
      cases rs with
      | cons m rs_0 =>
       cases rs_0 with
       | cons r rs_1 =>
        cases rs_1 with
        | nil =>
         obtain⟨h,h5⟩:=zh h
         obtain⟨h,h4⟩:=zh h
         obtain⟨h,h3⟩:=zh h
         obtain⟨h1,Z⟩:=zh h
         have e:=of_decide_eq_true h1
         have e':=of_decide_eq_true Z
         subst e
         subst e'
         exact aT4 G o p (ar8 h5) (sE a _ X Y G h3) (sE b _ X Y G h4) (sE c _ X Y G h5)
        | _=>exact ff h
       | _=>exact ff h
      | _=>exact ff h
     | _=>exact ff h
    | _=>exact ff h
   | _=>exact ff h
  | _=>exact ff h
 | .isN a,E,X,Y,G,h=>by
  cases E with
  | Compare l os rs pE =>
   cases os with
   | cons o os1 =>
    cases o with
    | Is =>
     cases os1 with
     | nil =>
      cases rs with
      | cons r rs1 =>
       cases r with
       | Constant v k p1 =>
        cases v with
        | none =>
         cases rs1 with
         | nil =>
          exact bj8 (sE a _ X Y G h)
         | _=>exact ff h
        | _=>exact ff h
       | _=>exact ff h
      | _=>exact ff h
     | _=>exact ff h
    | _=>exact ff h
   | _=>exact ff h
  | _=>exact ff h
 | .notN a,E,X,Y,G,h=>by
  cases E with
  | Compare l os rs pE =>
   cases os with
   | cons o os1 =>
    cases o with
    | IsNot =>
     cases os1 with
     | nil =>
      cases rs with
      | cons r rs1 =>
       cases r with
       | Constant v k p1 =>
        cases v with
        | none =>
         cases rs1 with
         | nil =>
          exact aW1 (sE a _ X Y G h)
         | _=>exact ff h
        | _=>exact ff h
       | _=>exact ff h
      | _=>exact ff h
     | _=>exact ff h
    | _=>exact ff h
   | _=>exact ff h
  | _=>exact ff h
 | .isB _ _,E,X,Y,G,h=>ff h
 | .notB _ _,E,X,Y,G,h=>ff h
 | .and a b,E,X,Y,G,h=>by
  cases E with
  | BoolOp op vs p=>cases op with
   | And =>
    cases vs with
    | nil=>exact ff h
    | cons l vs=>cases vs with
     | nil=>exact ff h
     | cons r vs=>cases vs with
      | nil =>
       obtain⟨h1,Z⟩:=zh h
       exact bl1 (sE a _ X Y G h1) (sE b _ X Y G Z)
      | cons r2 vs =>
       obtain⟨h1,Z⟩:=zh h
       exact bn0 (sE a _ X Y G h1) (sE b _ X Y G Z)
   | _=>exact ff h
  | _=>exact ff h
 | .or a b,E,X,Y,G,h=>by
  cases E with
  | BoolOp op vs p=>cases op with
   | Or =>
    cases vs with
    | nil=>exact ff h
    | cons l vs=>cases vs with
     | nil=>exact ff h
     | cons r vs=>cases vs with
      | nil =>
       obtain⟨h1,Z⟩:=zh h
       exact bF8 (sE a _ X Y G h1) (sE b _ X Y G Z)
      | cons r2 vs =>
       obtain⟨h1,Z⟩:=zh h
       exact bD2 (sE a _ X Y G h1) (sE b _ X Y G Z)
   | _=>exact ff h
  | _=>exact ff h
 | .ite c a b,E,X,Y,G,h=>by
  cases E with
  | IfExp tE l r pE =>
   obtain⟨h,h3⟩:=zh h
   obtain⟨h1,Z⟩:=zh h
   exact bm9 (sE c _ X Y G h1) (sE a _ X Y G Z) (sE b _ X Y G h3)
  | _=>exact ff h
 | .tup es,E,X,Y,G,h=>by
  cases E with
  | Tuple xs k p =>
   obtain⟨h1,Z⟩:=zh h
   exact bo6 h1 (of_decide_eq_true Z) (am4 (sEs es _ X Y G h1))
  | _=>exact ff h
 | .lst es,E,X,Y,G,h=>by
  cases E with
  | List xs p =>
   obtain⟨h1,Z⟩:=zh h
   exact bo1 h1 (of_decide_eq_true Z) (am4 (sEs es _ X Y G h1))
  | _=>exact ff h
 | .dic .nil .nil,E,X,Y,G,h=>by
  cases E with
  | Dict a b p=>cases a with
   | nil=>cases b with
    | nil=>exact .val (aY3.imp λ σ H Q q=>by6 (TEv.eq (λ ρ s=>rfl) q))
    | _=>exact ff h
   | cons x a=>cases x with
    | none=>exact ff h
    | some x=>cases a with
     | nil=>cases b with
      | nil=>exact ff h
      | cons y b=>cases b with
       | nil=>exact ff h
       | _=>exact ff h
     | _=>exact ff h
  | _=>exact ff h
 | .dic (.cons k .nil) (.cons v .nil),E,X,Y,G,h=>by
  cases E with
  | Dict a b p=>cases a with
   | nil=>cases b with
    | nil=>exact ff h
    | _=>exact ff h
   | cons x a=>cases x with
    | none=>exact ff h
    | some x=>cases a with
     | nil=>cases b with
      | nil=>exact ff h
      | cons y b=>cases b with
       | nil =>
        obtain⟨h1,Z⟩:=zh h
        obtain⟨h1,_⟩:=zh h1
        obtain⟨h1,_⟩:=zh h1
        obtain⟨Z,_⟩:=zh Z
        obtain⟨Z,_⟩:=zh Z
        exact .val ((bq1 (aZ7 (sE k _ X Y G h1).1 (sE v _ X Y G Z).1 bm5) rfl rfl (by nofun) (by show 1<=15;decide)).imp λ σ H Q q=>bz7 (TEv.eq (λ ρ s=>rfl) q))
       | _=>exact ff h
     | _=>exact ff h
  | _=>exact ff h
 | .dic .nil (.cons _ _),E,X,Y,G,h=>aA3 λ _ _=>rfl
 | .dic (.cons _ .nil) .nil,E,X,Y,G,h=>aA3 λ _ _=>rfl
 | .dic (.cons _ .nil) (.cons _ (.cons _ _)),E,X,Y,G,h=>aA3 λ _ _=>rfl
 | .dic (.cons _ (.cons _ _)) _,E,X,Y,G,h=>aA3 λ _ _=>rfl
 | .bitl _,E,X,Y,G,h=>ff h
 | .lrng _,E,X,Y,G,h=>ff h
 | .dicT,E,X,Y,G,h=>ff h
 | .get2 _ _ _,E,X,Y,G,h=>ff h
 | .ix a b,E,X,Y,G,h=>by
  cases E with
  | Subscript o i p =>
   obtain⟨h1,Z⟩:=zh h
   exact bv8 G (ar8 Z) (sE a _ X Y G h1) (sE b _ X Y G Z)
  | _=>exact ff h
 | .slL _ _,E,X,Y,G,h=>ff h
 | .slU _ _,E,X,Y,G,h=>ff h
 | .slLU _ _ _,E,X,Y,G,h=>ff h
 | .rev a,E,X,Y,G,h=>by
  cases E with
  | Subscript o i p =>
   cases i with
   | Slice lo hi st p2 =>
    cases lo with
    | none =>
     cases hi with
     | none =>
      cases st with
      | some u =>
       obtain⟨h1,Z⟩:=zh h
       obtain⟨_,_,_,rfl⟩:=aZ8 h1
       exact bt5 G (sE a _ X Y G Z)
      | _=>exact ff h
     | _=>exact ff h
    | _=>exact ff h
   | _=>exact ff h
  | _=>exact ff h
 | .call f as,E,X,Y,G,h=>by
  cases E with
  | Call fE xs kw p =>
   cases fE with
   | Name x pN =>
    cases kw with
    | nil =>
     obtain⟨h,h3⟩:=zh h
     obtain⟨h1,Z⟩:=zh h
     have e:=of_decide_eq_true h1
     subst e
     exact aY0 G Z h3 (sAs as _ X Y G h3)
    | _=>exact ff h
   | _=>exact ff h
  | _=>exact ff h
 | .callC _ _,E,X,Y,G,h=>ff h
 | .callV _ _,E,X,Y,G,h=>ff h
 | .bi b es,E,X,Y,G,h=>by
  cases E with
  | Call fE xs kw p =>
   cases fE with
   | Name x pN =>
    cases kw with
    | nil =>
     have h:bJ1 Y b x xs (mEs Y es xs) (mEs Y es (xs.take 1))=true:=h
     rcases biOk_inv h with⟨k,t,a,y,py,hk,rfl,rfl,rfl,Z,h4,h5⟩|⟨a,ys,rfl,h1,Z,h3⟩
     ·exact bu4 G hk Z h4 (sEs es _ X Y G h5)
     ·exact bx3 G h1 Z h3 (am4 (sEs es _ X Y G h3))
    | _=>exact ff h
   | _=>exact ff h
  | _=>exact ff h
 | .mk k l,E,X,Y,G,h=>by
  cases E with
  | ListComp e gs sc p =>
   obtain⟨h1,Z⟩:=zh h
   have e:=of_decide_eq_true h1
   subst e
   exact .val (((bH3 (sL l _ X Y G 0 Z)).pe G.calm).imp λ σ H Q q=>aP4 (TEv.eq (λ ρ s=>rfl) q))
  | Call fE xs kw p =>
   cases fE with
   | Name x pN =>
    cases xs with
    | cons a xs_0 =>
     cases xs_0 with
     | nil =>
      cases kw with
      | nil =>
       obtain⟨h,h4⟩:=zh h
       obtain⟨Z,h3⟩:=zh h
       rw[bW]at h4
       rcases h4 with h4|h4
       ·obtain⟨h5,h6⟩:=zh h4
        exact .val ((bD3 G (of_decide_eq_true h5) Z h3 (bM4 G (sL l _ X Y G 2 h6))).imp λ σ H Q q=>TEv.eq (λ ρ s=>rfl) q)
       ·obtain⟨h5,h6⟩:=zh h4
        exact .val ((bH1 G (of_decide_eq_true h5) Z h3 (bP6 G (sL l _ X Y G 1 h6))).imp λ σ H Q q=>TEv.eq (λ ρ s=>rfl) q)
      | _=>exact ff h
     | _=>exact ff h
    | _=>exact ff h
   | _=>exact ff h
  | _=>exact ff h
 | .mks _ _,E,X,Y,G,h=>ff h
 | .mkDs k e d,E,X,Y,G,h=>by
  cases E with
  | Call fE xs kw p =>
   cases fE with
   | Name x pN =>
    cases xs with
    | cons a xs_0 =>
     cases xs_0 with
     | nil =>
      cases kw with
      | cons kk kw1 =>
       cases kk with
       | mk ky de kp =>
        cases ky with
        | some y =>
         cases kw1 with
         | nil =>
          obtain⟨h,h7⟩:=zh h
          obtain⟨h,h6⟩:=zh h
          obtain⟨h,h5⟩:=zh h
          obtain⟨h,h4⟩:=zh h
          obtain⟨h,h3⟩:=zh h
          obtain⟨h1,Z⟩:=zh h
          have e1:=of_decide_eq_true h1
          have e2:=of_decide_eq_true Z
          have e3:=of_decide_eq_true h3
          subst e1 e2 e3
          exact .val ((bq5 G h4 h5 (sE e _ X Y G h6).1 (sE d _ X Y G h7).1).imp λ σ H Q q=>TEv.eq (λ ρ s=>rfl) q)
         | _=>exact ff h
        | _=>exact ff h
      | _=>exact ff h
     | _=>exact ff h
    | _=>exact ff h
   | _=>exact ff h
  | _=>exact ff h
 | .minK id e jj,E,X,Y,G,h=>by
  cases E with
  | Call fE xs kw p =>
   cases fE with
   | Name x pN =>
    cases xs with
    | cons a xs_0 =>
     cases xs_0 with
     | nil =>
      cases kw with
      | cons kk kw1 =>
       cases kk with
       | mk ky de kp =>
        cases ky with
        | some y =>
         cases kw1 with
         | nil =>
          obtain⟨h,h7⟩:=zh h
          obtain⟨h,h6⟩:=zh h
          obtain⟨h,h5⟩:=zh h
          obtain⟨h,h4⟩:=zh h
          obtain⟨h,h3⟩:=zh h
          obtain⟨h1,Z⟩:=zh h
          have e1:=of_decide_eq_true h1
          have e2:=of_decide_eq_true Z
          subst e1 e2
          obtain⟨c,P,params,body,scope,lp,J,e3,L⟩:=G.lam id [] _ h6
          have a0:J.nm=none:=by
           cases q:J.nm with
           | none=>rfl
           | some p=>unfold lamText at e3;rw[q]at e3;rw[e3]at h7;cases h7
          unfold lamText at e3
          rw[a0]at e3
          dsimp only at e3
          subst e3
          rw[<-G.N]at L
          exact .val ((bc3 G h3 h4 (sE e _ X Y G h5).1 L a0 h7).imp λ σ H Q q=>TEv.eq (λ ρ s=>rfl) q)
         | _=>exact ff h
        | _=>exact ff h
      | _=>exact ff h
     | _=>exact ff h
    | _=>exact ff h
   | _=>exact ff h
  | _=>exact ff h
 | .mkD _ _ _,E,X,Y,G,h=>ff h
 | .meth m o es,E,X,Y,G,h=>by
  cases E with
  | Call fE xs kw p =>
   cases fE with
   | Attribute ob x ap =>
    cases kw with
    | nil =>
     obtain⟨h,h5⟩:=zh h
     obtain⟨h,h4⟩:=zh h
     obtain⟨h,h3⟩:=zh h
     obtain⟨h1,Z⟩:=zh h
     exact bd5 G (of_decide_eq_true h1) Z h3 (sE o _ X Y G h4).1 h5 (sEs es _ X Y G h5)
    | _=>exact ff h
   | _=>exact ff h
  | _=>exact ff h
 | .ext _ _,E,X,Y,G,h=>ff h
 | .extS _ _,E,X,Y,G,h=>ff h
 | .join _ _,E,X,Y,G,h=>ff h
theorem sEs:∀(es:lh) (J:List Expr) (X:Cx) (Y:Ck),CG Γ F n X Y->mEs Y es J=true->PEs Γ F X es J
 | .nil,J,X,Y,G,h=>by
  cases J with
  | nil =>
   exact trivial
  | _=>exact ff h
 | .cons e es,J,X,Y,G,h=>by
  cases J with
  | cons x J =>
   obtain⟨h,Z⟩:=zh h
   obtain⟨h1,h2⟩:=zh h
   exact⟨⟨h2,sE e _ X Y G h1⟩,sEs es _ X Y G Z⟩
  | _=>exact ff h
theorem sAs:∀(es:lL) (J:List Expr) (X:Cx) (Y:Ck),CG Γ F n X Y->mAs Y es J=true->PA X J (TAv Γ (lw F es))
 | .nil,J,X,Y,G,h=>by
  cases J with
  | nil =>
   exact ab6.imp λ σ H Q q=>aC9 (TAv.eq (λ ρ s=>rfl) q)
  | _=>exact ff h
 | .ex e es,J,X,Y,G,h=>by
  cases J with
  | cons x J =>
   obtain⟨h,Z⟩:=zh h
   obtain⟨h1,h2⟩:=zh h
   exact(aF2 h2 (sE e _ X Y G h1).1 (sAs es _ X Y G Z)).imp λ σ H Q q=>TAv.eq (λ ρ s=>rfl) q
  | _=>exact ff h
 | .lam _ _ _,J,X,Y,G,h=>ff h
 | .fn _ _,J,X,Y,G,h=>ff h
theorem bV1:∀(es:lL) (J:List Expr) (X:Cx) (Y:Ck),CG Γ F n X Y->bR8 Y es J=true->PA X J (TAp Γ X.env.cells X.N (lw F es))
 | .nil,J,X,Y,G,h=>by
  cases J with
  | nil =>
   exact ab6.imp λ σ H Q q=>bu9 (TAp.eq (λ ρ s=>rfl) q)
  | _=>exact ff h
 | .ex e es,J,X,Y,G,h=>by
  cases J with
  | cons x J =>
   obtain⟨h,Z⟩:=zh h
   obtain⟨h1,h2⟩:=zh h
   exact(zw (sE e _ X Y G h1).1 (bV1 es _ X Y G Z) (zd h2)).imp λ σ H Q q=>by3 (TAp.eq (λ ρ s=>rfl) q)
  | _=>exact ff h
 | .lam id caps es,J,X,Y,G,h=>ff h
 | .fn _ _,J,X,Y,G,h=>ff h
theorem sI:∀(i:DV.I) (E tg:Expr) (X:Cx) (J:Ck),CG Γ F n X J->mI J tg i E=true->PI X tg E (TIv Γ (l9 F i))
 | .seq e,E,tg,X,J,G,h=>by
  obtain⟨Y,Z⟩:=zh h
  exact bj4 G (sE e _ X J G Y).1
 | .rng1 a,E,tg,X,J,G,h=>by
  cases E with
  | Call fE xs kw p =>
   cases fE with
   | Name x pN =>
    cases xs with
    | cons l xs_0 =>
     cases xs_0 with
     | nil =>
      cases kw with
      | nil =>
       obtain⟨h,h4⟩:=zh h
       obtain⟨h,h3⟩:=zh h
       obtain⟨Y,Z⟩:=zh h
       have e:=of_decide_eq_true Y
       subst e
       exact aX1 G Z h4 (sE a _ X J G h3).1
      | _=>exact ff h
     | _=>exact ff h
    | _=>exact ff h
   | _=>exact ff h
  | _=>exact ff h
 | .rng2 _ _,E,tg,X,J,G,h=>ff h
 | .rng3 _ _ _,E,tg,X,J,G,h=>ff h
 | .enum (.seq a),E,tg,X,J,G,h=>by
  cases E with
  | Call fE xs kw p =>
   cases fE with
   | Name x pN =>
    cases xs with
    | cons l xs_0 =>
     cases xs_0 with
     | nil =>
      cases kw with
      | nil =>
       obtain⟨h,h5⟩:=zh h
       obtain⟨h,h4⟩:=zh h
       obtain⟨h,h3⟩:=zh h
       obtain⟨Y,Z⟩:=zh h
       have e:=of_decide_eq_true Y
       subst e
       cases tg with
       | Tuple es k p=>exact aY6 G Z h4 (sE a _ X J G h3).1
       | _=>exact ff h5
      | _=>exact ff h
     | _=>exact ff h
    | _=>exact ff h
   | _=>exact ff h
  | _=>exact ff h
 | .enum (.rng1 _),E,tg,X,J,G,h=>ff h
 | .enum (.rng2 _ _),E,tg,X,J,G,h=>ff h
 | .enum (.rng3 _ _ _),E,tg,X,J,G,h=>ff h
 | .enum (.enum _),E,tg,X,J,G,h=>ff h
 | .enum (.zip _ _),E,tg,X,J,G,h=>ff h
 | .enum (.items _),E,tg,X,J,G,h=>ff h
 | .zip (.seq _) (.seq _),E,tg,X,J,G,h=>ff h
 | .zip (.seq _) (.rng1 _),E,tg,X,J,G,h=>ff h
 | .zip (.seq _) (.rng2 _ _),E,tg,X,J,G,h=>ff h
 | .zip (.seq _) (.rng3 _ _ _),E,tg,X,J,G,h=>ff h
 | .zip (.seq _) (.enum _),E,tg,X,J,G,h=>ff h
 | .zip (.seq _) (.zip _ _),E,tg,X,J,G,h=>ff h
 | .zip (.seq _) (.items _),E,tg,X,J,G,h=>ff h
 | .zip (.rng1 _) _,E,tg,X,J,G,h=>ff h
 | .zip (.rng2 _ _) _,E,tg,X,J,G,h=>ff h
 | .zip (.rng3 _ _ _) _,E,tg,X,J,G,h=>ff h
 | .zip (.enum _) _,E,tg,X,J,G,h=>ff h
 | .zip (.zip _ _) _,E,tg,X,J,G,h=>ff h
 | .zip (.items _) _,E,tg,X,J,G,h=>ff h
 | .items _,E,tg,X,J,G,h=>ff h
theorem sL:∀(l:DV.L) (E:Expr) (X:Cx) (Y:Ck),CG Γ F n X Y->∀ k,mL Y k l E=true->LK Γ X (DV.evL F l) E k
 | .comp tg it e caps,E,X,Y,G,k,h=>by
  cases E with
  | ListComp elt gs scope p =>
   cases gs with
   | cons g gs1 =>
    cases g with
    | mk tgt iter ifs z =>
     cases ifs with
     | nil =>
      cases gs1 with
      | nil =>
       obtain⟨h,h3⟩:=zh h
       obtain⟨h,Z⟩:=zh h
       obtain⟨h0,J⟩:=zh h
       have e0:=of_decide_eq_true h0
       subst e0
       have c:=ba2 (pos:=p) G J (sI it _ _ X Y G Z) λ C cells s H ex=>(sE e _ _ _ ((G.comp J).2.2 C cells s H ex).1 h3).1
       exact .c (c.eq λ ρ s=>rfl)
      | _=>exact ff h
     | _=>exact ff h
   | _=>exact ff h
  | _=>exact ff h
 | .compIf tg it i e caps,E,X,Y,G,k,h=>by
  cases E with
  | ListComp elt gs scope p =>
   cases gs with
   | cons g gs1 =>
    cases g with
    | mk tgt iter ifs z =>
     cases ifs with
     | cons i1 ifs1 =>
      cases ifs1 with
      | nil =>
       cases gs1 with
       | nil =>
        obtain⟨h,h4⟩:=zh h
        obtain⟨h,h3⟩:=zh h
        obtain⟨h,Z⟩:=zh h
        obtain⟨h0,J⟩:=zh h
        have e0:=of_decide_eq_true h0
        subst e0
        have c:=bj5 (pos:=p) G J (sI it _ _ X Y G Z) (λ C cells s H ex=>(sE i _ _ _ ((G.comp J).2.2 C cells s H ex).1 h3).2) λ C cells s H ex=>(sE e _ _ _ ((G.comp J).2.2 C cells s H ex).1 h4).1
        exact .c (c.eq λ ρ s=>rfl)
       | _=>exact ff h
      | _=>exact ff h
     | _=>exact ff h
   | _=>exact ff h
  | _=>exact ff h
 | .disp es,E,X,Y,G,k,h=>by
  cases E with
  | List xs p =>
   obtain⟨h,Z⟩:=zh h
   obtain⟨h0,J⟩:=zh h
   exact .f (of_decide_eq_true h0) (bq7 J (of_decide_eq_true Z) (am4 (sEs es _ X Y G J)))
  | _=>exact ff h
 | .seq e,E,X,Y,G,k,h=>by
  obtain⟨h0,J⟩:=zh h
  exact .s (of_decide_eq_true h0) ((sE e _ X Y G J).1.imp λ σ H Q q=>bA6 (TLv.eq (λ ρ s=>rfl) q))
 | .itm _,E,X,Y,G,k,h=>ff h
end
end
section
variable {Γ:Gm} {F:kW} {n:Nat}
theorem aX7 {X:Cx}{ck:Ck}{m:kJ->kG->kK (List kH)}{E:Expr}{x:Str}{i:Nat}{px pos:Pos}(G:CG Γ F n X ck)(c:CompF Γ X m E)(hi:ck.N[i]?=some x)(hl:ck.loc x=true) :
  PS X (.Assign [.Name x px] E pos) (aY1 (TFv Γ m) (as8 i)):=by
 obtain⟨a0,a2,iter,Y,scope,p2,N',h,wi,g,tc,te,rfl,h1,h2,h3,h4,h5⟩:=c.ex
 obtain⟨l1,l2⟩:=G.loc hl
 have nd:X.N.Nodup:=by rw[G.N];exact G.nd
 have a1:X.N[i]?=some x:=by rw[G.N];exact hi
 generalize hb:((X.env.blockKind==.function&&X.env.kindOf x==some .local&&px.line==(Expr.ListComp a0 [⟨a2,iter,Y,0⟩] scope p2).pos.line&&!(scope.names.any λ(n,k)=>n==x&&(k==.local||k==.cell))))=b
 have Z:fh (.ListComp a0 [⟨a2,iter,Y,0⟩] scope p2) (some (.Name x px)) pos.line X.env=pure b:=by rw[<-hb];rfl
 have imp:∀ D σ H,aY1 (TFv Γ m) (as8 i) D σ H->aY1 (tComp h wi g tc te) (as8 i) D σ H:=λ D σ H q=>h5 _ _ _ q
 cases b with
 | true =>
  have J:X.env.scope.names.lookup x=some .local:=by
   simp only[aj]at hb
   exact eq_of_beq hb.1.1.2
  exact(aH7 N' h nd a1 J h1 h2 G.calm h3 h4 Z).imp imp
 | false=>exact(bf2 nd a1 l1 (aM8 N' h h1 h2 G.calm h3 h4) Z l2).imp imp
theorem bq4 {X:Cx}{J:Ck}{e:lS}{v:Expr}{x:Str}{i:Nat}{px pos:Pos}(G:CG Γ F n X J)(hi:J.N[i]?=some x)(hl:J.loc x=true)(h:mE J e v=true) :
  PS X (.Assign [.Name x px] v pos) (TSv Γ (DV.ex F (.asg (.one i) e))):=by
 obtain⟨l1,l2⟩:=G.loc hl
 have nd:X.N.Nodup:=by rw[G.N];exact G.nd
 have Y:X.N[i]?=some x:=by rw[G.N];exact hi
 by_cases hc:at9 v=true
 ·exact(bf2 nd Y l1 (sE e v X J G h).1 (ak3 hc) l2).imp λ D σ H q=>aP0 (tg:=.one i) (TSv.eq (λ ρ s=>rfl) q)
 ·have hs:=ar8 h
  cases v with
  | ListComp elt gs sc p =>
   cases e with
   | mk k l =>
    obtain⟨Z,h2⟩:=zh h
    have e:=of_decide_eq_true Z
    subst e
    exact(aX7 G (bH3 (sL l _ X J G 0 h2)) hi hl).imp λ D σ H q=>bb4 (tg:=.one i) (TSv.eq (λ ρ s=>rfl) q)
   | _=>exact ff h
  | SetComp _ _ _ _=>cases hs
  | DictComp _ _ _ _ _=>cases hs
  | _=>exact absurd rfl hc
mutual
theorem sS:∀(st:DV.S) (S:Stmt) (X:Cx) (J:Ck),CG Γ F n X J->mS J st S=true->PS X S (TSv Γ (DV.ex F st))
 | .asg tg e,S,X,J,G,h=>by
  cases S with
  | Assign ts v p =>
   cases ts with
   | cons t ts1 =>
    cases ts1 with
    | nil =>
     obtain⟨h,h3⟩:=zh h
     obtain⟨Z,Y⟩:=zh h
     cases tg with
     | one i =>
      have h:=Z
      cases t with
      | Name x px =>
       obtain⟨a1,a2⟩:=zh h
       exact bq4 G (of_decide_eq_true a1) a2 Y
      | _=>exact ff h
     | tup is =>
      obtain⟨a1,a2⟩:=zh h3
      have h:=Z
      cases t with
      | Tuple te tk tp=>exact(be7 (sE e _ X J G Y).1 (bs4 G Z) (show fh v (some (.Tuple te tk tp)) p.line X.env=pure false from ak3 a2) (aG4 a1) rfl).imp λ D σ H q=>aP0 (TSv.eq (λ ρ s=>rfl) q)
      | _=>exact ff h
    | _=>exact ff h
   | _=>exact ff h
  | _=>exact ff h
 | .setIx o i e,S,X,J,G,h=>by
  cases S with
  | Assign ts v p2 =>
   cases ts with
   | cons tt ts1 =>
    cases tt with
    | Subscript ob ix p1 =>
     cases ts1 with
     | nil =>
      obtain⟨h,h4⟩:=zh h
      obtain⟨h,h3⟩:=zh h
      obtain⟨Z,Y⟩:=zh h
      have a0:=ar8 Y
      refine(be7 (sE e _ X J G h3).1 (bz9 (sE o _ X J G Z).1 (sE i _ X J G Y).1 (bH5 (aH5 G.room)) ?_) (show fh v (some (.Subscript ob ix p1)) p2.line X.env=pure false from ak3 h4) aJ4 ?_).imp λ D σ H q=>bb1 (TSv.eq (λ ρ s=>rfl) q)
      ·intro w
       cases ix<;>first|rfl|cases a0
      ·rfl
     | _=>exact ff h
    | _=>exact ff h
   | _=>exact ff h
  | _=>exact ff h
 | .aug _ _,S,X,J,G,h=>ff h
 | .ex e,S,X,J,G,h=>by
  cases S with
  | Expr v p =>
   obtain⟨Z,Y⟩:=zh h
   exact(aP5 (sE e _ X J G Z).1 (ak3 Y)).imp λ D σ H q=>bk6 (TSv.eq (λ ρ s=>rfl) q)
  | _=>exact ff h
 | .ret e,S,X,J,G,h=>by
  cases S with
  | Return vo p =>
   cases vo with
   | some v =>
    exact(ar6 (sE e _ X J G h).1).imp λ D σ H q=>bH4 (TSv.eq (λ ρ s=>rfl) q)
   | _=>exact ff h
  | _=>exact ff h
 | .retN,S,X,J,G,h=>ff h
 | .ite c a b,S,X,J,G,h=>by
  cases S with
  | If t l r p =>
   obtain⟨h,h3⟩:=zh h
   obtain⟨Z,Y⟩:=zh h
   exact(bi6 (sE c _ X J G Z).2 (sSs a _ X J G Y) (sSs b _ X J G h3)).imp λ D σ H q=>bN3 (TSv.eq (λ ρ s=>rfl) q)
  | _=>exact ff h
 | .whl c b,S,X,J,G,h=>by
  cases S with
  | While t l o p =>
   cases o with
   | nil =>
    obtain⟨Z,Y⟩:=zh h
    exact(bb8 (by rw[G.xe];exact jF) (sE c _ X J G Z).2 (sSs b _ X J G Y)).imp λ D σ H q=>aY8 (TSv.eq (λ ρ s=>rfl) q)
   | _=>exact ff h
  | _=>exact ff h
 | .for_ tg it b,S,X,J,G,h=>by
  cases S with
  | For tgt iter l o p =>
   cases o with
   | nil =>
    obtain⟨h,h3⟩:=zh h
    obtain⟨Z,Y⟩:=zh h
    exact(bC9 (by rw[G.xe];exact jF) G.calm (sI it _ _ X J G Y) (bs4 G Z) (sSs b _ X J G h3) (aw7 (bG8 Y))).imp λ D σ H q=>bw3 (TSv.eq (λ ρ s=>rfl) q)
   | _=>exact ff h
  | _=>exact ff h
 | .pass,S,X,J,G,h=>ff h
 | .cont,S,X,J,G,h=>by
  cases S with
  | Continue p =>
   exact ax0.imp λ D σ H q=>bu8 (TSv.eq (λ ρ s=>rfl) q)
  | _=>exact ff h
 | .brk,S,X,J,G,h=>ff h
 | .und _,S,X,J,G,h=>ff h
 | .raise,S,X,J,G,h=>aW0.imp λ D σ H q=>by
  obtain⟨φ,ρ,s,c,s',E,R,hm,q⟩:=q
  cases hm
theorem sSs:∀(st:DV.Ss) (S:List Stmt) (X:Cx) (J:Ck),CG Γ F n X J->mSs J st S=true->PSs X S (TSv Γ (DV.exs F st))
 | .nil,S,X,J,G,h=>by
  cases S with
  | nil =>
   exact an8.imp λ D σ H q=>bs3 (m:=DV.exs F .nil) (λ ρ s=>rfl) q
  | _=>exact ff h
 | .cons s ss,S,X,J,G,h=>by
  cases S with
  | cons x xs =>
   obtain⟨Z,Y⟩:=zh h
   exact(zH (sS s _ X J G Z) (sSs ss _ X J G Y)).imp λ D σ H q=>bx2 (TSv.eq (λ ρ s=>rfl) q)
  | _=>exact ff h
end
end
noncomputable def bL8 (ck:Ck):List String->List Expr->Bool
 | [],xs=>match xs with|[]=>true|_=>false
 | c::cs,xs=>match xs with|.Name x _::es=>decide (x=(c:Str))&&ck.gl x&&bL8 ck cs es|_=>false
noncomputable def mHT (ck:Ck)(n:Str):DV.HT->Expr->Bool
 | .isi cs,E=>match E with|.Call (.Name g _) [.Name x _,.Tuple es _ _] [] _=>decide (g=("isinstance":Str))&&ck.gl g&&decide (x=n)&&bL8 ck cs es&&decide (cs.length<=1000)|_=>false
 | .one c,E=>match E with|.Call (.Name g _) [.Name x _,.Name d _] [] _=>decide (g=("isinstance":Str))&&ck.gl g&&decide (x=n)&&decide (d=(c:Str))&&ck.gl d|_=>false
 | .not t,E=>match E with|.UnaryOp .Not e _=>mHT ck n t e|_=>false
 | .or a b,E=>match E with|.BoolOp .Or [x,y] _=>mHT ck n a x&&mHT ck n b y|_=>false
noncomputable def mHd (ck:Ck)(n:Str):DV.Hd->List Stmt->Bool
 | .ret t,S=>match S with|[.Return (some e) _]=>mHT ck n t e|_=>false
 | .iff t b h,S=>match S with|.If e [.Return (some (.Constant (.bool b') _ _)) _] [] _::rest=>mHT ck n t e&&decide (b'=b)&&mHd ck n h rest|_=>false
structure XC (F:kW)(K:ae)(mg:Str->Option Value):Prop where
 at_:∀ c:String,F.xc c=true->∃ C,mg (c:Str)=some (.ref C)/\ExcCls K C/\excI K C=true
 cls:∀ c:String,F.xt c=true->∃ C,mg (c:Str)=some (.ref C)
 sub:∀(c d:String) (C D:Addr),F.xc c=true->F.xt d=true->mg (c:Str)=some (.ref C)->mg (d:Str)=some (.ref D)->bN K (.ref C) (.ref D)=some (ly c d)
theorem au3:∀ {h:List Addr} {us:List Value},Vals (h.map V.ref) us->us=h.map Value.ref
 | [],_,.nil=>rfl
 | d::h,_,.cons r t=>by
  have e:=au3 t
  subst e
  cases(show _=Value.ref d from r)
  rfl
def bV2 (K:ae)(a C:Addr):List V->Hp->VK->Prop:=λ xs H Q=>∃ y b,xs=[.ref a,y]/\((∃ D,y=.ref D/\bN K (.ref C) (.ref D)=some b)\/∃(p:Addr) (ds:List Addr),y=.ref p/\H p=some (.tup (ds.map V.ref))/\hV K (.ref C) (ds.map Value.ref)=some b)/\Q (.bl b) H
section
variable {Γ:Gm} {F:kW} {n:Nat} {X:Cx} {ck:Ck} {a C:Addr} {oe:Obj}
theorem aE6 (G:d9 X.K (.ref a) (.ref C) (λ h=>XAt h a C))(F:oe.cls=.ref C):ab1 (X.hnd a oe) (.builtin "isinstance") (bV2 X.K a C):=by
 intro J s σ H xs us Q I r h
 obtain⟨y,b,rfl,hc,q⟩:=h
 obtain⟨u,w',rfl,r1,Y⟩:=aV7 r
 cases(show u=Value.ref a from r1)
 have hx:XAt s.heap a C:=⟨oe,(I.pin (a,oe) (aq ..)).1,F⟩
 rcases hc with⟨D,rfl,e⟩|⟨p,ds,rfl,hp,e⟩
 ·cases(show w'=Value.ref D from Y)
  exact bz G I.kIn hx e (λ z=>nomatch z) λ tk=>⟨.bl b,H,I.tok _,rfl,q⟩
 ·cases(show w'=Value.ref p from Y)
  obtain⟨z,its,rr,ob,e1,e2,nn,Z⟩:=(show aa8 X.prog X.w H s.heap p (.tup (ds.map V.ref))from I.hok p _ hp)
  have e4:=au3 rr
  subst e4
  obtain⟨c0,dd,dt,sl⟩:=ob
  cases e2
  cases Z
  exact PySem.W.kia_tup G I.kIn hx e1 e (λ z=>nomatch z) λ tk=>⟨.bl b,H,I.tok _,rfl,q⟩
def tHv (i:Nat)(a:Addr)(b:Bool):TE:=λ σ H Q=>σ[i]?=some (some (.ref a))/\∀ H',ac1 H H'->Q (.bl b) H'
def tHt (i:Nat)(a:Addr)(b:Bool):TT:=λ σ H Q=>σ[i]?=some (some (.ref a))/\∀ H',ac1 H H'->Q b H'
theorem aW3 {H:Hp}{p:Addr}{o:HO}(h:H p=none):ac1 H (upd H p o):=λ b u e=>by rw[zb (zm e h)];exact e
theorem bi4 (G:CG Γ F n X ck)(xc:XC F X.K X.mg):∀ {cs:List String} {es:List Expr},bL8 ck cs es=true->cs.all F.xt=true->∃ J:List Addr,J.length=cs.length/\PA (X.hnd a oe) es (λ σ H Q=>Q (J.map V.ref) H)/\(∀ e∈es,shp e=true) /\
  ∀(c:String),F.xc c=true->X.mg (c:Str)=some (.ref C)->hV X.K (.ref C) (J.map Value.ref)=some (cs.any (ly c))
 | [],es,h,_=>by
  cases es with
  | nil=>exact⟨[],rfl,ab6.imp λ σ H Q q=>q,by nofun,λ c _ _=>rfl⟩
  | cons _ _=>exact ff h
 | d::cs,es,h,hc=>by
  cases es with
  | nil=>exact ff h
  | cons e es =>
   cases e with
   | Name x p =>
    obtain⟨h,h3⟩:=zh h
    obtain⟨h1,h2⟩:=zh h
    have e1:=of_decide_eq_true h1
    subst e1
    rw[dM,aj]at hc
    obtain⟨D,hD⟩:=xc.cls d hc.1
    obtain⟨g1,g2,g3⟩:=G.gl h2
    obtain⟨J,hl,hp,hs,hk⟩:=bi4 G xc h3 hc.2
    refine⟨D::J,by simp[hl],?_,λ e he=>?_,λ c Y Z=>?_⟩
    ·have h0:PE (X.hnd a oe) (.Name (d:Str) p) (tC (.ref D)):=ak6 (X:=X.hnd a oe) g1 hD rfl g2
     exact(zw h0 hp rfl).imp λ σ H Q q=>q
    ·rcases ax.mp he with z|z
     ·subst z;rfl
     ·exact hs e z
    ·have e1:=xc.sub c d C D Y hc.1 Z hD
     have e2:=hk c Y Z
     rw[aV]
     show(match bN X.K (.ref C) (.ref D)with|some true=>some true|some false=>hV X.K (.ref C) (J.map Value.ref)|none=>none)=_
     rw[e1]
     cases hs:ly c d with
     | true=>simp[hs]
     | false=>simp only[eI,hs,iA];exact e2
   | _=>exact ff h
theorem aN2 (G:CG Γ F n X ck)(xc:XC F X.K X.mg){c:String}(Y:F.xc c=true)(Z:X.mg (c:Str)=some (.ref C))(kx:d9 X.K (.ref a) (.ref C) (λ h=>XAt h a C))(a1:oe.cls=.ref C){nm:Str}{i:Nat}(hi:ck.N[i]?=some nm)(hv:Vis X.env.scope nm)(hd:(nm==("__debug__":Str))=false)(a0:(nm==("__classdict__":Str))=false) :
  ∀ {t:DV.HT} {E:Expr},mHT ck nm t E=true->t.ok F.xt=true->PE (X.hnd a oe) E (tHv i a (t.val c))/\PT (X.hnd a oe) E (tHt i a (t.val c))
 | .isi cs,E,h,ho=>by
  cases E with
  | Call g xs kw p =>
   cases g with
   | Name g pg =>
    cases xs with
    | nil=>exact ff h
    | cons x xs=>cases x with
     | Name x px =>
      cases xs with
      | nil=>exact ff h
      | cons y xs=>cases y with
       | Tuple es k py =>
        cases xs with
        | cons _ _=>exact ff h
        | nil=>cases kw with
         | cons _ _=>exact ff h
         | nil =>
          obtain⟨h,h5⟩:=zh h
          obtain⟨h,h4⟩:=zh h
          obtain⟨h,h3⟩:=zh h
          obtain⟨h1,h2⟩:=zh h
          have e1:=of_decide_eq_true h1
          have e3:=of_decide_eq_true h3
          have e5:=of_decide_eq_true h5
          subst e1 e3
          obtain⟨g1,g2,g3⟩:=G.gl h2
          obtain⟨ds,hl,hp,hs,hk⟩:=bi4 (a:=a) (C:=C) (oe:=oe) G xc h4 ho
          have J:PE (X.hnd a oe) (.Name x px) (bJ0 i):=aP6 (X:=X.hnd a oe) (by show X.N[i]?=_;rw[G.N];exact hi) hv hd a0
          have pa:PA (X.hnd a oe) [.Name x px,.Tuple es k py] _:=zw J (zw (bg6 hp) ab6 rfl) rfl
          have main:PE (X.hnd a oe) (.Call (.Name "isinstance" pg) [.Name x px,.Tuple es k py] [] p) (tHv i a (cs.any (ly c))):=by
           refine(ae0 (aE6 kx a1) (show Gl (X.hnd a oe) "isinstance" from g1) (G.bi _ (by decide)) qu pa g3 g2 rfl rfl).imp λ σ H Q q=>?_
           exact⟨.ref a,q.1,by rw[aw,hl];exact av e5 (by decide),λ p a4=>⟨.ref p,_,rfl,.inr ⟨p,ds,rfl,zg,hk c Y Z⟩,q.2 _ (aW3 a4)⟩⟩
          refine⟨main,(aM0 main).imp λ σ H Q q=>?_⟩
          exact⟨q.1,λ H' s=>⟨_,rfl,q.2 H' s⟩⟩
       | _=>exact ff h
     | _=>exact ff h
   | _=>exact ff h
  | _=>exact ff h
 | .one d,E,h,ho=>by
  cases E with
  | Call g xs kw p =>
   cases g with
   | Name g pg =>
    cases xs with
    | nil=>exact ff h
    | cons x xs=>cases x with
     | Name x px =>
      cases xs with
      | nil=>exact ff h
      | cons y xs=>cases y with
       | Name y py =>
        cases xs with
        | cons _ _=>exact ff h
        | nil=>cases kw with
         | cons _ _=>exact ff h
         | nil =>
          obtain⟨h,h5⟩:=zh h
          obtain⟨h,h4⟩:=zh h
          obtain⟨h,h3⟩:=zh h
          obtain⟨h1,h2⟩:=zh h
          have e1:=of_decide_eq_true h1
          have e3:=of_decide_eq_true h3
          have e4:=of_decide_eq_true h4
          subst e1 e3 e4
          obtain⟨g1,g2,g3⟩:=G.gl h2
          obtain⟨k1,k2,k3⟩:=G.gl h5
          obtain⟨D,hD⟩:=xc.cls d ho
          have J:PE (X.hnd a oe) (.Name x px) (bJ0 i):=aP6 (X:=X.hnd a oe) (by show X.N[i]?=_;rw[G.N];exact hi) hv hd a0
          have a3:PE (X.hnd a oe) (.Name (d:Str) py) (tC (.ref D)):=ak6 (X:=X.hnd a oe) k1 hD rfl k2
          have pa:PA (X.hnd a oe) [.Name x px,.Name (d:Str) py] _:=zw J (zw a3 ab6 rfl) rfl
          have main:PE (X.hnd a oe) (.Call (.Name "isinstance" pg) [.Name x px,.Name (d:Str) py] [] p) (tHv i a (ly c d)):=by
           refine(ae0 (aE6 kx a1) (show Gl (X.hnd a oe) "isinstance" from g1) (G.bi _ (by decide)) qu pa g3 g2 rfl rfl).imp λ σ H Q q=>?_
           exact⟨.ref a,q.1,⟨.ref D,_,rfl,.inl ⟨D,rfl,xc.sub c d C D Y ho Z hD⟩,q.2 _ (ac1.refl _)⟩⟩
          refine⟨main,(aM0 main).imp λ σ H Q q=>?_⟩
          exact⟨q.1,λ H' s=>⟨_,rfl,q.2 H' s⟩⟩
       | _=>exact ff h
     | _=>exact ff h
   | _=>exact ff h
  | _=>exact ff h
 | .not t,E,h,ho=>by
  cases E with
  | UnaryOp o l p=>cases o with
   | Not =>
    obtain⟨h1,h2⟩:=aN2 G xc Y Z kx a1 hi hv hd a0 (t:=t) (E:=l) h ho
    exact⟨(bf3 h1).imp λ σ H Q q=>⟨q.1,λ H' s=>⟨_,rfl,q.2 H' s⟩⟩,(bf0 h2).imp λ σ H Q q=>⟨q.1,λ H' s=>q.2 H' s⟩⟩
   | _=>exact ff h
  | _=>exact ff h
 | .or t u,E,h,ho=>by
  cases E with
  | BoolOp op vs p=>cases op with
   | Or=>cases vs with
    | nil=>exact ff h
    | cons l vs=>cases vs with
     | nil=>exact ff h
     | cons r vs=>cases vs with
      | cons _ _=>exact ff h
      | nil =>
       obtain⟨m1,m2⟩:=zh h
       have a2:(t.ok F.xt&&u.ok F.xt)=true:=ho
       rw[aj]at a2
       obtain⟨h1,h2⟩:=aN2 G xc Y Z kx a1 hi hv hd a0 (t:=t) (E:=l) m1 a2.1
       obtain⟨h3,h4⟩:=aN2 G xc Y Z kx a1 hi hv hd a0 (t:=u) (E:=r) m2 a2.2
       have ev:(DV.HT.or t u).val c=if t.val c then true else u.val c:=rfl
       refine⟨(bl3 h1 (aU0 h3)).imp λ σ H Q q=>⟨q.1,λ H' s=>⟨_,rfl,?_⟩⟩,(br1 h2 (be1 h4)).pt.imp λ σ H Q q=>⟨q.1,λ H' s=>?_⟩⟩
       ·rw[ev]at q
        cases hb:t.val c with
        | true=>rw[hb]at q;exact q.2 H' s
        | false=>rw[hb]at q;exact⟨q.1,λ H2 s2=>q.2 H2 (s.trans s2)⟩
       ·rw[ev]at q
        cases hb:t.val c with
        | true=>rw[hb]at q;exact q.2 H' s
        | false=>rw[hb]at q;exact⟨q.1,λ H2 s2=>q.2 H2 (s.trans s2)⟩
   | _=>exact ff h
  | _=>exact ff h
end
def tHd (i:Nat)(a:Addr)(b:Bool):TS:=λ D σ H=>σ[i]?=some (some (.ref a))/\∀ H',ac1 H H'->D.rt (.bl b) H'
noncomputable def mX (ck:Ck):DV.XB->List Stmt->Bool
 | .no,_=>true
 | .rais c,S=>match S with|.Raise (some (.Call (.Name x _) [.Constant (.str _) _ _] [] _)) none _::_=>decide (x=(c:Str))&&ck.gl x|_=>false
 | .call f as,S=>match S with
  | .Return (some (.Call (.Name x _) (e::es) [] _)) _::_=>decide (x=(f:Str))&&ck.gl x&&mAs ck as (e::es)
  | .Expr (.Call (.Name x _) (e::es) [] _) _::_=>decide (x=(f:Str))&&ck.gl x&&mAs ck as (e::es)
  | _=>false
 | .iteT c a r,S=>match S with|.If t l [] _::rest=>mE ck c t&&mX ck a l&&mX ck r rest|_=>false
 | .seq s b,S=>match S with|x::rest=>mS ck s x&&mX ck b rest|_=>false
noncomputable def noR:DV.XB->Bool
 | .rais _=>false
 | .iteT _ a r=>noR a&&noR r
 | .seq _ b=>noR b
 | _=>true
def au6 (Γ:Gm)(mg:Str->Option Value)(φ:Nat->Addr)(s:kG)(H:Hp)(c:String)(s':kG)(E:XK):Prop :=
 ∀ φ' H' a C,Gr φ s H φ' s' H'->s.length<=s'.length->Rp Γ φ' H' s'->mg (c:Str)=some (.ref C)->E (.ref a) (some C) H'
def TXv (Γ:Gm)(mg:Str->Option Value)(m:kJ->kG->Option (String×kG))(E:XK):TS:=λ _ σ H=>∃ φ ρ s c s',RE Γ φ H s.length ρ σ/\Rp Γ φ H s/\m ρ s=some (c,s')/\au6 Γ mg φ s H c s' E
def spX (Γ:Gm)(mg:Str->Option Value)(x:List kH->kG->Option (String×kG)):Sp:=λ vs H _ E=>∃ φ s l c s',Rp Γ φ H s/\RVL Γ φ H l vs/\kI s.length l=true/\x l s=some (c,s')/\au6 Γ mg φ s H c s' E
theorem au6.trans {Γ:Gm}{mg:Str->Option Value}{φ φ1:Nat->Addr}{s s1 s':kG}{H F:Hp}{c:String}{E:XK}(h:au6 Γ mg φ s H c s' E)(g:Gr φ s H φ1 s1 F)(l:s.length<=s1.length):au6 Γ mg φ1 s1 F c s' E :=
 λ φ' H' a C g' G p m=>h φ' H' a C (g.trans g' l) (av l G) p m
theorem PA.nox {X:Cx}{e:List Expr}{t:TA}(h:PA X.nox e t):PA X e t:=λ pos F s σ H Q I hw =>
 bj (h pos F s σ H Q (I.wish _) hw) (λ _ _ ⟨v,H',G,r,q⟩=>⟨v,H',G.unwish,r,q⟩) λ _ _ z=>bB z
theorem PS.nox {X:Cx}{st:Stmt}{t:TS}(h:PS X.nox st t):PS X st t:=λ F s σ H D I hw =>
 bj (h F s σ H D (I.wish _) hw) (λ _ _ q=>q.unwish) λ _ _ z=>bB z
def XOk (Γ:Gm)(prog:aD)(w:World)(K:ae)(mg:Str->Option Value)(base:Heap)(F:kW)(n:Nat):Prop:=∀ f:String,(∀ l s,F.xcall f l s=none) \/
 ∃ a fd ps,FnOk prog w K mg base (CX1 prog w) n a fd ps (spX Γ mg (F.xcall f))/\mg (f:Str)=some (.ref a)/\ci K (.ref a)=true/\Binds K fd ps []
section
variable {Γ:Gm} {F:kW} {n:Nat} {X:Cx} {ck:Ck} {a C:Addr} {oe:Obj}
theorem by1 (G:CG Γ F n X ck)(xc:XC F X.K X.mg){c:String}(Y:F.xc c=true)(Z:X.mg (c:Str)=some (.ref C))(kx:d9 X.K (.ref a) (.ref C) (λ h=>XAt h a C))(a1:oe.cls=.ref C){nm:Str}{i:Nat}(hi:ck.N[i]?=some nm)(hv:Vis X.env.scope nm)(hd:(nm==("__debug__":Str))=false)(a0:(nm==("__classdict__":Str))=false) :
  ∀ {t:DV.Hd} {S:List Stmt},mHd ck nm t S=true->t.ok F.xt=true->PSs (X.hnd a oe) S (tHd i a (t.val c))
 | .ret t,S,h,ho=>by
  cases S with
  | nil=>exact ff h
  | cons s S=>cases s with
   | Return vo p=>cases vo with
    | none=>exact ff h
    | some v=>cases S with
     | cons _ _=>exact ff h
     | nil=>exact(aK7 (ar6 (aN2 G xc Y Z kx a1 hi hv hd a0 h ho).1)).imp λ D σ H q=>q
   | _=>exact ff h
 | .iff t b g,S,h,ho=>by
  cases S with
  | nil=>exact ff h
  | cons s S=>cases s with
   | If e l r p=>cases l with
    | nil=>exact ff h
    | cons l0 l=>cases l0 with
     | Return vo pr=>cases vo with
      | none=>exact ff h
      | some v=>cases v with
       | Constant k j pk=>cases k with
        | bool b'=>cases l with
         | cons _ _=>exact ff h
         | nil=>cases r with
          | cons _ _=>exact ff h
          | nil =>
           obtain⟨h,h3⟩:=zh h
           obtain⟨h1,h2⟩:=zh h
           have e:=of_decide_eq_true h2
           subst e
           have J:(t.ok F.xt&&g.ok F.xt)=true:=ho
           rw[aj]at J
           have q1:=(aN2 G xc Y Z kx a1 hi hv hd a0 h1 J.1).2
           have q2:=by1 G xc Y Z kx a1 hi hv hd a0 h3 J.2
           refine(zH (bi6 q1 (aK7 (ar6 bA3)) an8) q2).imp λ D σ H q=>⟨q.1,λ H' s=>?_⟩
           have q':∀ H',ac1 H H'->D.rt (.bl (if t.val c then b' else g.val c)) H':=q.2
           cases hb:t.val c with
           | true=>rw[hb]at q';exact q' H' s
           | false=>rw[hb]at q';exact⟨q.1,λ H2 s2=>q' H2 (s.trans s2)⟩
        | _=>exact ff h
       | _=>exact ff h
     | _=>exact ff h
   | _=>exact ff h
theorem bf4 (G:CG Γ F n X.nox ck)(XO:XOk Γ X.prog X.w X.K X.mg X.base F n){E:XK}(hp:ad2 (CX1 X.prog X.w) X E){f:String}{as:lL}{e:Expr}{es:List Expr}{p pos:Pos}(hg:ck.gl (f:Str)=true)(m:mAs ck as (e::es)=true) :
  ∃ t:TE,PE X (.Call (.Name (f:Str) p) (e::es) [] pos) t/\∀ D σ H Q,TXv Γ X.mg (lW F (.call f as)) E D σ H->t σ H Q:=by
 obtain⟨g1,g2,g3⟩:=G.gl hg
 rcases XO f with hbad|⟨a,fd,ps,hF,J,hk,hb⟩
 ·refine⟨λ _ _ _=>False,λ _ _ _ _ _ _ z=>z.elim,λ D σ H Q q=>?_⟩
  obtain⟨φ,ρ,s,c,s',Y,R,h,q⟩:=q
  change(match lw F as ρ s with|.ok l s1=>F.xcall f l s1|_=>none)=_ at h
  split at h
  ·rw[hbad]at h;cases h
  ·cases h
 ·have hs:=ax1 m
  have pa:PA X (e::es) (TAv Γ (lw F as)):=(sAs as _ X.nox ck G m).nox
  refine⟨_,aT7 hF G.room g1 J hk hb .nil hp pa g2 (zd (hs e (aq ..))) (zE λ x hx=>hs x (ak _ hx)).1,λ D σ H Q q=>?_⟩
  obtain⟨φ,ρ,s,c,s',Y,R,h,q⟩:=q
  change(match lw F as ρ s with|.ok l s1=>F.xcall f l s1|_=>none)=_ at h
  split at h
  ·rename_i l s1 e1
   refine⟨φ,ρ,s,l,s1,Y,R,e1,λ vs φ1 Z g1 l1 b1 r1 R1=>?_⟩
   show spX Γ X.mg (F.xcall f) (vs++[]) Z Q E
   rw[bQ]
   exact⟨φ1,s1,l,c,s',R1,r1,b1,h,q.trans g1 l1⟩
  ·cases h
theorem aS0 (G:CG Γ F n X.nox ck)(xc:XC F X.K X.mg)(XO:XOk Γ X.prog X.w X.K X.mg X.base F n){E:XK}(hp:ad2 (CX1 X.prog X.w) X E):∀(b:DV.XB) (S:List Stmt),(noR b=true\/aJ6 X E)->mX ck b S=true->PSs X S (TXv Γ X.mg (lW F b) E)
 | .no,S,_,h=>λ a0 s σ H D I q=>by
  obtain⟨_,_,_,_,_,_,_,z,_⟩:=q
  cases z
 | .rais c,S,hT,h=>by
  have hT:aJ6 X E:=hT.elim (λ z=>by cases z) id
  cases hx:F.xc c with
  | false =>
   intro a0 s σ H D I q
   obtain⟨_,_,s,_,_,_,_,z,_⟩:=q
   change(if F.xc c=true then some (c,s)else none)=_ at z
   rw[hx]at z;cases z
  | true =>
   cases S with
   | nil=>exact ff h
   | cons st S=>cases st with
    | Raise v k p=>cases v with
     | none=>exact ff h
     | some v=>cases v with
      | Call g xs kw pc=>cases g with
       | Name x pn=>cases xs with
        | nil=>exact ff h
        | cons y xs=>cases y with
         | Constant cv j py=>cases cv with
          | str t=>cases xs with
           | cons _ _=>exact ff h
           | nil=>cases kw with
            | cons _ _=>exact ff h
            | nil=>cases k with
             | some _=>exact ff h
             | none =>
              obtain⟨Y,Z⟩:=zh h
              have e:=of_decide_eq_true Y
              subst e
              obtain⟨g1,g2,g3⟩:=G.gl Z
              obtain⟨C,hC,hE,_⟩:=xc.at_ c hx
              refine(zH (ba7 hT hE g1 hC G.room.hd g2) ad9).imp λ D σ H q a=>?_
              obtain⟨φ,ρ,s,c',s',Ev,R,J,q⟩:=q
              change(if F.xc c=true then some (c,s)else none)=_ at J
              rw[hx,if_pos rfl]at J
              cases J
              exact q φ H a C (Gr.refl φ s H) (am _) R hC
          | _=>exact ff h
         | _=>exact ff h
       | _=>exact ff h
      | _=>exact ff h
    | _=>exact ff h
 | .call f as,S,_,h=>by
  cases S with
  | nil=>exact ff h
  | cons st S=>cases st with
   | Return v p=>cases v with
    | none=>exact ff h
    | some v=>cases v with
     | Call g xs kw pc=>cases g with
      | Name x pn=>cases xs with
       | nil=>exact ff h
       | cons y xs=>cases kw with
        | cons _ _=>exact ff h
        | nil =>
         obtain⟨h,h3⟩:=zh h
         obtain⟨Y,Z⟩:=zh h
         have e:=of_decide_eq_true Y
         subst e
         obtain⟨t,ht,hq⟩:=bf4 G XO hp Z h3
         exact(zH (ar6 ht) ad9).imp λ D σ H q=>hq D σ H _ q
      | _=>exact ff h
     | _=>exact ff h
   | Expr v p=>cases v with
    | Call g xs kw pc=>cases g with
     | Name x pn=>cases xs with
      | nil=>exact ff h
      | cons y xs=>cases kw with
       | cons _ _=>exact ff h
       | nil =>
        obtain⟨h,h3⟩:=zh h
        obtain⟨Y,Z⟩:=zh h
        have e:=of_decide_eq_true Y
        subst e
        obtain⟨t,ht,hq⟩:=bf4 G XO hp Z h3
        exact(zH (aP5 ht (ak3 rfl)) ad9).imp λ D σ H q=>hq D σ H _ q
     | _=>exact ff h
    | _=>exact ff h
   | _=>exact ff h
 | .iteT c a r,S,hT,h=>by
  cases S with
  | nil=>exact ff h
  | cons st S=>cases st with
   | If t l o p=>cases o with
    | cons _ _=>exact ff h
    | nil =>
     obtain⟨h,h3⟩:=zh h
     obtain⟨Y,Z⟩:=zh h
     have a2:noR a=true\/aJ6 X E:=hT.elim (λ z=>.inl (zh z).1) .inr
     have a1:noR r=true\/aJ6 X E:=hT.elim (λ z=>.inl (zh z).2) .inr
     refine(zH (bi6 (sE c _ X.nox ck G Y).2.nox (aS0 G xc XO hp a _ a2 Z) an8) (aS0 G xc XO hp r _ a1 h3)).imp λ D σ H q=>?_
     obtain⟨φ,ρ,s,c',s',Ev,R,J,q⟩:=q
     change(match kL F c ρ s with|.ok (.bl b) s1=>if b then lW F a ρ s1 else lW F r ρ s1|_=>none)=_ at J
     split at J
     ·rename_i b s1 e1
      refine⟨φ,ρ,s,b,s1,Ev,R,e1,λ φ1 H1 g1 l1 R1=>?_⟩
      cases b with
      | true=>exact⟨φ1,ρ,s1,c',s',Ev.mono g1 l1,R1,J,q.trans g1 l1⟩
      | false=>exact⟨φ1,ρ,s1,c',s',Ev.mono g1 l1,R1,J,q.trans g1 l1⟩
     ·cases J
   | _=>exact ff h
 | .seq st b,S,hT,h=>by
  cases S with
  | nil=>exact ff h
  | cons x S =>
   obtain⟨Y,Z⟩:=zh h
   refine(zH (sS st _ X.nox ck G Y).nox (aS0 G xc XO hp b _ hT Z)).imp λ D σ H q=>?_
   obtain⟨φ,ρ,s,c',s',Ev,R,J,q⟩:=q
   change(match DV.ex F st ρ s with|.ok (.next ρ1) s1=>lW F b ρ1 s1|_=>none)=_ at J
   split at J
   ·rename_i ρ1 s1 e1
    exact⟨φ,ρ,s,.next ρ1,s1,Ev,R,e1,λ φ1 H1 g1 l1 R1 σ1 a3=>⟨φ1,ρ1,s1,c',s',a3,R1,J,q.trans g1 l1⟩⟩
   ·cases J
theorem bv0 {tb:List Stmt}{h₀:fW}{hs:List fW}{p:Pos}{t:TS}(hx:X.xe=λ _ _=>False)(h:PSs X tb t):PS X (.Try tb (h₀::hs) [] [] p) t:=by
 intro F s σ H D I q
 refine jw (bj (h F s σ H D I q) (λ f s1 z=>?_) (λ e s1 z=>?_))
 ·cases f with
  | next=>exact da z
  | _=>exact z
 ·rw[hx]at z;exact z.elim
def EH (C:Addr)(b:Bool)(D:Ends):XK:=λ _ o H'=>o=some C/\∀ H'',ac1 H' H''->D.rt (.bl b) H''
theorem bq8 {tb:List Stmt}{x nm:Str}{i:Nat}{b₀:Stmt}{Y:List Stmt}{np a1 p:Pos}{hs:List fW}{m:kJ->kG->Option (String×kG)}{b:Bool}(a3:X.ex=[])(a6:X.stack=X.env::X.outer)(b1:X.env.frame=some X.env.locals)
  (hc:ExcCls X.K C) (hg:Gl X x) (hm:X.mg x=some (.ref C)) (hd:(x==("__debug__":Str))=false) (hN:X.N.Nodup) (hi:X.N[i]?=some nm) (hl:X.env.scope.names.lookup nm=some .local)
  (a2:∀(pn:List (Addr×Obj)) (W:Value->af->Prop) (E:XK),ad2 (CX1 X.prog X.w) { X with pn:=pn,xe:=W } E->PSs { X with pn:=pn,xe:=W } tb (TXv Γ X.mg m E)) (a5:∀ a oe,oe.cls=.ref C->PSs (X.hnd a oe) (b₀::Y) (tHd i a b)) :
  PS X (.Try tb (.ExceptHandler (some (.Name x np)) (some nm) (b₀::Y) a1::hs) [] [] p) (λ D σ H=>TXv Γ X.mg m (EH C b D) D σ H):=by
 intro F s σ H D I q
 let W:Value->af->Prop:=λ e s₁=>wpAny (model X.prog X.w) X.A (jo e X.env) (λ _ s₂=>wpAny (model X.prog X.w) X.A (j7 e none) (λ _ s₃=>wpAny (model X.prog X.w) X.A (handleBy e X.env (.ExceptHandler (some (.Name x np)) (some nm) (b₀::Y) a1::hs)) (SP X F D) X.xe s₃) X.xe s₂) X.xe s₁
 have a4:({ X with pn:=X.pn++F,xe:=W }:Cx).Ok:=⟨I.ok.mod,I.ok.kind,I.ok.glob,I.ok.blt,I.ok.above,I.ok.inj,I.ok.has,I.ok.cab,I.ok.hd,I.ok.frames,I.ok.stk,I.ok.exf,I.ok.bs,I.ok.bsz,I.ok.noex,I.ok.exfs,I.ok.funs,I.ok.frf⟩
 have I':Inv { X with pn:=X.pn++F,xe:=W } [] σ H s:=⟨a4,I.os,I.bare,I.base,I.loc,I.cell,I.free,I.freeC,λ p hp=>I.pin p (by rw[bQ]at hp;exact hp),I.hok,I.len⟩
 have G:∀ {Z:List (Addr×Obj)} {σ':St} {H':Hp} {s':af},Inv { X with pn:=X.pn++F,xe:=W } Z σ' H' s'->Inv X F σ' H' s':=λ J=>⟨I.ok,J.os,J.bare,J.base,J.loc,J.cell,J.free,J.freeC,λ p hp=>J.pin p (cJ _ hp),J.hok,J.len⟩
 have hp:ad2 (CX1 X.prog X.w) { X with pn:=X.pn++F,xe:=W } (EH C b D):=λ Z σ' H' s' e b3 J h=>by
  obtain⟨a,C',b2,rfl,T,eC,hq⟩:=CX1.tr J a3 h
  cases eC
  obtain⟨a0,oe,vs,T0,oT,ts,h1,h2,h3,h4,h5,h6,b0,h7⟩:=T.tr
  have hn:i < σ'.length:=by rw[J.len];exact(ac.mp hi).1
  exact aR9 ⟨G T.inv,T.n0,T.nH,λ p hp=>T.np p (cJ _ hp),a0,oe,vs,T0,oT,ts,h1,h2,h3,h4,h5,h6,λ p hp=>b0 p (cJ _ hp),h7⟩ a3 a6 b1 hc hg hm hd hN hi hl (a5 a) ⟨by rw[aL hn],hq⟩
 refine jw (bj (a2 _ W _ hp [] s σ H D I' q) (λ f s1 z=>?_) (λ e s1 z=>z))
 cases f with
 | next=>obtain⟨σ1,H1,J,z⟩:=z;exact da ⟨σ1,H1,G J,z⟩
 | brk=>obtain⟨σ1,H1,J,z⟩:=z;exact⟨σ1,H1,G J,z⟩
 | cont=>obtain⟨σ1,H1,J,z⟩:=z;exact⟨σ1,H1,G J,z⟩
 | ret u=>obtain⟨v,σ1,H1,J,r,z⟩:=z;exact⟨v,σ1,H1,G J,r,z⟩
end
section
variable {Γ:Gm}
theorem aw0 {φ φ1:Nat->Addr}{H F:Hp}{s s1:kG}(R:Rp Γ φ H s)(g:Gr φ s H φ1 s1 F)(ho:mB s s1=true){i:Nat}{o:la}(hi:i<s.length)(e:s1[i]?=some o):o.bnd s.length=true:=by
 unfold mB at ho
 have:=aU.mp ho i (bL.mpr hi)
 rw[e,bW]at this
 rcases this with h|h
 ·exact R.wf i o (of_decide_eq_true h).symm
 ·exact h
theorem qd {s1:kG}{k i:Nat}{o:la}(e:(s1.take k)[i]?=some o):i<k/\s1[i]?=some o:=by
 rw[iX]at e
 split at e
 ·exact⟨‹_›,e⟩
 ·cases e
theorem aH9 {φ φ1:Nat->Addr}{H h:Hp}{s s1:kG}(R:Rp Γ φ H s)(g:Gr φ s H φ1 s1 h)(R1:Rp Γ φ1 h s1)(ho:mB s s1=true):Gr φ s H φ1 (s1.take s.length) h/\Rp Γ φ1 h (s1.take s.length):=by
 have hl:(s1.take s.length).length=s.length:=by rw[dz];have:=g.le;omega
 refine⟨⟨g.w,by rw[hl];exact am _,λ i J G=>by rw[hl]at G;omega,λ i o F e e'=>g.kd i o F e (qd e').2,g.st,g.fr⟩,λ i j o F e e' m m' z=>R1.inj i j o F (qd e).2 (qd e').2 m m' z,λ i o e=>R1.obj i o (qd e).2,λ i o e=>?_,R1.tab⟩
 rw[hl]
 exact aw0 R g ho (qd e).1 (qd e).2
theorem qh {φ φ1:Nat->Addr}{H G:Hp}{s s1 s':kG}{v0 d:kH}{v:V}(R:Rp Γ φ H s)(g:Gr φ s H φ1 s1 G)(R1:Rp Γ φ1 G s1)(hb:v0.bnd s1.length=true)(r:RV Γ φ1 G v0 v)(h:DV.zu s v0 s1=.ok d s') :
  ∃ φ',Gr φ s H φ' s' G/\s.length<=s'.length/\d.bnd s'.length=true/\RV Γ φ' G d v/\Rp Γ φ' G s':=by
 have all:d=v0->s'=s1->∃ φ',Gr φ s H φ' s' G/\s.length<=s'.length/\d.bnd s'.length=true/\RV Γ φ' G d v/\Rp Γ φ' G s':=λ e1 e2=>by
  subst e1;subst e2
  exact⟨φ1,g,g.le,hb,r,R1⟩
 unfold DV.zu at h
 split at h
 case isFalse=>cases h;exact all rfl rfl
 rename_i ho
 obtain⟨gt,Rt⟩:=aH9 R g R1 ho
 have hl:(s1.take s.length).length=s.length:=by rw[dz];have:=g.le;omega
 have tk:d=v0->s'=s1.take s.length->v0.bnd s.length=true->∃ φ',Gr φ s H φ' s' G/\s.length<=s'.length/\d.bnd s'.length=true/\RV Γ φ' G d v/\Rp Γ φ' G s':=λ e1 e2 b=>by
  subst e1;subst e2
  exact⟨φ1,gt,by rw[hl];exact am _,by rw[hl];exact b,r,Rt⟩
 split at h
 ·rename_i k
  split at h
  ·cases h
   exact tk rfl rfl (by unfold kN;exact decide_eq_true ‹_›)
  ·rename_i hk
   split at h
   ·rename_i o Z
    split at h
    ·rename_i Y
     cases h
     have gw:Gw φ1 s.length G (λ i=>if i=s.length then φ1 k else φ1 i) G:=⟨λ i hi=>if_neg (ay hi),Kp.refl _⟩
     have key:∀(i:Nat) (J:la),(s1.take s.length++[o])[i]?=some J->(i<s.length/\s1[i]?=some J)\/(i=s.length/\J=o):=λ i J e=>by
      rcases fL i s.length with h|h|h
      ·rw[aJ (by rw[hl];exact h)]at e;exact .inl (qd e)
      ·subst h
       rw[a8 (by rw[hl];exact am _),hl,Nat.sub_self]at e
       exact .inr ⟨rfl,(au e).symm⟩
      ·rw[bS (by rw[aR,hl];simp;omega)]at e;cases e
     have F:(s1.take s.length++[o]).length=s.length+1:=by rw[aR,hl];rfl
     refine⟨λ i=>if i=s.length then φ1 k else φ1 i,⟨⟨λ i hi=>?_,g.w.kp⟩,by rw[F];omega,λ i h1 h2=>?_,λ i oo J e e'=>?_,g.st,g.fr⟩,by rw[F];omega,by unfold kN;rw[F];exact decide_eq_true (dB _),?_,⟨λ i j oi oj a1 a0 mi mj e=>?_,λ i J e=>?_,λ i J e=>?_,R1.tab⟩⟩
     ·show(if i=s.length then φ1 k else φ1 i)=φ i
      rw[if_neg (ay hi)];exact g.w.map i hi
     ·rw[F]at h2
      show H (if i=s.length then φ1 k else φ1 i)=none
      rw[if_pos (by omega)]
      exact g.new k (by omega) (ac.mp Z).1
     ·rcases key i J e' with⟨_,e2⟩|⟨hi,_⟩
      ·exact g.kd i oo J e e2
      ·have:=(ac.mp e).1;omega
     ·rw[r.refE]
      unfold RV
      show V.ref (φ1 k)=V.ref (if s.length=s.length then φ1 k else φ1 s.length)
      rw[if_pos rfl]
     ·rcases key i oi a1 with⟨hi,ei⟩|⟨hi,zi⟩<;>rcases key j oj a0 with⟨hj,ej⟩|⟨hj,zj⟩
      ·rw[if_neg (ay hi),if_neg (ay hj)]at e
       exact R1.inj i j oi oj ei ej mi mj e
      ·rw[if_neg (ay hi),if_pos hj]at e
       subst zj
       have:=R1.inj i k oi _ ei Z mi mj e
       omega
      ·rw[if_neg (ay hj),if_pos hi]at e
       subst zi
       have:=R1.inj k j _ oj Z ej mi mj e
       omega
      ·rw[hi,hj]
     ·rcases key i J e with⟨hi,e⟩|⟨hi,rfl⟩
      ·show RO Γ _ _ (if i=s.length then φ1 k else φ1 i) J
       rw[if_neg (ay hi)]
       exact(R1.obj i J e).mono gw (aw0 R g ho hi e) λ _ u hu=>hu
      ·show RO Γ _ _ (if i=s.length then φ1 k else φ1 i) J
       rw[if_pos hi]
       exact(R1.obj k _ Z).mono gw Y λ _ u hu=>hu
     ·rw[F]
      rcases key i J e with⟨hi,e⟩|⟨_,rfl⟩
      ·exact zN (cM _) _ (aw0 R g ho hi e)
      ·exact zN (cM _) _ Y
    ·cases h;exact all rfl rfl
   ·exact fb h
 ·split at h
  ·cases h;exact tk rfl rfl ‹_›
  ·cases h;exact all rfl rfl
structure LamGood (J:LamI)(L:lN):Prop where
 sc:LamScope (J.ps++J.fr) J.ps J.fr J.scope
 ps:J.ps.length=L.ps
 fr:J.fr.length=L.cs
 m:mE (ck0 (J.ps++J.fr) J.scope) L.body J.body=true
 pa:qv J.params=some J.ps
 bind:∀(clos:List (Str×Addr)) (doc pm:Value) (c':Addr) (ctv:Value) (us:List Value),us.length=J.ps.length->dw (bn "<lambda>" J.qual J.params J.body J.scope clos pm (.ref c') ctv) ⟨us,[]⟩=pure (J.ps.zip us) /\
  ∀(nm:Str) (rp:Pos),dw (fI nm J.qual J.params [.Return (some J.body) rp] J.scope clos .none .none doc pm none (.ref c') ctv) ⟨us,[]⟩=pure (J.ps.zip us)
structure LkAt (Γ:Gm)(cds:List (Addr×Addr))(f:Str)(sc:Scope)(N:List Str)(fd:bF)(id:String)(caps:List Nat)(params:bD)(body:Expr)(scope:Scope)(c P:Addr)(J:LamI):Prop where
 code:fd.code=.ref c
 cd:(c,P)∈cds
 ck:lamCheck scope sc=true
 fre:∀ x,scope.names.lookup x=some .free->sc.names.lookup x=some .cell
 cel:∀ y∈sc.names,y.2=.cell->sc.names.lookup y.1=some .cell
 df:∀ env,jR params env=([],[])
 lg:Γ.lg id J
 q:J.qual=f ++ ".<locals>."++J.own
 p:J.params=params
 b:J.body=body
 s:J.scope=scope
 len:J.fr.length=caps.length
 at_:∀(i j:Nat) (x:Str),caps[i]?=some j->J.fr[i]?=some x->N[j]?=some x
 fr:∀ x∈J.fr,scope.names.lookup x=some .free
 tab:(P,J.qual)∈Γ.T
def bj6 (Γ:Gm)(cds:List (Addr×Addr))(f:Str)(sc:Scope)(N:List Str)(fd:bF)(lk:String->List Nat->Expr->Bool):Prop :=
 ∀ id caps E,lk id caps E=true->∃ c P params body scope pos J,E=lamText J params body scope pos/\LkAt Γ cds f sc N fd id caps params body scope c P J
def GoodB (Γ:Gm)(cds:List (Addr×Addr))(mg:Str->Option Value)(f:String)(pc vc:Nat)(m:Ck->List Stmt->Bool):Prop:=∃ st N ps a fd lk,DefAt Γ.K mg (f:Str) st ps a fd/\FnScope N ps (defScope st)/\ps.length=pc/\N.length=pc+vc/\m ⟨N,defScope st,lk⟩ (zq st)=true/\bj6 Γ cds (f:Str) (defScope st) N fd lk
def Good (Γ:Gm)(cds:List (Addr×Addr))(mg:Str->Option Value)(f:String)(d:lO):Prop:=GoodB Γ cds mg f d.ps d.vs λ ck S=>mSs ck d.body S
noncomputable def mT (ck:Ck)(d:DV.Tf)(S:List Stmt):Bool:=match S with
 | st::rest=>(match st with|.Try tb hs [] [] _=>(match hs with|[eh]=>(match eh with|.ExceptHandler (some en) (some nm) hb _=>(match en,hb with|.Name x _,b::su=>mSs ck d.body tb&&(mX ck d.xb tb&&(noR d.xb&&(decide (x=(d.c:Str))&&(ck.gl x&&(decide (ck.N[d.i]?=some nm)&&((ck.sc.names.lookup nm==some .local)&&(!(nm==("__debug__":Str))&&(!(nm==("__classdict__":Str))&&(mHd ck nm d.h (b::su)&&mSs ck d.tl rest)))))))))|_,_=>false)|_=>false)|_=>false)|_=>false)
 | _=>false
structure PrOk (Γ:Gm)(cds:List (Addr×Addr))(P:kU)(mg:Str->Option Value):Prop where
 df:∀ f d,P.df f=some d->Good Γ cds mg f d
 con:∀ x d,P.con x=some d->∃ v u,mg (x:Str)=some u/\RelV v u/\(∀ m,d.bnd m=true)/\∀ φ H,RV Γ φ H d v
 bi:∀ x∈bNames,mg x=none
 fa:∀(f:String) (a:Addr),Γ.fa f=some a->mg (f:Str)=some (.ref a)/\∃ oc od fd sl,Γ.K.lookup a=some ⟨oc,od,.func fd,sl⟩
 lg:∀ id J,Γ.lg id J->∃ L,P.lm id=some L/\LamGood J L
 nd:(Γ.T.map (·.1)).Nodup
 xf:∀ f d,P.xf f=some d->GoodB Γ cds mg f d.ps d.vs λ ck S=>mX ck d.body S
 tf:∀ f d,P.tf f=some d->GoodB Γ cds mg f d.ps d.vs λ ck S=>mT ck d S
 xc:∀ c:String,P.xc c=true->∃ C,mg (c:Str)=some (.ref C)/\ExcCls Γ.K C/\excI Γ.K C=true
 xt:∀ c:String,P.xt c=true->∃ C,mg (c:Str)=some (.ref C)
 xs:∀(c d:String) (C D:Addr),P.xc c=true->P.xt d=true->mg (c:Str)=some (.ref C)->mg (d:Str)=some (.ref D)->bN Γ.K (.ref C) (.ref D)=some (ly c d)
noncomputable def ai6 (Γ : Gm) (prog : Program) (w : World) (mg : Str -> Option Value) (base : Heap) (F : DV.Fns) (n : Nat) : Prop := (∀ f : String, (∀ l s, F.call f l s = .bad) \/
      ∃ a fd ps, FnOk prog w Γ.K mg base CX0 n a fd ps (spV Γ (F.call f)) /\ mg (f : Str) = some (.ref a) /\ ci Γ.K (.ref a) = true /\ Binds Γ.K fd ps []) /\
  ∀(id : String) (J : LamI) (f : Addr) (cap : List V) (clos : List (Str × Addr)), Γ.lg id J -> cap.length = J.fr.length -> ClOk prog w Γ.K mg base n (λ H => CloAt H f J cap clos) f (spL Γ (F.lam id) cap)
theorem an9 {φ:Nat->Addr}{H:Hp}{n k:Nat}{N:List Str}{l:List kH}{vs:List V}(r:RVL Γ φ H l vs)(b:kI n l=true)(hN:N.length=l.length+k):RE Γ φ H n (l.map some++aE k none) (ad7 N vs):=by
 have hl:=r.length
 refine⟨?_,λ i d e=>?_⟩
 ·unfold ad7;simp[hl,hN]
 ·by_cases hi:i<l.length
  ·rw[aJ (by simpa using hi),aB]at e
   have e':l[i]?=some d:=by
    rw[ag hi]at e ⊢
    exact au e
   obtain⟨v,e1,e2⟩:=r.get e'
   refine⟨ae4 b e',v,?_,e2⟩
   unfold ad7
   rw[aJ (by rw[aw,hl];exact hi),aB,e1];rfl
  ·rw[a8 (by simpa using jn hi)]at e
   rw[bK]at e
   split at e<;>cases e
theorem aR5 {Y:List (Addr×Addr)}{P:kU}{prog:aD}{w:World}{mg:Str->Option Value}{base:Heap}(hP:PrOk Γ Y P mg)(hb:∀ y∈Y,bG base y.1 y.2/\BM mg base)(n:Nat)(F:ai6 Γ prog w mg base (kO P n) (n+31))
  {f:String} {st:Stmt} {N ps:List Str} {a:Addr} {fd:bF} {lk:String->List Nat->Expr->Bool} (hS:FnScope N ps (defScope st)) (hL:bj6 Γ Y (f:Str) (defScope st) N fd lk) (G:Value) (a3:∀ id h E,lk id h E=true->fd.code=G) (A:aM) (Z:List Env) (sh:af) (H:Hp) (E:XK) (hr:Room (n+31) (A.deeper (eW (f:Str) (defScope st) sh.heap.objs.size a G))) :
  CG Γ (kO P n) (n+31) (ap7 CX0 prog w Γ.K mg base N (f:Str) (defScope st) a G A Z sh H E).nox ⟨N,defScope st,lk⟩:=by
 refine⟨rfl,rfl,hS.nd,rfl,rfl,?_,hr,λ x k e=>.inl e,λ _ _=>rfl,hP.bi,F.1,?_,λ id h E' a0=>?_,F.2,hP.fa,DV.ac6 P n⟩
 ·show kT+1<=n+31
  unfold kT;omega
 ·have:(kO P n).con=P.con:=by cases n<;>rfl
  rw[this];exact hP.con
 ·obtain⟨c,Pa,params,body,scope,pos,J,eE,L⟩:=hL id h E' a0
  obtain⟨a5,a2⟩:=hb _ L.cd
  obtain⟨L',_,lg⟩:=hP.lg id J L.lg
  refine⟨c,Pa,params,body,scope,pos,J,eE,⟨?_,a5,a2,L.ck,L.df _,L.lg,L.q,L.p,L.b,L.s,L.len,L.at_,L.fr,λ x hx=>?_,L.tab,hP.nd,λ _=>rfl,λ x c hx=>?_,lg.sc,lg.pa,λ a1 pm c' a6 us a4=>(lg.bind a1 .none pm c' a6 us a4).1⟩⟩
  ·show G=.ref c
   rw[<-a3 id h E' a0];exact L.code
  ·exact zI (L.fre x hx)
  ·rcases zr (aF hx)with z|z
   ·exact .inl (L.cel (x,.cell) z rfl)
   ·exact absurd z (by simp)
theorem bF0 {a1:List (Addr×Addr)}{P:kU}{prog:aD}{w:World}{mg:Str->Option Value}{base:Heap}(hP:PrOk Γ a1 P mg)(hb:∀ y∈a1,bG base y.1 y.2/\BM mg base)(n:Nat)(a2:ai6 Γ prog w mg base (kO P n) (n+31))
  {f:String} {d:lO} (e:P.df f=some d) {st:Stmt} {N ps:List Str} {a:Addr} {fd:bF} {lk:String->List Nat->Expr->Bool} (hD:DefAt Γ.K mg (f:Str) st ps a fd) (hS:FnScope N ps (defScope st)) (h1:ps.length=d.ps) (h2:N.length=d.ps+d.vs) (hm:mSs ⟨N,defScope st,lk⟩ d.body (zq st)=true) (hL:bj6 Γ a1 (f:Str) (defScope st) N fd lk) :
  FnOk prog w Γ.K mg base CX0 (n+1+31) a fd ps (spV Γ ((kO P (n+1)).call f)):=by
 have a0:∀ vs H Q E,spV Γ ((kO P (n+1)).call f) vs H Q E->vs.length=ps.length:=λ vs H Q E q=>by
  obtain⟨φ,s,l,d',s',R,r,b,hc,k⟩:=q
  simp only[kO,e]at hc
  split at hc
  ·rw[r.length,h1];assumption
  ·exact fb hc
 have body:∀(Z:Value),(∀ id F E,lk id F E=true->fd.code=Z)->∀(A:aM) (Y:List Env) (sh:af) (H:Hp) (vs:List V) (Q:VK) (E:XK),Room (n+31) (A.deeper (eW (f:Str) (defScope st) sh.heap.objs.size a Z))->spV Γ ((kO P (n+1)).call f) vs H Q E ->
   ∃ t,PSs (ap7 CX0 prog w Γ.K mg base N (f:Str) (defScope st) a Z A Y sh H E).nox (zq st) t/\t { nx:=λ _ H'=>Q .non H',rt:=Q } (ad7 N vs) H:=by
  intro Z a5 A Y sh H vs Q E hr q
  have G:=aR5 hP hb n a2 hS hL (a:=a) Z a5 A Y sh H E hr
  refine⟨_,sSs d.body (zq st) _ ⟨N,defScope st,lk⟩ G hm,?_⟩
  obtain⟨φ,s,l,d',s',R,r,b,hc,k⟩:=q
  simp only[kO,e]at hc
  split at hc
  case isFalse=>exact fb hc
  rename_i a0
  obtain⟨c,s1,e1,hc⟩:=aa0 hc
  refine⟨φ,l.map some++aE d.vs none,s,c,s1,an9 r b (by rw[h2,a0]),R,e1,λ φ1 H1 g1 l1 R1=>?_⟩
  cases c with
  | ret v0 =>
   intro v hb rv
   obtain⟨φ',g',l',b',r',R'⟩:=qh R g1 R1 hb rv hc
   exact k v φ' H1 g' l' b' r' R'
  | next ρ =>
   intro σ' _
   obtain⟨φ',g',l',b',r',R'⟩:=qh (v0:=.non) R g1 R1 rfl RV.nonI hc
   exact k .non φ' H1 g' l' b' r' R'
  | cont ρ=>exact fb hc
  | brk ρ=>exact fb hc
 by_cases hl:∃ id F E,lk id F E=true
 ·obtain⟨id,F,E,a3⟩:=hl
  obtain⟨c,Pa,params,a4,scope,pos,J,eE,L⟩:=hL id F E a3
  exact hD.fn.okC L.code hS a0 (body _ λ _ _ _ _=>L.code)
 ·exact hD.fn.ok hS a0 (λ Z=>body Z λ id F E h=>absurd ⟨id,F,E,h⟩ hl)
theorem Fun.okX {CX:CXT}{P:aD}{w:World}{K:ae}{mg:Str->Option Value}{base:Heap}{x qual:Str}{st:Stmt}{f:Addr}{Y:bF}{N ps:List Str}{k:Nat}{sp:Sp}(F:Fun K x qual st f Y)(S:FnScope N ps (defScope st))(len:∀ vs H Q E,sp vs H Q E->vs.length=ps.length)
  (J:∀(G:Value),Y.code=G->∀(A:aM) (h:List Env) (s:af) (H:Hp) (vs:List V) (Q:VK) (E:XK),Room k (A.deeper (eW qual (defScope st) s.heap.objs.size f G))->sp vs H Q E ->
   ∃ t,PSs (ap7 CX P w K mg base N qual (defScope st) f G A h s H E) (zq st) t/\t { nx:=λ _ H'=>Q .non H',rt:=Q } (ad7 N vs) H):FnOk P w K mg base CX (k+1) f Y ps sp:=by
 obtain⟨oc,od,kV,a0,pm,an,G,ct,a1,rfl,lk,hc⟩:=F.ex
 exact bo0 lk hc S len λ A h s H vs Q E hr Z=>J G rfl A h s H vs Q E hr Z
theorem bB6 {F:List (Addr×Addr)}{P:kU}{mg:Str->Option Value}(G:PrOk Γ F P mg)(n:Nat):XC (kO P n) Γ.K mg:=by
 have e:(kO P n).xc=P.xc:=by cases n<;>rfl
 have e':(kO P n).xt=P.xt:=by cases n<;>rfl
 exact⟨λ c h=>G.xc c (by rw[e]at h;exact h),λ c h=>G.xt c (by rw[e']at h;exact h),λ c d C D Y J=>G.xs c d C D (by rw[e]at Y;exact Y) (by rw[e']at J;exact J)⟩
theorem bE0 {F:List (Addr×Addr)}{P:kU}{prog:aD}{w:World}{mg:Str->Option Value}{base:Heap}(hP:PrOk Γ F P mg)(hb:∀ y∈F,bG base y.1 y.2/\BM mg base)(n:Nat)(J:ai6 Γ prog w mg base (kO P n) (n+31))(XO:XOk Γ prog w Γ.K mg base (kO P n) (n+31))
  {f:String} {d:DV.Xf} (e:P.xf f=some d) {st:Stmt} {N ps:List Str} {a:Addr} {fd:bF} {lk:String->List Nat->Expr->Bool} (hD:DefAt Γ.K mg (f:Str) st ps a fd) (hS:FnScope N ps (defScope st)) (h1:ps.length=d.ps) (h2:N.length=d.ps+d.vs) (hm:mX ⟨N,defScope st,lk⟩ d.body (zq st)=true) (hL:bj6 Γ F (f:Str) (defScope st) N fd lk) :
  FnOk prog w Γ.K mg base (CX1 prog w) (n+1+31) a fd ps (spX Γ mg ((kO P (n+1)).xcall f)):=by
 refine hD.fn.okX hS (λ vs H Q E q=>?_) λ Y a0 A h sh H vs Q E hr q=>?_
 ·obtain⟨φ,s,l,c,s',R,r,b,hc,k⟩:=q
  simp only[kO,e]at hc
  split at hc
  ·rw[r.length,h1];assumption
  ·cases hc
 ·have G:=aR5 hP hb n J hS hL (a:=a) Y (λ _ _ _ _=>a0) A h sh H E hr
  obtain⟨φ,s,l,c,s',R,r,b,hc,k⟩:=q
  simp only[kO,e]at hc
  split at hc
  case isFalse=>cases hc
  rename_i Z
  exact⟨_,aS0 (X:=ap7 (CX1 prog w) prog w Γ.K mg base N (f:Str) (defScope st) a Y A h sh H E) G (bB6 hP n) XO bQ2 d.body (zq st) (.inr bO4) hm,φ,l.map some++aE d.vs none,s,c,s',an9 r b (by rw[h2,Z]),R,hc,k⟩
theorem bx9 {cds : List (Addr × Addr)} {P : DV.Pr} {prog : Program} {w : World} {mg : Str -> Option Value} {base : Heap} (hP : PrOk Γ cds P mg) (hb : ∀ y ∈ cds, PySem.W.CodeHd base y.1 y.2 /\ BM mg base) (n : Nat) (hcall : ai6 Γ prog w mg base (DV.aa1 P n) (n + 31)) (XO : XOk Γ prog w Γ.K mg base (DV.aa1 P n) (n + 31))
    {f : String} {d : DV.Tf} (e0 : P.df f = none) (e : P.tf f = some d) {st : Stmt} {N ps : List Str} {a : Addr} {fd : bF} {lk : String -> List Nat -> Expr -> Bool} (hD : DefAt Γ.K mg (f : Str) st ps a fd) (hS : FnScope N ps (defScope st)) (h1 : ps.length = d.ps) (h2 : N.length = d.ps + d.vs) (hm : mT ⟨N, defScope st, lk⟩ d (zq st) = true) (hL : bj6 Γ cds (f : Str) (defScope st) N fd lk) :
    FnOk prog w Γ.K mg base CX0 (n + 1 + 31) a fd ps (spV Γ ((kO P (n + 1)).call f)) := by
  refine hD.fn.okX hS (λ vs H Q E q => ?_) λ cdv hcd A outer sh H vs Q E hr q => ?_
  · obtain⟨φ, s, l, d', s', R, r, b, hc, k⟩ := q
    simp only[kO, e0, e]at hc
    split at hc
    · rw[r.length, h1]; assumption
    · exact fb hc
  have G := aR5 hP hb n hcall hS hL (a := a) cdv (λ _ _ _ _ => hcd) A outer sh H E hr
  have xc := bB6 hP n
  obtain⟨φ, s, l, d', s', R, r, b, hc, k⟩ := q
  simp only[kO, e0, e]at hc
  split at hc
  case isFalse => exact fb hc
  rename_i hlen
  have E0 := an9 r b (k := d.vs) (N := N) (by rw[h2, hlen])
  unfold mT at hm
  split at hm
  case h_2 => exact ff hm
  rename_i st0 rest eb
  rw[eb]
  split at hm
  case h_2 => exact ff hm
  rename_i tb hs tp
  split at hm
  case h_2 => exact ff hm
  rename_i eh
  split at hm
  case h_2 => exact ff hm
  rename_i en nm hb0 hp
  split at hm
  case h_2 => exact ff hm
  rename_i x np b0 su
  obtain⟨m1, hm⟩ := zh hm
  obtain⟨m2, hm⟩ := zh hm
  obtain⟨m3, hm⟩ := zh hm
  obtain⟨m4, hm⟩ := zh hm
  obtain⟨m5, hm⟩ := zh hm
  obtain⟨m6, hm⟩ := zh hm
  obtain⟨m7, hm⟩ := zh hm
  obtain⟨m8, hm⟩ := zh hm
  obtain⟨m9, hm⟩ := zh hm
  obtain⟨m10, m11⟩ := zh hm
  have ex := of_decide_eq_true m4
  have ei := of_decide_eq_true m6
  subst ex
  unfold DV.bJ4 at hc
  split at hc
  · rename_i c s1 hx
    split at hc
    case isFalse => exact fb hc
    rename_i hcond
    obtain⟨rfl, hxc, hok⟩ := hcond
    obtain⟨C, hC, hE, hI⟩ := xc.at_ _ hxc
    obtain⟨g1, g2, g3⟩ := G.gl m5
    have hloc : (defScope st).names.lookup nm = some .local := eq_of_beq m7
    have hd1 : (nm == ("__debug__" : Str)) = false := by simpa using m8
    have hd2 : (nm == ("__classdict__" : Str)) = false := by simpa using m9
    have kx : ∀ a', d9 Γ.K (.ref a') (.ref C) (λ h => XAt h a' C) := λ a' => bv1 hE hI
    refine⟨_, (zH (bq8 (X := (ap7 CX0 prog w Γ.K mg base N (f : Str) (defScope st) a cdv A outer sh H E).nox) (Γ := Γ) (C := C) (m := lW (kO P n) d.xb) (b := d.h.val d.c) (i := d.i) rfl rfl rfl hE g1 hC g2 hS.nd ei hloc (λ pn W E1 hpas => ?_) λ a' oe hcl => by1 G xc hxc hC (kx a') hcl ei (.inl hloc) hd1 hd2 m10 hok) ad9).nox, ?_⟩
    · have G' : CG Γ (DV.aa1 P n) (n + 31) ({ (ap7 CX0 prog w Γ.K mg base N (f : Str) (defScope st) a cdv A outer sh H E).nox with pn := pn, xe := W } : Cx).nox ⟨N, defScope st, lk⟩ := ⟨G.K, G.N, G.nd, rfl, G.calm, G.deep, G.room, G.sc, G.fn, G.bi, G.call, G.con, λ id caps E' hlk => by
          obtain⟨c, Pa, params, body, scope, pos, J, eE, L⟩ := G.lam id caps E' hlk
          exact⟨c, Pa, params, body, scope, pos, J, eE, ⟨L.code, L.hd, L.bm, L.ck, L.df, L.lg, L.q, L.p, L.b, L.s, L.len, L.at_, L.fr, L.cl, L.tab, L.nd, L.fn, L.kd, L.gs, L.gp, L.gb⟩⟩, G.cl, G.fa, G.fk⟩
      exact aS0 (X := { (ap7 CX0 prog w Γ.K mg base N (f : Str) (defScope st) a cdv A outer sh H E).nox with pn := pn, xe := W }) G' xc XO hpas d.xb tb (.inl m3) m2
    · refine⟨φ, l.map some ++ aE d.vs none, s, d.c, s1, E0, R, hx, λ φ' H' a' C' g' l' R' hC' => ?_⟩
      have hC' : mg (d.c : Str) = some (.ref C') := hC'
      rw[hC]at hC'
      cases hC'
      refine⟨rfl, λ H'' same => ?_⟩
      obtain⟨gs, Rs⟩ := R'.same same
      obtain⟨φ2, g2', l2, b2, r2, R2⟩ := qh (v0 := .bl (d.h.val d.c)) R (g'.trans gs l') Rs rfl RV.blI hc
      exact k _ φ2 H'' g2' l2 b2 r2 R2
  · rename_i hx
    refine⟨_, (zH (bv0 (X := (ap7 CX0 prog w Γ.K mg base N (f : Str) (defScope st) a cdv A outer sh H E).nox) rfl (sSs d.body tb _ ⟨N, defScope st, lk⟩ G m1)) (sSs d.tl rest _ ⟨N, defScope st, lk⟩ G m11)).nox, ?_⟩
    obtain⟨c, s1, e1, hc⟩ := aa0 hc
    refine⟨φ, l.map some ++ aE d.vs none, s, c, s1, E0, R, e1, λ φ1 H1 g1 l1 R1 => ?_⟩
    cases c with
    | ret v0 =>
      intro v hb rv
      obtain⟨φ', g', l', b', r', R'⟩ := qh R g1 R1 hb rv hc
      exact k v φ' H1 g' l' b' r' R'
    | next ρ =>
      intro σ' E1
      obtain⟨c, s2, e2, hc⟩ := aa0 hc
      refine⟨φ1, ρ, s1, c, s2, E1, R1, e2, λ φ2 H2 g2 l2 R2 => ?_⟩
      cases c with
      | ret v0 =>
        intro v hb rv
        obtain⟨φ', g', l', b', r', R'⟩ := qh R (g1.trans g2 l1) R2 hb rv hc
        exact k v φ' H2 g' l' b' r' R'
      | next ρ =>
        intro σ' _
        obtain⟨φ', g', l', b', r', R'⟩ := qh (v0 := .non) R (g1.trans g2 l1) R2 rfl RV.nonI hc
        exact k .non φ' H2 g' l' b' r' R'
      | cont ρ => exact fb hc
      | brk ρ => exact fb hc
    | cont ρ => exact fb hc
    | brk ρ => exact fb hc
theorem bp5 {b6:List (Addr×Addr)}{P:kU}{prog:aD}{w:World}{mg:Str->Option Value}{base:Heap}(hP:PrOk Γ b6 P mg)(n:Nat)(a1:ai6 Γ prog w mg base (kO P n) (n+31))
  (id:String) (J:LamI) (f:Addr) (cap:List V) (Y:List (Str×Addr)) (b5:Γ.lg id J) (a2:cap.length=J.fr.length) :
  ClOk prog w Γ.K mg base (n+1+31) (λ H=>CloAt H f J cap Y) f (spL Γ ((kO P (n+1)).lam id) cap):=by
 obtain⟨L,eL,LG⟩:=hP.lg id J b5
 have a4:∀ vs H Q E,spL Γ ((kO P (n+1)).lam id) cap vs H Q E->vs.length=J.ps.length:=λ vs H Q E q=>by
  obtain⟨φ,s,cs,l,d,s',R,r,rc,b,bc,hc,k⟩:=q
  simp only[kO,eL]at hc
  split at hc
  ·rename_i hh;rw[r.length,LG.ps];exact hh.1
  ·exact fb hc
 have main:∀(A:aM) (Z:List Env) (sh:af) (H:Hp) (cd:Value) (vs:List V) (Q:VK),Room (n+31) (A.deeper (c6 J.qual J.scope sh.heap.objs.size f cd (aI (sh.heap.objs.size+1) J.scope.names Y)))->Cells Y H->(∀ b o,Γ.K.lookup b=some o->H b=none)->spL Γ ((kO P (n+1)).lam id) cap vs H Q E0 ->
   ∃ t,PE (ax7 prog w Γ.K mg base (J.ps++J.fr) J.qual J.scope f cd Y A Z sh H) J.body t/\t (vs.map some++cap.map some) (ab0 Y H) λ v H'=>(∀ b,isC Y b=true->H' b=none)->Q v (Put Y H H'):=by
  intro A Z sh H cd vs Q hr F hK q
  have G:CG Γ (kO P n) (n+31) (ax7 prog w Γ.K mg base (J.ps++J.fr) J.qual J.scope f cd Y A Z sh H) (ck0 (J.ps++J.fr) J.scope):=by
   refine⟨rfl,rfl,LG.sc.nd,rfl,rfl,?_,hr,λ x k e=>.inl e,λ x e=>?_,hP.bi,a1.1,?_,λ _ _ _ h=>(by cases h),a1.2,hP.fa,DV.ac6 P n⟩
   ·show kT+1<=n+31
    unfold kT;omega
   ·show(J.scope.names.lookup x==some .cell)=true
    rw[show J.scope.names.lookup x=some .cell from e];rfl
   ·have:(kO P n).con=P.con:=by cases n<;>rfl
    rw[this];exact hP.con
  refine⟨_,(sE L.body J.body _ (ck0 (J.ps++J.fr) J.scope) G LG.m).1,?_⟩
  obtain⟨φ,s,cs,l,d,s',R,r,rc,b,bc,hc,k⟩:=q
  simp only[kO,eL]at hc
  split at hc
  case isFalse=>exact fb hc
  rename_i hh
  obtain⟨h1,h2,h3⟩:=hh
  rw[aj,aj]at h3
  obtain⟨⟨b3,b4⟩,c0⟩:=h3
  obtain⟨v0,s1,e1,hc⟩:=aa0 hc
  have RD:Rp Γ φ (ab0 Y H) s:=R.dropC F c0
  have b2:RVL Γ φ (ab0 Y H) (l++cs) (vs++cap):=(RVL.dropC F l vs b3 r).append (RVL.dropC F cs cap b4 rc)
  refine⟨φ,l.map some++cs.map some,s,v0,s1,⟨by simp[r.length,rc.length],λ i x ei=>?_⟩,RD,e1,λ v φ1 H1 g1 l1 b1 r1 R1 a3=>?_⟩
  ·rw[<-e7,aB]at ei
   have b0:(l++cs)[i]?=some x:=by
    cases q:(l++cs)[i]? with
    | none=>rw[q]at ei;cases ei
    | some y=>rw[q]at ei;cases ei;rfl
   obtain⟨u,e3,e4⟩:=b2.get b0
   refine⟨ae4 (zF b bc) b0,u,?_,e4⟩
   rw[<-e7,aB,e3];rfl
  ·obtain⟨φ',g',l',b',r',R'⟩:=qh RD g1 R1 b1 r1 hc
   have gp:=Gr.put F a3 hK R' g'
   obtain⟨gs,Rs⟩:=R'.same (aL7 (H:=H) a3)
   exact k v φ' _ gp l' b' (RV.mono gs d v b' r') Rs
 unfold CloAt
 cases q:J.nm with
 | none=>exact bn4 LG.sc a4 a2 (λ pm c' a0 us a5=>(LG.bind Y .none pm c' a0 us a5).1) (λ A Z sh H cd vs Q hr hat hK q=>by
   obtain⟨pm,c',a0,_,_,F,_⟩:=hat
   exact main A Z sh H cd vs Q hr F hK q)
 | some p=>exact bn9 LG.sc a4 a2 (λ a6 pm c' a0 us a5=>(LG.bind Y a6 pm c' a0 us a5).2 _ _) (λ A Z sh H cd vs Q hr hat hK q=>by
   obtain⟨a6,pm,c',a0,_,_,F,_⟩:=hat
   obtain⟨t,h1,h2⟩:=main A Z sh H cd vs Q hr F hK q
   exact⟨_,zH (ar6 h1) an8,h2⟩)
theorem aD7 {a0:List (Addr×Addr)}{P:kU}{prog:aD}{w:World}{mg:Str->Option Value}{base:Heap}(h:PrOk Γ a0 P mg)(hb:∀ y∈a0,bG base y.1 y.2/\BM mg base):∀ n:Nat,ai6 Γ prog w mg base (kO P n) (n+31)/\XOk Γ prog w Γ.K mg base (kO P n) (n+31)
 | 0=>⟨⟨λ f=>.inl λ l s=>rfl,λ id J f cap F _ _=>⟨λ A a1 s H us vs Q _ _ _ _ q=>by
   obtain⟨φ,s,cs,l,d,s',R,r,rc,b,bc,hc,k⟩:=q
   cases hc⟩⟩,λ f=>.inl λ l s=>rfl⟩
 | n+1=>by
  obtain⟨ih,XO⟩:=aD7 (prog:=prog) (w:=w) (base:=base) h hb n
  refine⟨⟨λ f=>?_,λ id J f cap F G Y=>bp5 h n ih id J f cap F G Y⟩,λ f=>?_⟩
  ·cases e:P.df f with
   | none =>
    cases e2:P.tf f with
    | none=>exact .inl λ l s=>by simp only[kO,e,e2]
    | some d =>
     obtain⟨st,N,ps,a,fd,lk,hD,hS,G,Y,Z,hL⟩:=h.tf f d e2
     exact .inr ⟨a,fd,ps,bx9 h hb n ih XO e e2 hD hS G Y Z hL,hD.mg,hD.fn.kp,hD.bi⟩
   | some d =>
    obtain⟨st,N,ps,a,fd,lk,hD,hS,G,Y,Z,hL⟩:=h.df f d e
    exact .inr ⟨a,fd,ps,bF0 h hb n ih e hD hS G Y Z hL,hD.mg,hD.fn.kp,hD.bi⟩
  ·cases e:P.xf f with
   | none=>exact .inl λ l s=>by simp only[kO,e]
   | some d =>
    obtain⟨st,N,ps,a,fd,lk,hD,hS,G,Y,Z,hL⟩:=h.xf f d e
    exact .inr ⟨a,fd,ps,bE0 h hb n ih XO e hD hS G Y Z hL,hD.mg,hD.fn.kp,hD.bi⟩
theorem bl9 {h:List (Addr×Addr)}{P:kU}{prog:aD}{w:World}{mg:Str->Option Value}{base:Heap}(F:PrOk Γ h P mg)(hb:∀ y∈h,bG base y.1 y.2/\BM mg base)(n:Nat):ai6 Γ prog w mg base (kO P n) (n+31):=(aD7 F hb n).1
def spT (Γ:Gm):Sp:=λ vs H Q _=>∃(a:Addr) (ns:List Int),vs=[.ref a]/\SqF Γ.K H a (ns.map V.int)/\ns.length<=63/\TabsH Γ.T H/\∀ H',Q (.bl true) H'
theorem aA6 {φ:Nat->Addr}{H:Hp}:∀ ns:List Int,RVL Γ φ H (ns.map DV.D.int) (ns.map V.int)
 | []=>.nil
 | n::ns=>.cons RV.intI (aA6 ns)
theorem ar4 {m:Nat}:∀ ns:List Int,kI m (ns.map DV.D.int)=true
 | []=>rfl
 | n::ns=>by rw[aV];unfold kI;rw[ar4 ns];rfl
theorem bD7 {P:kU}{k:Nat}(h:∀ ns:List Int,ns.length<=63->∃ s',(kO P k).call "law" [.ref 0] [.ro (ns.map DV.D.int)]=.ok (.bl true) s')(vs:List V)(H:Hp)(Q:VK)(E:XK)(q:spT Γ vs H Q E):spV Γ ((kO P k).call "law") vs H Q E:=by
 obtain⟨a,ns,rfl,F,hl,hT,G⟩:=q
 obtain⟨s',hs⟩:=h ns hl
 refine⟨λ _=>a,[.ro (ns.map DV.D.int)],[.ref 0],.bl true,s',⟨λ i j o J e e' m m' _=>?_,λ i o e=>?_,λ i o e=>?_,hT⟩,.cons RV.refI .nil,?_,hs,λ v φ' H' g l b r R=>?_⟩
 ·cases i with
  | zero=>cases e;cases m
  | succ i=>cases e
 ·cases i with
  | zero=>cases e;exact⟨_,F,aA6 ns⟩
  | succ i=>cases e
 ·cases i with
  | zero=>cases e;unfold kM;exact ar4 ns
  | succ i=>cases e
 ·unfold kI kN kI;rfl
 ·rw[r.blE];exact G H'
theorem aA8 {F:List (Addr×Addr)}{mg:Str->Option Value}:∀ {tbl:List (String×lO)},(∀ p∈tbl,Good Γ F mg p.1 p.2)->∀ f d,tbl.lookup f=some d->Good Γ F mg f d
 | [],_,f,d,h=>by cases h
 | (g,e)::tbl,H,f,d,h=>by
  rw[aZ]at h
  cases q:f==g with
  | true =>
   rw[q]at h
   cases h
   rw[eq_of_beq q]
   exact H (g,_) (aq ..)
  | false =>
   rw[q]at h
   exact aA8 (λ p hp=>H p (ak _ hp)) f d h
def bx5 (Γ:Gm)(mg:Str->Option Value)(x:String)(d:kH):Prop:=∃ v u,mg (x:Str)=some u/\RelV v u/\(∀ m,d.bnd m=true)/\∀ φ H,RV Γ φ H d v
theorem aS9 {mg:Str->Option Value}:∀ {tbl:List (String×kH)},(∀ p∈tbl,bx5 Γ mg p.1 p.2)->∀ f d,tbl.lookup f=some d->bx5 Γ mg f d
 | [],_,f,d,h=>by cases h
 | (g,e)::tbl,H,f,d,h=>by
  rw[aZ]at h
  cases q:f==g with
  | true =>
   rw[q]at h
   cases h
   rw[eq_of_beq q]
   exact H (g,_) (aq ..)
  | false =>
   rw[q]at h
   exact aS9 (λ p hp=>H p (ak _ hp)) f d h
end
theorem aJ2 {P:aD}{w:World}{K:ae}{mg mb:Str->Option Value}{k:Nat}{fa a:Addr}{fd:bF}{x:Str}{sp:Sp}{G:af}{vs:List Value}{ns:List Int}{tabs:List (Addr×Addr)}
  (KX:K.In G.heap) (a6:G.heap.Ns bC mg) (hb:G.heap.Ns f9 mb) (c3:∀ x:Str,x ≠ "__name__"->mb x=a9 x) (c0:G.heap.NoLimit) (hg:G.gens=#[]) (d0:BM mg G.heap) (hT:jV tabs G.heap) (f1:jW K=true)
  (ha:G.heap.get? a=some { cls:=.type "list",data:=.seq vs.toArray }) (hi:jJ vs ns) (hl:ns.length<=aH) (hr:Room k ie)
  (F:∀ base:Heap,K.In base->base.Ns bC mg->BM mg base->(∀ q∈tabs,bG base q.1 q.2)->FnOk P w K mg base CX0 k fa fd [x] sp) (a4:∀(s:af) (u:Value),jH s fd ⟨[u],[]⟩ [(x,u)])
  (d1:∀ H:Hp,(∀ q∈tabs,H q.2=some (.tbl #[]))->SqL K H a (ns.map V.int)->(∀ u,H a=some u->(∃ o xs,u=.frz o (.lst xs))\/∃ ps,u=.tbl ps)->sp [.ref a] H (λ v _=>v=.bl true) E0) :
  d4 (model P w) ie (.call (.ref fa) ⟨[.ref a],[]⟩) (λ r s'=>r=.ok (.ret (.bool true))/\OldK G.heap s'.heap/\s'.os=G.os/\e9 s'.gens) G:=by
 have rv:=au1 hi
 have c1:=hi.length
 have J:∀ b,b∈tabs.map (·.2)->G.heap.get? b=some (fu #[]):=λ b h=>by
  obtain⟨q,hq,rfl⟩:=aS.mp h
  exact(hT q hq).2
 have a0:∀ H:Hp,(∀ b u,H b=some u->(b=a/\∃ o xs,u=.frz o (.lst xs))\/(b∈tabs.map (·.2)/\u=.tbl #[]))->(∀ q∈tabs,H q.2=some (.tbl #[]))->SqL K H a (ns.map V.int)->HOk P w H G.heap->(H a≠none->K.lookup a=none) ->
   d4 (model P w) ie (.call (.ref fa) ⟨[.ref a],[]⟩) (λ r s'=>r=.ok (.ret (.bool true))/\OldK G.heap s'.heap/\s'.os=G.os/\e9 s'.gens) G:=by
  intro H hO e5 hS hok hK
  have un:∀ b o,G.heap.get? b=some o->o.cls≠.type "list"->(∀ vs,o.data≠.fields vs)->H b=none:=λ b o e n1 n2=>by
   cases q:H b with
   | none=>rfl
   | some u =>
    rcases hO b u q with⟨z,_⟩|⟨z,_⟩
    ·rw[z,ha]at e;cases e;exact absurd rfl n1
    ·rw[J b z]at e;cases e;exact absurd rfl (n2 #[])
  have Z:∀ {b:Addr} {m:Str->Option Value},G.heap.Ns b m->(aV5 G.heap H).Ns b m:=λ {b m} ⟨o,es,ep,e,d,r⟩=>by
   refine⟨o,es,ep,ah3 e ?_,d,r⟩
   cases q:H b with
   | none=>rfl
   | some u =>
    rcases hO b u q with⟨z,_⟩|⟨z,_⟩
    ·rw[z,ha]at e;cases e;cases d
    ·rw[J b z]at e;cases e;cases d
  have b0:K.In (aV5 G.heap H):=λ b o e=>ah3 (KX b o e) (by
   cases q:H b with
   | none=>rfl
   | some u =>
    rcases hO b u q with⟨z,_⟩|⟨z,_⟩
    ·subst z
     rw[hK (by rw[q];simp)]at e;cases e
    ·have e2:=KX b o e
     rw[J b z]at e2
     have h2:=aU.mp f1 (b,o) (PySem.W.mem_of_lookupK e)
     have e3:o=fu #[]:=(au e2).symm
     subst e3
     exact absurd (show false=true from h2) aQ)
  have hM:Mod K mg (aV5 G.heap H):=⟨b0,Z a6,⟨mb,Z hb,c3⟩,let⟨mc,h1,h2⟩:=c0;⟨mc,Z h1,h2⟩⟩
  have e4:BM mg (aV5 G.heap H):=by
   obtain⟨bm,ob,b1,b2,b3,b4,b5,b6⟩:=d0
   exact⟨bm,ob,b1,b2,ah3 b3 (un bm ob b3 (by rw[b4];nofun) (by rw[b6];nofun)),b4,b5,b6⟩
  have f0:∀ q∈tabs,bG (aV5 G.heap H) q.1 q.2:=λ q hq=>by
   obtain⟨o,c4,c2,tf,a3,tg,d2,text,tt,e1,r1,r2⟩:=(hT q hq).1
   refine⟨o,c4,c2,tf,a3,tg,d2,text,tt,ah3 e1 ?_,r1,r2⟩
   cases q2:H q.1 with
   | none=>rfl
   | some u =>
    rcases hO _ u q2 with⟨z,_⟩|⟨z,_⟩
    ·rw[z,ha]at e1;cases e1;exact absurd r1 (by simp)
    ·rw[J _ z]at e1;cases e1;exact absurd r1 (by simp)
  have e0:Env0 P w K mg (aV5 G.heap H) ie [] G H:=⟨rfl,hM,λ b o e=>bs7 e,Nat.le_of_eq (aU2 _ _),trivial,λ b hb=>absurd (show b∈([]:List Addr)from hb) (by simp),hok,.of_eq hg⟩
  refine i6 ((F _ b0 (Z a6) e4 f0).run ie [] G H ⟨[.ref a],[]⟩ [.ref a] [.ref a] _ _ hr e0 (a4 G (.ref a)) (.cons rfl .nil) (d1 H e5 hS (λ u e=>(hO a u e).elim (λ z=>.inl z.2) (λ z=>.inr ⟨_,z.2⟩)))) λ r s' h=>?_
  cases r with
  | error e=>exact bB h
  | ok fl =>
   cases fl with
   | next=>exact bB h
   | brk=>exact bB h
   | cont=>exact bB h
   | ret u =>
    obtain⟨v,H',os,bare,a5,a1,r',q⟩:=h
    have q':v=.bl true:=q
    subst q'
    obtain rfl:u=Value.bool true:=r'
    have key:∀ b o,G.heap.get? b=some o->asItWas G.heap s'.heap b o/\∃ o',s'.heap.get? b=some o':=λ b o e=>by
     cases q:H b with
     | none =>
      have z:=a5.keep b o e q (by intro z;exact absurd (show b∈([]:List Addr)from z) (by simp)) (by simp)
      exact⟨.inl z,o,z⟩
     | some u =>
      rcases hO b u q with⟨_,ob,xs,z⟩|⟨z,z2⟩
      ·subst z
       have z2:=a5.frzs b ob _ q
       obtain⟨e1,_⟩:=hok b _ q
       obtain⟨e2,_⟩:=a1 b _ z2
       rw[e]at e1;cases e1
       exact⟨.inl e2,_,e2⟩
      ·subst z2
       obtain⟨a2,z3⟩:=a5.tbls b _ q
       have g:s'.heap.get? b=some { cls:=.none,data:=.fields (#[]++a2) }:=a1 b _ z3
       have e1:=J b z
       rw[e]at e1;cases e1
       obtain⟨p,hp,ep⟩:=aS.mp z
       refine⟨.inr (.inl ⟨?_,rfl,#[],a2,rfl,g⟩),_,g⟩
       have t:=((hT p hp).1.tab (hT p hp).2).isCodeTable
       rw[ep]at t
       exact t
    exact⟨rfl,⟨λ b o e=>(key b o e).1,λ b o e=>(key b o e).2⟩,os,bare⟩
 have tbl:∀ b,b∈tabs.map (·.2)->b≠a:=λ b h z=>by
  have e:=J b h
  rw[z,ha]at e;cases e
 cases hk:K.lookup a with
 | some o =>
  have e:=KX a o hk
  rw[ha]at e
  cases e
  refine a0 (λ b=>if b∈tabs.map (·.2)then some (.tbl #[])else none) (λ b u z=>?_) (λ q hq=>if_pos (bv hq)) (.inr ⟨_,vs.toArray,_,hk,rfl,rfl,rfl,by rw[ar,c1];exact hl,by simpa using rv⟩) (λ b u z=>?_) λ z=>?_
  ·by_cases hb:b∈tabs.map (·.2)
   ·have Y:=(if_pos hb).symm.trans z
    cases Y
    exact .inr ⟨hb,rfl⟩
   ·have Y:=(if_neg hb).symm.trans z
    cases Y
  ·by_cases hb:b∈tabs.map (·.2)
   ·have Y:=(if_pos hb).symm.trans z
    cases Y
    exact J b hb
   ·have Y:=(if_neg hb).symm.trans z
    cases Y
  ·exact absurd (if_neg λ y=>tbl a y rfl) z
 | none =>
  refine a0 (λ b=>if b=a then some (.frz { cls:=.type "list",data:=.seq vs.toArray } (.lst (ns.map V.int)))else if b∈tabs.map (·.2)then some (.tbl #[])else none) (λ b u z=>?_) (λ q hq=>?_) (.inl (.inr ⟨{ cls:=.type "list",data:=.seq vs.toArray },if_pos rfl⟩)) (λ b u z=>?_) λ _=>hk
  ·by_cases hb:b=a
   ·have Y:=(if_pos hb).symm.trans z
    cases Y
    exact .inl ⟨hb,_,_,rfl⟩
   ·have Y:=(if_neg hb).symm.trans z
    by_cases hc:b∈tabs.map (·.2)
    ·rw[if_pos hc]at Y;cases Y;exact .inr ⟨hc,rfl⟩
    ·rw[if_neg hc]at Y;cases Y
  ·have hm:q.2∈tabs.map (·.2):=bv hq
   show(if _ then _ else if _ then _ else _)=_
   rw[if_neg (tbl _ hm),if_pos hm]
  ·by_cases hb:b=a
   ·have Y:=(if_pos hb).symm.trans z
    cases Y
    subst hb
    exact⟨ha,by rw[aw];exact hl,vs,_,rv,ha⟩
   ·have Y:=(if_neg hb).symm.trans z
    by_cases hc:b∈tabs.map (·.2)
    ·rw[if_pos hc]at Y;cases Y;exact J b hc
    ·rw[if_neg hc]at Y;cases Y
theorem aK6 {ts:List Addr}{l:c9}{n k:Nat}{q:aD}{loose:List Str}{XP:(Str->Option Value)->Heap->Prop}{YP:World->Heap->Prop}{d:DefRec}{K:Params->ae}{sp:ae->Sp}{x:Str}(names:List Str)
  (hn:l.most=some n) (a3:n<=aH) (a2:d.params.defaults=[]) (hr:Room k ie)
  (hY:∀(w:World) (h:Heap),YP w h->(K w.params).In h/\∀ P∈ts,h.get? P=some (fu #[])) (a1:∀ w:World,bE6 (K w.params) names ts=true) (a5:∀ w:World,jW (K w.params)=true)
  (F:∀(w:World) (mg:Str->Option Value) (fa:Addr) (h:Heap),(K w.params).In h->h.Ns bC mg->mg d.name=some (.ref fa) ->
   ∃ fd:bF,(∀(s:af) (u:Value),jH s fd ⟨[u],[]⟩ [(x,u)]) /\
    ∀ base:Heap,(K w.params).In base->base.Ns bC mg->BM mg base->br9 (K w.params) names base->FnOk l.prog w (K w.params) mg base CX0 k fa fd [x] (sp (K w.params)))
  (b0:∀(K:ae) (H:Hp) (a:Addr) (ns:List Int),ns.length<=n->bt0 K names H->SqL K H a (ns.map V.int)->(∀ u,H a=some u->(∃ o xs,u=.frz o (.lst xs))\/∃ ps,u=.tbl ps)->sp K [.ref a] H (λ v _=>v=.bl true) E0) :
  jY q loose XP YP l.row.toRowW d [] (λ f vs=>jK f vs):=by
 refine Att.attach_call hn a2 λ w s₀ s₁ mg mb fa o pm cd b1 a vs ns G Y ho hd b2 a6 a0 Z J hg=>?_
 obtain⟨KX,a4⟩:=hY w _ Y
 obtain⟨fd,hb,hF⟩:=F w mg fa _ KX G.T.g a6
 have hT:jV ((ar7 (K w.params) names).map (·.2)) s₁.heap:=λ p hp=>by
  obtain⟨y,hy,rfl⟩:=aS.mp hp
  obtain⟨h1,h2⟩:=an2.mp hy
  have z:=aU.mp (a1 w) y.1 h1
  rw[h2]at z
  have z':(jt (K w.params) y.2.1 y.2.2&&ts.contains y.2.2)=true:=z
  rw[aj]at z'
  exact⟨PySem.W.codeHd_of_K KX z'.1,a4 _ (by simpa using z'.2)⟩
 have hm:∀ x∈names,∀ c P,a7 (K w.params) x=some (c,P)->(c,P)∈(ar7 (K w.params) names).map (·.2):=λ x hx c P e=>aS.mpr ⟨(x,c,P),an2.mpr ⟨hx,e⟩,rfl⟩
 refine aJ2 (tabs:=(ar7 (K w.params) names).map (·.2)) KX G.T.g G.T.b G.T.builtins G.T.nolimit hg ?_ hT (a5 w) a0 Z (av J a3) hr (λ base k1 k2 k3 k4=>hF base k1 k2 k3 λ x hx c P e=>k4 _ (hm x hx c P e)) hb λ H hO hS hF=>b0 (K w.params) H a ns J (λ x hx c P e=>hO _ (hm x hx c P e)) hS hF
 obtain⟨bm,ob,h1,h2,h3,h4,h5,h6⟩:=G.T.bmain
 exact⟨bm,ob,h1,h2,h3,h4,h5,h6⟩
def spB (names:List Str)(K:ae):Sp:=λ vs H Q _=>∃(a:Addr) (ns:List Int),vs=[.ref a]/\SqF K H a (ns.map V.int)/\ns.length<=63/\bt0 K names H/\∀ H',Q (.bl true) H'
theorem bA0 {names:List Str}{K:ae}{H:Hp}{a:Addr}{ns:List Int}(hl:ns.length<=63)(G:bt0 K names H)(F:SqL K H a (ns.map V.int))(Y:∀ u,H a=some u->(∃ o J,u=.frz o (.lst J))\/∃ ps,u=.tbl ps):spB names K [.ref a] H (λ v _=>v=.bl true) E0:=by
 refine⟨a,ns,rfl,⟨F,λ H' k=>?_⟩,hl,G,λ _=>rfl⟩
 rcases F with(h|⟨o,h⟩)|h
 ·rcases Y _ h with⟨_,_,z⟩|⟨_,z⟩<;>cases z
 ·exact .inl (.inr ⟨o,k _ _ h rfl⟩)
 ·exact .inr h
def bU5 (P:kU):String->LamI->Prop:=λ id J=>∃ L,P.lm id=some L/\LamGood J L
noncomputable def sfx (x:Str):Str:=if x = "letter_table" then "least_fee" else "<lambda>"
noncomputable def bl2 (names:List Str)(K:ae):List (Addr×Str):=names.map λ x=>(((a7 K x).getD (0,0)).2,x ++ ".<locals>."++sfx x)
noncomputable def bp4 (names:List Str)(K:ae):List (Addr×Addr):=names.map λ x=>(a7 K x).getD (0,0)
noncomputable def bL5 (K:ae)(f:String):Option Addr:=match gC K bC (f:Str)with
 | some (some (.ref a))=>(match K.lookup a with
  | some ⟨_,_,.func _,_⟩=>some a
  | _=>none)
 | _=>none
theorem aF3 {K:ae}{f:String}{a:Addr}(h:bL5 K f=some a):gC K bC (f:Str)=some (some (.ref a))/\∃ oc od F sl,K.lookup a=some ⟨oc,od,.func F,sl⟩:=by
 unfold bL5 at h
 split at h
 ·rename_i G e
  split at h
  ·rename_i oc od F sl e2
   cases h
   exact⟨e,_,_,_,_,e2⟩
  ·cases h
 ·cases h
noncomputable abbrev aV4 (names:List Str)(P:kU)(K:ae):Gm:=⟨K,bL5 K,bU5 P,bl2 names K⟩
theorem bK9 {names:List Str}{P:kU}{K:ae}{h:Heap}{mg:Str->Option Value}(X:K.In h)(G:h.Ns bC mg):∀(f:String) (a:Addr),(aV4 names P K).fa f=some a->mg (f:Str)=some (.ref a)/\∃ oc od F sl,(aV4 names P K).K.lookup a=some ⟨oc,od,.func F,sl⟩:=λ f a e=>⟨eK X G (aF3 e).1,(aF3 e).2⟩
theorem ba5 {names:List Str}{P:kU}{K:ae}(F:∀ x∈names,(a7 K x).isSome=true){vs:List V}{H:Hp}{Q:VK}{E:XK}(q:spB names K vs H Q E):spT (aV4 names P K) vs H Q E:=by
 obtain⟨a,ns,e,G,hl,h,J⟩:=q
 refine⟨a,ns,e,G,hl,TabsH.init λ p hp=>?_,J⟩
 simp only[bl2,jg]at hp
 obtain⟨x,hx,rfl⟩:=aS.mp hp
 exact h x hx _ _ (ap4 (F x hx))
theorem bi3 {names:List Str}{K:ae}{mg:Str->Option Value}{base:Heap}(h:∀ x∈names,(a7 K x).isSome=true)(bm:BM mg base)(hc:br9 K names base):∀ y∈bp4 names K,bG base y.1 y.2/\BM mg base:=λ y hy=>by
 obtain⟨x,hx,rfl⟩:=aS.mp hy
 exact⟨hc x hx _ _ (ap4 (h x hx)),bm⟩
theorem aj9 {p:bD}{ps:List Str}(h:qv p=some ps):∃ args,p=⟨[],args,none,[],[],none,[]⟩/\args.map (·.arg)=ps:=by
 unfold qv at h
 split at h
 ·exact⟨_,rfl,au h⟩
 ·cases h
def aL0 (ps:List Str):Prop:=∀ params,qv params=some ps->∀(qual:Str) (body:Expr) (scope:Scope) (clos:List (Str×Addr)) (doc pm:Value) (c':Addr) (ctv:Value) (us:List Value),us.length=ps.length->dw (bn "<lambda>" qual params body scope clos pm (.ref c') ctv) ⟨us,[]⟩=pure (ps.zip us) /\
 ∀(nm:Str) (rp:Pos),dw (fI nm qual params [.Return (some body) rp] scope clos .none .none doc pm none (.ref c') ctv) ⟨us,[]⟩=pure (ps.zip us)
noncomputable def aR2 (ps fr:List Str)(sc:Scope):Bool:=decide (sc.kind=.function)&&!sc.isCoroutine&&!sc.isGenerator&&decide ((ps++fr).Nodup)&&(ps.all λ x=>decide (sc.names.lookup x=some .local)||decide (sc.names.lookup x=some .cell))&&(fr.all λ x=>decide (sc.names.lookup x=some .free))&&(sc.names.all λ y=>!decide (y.2=.cell)||decide (sc.names.lookup y.1=some .cell))
theorem aT0 {ps fr:List Str}{sc:Scope}(h:aR2 ps fr sc=true):LamScope (ps++fr) ps fr sc:=by
 unfold aR2 at h
 simp only[aj,decide_eq_true_eq,fM,aU,bW]at h
 obtain⟨⟨⟨⟨⟨⟨J,G⟩,F⟩,h4⟩,Z⟩,Y⟩,h7⟩:=h
 exact⟨J,G,F,h4,rfl,Z,Y,λ y hy e=>by
  rcases h7 y hy with z|z
  ·rw[e]at z;simp at z
  ·exact z⟩
noncomputable def bA5 (scope sc:Scope):Bool:=scope.names.all λ y=>!decide (scope.names.lookup y.1=some .free)||decide (sc.names.lookup y.1=some .cell)
theorem bb2 {scope sc:Scope}(h:bA5 scope sc=true):∀ x,scope.names.lookup x=some .free->sc.names.lookup x=some .cell:=λ x hx=>by
 have:=aU.mp h (x,.free) (aF hx)
 simp only[bW,fM,decide_eq_false_iff_not,decide_eq_true_eq]at this
 rcases this with z|z
 ·exact absurd hx z
 ·exact z
noncomputable def lkB (sc:Scope)(N:List Str)(caps:List Nat)(params:bD)(body:Expr)(scope:Scope)(t:lN×List Str×List Str):Bool :=
 decide (qv params=some t.2.1)&&decide (caps.map (λ j=>N[j]?)=t.2.2.map some)&&lamCheck scope sc&&bA5 scope sc&&aR2 t.2.1 t.2.2 scope&&decide (t.2.1.length=t.1.ps)&&decide (t.2.2.length=t.1.cs)&&mE (ck0 (t.2.1++t.2.2) scope) t.1.body body
noncomputable def lkG (f:Str)(sc:Scope)(N:List Str)(tab:List (String×lN×List Str×List Str))(id:String)(caps:List Nat)(E:Expr):Bool:=match tab.lookup id,E with
 | some t,.Lambda params body scope _=>decide (sfx f = "<lambda>")&&lkB sc N caps params body scope t
 | some t,.NamedExpr (.Name nm _) (.Lambda params body scope p1) p2=>decide (sfx f=nm)&&decide (p1=p2)&&lkB sc N caps params body scope t
 | _,_=>false
theorem bn5 {names:List Str}{P:kU}{K:ae}{f:Str}{sc:Scope}{N:List Str}{fd:bF}{tab:List (String×lN×List Str×List Str)}(hf:f∈names)(J:fd.code=.ref ((a7 K f).getD (0,0)).1)(Z:∀ y∈sc.names,y.2=.cell->sc.names.lookup y.1=some .cell)
  (Y:∀ id t,tab.lookup id=some t->P.lm id=some t.1/\aL0 t.2.1):bj6 (aV4 names P K) (bp4 names K) f sc N fd (lkG f sc N tab):=by
 intro id F E h
 have G:∀(t:lN×List Str×List Str) (params:bD) (body:Expr) (scope:Scope) (nm:Option (Str×Pos)),tab.lookup id=some t->lkB sc N F params body scope t=true->(match nm with|none => "<lambda>" | some p=>p.1)=sfx f ->
   LkAt (aV4 names P K) (bp4 names K) f sc N fd id F params body scope ((a7 K f).getD (0,0)).1 ((a7 K f).getD (0,0)).2 ⟨f ++ ".<locals>."++sfx f,params,body,scope,t.2.1,t.2.2,nm⟩:=λ t params body scope nm e h hs=>by
  obtain⟨L,ps,fr⟩:=t
  unfold lkB at h
  simp only[aj,decide_eq_true_eq]at h
  obtain⟨⟨⟨⟨⟨⟨⟨h1,h2⟩,h3⟩,h4⟩,h5⟩,h6⟩,h7⟩,h8⟩:=h
  obtain⟨hL,hB⟩:=Y id _ e
  obtain⟨args,rfl,a1⟩:=aj9 h1
  have a0:fr.length=F.length:=by have:=congrArg kr h2;simpa using this.symm
  have S:=aT0 h5
  refine⟨J,aS.mpr ⟨f,hf,rfl⟩,h3,bb2 h4,Z,λ env=>rfl,⟨L,hL,⟨S,h6,h7,h8,h1,λ a3 a4 pm c' a5 us a2=>hB _ h1 _ _ _ _ _ _ _ _ _ a2⟩⟩,?_,rfl,rfl,rfl,a0,λ i j x e1 e2=>?_,S.frs,aS.mpr ⟨f,hf,rfl⟩⟩
  ·show f ++ ".<locals>."++sfx f=f ++ ".<locals>."++LamI.own _
   unfold LamI.own
   rw[<-hs]<;>rfl
  ·have e3:(F.map (λ j=>N[j]?))[i]?=some (N[j]?):=by rw[aB,e1];rfl
   rw[h2,aB,e2]at e3
   exact(au e3).symm
 unfold lkG at h
 split at h
 case h_3=>cases h
 ·rename_i t params body scope pos e
  rw[aj]at h
  exact⟨_,_,params,body,scope,pos,_,rfl,G t params body scope none e h.2 (of_decide_eq_true h.1).symm⟩
 ·rename_i t nm rp params body scope p1 p2 e
  rw[aj,aj]at h
  have ep:=of_decide_eq_true h.1.2
  subst ep
  exact⟨_,_,params,body,scope,p1,_,rfl,G t params body scope (some (nm,rp)) e h.2 (of_decide_eq_true h.1.1).symm⟩
theorem aS1 {names:List Str}{P:kU}{K:ae}{f:Str}{sc:Scope}{N:List Str}{F:bF}:bj6 (aV4 names P K) (bp4 names K) f sc N F (λ _ _ _=>false):=λ _ _ _ h=>by cases h
theorem bM3 {names:List Str}{P:kU}{K:ae}:∀ id J,(aV4 names P K).lg id J->∃ L,P.lm id=some L/\LamGood J L:=λ _ _ h=>h
theorem bQ5 {P:kU}{tab:List (String×lN×List Str×List Str)}(h:∀ p∈tab,P.lm p.1=some p.2.1/\aL0 p.2.2.1):∀ id t,tab.lookup id=some t->P.lm id=some t.1/\aL0 t.2.1:=by
 induction tab with
 | nil=>intro id t e;cases e
 | cons y l ih =>
  intro id t e
  rw[aZ]at e
  cases q:id==y.1 with
  | true =>
   rw[q]at e
   cases e
   rw[eq_of_beq q]
   exact h y (aq ..)
  | false =>
   rw[q]at e
   exact ih (λ p hp=>h p (ak _ hp)) id t e
def bN1 (K:ae)(n:Str)(st:Stmt):Prop:=∃(f:Addr) (od an:Option Addr) (sl:Array (Option Value)) (oc kV dc pm cd ct:Value),gC K bC n=some (some (.ref f)) /\
 K.lookup f=some ⟨oc,od,.func (c5 n n (defArgs st) (zq st) (defScope st) .none kV dc pm an cd ct),sl⟩/\fq K cd n=true/\ci K (.ref f)=true
def bR3 (n:Str)(st:Stmt)(ps:List Str):Prop:=∀(kV doc pm:Value) (an:Option Addr) (cdv ct:Value) (us:List Value),us.length=ps.length->dw (c5 n n (defArgs st) (zq st) (defScope st) .none kV doc pm an cdv ct) ⟨us,[]⟩=pure (ps.zip us)
theorem bd0 {Q:List Value->Prop}(h:Q [])(us:List Value)(hl:us.length=0):Q us:=by
 cases us with
 | nil=>exact h
 | cons _ _=>cases hl
theorem bdS {k:Nat}{Q:List Value->Prop}(h:∀ a us,us.length=k->Q (a::us))(us:List Value)(hl:us.length=k+1):Q us:=by
 cases us with
 | nil=>cases hl
 | cons a us=>exact h a us (Nat.succ.inj hl)
theorem bd1 {Q:List Value->Prop}(h:∀ a,Q [a]):∀ us:List Value,us.length=1->Q us:=bdS λ a=>bd0 (h a)
theorem bd2 {Q:List Value->Prop}(h:∀ a b,Q [a,b]):∀ us:List Value,us.length=2->Q us:=bdS λ a=>bd1 (h a)
theorem bd3 {Q:List Value->Prop}(h:∀ a b c,Q [a,b,c]):∀ us:List Value,us.length=3->Q us:=bdS λ a=>bd2 (h a)
def DTB (names:List Str)(P:kU)(n:String)(pc vc:Nat)(m:Ck->List Stmt->Bool)(st:Stmt):Prop:=∃ N ps,FnScope N ps (defScope st)/\ps.length=pc/\N.length=pc+vc/\bR3 n st ps/\(m ⟨N,defScope st,λ _ _ _=>false⟩ (zq st)=true \/
 ((n:Str)∈names/\∃ tab,m ⟨N,defScope st,lkG n (defScope st) N tab⟩ (zq st)=true/\(∀ y∈(defScope st).names,y.2=.cell->(defScope st).names.lookup y.1=some .cell)/\∀ p∈tab,P.lm p.1=some p.2.1/\aL0 p.2.2.1))
def DT (names:List Str)(P:kU)(n:String)(d:lO)(st:Stmt):Prop:=DTB names P n d.ps d.vs (λ ck S=>mSs ck d.body S) st
theorem aY9 {names:List Str}{P:kU}{K:ae}{h:Heap}{mg:Str->Option Value}{n:String}{pc vc:Nat}{m:Ck->List Stmt->Bool}{st:Stmt}(X:K.In h)(G:h.Ns bC mg)(hT:∀ x∈names,(a7 K x).isSome=true)(hD:bN1 K n st)(hd:DTB names P n pc vc m st):GoodB (aV4 names P K) (bp4 names K) mg n pc vc m:=by
 obtain⟨f,od,an,sl,oc,kV,dc,pm,cd,ct,a,l,c,k⟩:=hD
 obtain⟨N,ps,Z,h2,Y,h4,J⟩:=hd
 have F:=be4 (st:=st) l c k
 have D:DefAt K mg n st ps f _:=⟨F,eK X G a,F.binds h4⟩
 rcases J with J|⟨hn,tab,J,h6,h7⟩
 ·exact⟨_,_,_,_,_,_,D,Z,h2,Y,J,aS1⟩
 ·exact⟨_,_,_,_,_,_,D,Z,h2,Y,J,bn5 hn (PySem.W.law_code X G (ap4 (hT _ hn)) (eK X G a) (X _ _ l) rfl) h6 (bQ5 h7)⟩
theorem good_of {names:List Str}{P:kU}{K:ae}{h:Heap}{mg:Str->Option Value}{n:String}{d:lO}{st:Stmt}(X:K.In h)(G:h.Ns bC mg)(hT:∀ x∈names,(a7 K x).isSome=true)(hD:bN1 K n st)(hd:DT names P n d st):Good (aV4 names P K) (bp4 names K) mg n d:=aY9 X G hT hD hd
end L2
end
noncomputable section
namespace DV
noncomputable def au5:Df:=⟨"_law_bag",2,3,(.cons (.asg (.one 2) (.cst (.int 0))) (.cons (.ite (.cmp .lt (.var 1) (.bi .len (.cons (.var 0) .nil))) (.cons (.asg (.one 2) (.bi .abs (.cons (.ix (.var 0) (.var 1)) .nil))) .nil) .nil) (.cons (.asg (.one 3) (.bin .add (.bin .mul (.cst (.int 7919)) (.var 1)) (.cst (.int 17)))) (.cons (.for_ (.one 4) (.rng1 (.bi .min2 (.cons (.bi .len (.cons (.var 0) .nil)) (.cons (.cst (.int 60)) .nil)))) (.cons (.asg (.one 3) (.bin .mod (.bin .add (.bin .add (.bin .mul (.var 3) (.cst (.int 48271))) (.bin .mod (.ix (.var 0) (.var 4)) (.cst (.int 2147483647)))) (.var 4)) (.cst (.int 2147483629)))) .nil)) (.cons (.ite (.cmp .lt (.var 2) (.bin .pow (.cst (.int 10)) (.cst (.int 18)))) (.cons (.asg (.one 2) (.cst (.int 0))) .nil) .nil) (.cons (.ret (.lst (.cons (.var 2) (.cons (.var 3) .nil)))) .nil))))))⟩
noncomputable def ab4:Df:=⟨"_law_take",2,3,(.cons (.ite (.cmp .gt (.ix (.var 0) (.cst (.int 0))) (.cst (.int 0))) (.cons (.asg (.one 2) (.bin .mod (.ix (.var 0) (.cst (.int 0))) (.var 1))) (.cons (.setIx (.var 0) (.cst (.int 0)) (.bin .fdiv (.ix (.var 0) (.cst (.int 0))) (.var 1))) (.cons (.ret (.var 2)) .nil))) .nil) (.cons (.asg (.one 3) (.cst (.int 0))) (.cons (.asg (.one 4) (.cst (.int 1))) (.cons (.whl (.cmp .lt (.var 4) (.var 1)) (.cons (.setIx (.var 0) (.cst (.int 1)) (.bin .mod (.bin .add (.bin .mul (.ix (.var 0) (.cst (.int 1))) (.cst (.int 48271))) (.cst (.int 7919))) (.cst (.int 2147483647)))) (.cons (.asg (.one 3) (.bin .add (.bin .mul (.var 3) (.cst (.int 1073741789))) (.bin .mod (.bin .mul (.bin .fdiv (.ix (.var 0) (.cst (.int 1))) (.cst (.int 8))) (.cst (.int 69621))) (.cst (.int 1073741789))))) (.cons (.asg (.one 4) (.bin .mul (.var 4) (.cst (.int 1073741789)))) .nil)))) (.cons (.ret (.bin .mod (.var 3) (.var 1))) .nil)))))⟩
noncomputable def ac2:Df:=⟨"_law_rooms",2,1,(.cons (.asg (.one 2) (.call "_law_take" (.ex (.var 0) (.ex (.bin .shl (.cst (.int 1)) (.var 1)) .nil)))) (.cons (.ret (.mk .tuple (.compIf (.one 0) (.rng1 (.var 1)) (.cmp .eq (.bin .mod (.bin .fdiv (.var 1) (.bin .shl (.cst (.int 1)) (.var 0))) (.cst (.int 2))) (.cst (.int 1))) (.var 0) [none,some 2]))) .nil))⟩
noncomputable def ab7:Df:=⟨"_law_machine",1,5,(.cons (.asg (.one 1) (.bin .add (.cst (.int 1)) (.call "_law_take" (.ex (.var 0) (.ex (.cst (.int 3)) .nil))))) (.cons (.asg (.one 2) (.bin .add (.cst (.int 1)) (.call "_law_take" (.ex (.var 0) (.ex (.cst (.int 5)) .nil))))) (.cons (.asg (.one 3) (.call "_law_take" (.ex (.var 0) (.ex (.cst (.int 13)) .nil)))) (.cons (.ite (.cmp .eq (.call "_law_take" (.ex (.var 0) (.ex (.cst (.int 8)) .nil))) (.cst (.int 7))) (.cons (.asg (.one 3) (.call "_law_take" (.ex (.var 0) (.ex (.cst (.int 76)) .nil)))) .nil) .nil) (.cons (.asg (.one 4) (.lst .nil)) (.cons (.for_ (.one 5) (.rng1 (.var 3)) (.cons (.ex (.meth .append (.var 4) (.cons (.tup (.cons (.call "_law_take" (.ex (.var 0) (.ex (.var 2) .nil))) (.cons (.ix (.cst (.str [97,98,99])) (.call "_law_take" (.ex (.var 0) (.ex (.var 1) .nil)))) (.cons (.call "_law_take" (.ex (.var 0) (.ex (.var 2) .nil))) (.cons (.call "_law_take" (.ex (.var 0) (.ex (.cst (.int 4)) .nil))) .nil))))) .nil))) .nil)) (.cons (.ret (.tup (.cons (.var 1) (.cons (.var 2) (.cons (.call "_law_rooms" (.ex (.var 0) (.ex (.var 2) .nil))) (.cons (.call "_law_rooms" (.ex (.var 0) (.ex (.var 2) .nil))) (.cons (.mk .tuple (.seq (.var 4))) .nil))))))) .nil)))))))⟩
noncomputable def aj4:Df:=⟨"_law_word",3,2,(.cons (.asg (.one 3) (.cst (.str []))) (.cons (.for_ (.one 4) (.rng1 (.call "_law_take" (.ex (.var 0) (.ex (.bin .add (.var 2) (.cst (.int 1))) .nil)))) (.cons (.asg (.one 3) (.bin .add (.var 3) (.ix (.cst (.str [97,98,99])) (.call "_law_take" (.ex (.var 0) (.ex (.var 1) .nil)))))) .nil)) (.cons (.ret (.var 3)) .nil)))⟩
noncomputable def am2:Df:=⟨"rooms_of",1,0,(.cons (.ret (.ix (.var 0) (.cst (.int 1)))) .nil)⟩
noncomputable def aa7:Df:=⟨"begins_of",1,0,(.cons (.ret (.ix (.var 0) (.cst (.int 2)))) .nil)⟩
noncomputable def ab2:Df:=⟨"ends_of",1,0,(.cons (.ret (.ix (.var 0) (.cst (.int 3)))) .nil)⟩
noncomputable def aa5:Df:=⟨"doors_of",1,0,(.cons (.ret (.ix (.var 0) (.cst (.int 4)))) .nil)⟩
noncomputable def ai3:Df:=⟨"road",2,4,(.cons (.asg (.one 2) (.dic .nil .nil)) (.cons (.for_ (.one 3) (.seq (.call "begins_of" (.ex (.var 0) .nil))) (.cons (.setIx (.var 2) (.var 3) (.tup (.cons (.cst (.int 0)) (.cons (.lst .nil) .nil)))) .nil)) (.cons (.for_ (.one 4) (.seq (.var 1)) (.cons (.asg (.one 2) (.call "best_led_on" (.ex (.var 0) (.ex (.var 2) (.ex (.var 4) .nil))))) .nil)) (.cons (.asg (.one 5) (.mk .list (.compIf (.one 0) (.seq (.call "ends_of" (.ex (.var 0) .nil))) (.cmp .isin (.var 0) (.var 1)) (.ix (.var 1) (.var 0)) [none,some 2]))) (.cons (.ite (.cmp .eq (.var 5) (.lst .nil)) (.cons (.ret (.cst .non)) .nil) .nil) (.cons (.ret (.ix (.minK "road.0" (.var 5) 0) (.cst (.int 1)))) .nil))))))⟩
noncomputable def ai0:Lm:=⟨"road.0",1,0,(.ix (.var 0) (.cst (.int 0)))⟩
noncomputable def aa4:Df:=⟨"best_led_on",3,6,(.cons (.asg (.one 3) (.dic .nil .nil)) (.cons (.for_ (.tup [4,5]) (.enum (.seq (.call "doors_of" (.ex (.var 0) .nil)))) (.cons (.asg (.one 6) (.ix (.var 5) (.cst (.int 0)))) (.cons (.asg (.one 7) (.ix (.var 5) (.cst (.int 2)))) (.cons (.ite (.or (.cmp .ne (.ix (.var 5) (.cst (.int 1))) (.var 2)) (.cmp .notin (.var 6) (.var 1))) (.cons .cont .nil) .nil) (.cons (.asg (.one 8) (.bin .add (.ix (.ix (.var 1) (.var 6)) (.cst (.int 0))) (.ix (.var 5) (.cst (.int 3))))) (.cons (.ite (.or (.cmp .notin (.var 7) (.var 3)) (.cmp .lt (.var 8) (.ix (.ix (.var 3) (.var 7)) (.cst (.int 0))))) (.cons (.setIx (.var 3) (.var 7) (.tup (.cons (.var 8) (.cons (.bin .add (.ix (.ix (.var 1) (.var 6)) (.cst (.int 1))) (.lst (.cons (.var 4) .nil))) .nil)))) .nil) .nil) .nil)))))) (.cons (.ret (.var 3)) .nil)))⟩
noncomputable def ac3:Df:=⟨"_law_least",2,8,(.cons (.asg (.one 2) (.mk .list (.comp (.one 0) (.rng1 (.ix (.var 0) (.cst (.int 1)))) (.ite (.cmp .isin (.var 0) (.ix (.var 1) (.cst (.int 3)))) (.cst (.int 0)) (.cst .non)) [none,some 0]))) (.cons (.for_ (.one 3) (.seq (.rev (.var 1))) (.cons (.asg (.one 4) (.mk .list (.comp (.one 0) (.seq (.var 2)) (.cst .non) [none]))) (.cons (.for_ (.tup [5,6,7,8]) (.seq (.ix (.var 0) (.cst (.int 4)))) (.cons (.ite (.and (.cmp .eq (.var 6) (.var 3)) (.notN (.ix (.var 2) (.var 7)))) (.cons (.ite (.or (.isN (.ix (.var 4) (.var 5))) (.cmp .lt (.bin .add (.ix (.var 2) (.var 7)) (.var 8)) (.ix (.var 4) (.var 5)))) (.cons (.setIx (.var 4) (.var 5) (.bin .add (.ix (.var 2) (.var 7)) (.var 8))) .nil) .nil) .nil) .nil) .nil)) (.cons (.asg (.one 2) (.var 4)) .nil)))) (.cons (.asg (.one 9) (.mk .list (.compIf (.one 0) (.seq (.ix (.var 0) (.cst (.int 2)))) (.notN (.ix (.var 1) (.var 0))) (.ix (.var 1) (.var 0)) [none,some 2]))) (.cons (.ret (.mkDs .min (.var 9) (.cst .non))) .nil))))⟩
noncomputable def af9:Df:=⟨"_law_cost",3,4,(.cons (.ite (.or (.not (.bi .isList (.cons (.var 2) .nil))) (.cmp .ne (.bi .len (.cons (.var 2) .nil)) (.bi .len (.cons (.var 1) .nil)))) (.cons (.ret (.cst .non)) .nil) .nil) (.cons (.asg (.one 3) (.mk .list (.comp (.one 0) (.seq (.ix (.var 0) (.cst (.int 2)))) (.var 0) [none]))) (.cons (.asg (.one 4) (.cst (.int 0))) (.cons (.for_ (.one 5) (.rng1 (.bi .len (.cons (.var 1) .nil))) (.cons (.ite (.or (.not (.bi .isInt (.cons (.ix (.var 2) (.var 5)) .nil))) (.or (.bi .isBool (.cons (.ix (.var 2) (.var 5)) .nil)) (.not (.chain .le .lt (.cst (.int 0)) (.ix (.var 2) (.var 5)) (.bi .len (.cons (.ix (.var 0) (.cst (.int 4))) .nil)))))) (.cons (.ret (.cst .non)) .nil) .nil) (.cons (.asg (.one 6) (.ix (.ix (.var 0) (.cst (.int 4))) (.ix (.var 2) (.var 5)))) (.cons (.ite (.or (.cmp .notin (.ix (.var 6) (.cst (.int 0))) (.var 3)) (.cmp .ne (.ix (.var 6) (.cst (.int 1))) (.ix (.var 1) (.var 5)))) (.cons (.ret (.cst .non)) .nil) .nil) (.cons (.asg (.one 3) (.lst (.cons (.ix (.var 6) (.cst (.int 2))) .nil))) (.cons (.asg (.one 4) (.bin .add (.var 4) (.ix (.var 6) (.cst (.int 3))))) .nil)))))) (.cons (.ite (.cmp .eq (.bi .len (.cons (.mk .list (.compIf (.one 0) (.seq (.var 3)) (.cmp .isin (.var 0) (.ix (.var 1) (.cst (.int 3)))) (.var 0) [none,some 0])) .nil)) (.cst (.int 0))) (.cons (.ret (.cst .non)) .nil) .nil) (.cons (.ret (.var 4)) .nil))))))⟩
noncomputable def aa9:Df:=⟨"law",1,7,(.cons (.for_ (.one 1) (.rng1 (.bin .add (.bi .min2 (.cons (.bi .len (.cons (.var 0) .nil)) (.cons (.cst (.int 4)) .nil))) (.cst (.int 1)))) (.cons (.asg (.one 2) (.call "_law_bag" (.ex (.var 0) (.ex (.var 1) .nil)))) (.cons (.asg (.one 3) (.call "_law_machine" (.ex (.var 2) .nil))) (.cons (.asg (.one 4) (.call "_law_word" (.ex (.var 2) (.ex (.ix (.var 3) (.cst (.int 0))) (.ex (.ix (.lst (.cons (.cst (.int 10)) (.cons (.cst (.int 10)) (.cons (.cst (.int 10)) (.cons (.ix (.lst (.cons (.cst (.int 60)) (.cons (.cst (.int 200)) .nil))) (.bi .int (.cons (.cmp .eq (.var 1) (.cst (.int 0))) .nil))) .nil))))) (.call "_law_take" (.ex (.var 2) (.ex (.cst (.int 4)) .nil)))) .nil))))) (.cons (.asg (.one 5) (.call "_law_least" (.ex (.var 3) (.ex (.var 4) .nil)))) (.cons (.for_ (.one 6) (.rng1 (.cst (.int 2))) (.cons (.asg (.one 7) (.call "road" (.ex (.var 3) (.ex (.var 4) .nil)))) (.cons (.ite (.isN (.var 5)) (.cons (.ite (.notN (.var 7)) (.cons (.ret (.cst (.bl false))) .nil) .nil) (.cons .cont .nil)) .nil) (.cons (.ite (.cmp .ne (.call "_law_cost" (.ex (.var 3) (.ex (.var 4) (.ex (.var 7) .nil)))) (.var 5)) (.cons (.ret (.cst (.bl false))) .nil) .nil) (.cons (.ex (.meth .append (.var 7) (.cons (.cst (.int 0)) .nil))) (.cons (.ex (.meth .reverse (.var 7) .nil)) .nil)))))) .nil)))))) (.cons (.ret (.cst (.bl true))) .nil))⟩
noncomputable def az9:Df:=⟨"grid",2,2,(.cons (.asg (.one 2) (.lst .nil)) (.cons (.for_ (.one 3) (.rng1 (.var 0)) (.cons (.ex (.meth .append (.var 2) (.cons (.mk .tuple (.comp (.one 0) (.rng1 (.var 0)) (.callV 1 (.cons (.var 2) (.cons (.var 0) .nil))) [none,some 1,some 3])) .nil))) .nil)) (.cons (.ret (.mk .tuple (.seq (.var 2)))) .nil)))⟩
noncomputable def aO6:Df:=⟨"least",1,0,(.cons (.ret (.mkD .min (.compIf (.one 0) (.seq (.var 0)) (.notN (.var 0)) (.var 0) [none]) (.cst .non))) .nil)⟩
noncomputable def bk3:Df:=⟨"added",2,0,(.cons (.ite (.or (.isN (.var 0)) (.isN (.var 1))) (.cons (.ret (.cst .non)) .nil) .nil) (.cons (.ret (.bin .add (.var 0) (.var 1))) .nil))⟩
noncomputable def bl8:Df:=⟨"plain",1,0,(.cons (.ret (.callC "grid" (.ex (.var 0) (.lam "plain.0" [] .nil)))) .nil)⟩
noncomputable def aH2:Lm:=⟨"plain.0",2,0,(.ite (.cmp .eq (.var 0) (.var 1)) (.cst (.int 0)) (.cst .non))⟩
noncomputable def aQ8:Df:=⟨"product",2,1,(.cons (.asg (.one 2) (.bi .len (.cons (.var 0) .nil))) (.cons (.ret (.callC "grid" (.ex (.var 2) (.lam "product.0" [2,0,1] .nil)))) .nil))⟩
noncomputable def at4:Lm:=⟨"product.0",2,3,(.call "least" (.ex (.mk .list (.comp (.one 0) (.rng1 (.var 2)) (.call "added" (.ex (.ix (.ix (.var 1) (.var 2)) (.var 0)) (.ex (.ix (.ix (.var 3) (.var 0)) (.var 4)) .nil))) [none,some 3,some 0,some 4,some 1])) .nil))⟩
noncomputable def qC:Df:=⟨"letter_table",2,1,(.cons (.und 2) (.cons (.ret (.callC "grid" (.ex (.call "rooms_of" (.ex (.var 0) .nil)) (.lam "letter_table.least_fee" [0,1] .nil)))) .nil))⟩
noncomputable def z0:Lm:=⟨"letter_table.least_fee",2,2,(.call "least" (.ex (.mk .list (.compIf (.tup [0,1,2,3]) (.seq (.call "doors_of" (.ex (.var 2) .nil))) (.cmp .eq (.tup (.cons (.var 0) (.cons (.var 1) (.cons (.var 2) .nil)))) (.tup (.cons (.var 4) (.cons (.var 5) (.cons (.var 6) .nil))))) (.var 3) [none,none,none,none,some 0,some 3,some 1])) .nil))⟩
noncomputable def at2:Df:=⟨"word_table",2,3,(.cons (.asg (.one 2) (.dic .nil .nil)) (.cons (.asg (.one 3) (.call "plain" (.ex (.call "rooms_of" (.ex (.var 0) .nil)) .nil))) (.cons (.for_ (.one 4) (.seq (.var 1)) (.cons (.ite (.cmp .notin (.var 4) (.var 2)) (.cons (.setIx (.var 2) (.var 4) (.call "letter_table" (.ex (.var 0) (.ex (.var 4) .nil)))) .nil) .nil) (.cons (.asg (.one 3) (.call "product" (.ex (.var 3) (.ex (.ix (.var 2) (.var 4)) .nil)))) .nil))) (.cons (.ret (.var 3)) .nil))))⟩
noncomputable def al4:Df:=⟨"sign_product",2,1,(.cons (.asg (.one 2) (.bi .len (.cons (.var 0) .nil))) (.cons (.ret (.callC "grid" (.ex (.var 2) (.lam "sign_product.0" [2,0,1] .nil)))) .nil))⟩
noncomputable def af5:Lm:=⟨"sign_product.0",2,3,(.mk .min (.comp (.one 0) (.rng1 (.var 2)) (.bi .max2 (.cons (.ix (.ix (.var 1) (.var 2)) (.var 0)) (.cons (.ix (.ix (.var 3) (.var 0)) (.var 4)) .nil))) [none,some 3,some 0,some 4,some 1]))⟩
noncomputable def bU8:Df:=⟨"_law_on",3,5,(.cons (.asg (.one 3) (.mk .list (.comp (.one 0) (.seq (.var 2)) (.cst .non) [none]))) (.cons (.for_ (.tup [4,5,6,7]) (.seq (.ix (.var 0) (.cst (.int 4)))) (.cons (.ite (.and (.cmp .eq (.var 5) (.var 1)) (.notN (.ix (.var 2) (.var 4)))) (.cons (.ite (.or (.isN (.ix (.var 3) (.var 6))) (.cmp .lt (.bin .add (.ix (.var 2) (.var 4)) (.var 7)) (.ix (.var 3) (.var 6)))) (.cons (.setIx (.var 3) (.var 6) (.bin .add (.ix (.var 2) (.var 4)) (.var 7))) .nil) .nil) .nil) .nil) .nil)) (.cons (.ret (.var 3)) .nil)))⟩
class Has (P:Pr)(d:Df):Prop where
 eq:P.df d.name=some d
class HasL (P:Pr)(d:Lm):Prop where
 eq:P.lm d.id=some d
noncomputable def fin (s:Sto)(c:Ct)(s':Sto):R D:=match c with
 | .ret v=>zu s v s'
 | .next _=>zu s .non s'
 | _=>.bad
@[simp] theorem fin_ret (s:Sto) (v:D) (s':Sto):fin s (.ret v) s'=zu s v s':=rfl
@[simp] theorem fin_next (s:Sto) (ρ:Env) (s':Sto):fin s (.next ρ) s'=zu s .non s':=rfl
theorem zx {P:Pr}(d:Df)[h:Has P d]{n:Nat}{l:List D}{s:Sto}(hl:l.length=d.ps) :
  (aa1 P (n+1)).call d.name l s=(exs (aa1 P n) d.body (l.map some++aE d.vs none) s).bind (fin s):=by
 simp only[aa1,h.eq,hl,if_true]
 rfl
theorem qt (s t:Sto):ao5 s (s++t)=true:=by
 unfold ao5
 rw[aU]
 intro i hi
 rw[bL]at hi
 rw[aJ hi]
 simp
theorem aL6 (s t:Sto)(r:Nat)(o:O)(h:o.bnd s.length=true):ao5 s (s.set r o++t)=true:=by
 unfold ao5
 rw[aU]
 intro i hi
 rw[bL]at hi
 rw[aJ (by rw[bA];exact hi)]
 by_cases e:r=i
 ·subst e;rw[aL hi];simp[h]
 ·rw[aP e];simp
theorem ae2 {s t:Sto}{d:D}(h:∀ n,d.bnd n=true)(F:∀ r,d≠.ref r):zu s d (s++t)=.ok d s:=by
 unfold zu
 rw[qt,if_pos rfl]
 cases d with
 | ref r=>exact absurd rfl (F r)
 | _=>simp[h]
theorem zP {s:Sto}{d:D}(h:∀ n,d.bnd n=true)(F:∀ r,d≠.ref r):zu s d s=.ok d s:=by
 have:=ae2 (s:=s) (t:=[]) h F
 rwa [bQ]at this
theorem at6 {s t:Sto}{d:D}{r:Nat}{o:O}(h:∀ n,d.bnd n=true)(F:∀ r,d≠.ref r)(ho:o.bnd s.length=true):zu s d (s.set r o++t)=.ok d (s.set r o):=by
 unfold zu
 rw[aL6 s t r o ho,if_pos rfl]
 have e:(s.set r o++t).take s.length=s.set r o:=by rw[List.take_append_of_le_length (by simp),List.take_of_length_le (by simp)]
 cases d with
 | ref r=>exact absurd rfl (F r)
 | _=>simp only[h,if_true,e]
theorem qA {s:Sto}{d:D}{r:Nat}{o:O}(h:∀ n,d.bnd n=true)(F:∀ r,d≠.ref r)(ho:o.bnd s.length=true):zu s d (s.set r o)=.ok d (s.set r o):=by
 have:=at6 (s:=s) (t:=[]) (r:=r) h F ho
 rwa [bQ]at this
theorem aK2 {s t u:Sto}{o:O}(ho:o.bnd s.length=true):zu s (.ref (s.length+t.length)) (s++(t++o::u))=.ok (.ref s.length) (s++[o]):=by
 unfold zu
 rw[qt,if_pos rfl]
 simp[ho,a8]
@[simp] theorem bx6 {s:Sto} {i:Int}:zu s (.int i) s=.ok (.int i) s:=zP (λ _=>rfl) (by nofun)
@[simp] theorem bJ3 {s:Sto} {i:Bool}:zu s (.bl i) s=.ok (.bl i) s:=zP (λ _=>rfl) (by nofun)
@[simp] theorem bD5 {s:Sto}:zu s .non s=.ok .non s:=zP (λ _=>rfl) (by nofun)
@[simp] theorem bF5 {s:Sto} {x:List Nat}:zu s (.str x) s=.ok (.str x) s:=zP (λ _=>rfl) (by nofun)
theorem qp {c:Env->Sto->R D}{g:Env->Sto->R Ct}:∀ {n:Nat} {ρ:Env} {s:Sto},qG c g n ρ s≠.bad->qG c g (n+1) ρ s=qG c g n ρ s
 | 0,_,_,h=>absurd rfl h
 | n+1,ρ,s,h=>by
  rw[show qG c g (n+1+1) ρ s=tru (c ρ s) (λ b s=>if b then(g ρ s).bind λ F s=>match F with
   | .next ρ=>qG c g (n+1) ρ s|.cont ρ=>qG c g (n+1) ρ s|.brk ρ=>.ok (.next ρ) s|.ret d=>.ok (.ret d) s else .ok (.next ρ) s)from rfl]
  have e:qG c g (n+1) ρ s=tru (c ρ s) (λ b s=>if b then(g ρ s).bind λ F s=>match F with
   | .next ρ=>qG c g n ρ s|.cont ρ=>qG c g n ρ s|.brk ρ=>.ok (.next ρ) s|.ret d=>.ok (.ret d) s else .ok (.next ρ) s):=rfl
  rw[e]at h ⊢
  unfold tru at h ⊢
  cases hc:c ρ s with
  | exc _ _=>rfl
  | bad=>rfl
  | ok d s1 =>
   rw[hc]at h
   cases d with
   | bl b =>
    cases b with
    | false=>rfl
    | true =>
     simp only[R.bind_ok,if_true]at h ⊢
     cases hg:g ρ s1 with
     | exc _ _=>rfl
     | bad=>rfl
     | ok F s2 =>
      rw[hg]at h
      simp only[R.bind_ok]at h ⊢
      cases F with
      | next ρ'=>exact qp h
      | cont ρ'=>exact qp h
      | _=>rfl
   | _=>rfl
theorem zS {c:Env->Sto->R D}{g:Env->Sto->R Ct}{n:Nat}{ρ:Env}{s:Sto}(h:qG c g n ρ s≠.bad):∀ k,qG c g (n+k) ρ s=qG c g n ρ s
 | 0=>rfl
 | k+1=>by
  have e:=zS h k
  rw[<-Nat.add_assoc,qp (by rw[e];exact h),e]
theorem bF2 {c:Env->Sto->R D}{g:Env->Sto->R Ct}{n:Nat}{ρ:Env}{s:Sto}{r:Ct}{t:Sto}(h:qG c g n ρ s=.ok r t):whl c g ρ s=.ok r t:=by
 have hb:qG c g n ρ s≠.bad:=by rw[h];nofun
 have hx:∃ n,qG c g n ρ s≠.bad:=⟨n,hb⟩
 unfold whl
 rw[dif_pos hx]
 have G:=zS hx.choose_spec n
 have F:=zS hb hx.choose
 rw[<-G,gu,F,h]
theorem ba4 {c:Env->Sto->R D}{g:Env->Sto->R Ct}{ρ ρ':Env}{s s1 s':Sto}(hc:c ρ s=.ok (.bl true) s1)(hg:g ρ s1=.ok (.next ρ') s'):whl c g ρ s=whl c g ρ' s':=by
 have key:∀ n,qG c g (n+1) ρ s=qG c g n ρ' s':=λ n=>by
  show tru (c ρ s) _=_
  rw[hc,tru_bl,if_pos rfl,hg];rfl
 unfold whl
 by_cases hx:∃ n,qG c g n ρ' s'≠.bad
 ·have hy:∃ n,qG c g n ρ s≠.bad:=⟨hx.choose+1,by rw[key];exact hx.choose_spec⟩
  rw[dif_pos hx,dif_pos hy]
  have F:=zS hy.choose_spec (hx.choose+1)
  have h:=zS (n:=hx.choose+1) (ρ:=ρ) (s:=s) (by rw[key];exact hx.choose_spec) hy.choose
  rw[<-F,gu,h,key]
 ·have hy:¬ ∃ n,qG c g n ρ s≠.bad:=λ⟨n,hn⟩=>by
   cases n with
   | zero=>exact hn rfl
   | succ n=>exact hx ⟨n,by rw[<-key];exact hn⟩
  rw[dif_neg hx,dif_neg hy]
theorem br7 {c:Env->Sto->R D}{g:Env->Sto->R Ct}{ρ:Env}{s s1:Sto}(hc:c ρ s=.ok (.bl false) s1):whl c g ρ s=.ok (.next ρ) s1 :=
 bF2 (n:=1) (by show tru (c ρ s) _=_;rw[hc,tru_bl];rfl)
theorem aw1 {ok:Sto->Bool}{g:D->Env->Sto->R Ct}(P:Nat->Env->Sto->Prop):∀(l:List D) (k:Nat) (ρ:Env) (s:Sto),
  P k ρ s->(∀(j:Nat) (ρ:Env) (s:Sto),j<=l.length->P (k+j) ρ s->ok s=true)->(∀(j:Nat) (d:D) (ρ:Env) (s:Sto),l[j]?=some d->P (k+j) ρ s->∃ ρ' s',(g d ρ s=.ok (.next ρ') s'\/g d ρ s=.ok (.cont ρ') s')/\P (k+j+1) ρ' s') ->
  ∃ ρ' s',aJ8 ok g l ρ s=.ok (.next ρ') s'/\P (k+l.length) ρ' s'
 | [],k,ρ,s,h,o,_=>⟨ρ,s,by show(if ok s then _ else _)=_;rw[if_pos (o 0 ρ s (am _) h)],h⟩
 | d::l,k,ρ,s,h,o,t=>by
  have ho:=o 0 ρ s (eO _) h
  obtain⟨ρ1,s1,hg,F⟩:=t 0 d ρ s rfl h
  obtain⟨ρ2,s2,e,G⟩:=aw1 P l (k+1) ρ1 s1 F (λ j ρ' s' hj hp=>o (j+1) ρ' s' (by simpa using hj) (by rwa [show k+(j+1)=k+1+j by omega])) λ j d' ρ' s' hj hp=>by
   have:=t (j+1) d' ρ' s' (by simpa using hj) (by rwa [show k+(j+1)=k+1+j by omega])
   rwa [show k+(j+1)+1=k+1+j+1 by omega]at this
  refine⟨ρ2,s2,?_,by rwa [aK,show k+(l.length+1)=k+1+l.length by omega]⟩
  show(if ok s then _ else _)=_
  rw[if_pos ho]
  rcases hg with hg|hg<;>(rw[hg];exact e)
noncomputable def Nx (Q:Env->Sto->Prop):R Ct->Prop
 | .ok (.next ρ) s=>Q ρ s
 | .ok (.cont ρ) s=>Q ρ s
 | _=>False
@[simp] theorem bK5 (Q:Env->Sto->Prop) (ρ:Env) (s:Sto):Nx Q (.ok (.next ρ) s)=Q ρ s:=rfl
@[simp] theorem bO8 (Q:Env->Sto->Prop) (ρ:Env) (s:Sto):Nx Q (.ok (.cont ρ) s)=Q ρ s:=rfl
theorem qw {Q:Env->Sto->Prop}{r:R Ct}{ρ:Env}{s:Sto}(e:r=.ok (.next ρ) s)(h:Q ρ s):Nx Q r:=by rw[e];exact h
theorem bf6 {Q:Env->Sto->Prop}{r:R Ct}{ρ:Env}{s:Sto}(e:r=.ok (.cont ρ) s)(h:Q ρ s):Nx Q r:=by rw[e];exact h
theorem Nx.out {Q:Env->Sto->Prop}:∀ {r:R Ct},Nx Q r->∃ ρ s,(r=.ok (.next ρ) s\/r=.ok (.cont ρ) s)/\Q ρ s
 | .ok (.next ρ) s,h=>⟨ρ,s,.inl rfl,h⟩
 | .ok (.cont ρ) s,h=>⟨ρ,s,.inr rfl,h⟩
 | .ok (.ret _) _,h=>h.elim
 | .ok (.brk _) _,h=>h.elim
 | .exc _ _,h=>h.elim
 | .bad,h=>h.elim
noncomputable def Tst (A B:Sto->Prop):R D->Prop
 | .ok (.bl false) s=>A s
 | .ok (.bl true) s=>B s
 | _=>False
@[simp] theorem bh5 (A B:Sto->Prop) (b:Bool) (s:Sto):Tst A B (.ok (.bl b) s)=if b then B s else A s:=by cases b<;>rfl
theorem Tst.out {A B:Sto->Prop}:∀ {r:R D},Tst A B r->(∃ s,r=.ok (.bl false) s/\A s)\/∃ s,r=.ok (.bl true) s/\B s
 | .ok (.bl false) s,h=>.inl ⟨s,rfl,h⟩
 | .ok (.bl true) s,h=>.inr ⟨s,rfl,h⟩
 | .ok .non _,h=>h.elim
 | .ok (.int _) _,h=>h.elim
 | .ok (.str _) _,h=>h.elim
 | .ok (.tup _) _,h=>h.elim
 | .ok (.ref _) _,h=>h.elim
 | .ok (.fn _) _,h=>h.elim
 | .ok (.clo _ _) _,h=>h.elim
 | .exc _ _,h=>h.elim
 | .bad,h=>h.elim
theorem aZ6 {c:Env->Sto->R D}{g:Env->Sto->R Ct}{ρ ρ':Env}{s s1 s':Sto}(hc:c ρ s=.ok (.bl true) s1)(hg:g ρ s1=.ok (.cont ρ') s'):whl c g ρ s=whl c g ρ' s':=by
 have key:∀ n,qG c g (n+1) ρ s=qG c g n ρ' s':=λ n=>by
  show tru (c ρ s) _=_
  rw[hc,tru_bl,if_pos rfl,hg];rfl
 unfold whl
 by_cases hx:∃ n,qG c g n ρ' s'≠.bad
 ·have hy:∃ n,qG c g n ρ s≠.bad:=⟨hx.choose+1,by rw[key];exact hx.choose_spec⟩
  rw[dif_pos hx,dif_pos hy]
  have F:=zS hy.choose_spec (hx.choose+1)
  have h:=zS (n:=hx.choose+1) (ρ:=ρ) (s:=s) (by rw[key];exact hx.choose_spec) hy.choose
  rw[<-F,gu,h,key]
 ·have hy:¬ ∃ n,qG c g n ρ s≠.bad:=λ⟨n,hn⟩=>by
   cases n with
   | zero=>exact hn rfl
   | succ n=>exact hx ⟨n,by rw[<-key];exact hn⟩
  rw[dif_neg hx,dif_neg hy]
theorem bz0 {c:Env->Sto->R D}{g:Env->Sto->R Ct}(P:Nat->Env->Sto->Prop)(Q:Env->Sto->Prop)
  (step:∀ k ρ s,P k ρ s->Tst (λ s1=>Q ρ s1) (λ s1=>Nx (λ ρ' s'=>∃ F,F<k/\P F ρ' s') (g ρ s1)) (c ρ s)) :
  ∀(k:Nat) (ρ:Env) (s:Sto),P k ρ s->∃ ρ' s',whl c g ρ s=.ok (.next ρ') s'/\Q ρ' s':=by
 intro k
 induction k using Nat.strongRecOn with
 | _ k ih =>
  intro ρ s h
  rcases(step k ρ s h).out with⟨s1,hc,hq⟩|⟨s1,hc,hn⟩
  ·exact⟨ρ,s1,br7 hc,hq⟩
  ·obtain⟨ρ',s',hg,F,hk,hp⟩:=hn.out
   rcases hg with hg|hg
   ·rw[ba4 hc hg];exact ih F hk ρ' s' hp
   ·rw[aZ6 hc hg];exact ih F hk ρ' s' hp
theorem aX0 {c:Env->Sto->R D}{g:Env->Sto->R Ct}{ρ:Env}{s:Sto}{α:Type}{f:Ct->Sto->R α}{W:R α->Prop}(P:Nat->Env->Sto->Prop)(Q:Env->Sto->Prop)(k:Nat)(h:P k ρ s)
  (step:∀ k ρ s,P k ρ s->Tst (λ s1=>Q ρ s1) (λ s1=>Nx (λ ρ' s'=>∃ F,F<k/\P F ρ' s') (g ρ s1)) (c ρ s))
  (G:∀ ρ' s',Q ρ' s'->W (f (.next ρ') s')):W ((whl c g ρ s).bind f):=by
 obtain⟨ρ',s',e,q⟩:=bz0 P Q step k ρ s h
 rw[e]
 exact G ρ' s' q
theorem ba6 {c:Env->Sto->R D}{g:Env->Sto->R Ct}{ρ:Env}{s:Sto}{α:Type}{f:Ct->Sto->R α}{x:R α}(P:Nat->Env->Sto->Prop)(Q:Env->Sto->Prop)(k:Nat)(h:P k ρ s)
  (step:∀ k ρ s,P k ρ s->Tst (λ s1=>Q ρ s1) (λ s1=>Nx (λ ρ' s'=>∃ F,F<k/\P F ρ' s') (g ρ s1)) (c ρ s))
  (G:∀ ρ' s',Q ρ' s'->f (.next ρ') s'=x):(whl c g ρ s).bind f=x:=aX0 (W:=(·=x)) P Q k h step G
theorem zM {ok:Sto->Bool}{g:D->Env->Sto->R Ct}{l:List D}{ρ:Env}{s:Sto}{α:Type}{f:Ct->Sto->R α}{W:R α->Prop}(P:Nat->Env->Sto->Prop)(h:P 0 ρ s)
  (o:∀(j:Nat) (ρ:Env) (s:Sto),j<=l.length->P j ρ s->ok s=true) (step:∀(j:Nat) (d:D) (ρ:Env) (s:Sto),l[j]?=some d->P j ρ s->Nx (P (j+1)) (g d ρ s))
  (F:∀ ρ' s',P l.length ρ' s'->W (f (.next ρ') s')):W ((aJ8 ok g l ρ s).bind f):=by
 obtain⟨ρ',s',e,q⟩:=aw1 P l 0 ρ s h (λ j ρ s hj hp=>o j ρ s hj (by rwa [d8]at hp)) (λ j d ρ s hj hp=>by
  rw[d8]at hp ⊢
  exact(step j d ρ s hj hp).out)
 rw[e]
 rw[d8]at q
 exact F ρ' s' q
theorem aE5 {ok:Sto->Bool}{g:D->Env->Sto->R Ct}{l:List D}{ρ:Env}{s:Sto}{α:Type}{f:Ct->Sto->R α}{x:R α}(P:Nat->Env->Sto->Prop)(h:P 0 ρ s)
  (o:∀(j:Nat) (ρ:Env) (s:Sto),j<=l.length->P j ρ s->ok s=true) (step:∀(j:Nat) (d:D) (ρ:Env) (s:Sto),l[j]?=some d->P j ρ s->Nx (P (j+1)) (g d ρ s))
  (F:∀ ρ' s',P l.length ρ' s'->f (.next ρ') s'=x):(aJ8 ok g l ρ s).bind f=x:=zM (W:=(·=x)) P h o step F
section
variable {F:Fns} {ρ:Env} {s:Sto}
@[simp] theorem qi (i:Nat):ev F (.var i) ρ s=aF9 ρ i s:=rfl
@[simp] theorem ev_cst (c:Cn):ev F (.cst c) ρ s=.ok c.d s:=rfl
@[simp] theorem ev_bin (op:BOp) (a b:E):ev F (.bin op a b) ρ s=(ev F a ρ s).bind λ x s=>(ev F b ρ s).bind λ y s=>af0 op x y s:=rfl
@[simp] theorem ev_not (a:E):ev F (.not a) ρ s=tru (ev F a ρ s) λ b s=>.ok (.bl (!b)) s:=rfl
@[simp] theorem ev_cmp (op:COp) (a b:E):ev F (.cmp op a b) ρ s=(ev F a ρ s).bind λ x s=>(ev F b ρ s).bind λ y s=>qb op x y s:=rfl
@[simp] theorem aW8 (o p:COp) (a b c:E):ev F (.chain o p a b c) ρ s=(ev F a ρ s).bind λ x s=>(ev F b ρ s).bind λ y s=>tru (qb o x y s) λ k s=>if k then(ev F c ρ s).bind λ z s=>qb p y z s else .ok (.bl false) s:=rfl
@[simp] theorem ev_isN (a:E):ev F (.isN a) ρ s=(ev F a ρ s).bind λ x s=>.ok (.bl (decide (x=.non))) s:=rfl
@[simp] theorem ev_notN (a:E):ev F (.notN a) ρ s=(ev F a ρ s).bind λ x s=>.ok (.bl (!decide (x=.non))) s:=rfl
@[simp] theorem ev_and (a b:E):ev F (.and a b) ρ s=tru (ev F a ρ s) λ c s=>if c then tru (ev F b ρ s) λ c s=>.ok (.bl c) s else .ok (.bl false) s:=rfl
@[simp] theorem ev_or (a b:E):ev F (.or a b) ρ s=tru (ev F a ρ s) λ c s=>if c then .ok (.bl true) s else tru (ev F b ρ s) λ c s=>.ok (.bl c) s:=rfl
@[simp] theorem ev_ite (c a b:E):ev F (.ite c a b) ρ s=tru (ev F c ρ s) λ k s=>if k then ev F a ρ s else ev F b ρ s:=rfl
@[simp] theorem ev_tup (es:Es):ev F (.tup es) ρ s=(evs F es ρ s).bind λ l s=>.ok (.tup l) s:=rfl
@[simp] theorem ev_lst (es:Es):ev F (.lst es) ρ s=(evs F es ρ s).bind λ l s=>ab5 (.lst l) s:=rfl
@[simp] theorem ev_ix (a b:E):ev F (.ix a b) ρ s=(ev F a ρ s).bind λ x s=>(ev F b ρ s).bind λ y s=>ixM x y s:=rfl
@[simp] theorem ev_call (f:String) (as:As):ev F (.call f as) ρ s=(ag9 F as ρ s).bind λ l s=>F.call f l s:=rfl
@[simp] theorem bI9 (f:String) (as:As):ev F (.callC f as) ρ s=(ag9 F as ρ s).bind λ l s=>(F.call f l s).bind λ d s'=>if(d.ncl&&s'.all O.ncl)=true then .ok d s' else .bad:=rfl
@[simp] theorem ev_bi (b:Bi) (es:Es):ev F (.bi b es) ρ s=(evs F es ρ s).bind λ l s=>bi b l s:=rfl
@[simp] theorem ev_mk (k:Mk) (it:L):ev F (.mk k it) ρ s=(evL F it ρ s).bind λ q s=>mk k q s:=rfl
@[simp] theorem ev_mkD (k:Mk) (it:L) (d:E):ev F (.mkD k it d) ρ s=(evL F it ρ s).bind λ q s=>(ev F d ρ s).bind λ d s=>mkD k q d s:=rfl
@[simp] theorem ev_mks (k:Mk) (e:E):ev F (.mks k e) ρ s=(ev F e ρ s).bind λ x s=>(av5 x s).bind λ q s=>mk k q s:=rfl
@[simp] theorem bv4 (id:String) (e:E) (j:Int):ev F (.minK id e j) ρ s=(ev F e ρ s).bind λ x s=>(av5 x s).bind λ q s=>ay6 j q s:=rfl
@[simp] theorem ev_mkDs (k:Mk) (e d:E):ev F (.mkDs k e d) ρ s=(ev F e ρ s).bind λ x s=>(ev F d ρ s).bind λ z s=>(av5 x s).bind λ q s=>mkD k q z s:=rfl
@[simp] theorem ev_meth (m:Mt) (o:E) (es:Es):ev F (.meth m o es) ρ s=(ev F o ρ s).bind λ x s=>(evs F es ρ s).bind λ l s=>meth m x l s:=rfl
@[simp] theorem bM7 (o e:E):ev F (.extS o e) ρ s=(ev F o ρ s).bind λ x s=>(ev F e ρ s).bind λ y s=>extS x y s:=rfl
@[simp] theorem bS7 (a:E):ev F (.rev a) ρ s=(ev F a ρ s).bind λ x s=>bv6 x s:=rfl
@[simp] theorem bS6 (o:E) (it:L):ev F (.ext o it) ρ s=(ev F o ρ s).bind λ x s=>(evL F it ρ s).bind λ q s=>bB9 x q s:=rfl
@[simp] theorem evs_nil:evs F .nil ρ s=.ok [] s:=rfl
@[simp] theorem evs_cons (e:E) (es:Es):evs F (.cons e es) ρ s=(ev F e ρ s).bind λ d s=>(evs F es ρ s).bind λ l s=>.ok (d::l) s:=rfl
@[simp] theorem evas_nil:ag9 F .nil ρ s=.ok [] s:=rfl
@[simp] theorem evas_ex (e:E) (as:As):ag9 F (.ex e as) ρ s=(ev F e ρ s).bind λ d s=>(ag9 F as ρ s).bind λ l s=>.ok (d::l) s:=rfl
@[simp] theorem bO3 (f:String) (as:As):ag9 F (.fn f as) ρ s=(ag9 F as ρ s).bind λ l s=>.ok (.fn f::l) s:=rfl
@[simp] theorem evI_seq (e:E):evI F (.seq e) ρ s=(ev F e ρ s).bind λ d s=>as9 d s:=rfl
@[simp] theorem bJ9 (es:Es):evL F (.disp es) ρ s=evs F es ρ s:=rfl
@[simp] theorem evL_seq (e:E):evL F (.seq e) ρ s=(ev F e ρ s).bind λ d s=>bv5 d s:=rfl
noncomputable def bm7 (x:D):M Sq:=λ s=>match x with|.int i=>if -W62<=i/\i<W62 then .ok ⟨ac5 0 i,[]⟩ s else .bad|_=>.bad
@[simp] theorem evI_rng1 (a:E):evI F (.rng1 a) ρ s=(ev F a ρ s).bind λ x s=>bm7 x s:=rfl
theorem qq {i:Int}(h0:-W62<=i)(h:i<W62):bm7 (.int i) s=.ok ⟨ac5 0 i,[]⟩ s:=by unfold bm7;simp only[h0,h,and_self,if_true]
noncomputable def nxt (F:Fns)(ss:Ss)(c:Ct)(s:Sto):R Ct:=match c with|.next ρ=>exs F ss ρ s|c=>.ok c s
@[simp] theorem nxt_next (h:Ss) (ρ:Env) (s:Sto):nxt F h (.next ρ) s=exs F h ρ s:=rfl
@[simp] theorem nxt_ret (h:Ss) (d:D) (s:Sto):nxt F h (.ret d) s=.ok (.ret d) s:=rfl
@[simp] theorem nxt_cont (h:Ss) (ρ:Env) (s:Sto):nxt F h (.cont ρ) s=.ok (.cont ρ) s:=rfl
@[simp] theorem exs_nil:exs F .nil ρ s=.ok (.next ρ) s:=rfl
@[simp] theorem qB (st:S) (h:Ss):exs F (.cons st h) ρ s=(ex F st ρ s).bind (nxt F h):=rfl
noncomputable def bK3 (ρ:Option Env)(s:Sto):R Ct:=match ρ with|some ρ=>.ok (.next ρ) s|none=>.bad
@[simp] theorem setC_some (ρ:Env) (s:Sto):bK3 (some ρ) s=.ok (.next ρ) s:=rfl
@[simp] theorem ex_asg (tg:Tg) (e:E):ex F (.asg tg e) ρ s=(ev F e ρ s).bind λ d s=>bK3 (ab8 ρ tg d) s:=rfl
@[simp] theorem ex_setIx (o i e:E):ex F (.setIx o i e) ρ s=(ev F e ρ s).bind λ d s=>(ev F o ρ s).bind λ x s=>(ev F i ρ s).bind λ y s=>(setIx x y d s).bind λ _ s=>.ok (.next ρ) s:=rfl
@[simp] theorem ex_ex (e:E):ex F (.ex e) ρ s=(ev F e ρ s).bind λ _ s=>.ok (.next ρ) s:=rfl
@[simp] theorem ex_ret (e:E):ex F (.ret e) ρ s=(ev F e ρ s).bind λ d s=>.ok (.ret d) s:=rfl
@[simp] theorem bN8:ex F .retN ρ s=.ok (.ret .non) s:=rfl
@[simp] theorem ex_ite (c:E) (a b:Ss):ex F (.ite c a b) ρ s=tru (ev F c ρ s) λ k s=>if k then exs F a ρ s else exs F b ρ s:=rfl
@[simp] theorem ex_whl (c:E) (b:Ss):ex F (.whl c b) ρ s=whl (ev F c) (exs F b) ρ s:=rfl
noncomputable def turn (F:Fns)(tg:Tg)(b:Ss)(d:D)(ρ:Env)(s:Sto):R Ct:=match ab8 ρ tg d with
 | some ρ=>exs F b ρ s
 | none=>.bad
@[simp] theorem ex_for (tg:Tg) (it:I) (b:Ss):ex F (.for_ tg it b) ρ s=(evI F it ρ s).bind λ q s0=>aJ8 (λ s=>chk s0 s q.src) (turn F tg b) q.its ρ s0:=rfl
@[simp] theorem ex_cont:ex F .cont ρ s=.ok (.cont ρ) s:=rfl
@[simp] theorem ex_und (i:Nat):ex F (.und i) ρ s=bK3 (ak1 ρ i) s:=rfl
@[simp] theorem ex_pass:ex F .pass ρ s=.ok (.next ρ) s:=rfl
@[simp] theorem zT (i:Nat) (d:D):ab8 ρ (.one i) d=ay5 ρ i d:=rfl
@[simp] theorem bindT_tup (is:List Nat) (l:List D):ab8 ρ (.tup is) (.tup l)=ai2 ρ is l:=rfl
@[simp] theorem setVs_nil:ai2 ρ [] []=some ρ:=rfl
@[simp] theorem setVs_cons (i:Nat) (is:List Nat) (d:D) (l:List D):ai2 ρ (i::is) (d::l)=(ay5 ρ i d).bind λ ρ=>ai2 ρ is l:=rfl
@[simp] theorem qk (d:D) (ρ:Env):aF9 (some d::ρ) 0 s=.ok d s:=rfl
@[simp] theorem qj (x:Option D) (ρ:Env) (i:Nat):aF9 (x::ρ) (i+1) s=aF9 ρ i s:=by unfold aF9;rw[cV]
@[simp] theorem setV_0 (d:D) (x:Option D) (ρ:Env):ay5 (x::ρ) 0 d=some (some d::ρ):=rfl
@[simp] theorem setV_s (d:D) (x:Option D) (ρ:Env) (i:Nat):ay5 (x::ρ) (i+1) d=(ay5 ρ i d).map (x::·):=by
 unfold ay5
 by_cases h:i < ρ.length
 ·rw[if_pos (by simpa using h),if_pos h];rfl
 ·rw[if_neg (by simpa using h),if_neg h];rfl
@[simp] theorem unsetV_0 (x:Option D) (ρ:Env):ak1 (x::ρ) 0=some (none::ρ):=rfl
@[simp] theorem unsetV_s (x:Option D) (ρ:Env) (i:Nat):ak1 (x::ρ) (i+1)=(ak1 ρ i).map (x::·):=by
 unfold ak1
 by_cases h:i < ρ.length
 ·rw[if_pos (by simpa using h),if_pos h];rfl
 ·rw[if_neg (by simpa using h),if_neg h];rfl
@[simp] theorem Cn_int (i:Int):(Cn.int i).d=.int i:=rfl
@[simp] theorem Cn_bl (i:Bool):(Cn.bl i).d=.bl i:=rfl
@[simp] theorem Cn_str (i:List Nat):(Cn.str i).d=.str i:=rfl
@[simp] theorem Cn_non:Cn.non.d=.non:=rfl
@[simp] theorem add_int (a b:Int):af0 .add (.int a) (.int b) s=.ok (.int (a+b)) s:=rfl
@[simp] theorem sub_int (a b:Int):af0 .sub (.int a) (.int b) s=.ok (.int (a - b)) s:=rfl
theorem ae9 {a b:Int}(h:mulOk a b=true):af0 .mul (.int a) (.int b) s=.ok (.int (a*b)) s:=by show(if mulOk a b then _ else _:M D) s=_;rw[if_pos h];rfl
theorem bq2 {a b:Int}(h:a.natAbs<2^64):mulOk a b=true:=by unfold mulOk;simp[h]
theorem ao8 {a b:Int}(h:b.natAbs<2^64):mulOk a b=true:=by unfold mulOk;simp[h]
theorem ak7 {a b:Int}(h:0<b):af0 .mod (.int a) (.int b) s=.ok (.int (a % b)) s:=by show(if 0<b then _ else _:M D) s=_;rw[if_pos h];rfl
theorem bq3:(10:Int)^200<=(DIVL:Int):=by unfold DIVL;decide +kernel
theorem ao1 {a b:Int}(h:0<b)(F:b<10^200):af0 .fdiv (.int a) (.int b) s=.ok (.int (a / b)) s:=by show(if 0<b/\b<(DIVL:Int)then _ else _:M D) s=_;rw[if_pos ⟨h,Int.lt_of_lt_of_le F bq3⟩];rfl
theorem aK4 {a b:Int}(h:0<=b/\b<=1000000/\a.natAbs<2^64):af0 .pow (.int a) (.int b) s=.ok (.int (a^b.toNat)) s:=by show(if _ then _ else _:M D) s=_;rw[if_pos h];rfl
@[simp] theorem lt_int (a b:Int):qb .lt (.int a) (.int b) s=.ok (.bl (decide (a<b))) s:=rfl
@[simp] theorem le_int (a b:Int):qb .le (.int a) (.int b) s=.ok (.bl (decide (a<=b))) s:=rfl
@[simp] theorem gt_int (a b:Int):qb .gt (.int a) (.int b) s=.ok (.bl (decide (b<a))) s:=rfl
@[simp] theorem ge_int (a b:Int):qb .ge (.int a) (.int b) s=.ok (.bl (decide (b<=a))) s:=rfl
@[simp] theorem eq_int (a b:Int):qb .eq (.int a) (.int b) s=.ok (.bl (decide (a=b))) s:=rfl
@[simp] theorem ne_int (a b:Int):qb .ne (.int a) (.int b) s=.ok (.bl (!decide (a=b))) s:=rfl
@[simp] theorem alloc_eq (o:O):ab5 o s=.ok (.ref s.length) (s++[o]):=rfl
@[simp] theorem bp3 (l:List D):bi .len [.tup l] s=.ok (.int l.length) s:=rfl
@[simp] theorem aN8 (l:List Nat):bi .len [.str l] s=.ok (.int l.length) s:=rfl
theorem aT2 {r:Nat}{l:List D}(h:s[r]?=some (.lst l)):bi .len [.ref r] s=.ok (.int l.length) s:=by simp only[bi,bi1,bp7,h]
theorem bg1 {r:Nat}{l:List D}(h:s[r]?=some (.ro l)):bi .len [.ref r] s=.ok (.int l.length) s:=by simp only[bi,bi1,bp7,h]
@[simp] theorem bQ1 (i:Int):bi .abs [.int i] s=.ok (.int (if i<0 then -i else i)) s:=rfl
@[simp] theorem bd4 (a b:Int):bi .min2 [.int a,.int b] s=.ok (.int (if b<a then b else a)) s:=rfl
@[simp] theorem bJ5 (a b:Int):bi .max2 [.int a,.int b] s=.ok (.int (if b > a then b else a)) s:=rfl
@[simp] theorem aQ1 (a:Int):bi .isInt [.int a] s=.ok (.bl true) s:=rfl
@[simp] theorem aF5 (a:Int):bi .isBool [.int a] s=.ok (.bl false) s:=rfl
@[simp] theorem bE7 (l:List D):bi .isTup [.tup l] s=.ok (.bl true) s:=rfl
theorem bC3 {r:Nat}{l:List D}{j:Nat}{d:D}(h:s[r]?=some (.ro l))(hj:l[j]?=some d):ixM (.ref r) (.int (j:Int)) s=.ok d s:=by
 have hl:j<l.length:=(ac.mp hj).1
 have e:l[j]=d:=(ac.mp hj).2
 simp[ixM,h,ixn,hl,e]
theorem ai9 {r:Nat}{l:List D}{j:Nat}{d:D}(h:s[r]?=some (.lst l))(hj:l[j]?=some d):ixM (.ref r) (.int (j:Int)) s=.ok d s:=by
 have hl:j<l.length:=(ac.mp hj).1
 have e:l[j]=d:=(ac.mp hj).2
 simp[ixM,h,ixn,hl,e]
theorem ix_tup {l:List D}{j:Nat}{d:D}(hj:l[j]?=some d):ixM (.tup l) (.int (j:Int)) s=.ok d s:=by
 have hl:j<l.length:=(ac.mp hj).1
 have e:l[j]=d:=(ac.mp hj).2
 simp[ixM,ixn,hl,e]
theorem bm2 {r:Nat}{l:List D}{j:Nat}{v:D}(h:s[r]?=some (.lst l))(hl:j<l.length):setIx (.ref r) (.int (j:Int)) v s=.ok () (s.set r (.lst (l.set j v))):=by
 simp[setIx,h,ixn,hl]
theorem am8 {r:Nat}{l:List D}{v:D}(h:s[r]?=some (.lst l))(hl:l.length<LIM):meth .append (.ref r) [v] s=.ok .non (s.set r (.lst (l++[v]))):=by
 show(match s[r]? with|some (.lst l)=>(if l.length<LIM then R.ok D.non (s.set r (.lst (l++[v])))else .bad)|_=>.bad:R D)=_
 rw[h]
 exact if_pos hl
end
theorem ax3 (s t:Sto)(b:Bool):∃ s',zu s (.bl b) t=.ok (.bl b) s':=by
 unfold zu
 by_cases h:ao5 s t=true
 ·rw[if_pos h];exact⟨_,rfl⟩
 ·rw[if_neg h];exact⟨_,rfl⟩
def Yes (r:R D):Prop:=∃ s',r=.ok (.bl true) s'
theorem aQ9 (s t:Sto):Yes (zu s (.bl true) t):=ax3 s t true
theorem qy {a b:Int}{j:Nat}{d:D}(h:(ac5 a b)[j]?=some d):(j:Int)<b - a/\d=.int (a+j):=by
 have hj:=(ac.mp h).1
 simp only[ac5,aw,je]at hj
 unfold ac5 at h
 rw[aB,dH hj]at h
 exact⟨by omega,(au h).symm⟩
def bP7 (P:Pr)(k:Nat):Prop:=∀ ns:List Int,ns.length<=63->Yes ((aa1 P k).call "law" [.ref 0] [.ro (ns.map D.int)])
noncomputable def al5:Option Int->D
 | none=>.non
 | some i=>.int i
@[simp] theorem aj7:al5 none=.non:=rfl
@[simp] theorem au7 (i:Int):al5 (some i)=.int i:=rfl
@[simp] theorem aA5 (p:Option Int) (n:Nat):(al5 p).bnd n=true:=by cases p<;>rfl
theorem aA9 (p:Option Int)(r:Nat):al5 p≠.ref r:=by cases p<;>nofun
@[simp] theorem bv7 {s:Sto} {p:Option Int}:zu s (al5 p) s=.ok (al5 p) s:=zP (aA5 p) (aA9 p)
noncomputable def zD (b:Nat×Nat):O:=.lst [.int b.1,.int b.2]
@[simp] theorem bK1 (b:Nat×Nat) (n:Nat):(zD b).bnd n=true:=rfl
noncomputable def tkW (many:Nat):Nat->Nat->Nat->Nat->Nat×Nat
 | 0,mix,num,_=>(num,mix)
 | n+1,mix,num,room=>if room<many then tkW many n ((mix*48271+7919) % 2147483647) (num*1073741789+(mix*48271+7919) % 2147483647 / 8*69621 % 1073741789) (room*1073741789)else(num,mix)
noncomputable def tk (b:Nat×Nat)(many:Nat):Nat×(Nat×Nat) :=
 if 0<b.1 then(b.1 % many,(b.1 / many,b.2))else let r:=tkW many 12 b.2 0 1;(r.1 % many,(b.1,r.2))
theorem bL6 (b:Nat×Nat){many:Nat}(h:0<many):(tk b many).1<many:=by
 unfold tk
 split
 ·exact Nat.mod_lt _ h
 ·exact Nat.mod_lt _ h
theorem aM9 {many:Nat}{k F G room:Nat}(h:many<=room):tkW many k F G room=(G,F):=by
 cases k with
 | zero=>rfl
 | succ k=>unfold tkW;rw[if_neg (by omega)]
theorem aX5 {many:Nat}{k F G room:Nat}(h:room<many):tkW many (k+1) F G room=tkW many k ((F*48271+7919) % 2147483647) (G*1073741789+(F*48271+7919) % 2147483647 / 8*69621 % 1073741789) (room*1073741789):=by
 conv=>lhs;unfold tkW
 rw[if_pos h]
theorem bo9 {P:Pr}[Has P ab4](n:Nat)(b:Nat×Nat)(many:Nat)(h0:0<many)(h:many<=10^90)(s:Sto)(r:Nat)(hs:s[r]?=some (zD b)) :
  (aa1 P (n+1)).call "_law_take" [.ref r,.int many] s=.ok (.int (tk b many).1) (s.set r (zD (tk b many).2)):=by
 refine(zx ab4 rfl).trans ?_
 obtain⟨c,m⟩:=b
 have hr:r<s.length:=(ac.mp hs).1
 have Z:(0:Int)<(many:Int):=by omega
 have a1:(many:Int)<10^200:=by
  have:(10:Int)^90<10^200:=by decide +kernel
  have:((many:Nat):Int)<=((10^90:Nat):Int):=by exact_mod_cast h
  omega
 by_cases hc:0<c
 ·have Y:s[r]?=some (.lst [.int c,.int m]):=hs
  simp[ab4,ixM,Y,ixn,hc,ak7 Z,ao1 Z a1,setIx,tk]
  exact qA (λ _=>rfl) (by nofun) rfl
 ·have a0:c=0:=by omega
  subst a0
  have Y:s[r]?=some (.lst [.int 0,.int m]):=hs
  simp[ab4,ixM,Y,ixn]
  refine ba6 (λ k ρ t=>∃ F G room:Nat,ρ=[some (.ref r),some (.int many),none,some (.int G),some (.int room)]/\t=s.set r (zD (0,F))/\many<=room*1073741789^k/\tkW many k F G room=tkW many 12 m 0 1)
   (λ ρ t=>∃ room:Nat,ρ=[some (.ref r),some (.int many),none,some (.int (tkW many 12 m 0 1).1),some (.int room)]/\t=s.set r (zD (0,(tkW many 12 m 0 1).2))) 12 ⟨m,0,1,by simp,?_,?_,rfl⟩ ?_ ?_
  ·have e:s[r]=zD (0,m):=(ac.mp hs).2
   rw[<-e,eg]
  ·refine av h ?_
   decide +kernel
  ·rintro k ρ t ⟨F,G,room,rfl,rfl,J,he⟩
   by_cases hlt:room<many
   ·simp only[ev_cmp,qi,qk,qj,R.bind_ok,lt_int,bh5,jc,hlt,decide_true,if_true]
    cases k with
    | zero=>simp at J;omega
    | succ k =>
     have h1:(s.set r (zD (0,F)))[r]?=some (.lst [.int 0,.int F]):=by rw[aL hr];rfl
     have m1:∀ a:Int,mulOk a 48271=true:=λ a=>ao8 (by decide)
     have m2:∀ a:Int,mulOk a 1073741789=true:=λ a=>ao8 (by decide)
     have m3:∀ a:Int,mulOk a 69621=true:=λ a=>ao8 (by decide)
     refine qw ?_ ⟨k,dB k,(F*48271+7919) % 2147483647,G*1073741789+(F*48271+7919) % 2147483647 / 8*69621 % 1073741789,room*1073741789,rfl,rfl,?_,?_⟩
     ·simp[ixM,h1,ixn,ae9 (m1 _),ak7,setIx,hr,ae9 (m2 _),ae9 (m3 _),ao1,zD]
     ·rw[Nat.pow_succ]at J
      rw[Nat.mul_assoc,ke 1073741789];exact J
     ·rw[<-he,aX5 hlt]
   ·simp only[ev_cmp,qi,qk,qj,R.bind_ok,lt_int,bh5,jc,hlt,decide_false,if_false,bO]
    refine⟨room,?_,?_⟩
    ·rw[<-he,aM9 (by omega)]
    ·rw[<-he,aM9 (by omega)]
  ·rintro ρ t ⟨room,rfl,rfl⟩
   simp[ak7 Z,tk]
   exact qA (λ _=>rfl) (by nofun) rfl
noncomputable def be6 (at_:Int)(ns:List Int):Nat->Int
 | 0=>7919*at_+17
 | k+1=>(be6 at_ ns k*48271+(ns.getD k 0) % 2147483647+k) % 2147483629
theorem bs9 (at_:Int)(h:0<=at_)(ns:List Int):∀ k,0<=be6 at_ ns k
 | 0=>by unfold be6;omega
 | k+1=>by unfold be6;exact Int.emod_nonneg _ (by decide)
noncomputable def cellF (ns:List Int)(at_:Nat):Nat:=if 10^18<=(ns.getD at_ 0).natAbs then(ns.getD at_ 0).natAbs else 0
noncomputable def bn1 (ns:List Int)(at_:Nat):Nat×Nat:=(cellF ns at_,(be6 at_ ns (min ns.length 60)).toNat)
theorem bF4 {P:Pr}[Has P au5](n:Nat)(ns:List Int)(at_:Nat)(s:Sto)(r:Nat)(hs:s[r]?=some (.ro (ns.map D.int)))(hl:ns.length<=63) :
  (aa1 P (n+1)).call "_law_bag" [.ref r,.int at_] s=.ok (.ref s.length) (s++[zD (bn1 ns at_)]):=by
 refine(zx au5 rfl).trans ?_
 have m1:∀ a:Int,mulOk 7919 a=true:=λ a=>bq2 (by decide)
 have m2:∀ a:Int,mulOk a 48271=true:=λ a=>ao8 (by decide)
 have F:bi .len [.ref r] s=.ok (.int ns.length) s:=by rw[bg1 hs,aw]
 have J:∀(c:Int),(c<10^18->cellF ns at_=0)->(10^18<=c->(cellF ns at_:Int)=c) ->
   (exs (aa1 P n) (.cons (.asg (.one 3) (.bin .add (.bin .mul (.cst (.int 7919)) (.var 1)) (.cst (.int 17)))) (.cons (.for_ (.one 4) (.rng1 (.bi .min2 (.cons (.bi .len (.cons (.var 0) .nil)) (.cons (.cst (.int 60)) .nil)))) (.cons (.asg (.one 3) (.bin .mod (.bin .add (.bin .add (.bin .mul (.var 3) (.cst (.int 48271))) (.bin .mod (.ix (.var 0) (.var 4)) (.cst (.int 2147483647)))) (.var 4)) (.cst (.int 2147483629)))) .nil)) (.cons (.ite (.cmp .lt (.var 2) (.bin .pow (.cst (.int 10)) (.cst (.int 18)))) (.cons (.asg (.one 2) (.cst (.int 0))) .nil) .nil) (.cons (.ret (.lst (.cons (.var 2) (.cons (.var 3) .nil)))) .nil)))) [some (.ref r),some (.int at_),some (.int c),none,none] s).bind (fin s)=.ok (.ref s.length) (s++[zD (bn1 ns at_)]):=by
  intro c h1 h2
  simp[ae9 (m1 _),F]
  have hk:(if(60:Int)<(ns.length:Int)then 60 else(ns.length:Int))=((min ns.length 60:Nat):Int):=by omega
  rw[hk,qq (by unfold W62;omega) (by unfold W62;omega)]
  simp only[R.bind_ok]
  refine aE5 (λ j ρ t=>t=s/\∃ x,ρ=[some (.ref r),some (.int at_),some (.int c),some (.int (be6 at_ ns j)),x]) ⟨rfl,none,rfl⟩ (λ _ _ _ _ _=>rfl) ?_ ?_
  ·rintro j d ρ t hj ⟨rfl,x,rfl⟩
   have Z:j<min ns.length 60:=by have:=(ac.mp hj).1;simpa [ac5]using this
   have hd:d=.int (j:Int):=by simpa [ac5,Z]using hj.symm
   subst hd
   refine qw ?_ ⟨rfl,some (.int (j:Int)),rfl⟩
   have hx:ixM (.ref r) (.int (j:Int)) t=.ok (.int (ns.getD j 0)) t:=bC3 hs (by simp[show j<ns.length by omega])
   simp[turn,ae9 (m2 _),hx,ak7,be6]
  ·rintro ρ t ⟨rfl,x,rfl⟩
   have a0:(ac5 0 ((min ns.length 60:Nat):Int)).length=min ns.length 60:=by simp[ac5]
   rw[a0]
   have a1:=bs9 at_ (by omega) ns (min ns.length 60)
   have G:∀ c',(c':Int)=cellF ns at_->zu t (.ref t.length) (t++[.lst [.int c',.int (be6 at_ ns (min ns.length 60))]])=.ok (.ref t.length) (t++[zD (bn1 ns at_)]):=by
    intro c' Y
    have:=aK2 (s:=t) (t:=[]) (u:=[]) (o:=zD (bn1 ns at_)) rfl
    simp only[eZ,kn,eX]at this
    rw[<-this]
    simp[zD,bn1,Y,e8 a1]
   by_cases h:c<10^18
   ·have h':c<1000000000000000000:=h
    simp[aK4,h']
    exact G 0 (by rw[h1 h];rfl)
   ·have h':¬ c<1000000000000000000:=h
    simp[aK4,h']
    exact G c (h2 (by omega)).symm
 by_cases hat:at_<ns.length
 ·have hx:ixM (.ref r) (.int at_) s=.ok (.int (ns.getD at_ 0)) s:=bC3 hs (by simp[hat])
  have e:=J (if ns.getD at_ 0<0 then -ns.getD at_ 0 else ns.getD at_ 0) (by unfold cellF;intro h;rw[if_neg (by omega)]) (by unfold cellF;intro h;rw[if_pos (by omega)];omega)
  rw[<-e]
  simp[au5,F,hat,hx]
 ·have e:=J 0 (by unfold cellF;intro h;rw[if_neg];rw[aG,bS (by omega)];decide) (by intro h;exact absurd h (by decide))
  rw[<-e]
  simp[au5,F,hat]
theorem aw8 {s t:Sto}{r:Nat}{o:O}(h:r<s.length):(s++t).set r o=s.set r o++t:=by rw[gG,if_pos h]
theorem zv {s t:Sto}{r:Nat}{o:O}(h:s[r]?=some o):(s++t)[r]?=some o:=by
 rw[aJ (ac.mp h).1];exact h
theorem ae8 {s:Sto}{r:Nat}{o:O}(h:r<s.length):(s.set r o)[r]?=some o:=aL h
theorem bd8 {P:Pr}[Has P ab4](n:Nat)(b:Nat×Nat)(many:Int)(h0:0<many)(h:many<=10^90)(s:Sto)(r:Nat)(hs:s[r]?=some (zD b)) :
  (aa1 P (n+1)).call "_law_take" [.ref r,.int many] s=.ok (.int (tk b many.toNat).1) (s.set r (zD (tk b many.toNat).2)):=by
 have:=bo9 n b many.toNat (P:=P) (by omega) (by have:many<=((10^90:Nat):Int):=(by simpa using h);omega) s r hs
 rwa [show((many.toNat:Nat):Int)=many by omega]at this
noncomputable def bd (b:Nat×Nat):Nat×(Nat×Nat) :=
 let x0:=tk b 3
 let x1:=tk x0.2 13
 let x2:=tk x1.2 1000000000
 let x3:=tk x2.2 1000000000000000000000000000000
 let i:=tk x3.2 4
 ([x0.1,x1.1,x2.1,x3.1].getD i.1 0,i.2)
section
variable {F:Fns} {ρ:Env} {s:Sto}
noncomputable def as5 (F:Fns)(tg:Tg)(e:E)(d:D)(ρ:Env)(s:Sto):R (Option D×Env):=match ab8 ρ tg d with
 | some ρ=>(ev F e ρ s).bind λ v s=>.ok (some v,ρ) s
 | none=>.bad
noncomputable def ap0 (F:Fns)(tg:Tg)(c e:E)(d:D)(ρ:Env)(s:Sto):R (Option D×Env):=match ab8 ρ tg d with
 | some ρ=>tru (ev F c ρ s) λ k s=>if k then(ev F e ρ s).bind λ v s=>.ok (some v,ρ) s else .ok (none,ρ) s
 | none=>.bad
@[simp] theorem bc9 (tg:Tg) (it:I) (e:E) (h:List (Option Nat)):evL F (.comp tg it e h) ρ s=(evI F it ρ s).bind λ q s0=>if q.its.length<=LIM then ac7 (λ s=>chk s0 s q.src) (as5 F tg e) q.its (ql ρ h) s0 else .bad:=rfl
@[simp] theorem z9 (tg:Tg) (it:I) (c e:E) (h:List (Option Nat)):evL F (.compIf tg it c e h) ρ s=(evI F it ρ s).bind λ q s0=>if q.its.length<=LIM then ac7 (λ s=>chk s0 s q.src) (ap0 F tg c e) q.its (ql ρ h) s0 else .bad:=rfl
@[simp] theorem bS1 (a hi:E):ev F (.slU a hi) ρ s=(ev F a ρ s).bind λ x s=>(ev F hi ρ s).bind λ y s=>match y with|.int i=>slM x none (some i) s|_=>.bad:=rfl
@[simp] theorem bS8 (a hi:E):ev F (.slL a hi) ρ s=(ev F a ρ s).bind λ x s=>(ev F hi ρ s).bind λ y s=>match y with|.int i=>slM x (some i) none s|_=>.bad:=rfl
end
theorem zV {ok:Sto->Bool}{g:D->Env->Sto->R (Option D×Env)}(P:Env->Sto->Prop)(f:D->Option D):∀(l:List D) (ρ:Env) (s:Sto),P ρ s ->
  (∀ ρ s,P ρ s->ok s=true)->(∀ d∈l,∀ ρ s,P ρ s->∃ ρ' s',g d ρ s=.ok (f d,ρ') s'/\P ρ' s')->∃ ρ' s',ac7 ok g l ρ s=.ok (l.filterMap f) s'/\P ρ' s'
 | [],ρ,s,h,o,_=>⟨ρ,s,by unfold ac7;rw[if_pos (o ρ s h)];rfl,h⟩
 | d::l,ρ,s,h,o,st=>by
  obtain⟨ρ1,s1,e1,G⟩:=st d (aq ..) ρ s h
  obtain⟨ρ2,s2,e2,F⟩:=zV P f l ρ1 s1 G o λ x hx=>st x (ak _ hx)
  refine⟨ρ2,s2,?_,F⟩
  unfold ac7
  rw[if_pos (o ρ s h),e1]
  simp only[R.bind_ok]
  rw[e2,aO]
  cases f d<;>rfl
theorem zY {P:Pr}[Has P ab4](n:Nat){s:Sto}{r:Nat}(hs:∃ b,s[r]?=some (zD b))(many:Int)(h0:0<many)(h:many<=10^90) :
  ∃(k:Nat) (b:Nat×Nat),(k:Int)<many/\(aa1 P (n+1)).call "_law_take" [.ref r,.int many] s=.ok (.int k) (s.set r (zD b)):=by
 obtain⟨b,hb⟩:=hs
 have:=bL6 b (many:=many.toNat) (by omega)
 exact⟨(tk b many.toNat).1,(tk b many.toNat).2,by omega,bd8 n b many h0 h s r hb⟩
theorem af4 {k:Int}(h:k<=1000):k<=10^90:=Int.le_trans h (by decide)
theorem af2 {s:Sto}{r:Nat}{b:Nat×Nat}(h:r<s.length):∃ F,(s.set r (zD b))[r]?=some (zD F):=⟨b,ae8 h⟩
theorem bn3 {s t:Sto}{r:Nat}(h:∃ b,s[r]?=some (zD b)):∃ b,(s++t)[r]?=some (zD b):=by obtain⟨b,hb⟩:=h;exact⟨b,zv hb⟩
theorem as4 {s:Sto}{r:Nat}(h:∃ b,s[r]?=some (zD b)):r<s.length:=by obtain⟨b,hb⟩:=h;exact(ac.mp hb).1
theorem aL4 {k:Int}{s:Sto}(h:0<=k/\k<=1000000):af0 .shl (.int 1) (.int k) s=.ok (.int (1*2^k.toNat)) s:=by
 show(if 0<=k/\k<=1000000/\(1:Int).natAbs<2^64 then _ else _:M D) s=_
 rw[if_pos ⟨h.1,h.2,by decide⟩];rfl
theorem qc {l:List D}(h:∀ d∈l,∀ n,d.bnd n=true)(n:Nat):D.bndL n l=true:=by
 induction l with
 | nil=>rfl
 | cons d l ih=>unfold D.bndL;rw[h d (aq ..),ih λ x hx=>h x (ak _ hx)];rfl
noncomputable def av2 (bits:Nat):D->Option D
 | .int i=>if(bits:Int) / (1*2^i.toNat) % 2=1 then some (.int i)else none
 | _=>none
theorem aU8 {h:Nat}{l:List D}:∀ d∈l.filterMap (av2 h),∀ n,d.bnd n=true:=λ d hd n=>by
 obtain⟨x,hx,e⟩:=cb.mp hd
 cases x with
 | int i =>
  simp only[av2]at e
  split at e
  ·cases e;rfl
  ·cases e
 | _=>cases e
theorem aJ7 {P:Pr}[Has P ab4][Has P ac2](n:Nat){s:Sto}{r:Nat}(hs:∃ b,s[r]?=some (zD b))(k:Int)(h0:0<=k)(h:k<=5) :
  ∃(F:Nat) (b:Nat×Nat),(aa1 P (n+2)).call "_law_rooms" [.ref r,.int k] s=.ok (.tup ((ac5 0 k).filterMap (av2 F))) (s.set r (zD b)):=by
 have e0:(aa1 P (n+2)).call "_law_rooms" [.ref r,.int k] s=_:=zx ac2 (n:=n+1) rfl
 have hr:=as4 hs
 have hp:(1:Int)*2^k.toNat<=32:=by
  have:k.toNat<=5:=by omega
  have J:(2:Nat)^k.toNat<=2^5:=hW (by decide) this
  have Y:((2^k.toNat:Nat):Int)<=32:=by exact_mod_cast J
  rw[fN];simpa using Y
 have a0:(0:Int)<1*2^k.toNat:=by rw[fN];exact Int.pow_pos (by decide)
 obtain⟨F,b,hb,eb⟩:=zY (P:=P) n hs (1*2^k.toNat) a0 (af4 (by omega))
 rw[e0]
 simp only[ac2,qB,ex_asg,ev_call,evas_ex,evas_nil,qi,ev_bin,ev_cst,Cn_int,aV,dA,eA,eX,qk,qj,R.bind_ok,aL4 ⟨h0,by omega⟩,eb,zT]
 simp only[aE,setV_s,setV_0,cw,setC_some,R.bind_ok,nxt_next,qB,exs_nil,ex_ret,ev_mk,z9,evI_rng1,qi,qk,qj]
 rw[qq (by unfold W62;omega) (by unfold W62;omega)]
 simp only[R.bind_ok]
 rw[if_pos (by simp[ac5];unfold LIM;omega)]
 have key:∃(ρ':Env) (s':Sto),ac7 (λ Z=>chk (s.set r (zD b)) Z []) (ap0 (aa1 P (n+1)) (.one 0) (.cmp .eq (.bin .mod (.bin .fdiv (.var 1) (.bin .shl (.cst (.int 1)) (.var 0))) (.cst (.int 2))) (.cst (.int 1))) (.var 0)) (ac5 0 k) (ql [some (.ref r),some (.int k),some (.int F)] [none,some 2]) (s.set r (zD b))=.ok ((ac5 0 k).filterMap (av2 F)) s'/\(s'=s.set r (zD b)/\∃ x,ρ'=[x,some (D.int F)]):=by
  refine zV (λ ρ u=>u=s.set r (zD b)/\∃ x,ρ=[x,some (.int F)]) (av2 F) (ac5 0 k) _ _ ⟨rfl,none,rfl⟩ (λ _ _ _=>rfl) ?_
  rintro d hd ρ u ⟨rfl,x,rfl⟩
  obtain⟨j,hj⟩:=eS hd
  obtain⟨J,rfl⟩:=qy hj
  refine⟨[some (.int (0+j)),some (.int F)],_,?_,rfl,_,rfl⟩
  have a1:j<5:=by omega
  have a2:(1:Int)*2^((0:Int)+j).toNat<=32:=by
   have:((0:Int)+j).toNat<=5:=by omega
   have J:(2:Nat)^((0:Int)+j).toNat<=2^5:=hW (by decide) this
   have Y:((2^((0:Int)+j).toNat:Nat):Int)<=32:=by exact_mod_cast J
   rw[fN];simpa using Y
  have G:(0:Int)<1*2^((0:Int)+j).toNat:=by rw[fN];exact Int.pow_pos (by decide)
  unfold ap0
  simp only[zT,setV_0,ev_cmp,ev_bin,qi,ev_cst,Cn_int,qk,qj,R.bind_ok]
  rw[aL4 ⟨by omega,by omega⟩]
  simp only[R.bind_ok]
  rw[ao1 G (by omega)]
  simp only[R.bind_ok]
  rw[ak7 (by decide)]
  simp only[R.bind_ok,eq_int,tru_bl]
  simp[av2]
  split<;>rfl
 obtain⟨ρ',s',e,h1⟩:=key
 rw[e]
 obtain⟨rfl,_⟩:=h1
 refine⟨F,b,?_⟩
 simp only[R.bind_ok,mk,nxt_ret,fin_ret]
 exact qA (λ m=>by unfold D.bnd;exact qc aU8 m) (by nofun) rfl
theorem be5 {k:Nat}(h:k<3)(s:Sto):ixM (.str [97,98,99]) (.int (k:Int)) s=.ok (.str [97+k]) s:=by
 match k,h with
 | 0,_=>rfl
 | 1,_=>rfl
 | 2,_=>rfl
theorem ao9 {P:Pr}[Has P ab4](n:Nat){s t:Sto}{r:Nat}(G:r<s.length)(b:Nat×Nat)(many:Int)(h0:0<many)(h:many<=10^90) :
  ∃(k:Nat) (F:Nat×Nat),(k:Int)<many/\(aa1 P (n+1)).call "_law_take" [.ref r,.int many] (s.set r (zD b)++t)=.ok (.int k) (s.set r (zD F)++t):=by
 obtain⟨k,F,Y,J⟩:=zY (P:=P) n (s:=s.set r (zD b)++t) (r:=r) ⟨b,zv (ae8 G)⟩ many h0 h
 refine⟨k,F,Y,?_⟩
 rw[J,aw8 (by rw[bA];exact G),c8]
theorem bG9 {s t:Sto}{r:Nat}{b:Nat×Nat}{l:List D}{v:D}(h:l.length<LIM):meth .append (.ref s.length) [v] (s.set r (zD b)++(.lst l::t))=.ok .non (s.set r (zD b)++(.lst (l++[v])::t)):=by
 rw[am8 (l:=l) (by rw[a8 (by simp)];simp) h]
 congr 1
 rw[gG,if_neg (by simp)]
 simp
theorem aV1 {a b:List Nat}{s:Sto}(h:a.length+b.length<=LIM):af0 .add (.str a) (.str b) s=.ok (.str (a++b)) s:=by
 show(if a.length+b.length<=LIM then _ else _:M D) s=_;rw[if_pos h];rfl
def Lts (L:Nat)(w:List Nat):Prop:=∀ c∈w,97<=c/\c<97+L
theorem rep_len (l:List Nat):∀ n,(rep n l).length=l.length*n
 | 0=>by simp[rep]
 | n+1=>by simp[rep,rep_len l n,jA];omega
noncomputable def bA4 (L:Nat)(d:D):Bool:=match d with
 | .str w=>decide (w.length<=200)&&w.all λ c=>decide (97<=c/\c<97+L)
 | _=>false
theorem ap6 {a b:D}{s:Sto}:qb .isin a b s=(inM a b s).bind λ r s=>.ok (.bl r) s:=rfl
theorem bc5 {a b:D}{s:Sto}:qb .notin a b s=(inM a b s).bind λ r s=>.ok (.bl (!r)) s:=rfl
@[simp] theorem bT1 {F:Fns} {ρ:Env} {s:Sto} (a:E):ev F (.neg a) ρ s=(ev F a ρ s).bind λ x s=>match x with|.int i=>.ok (.int (-i)) s|_=>.bad:=rfl
structure Dr where
 a:Nat
 l:Nat
 b:Nat
 t:Nat
noncomputable def Dr.d (x:Dr):D:=.tup [.int x.a,.str [x.l],.int x.b,.int x.t]
structure Mc where
 L:Nat
 R:Nat
 bg:List Nat
 en:List Nat
 ds:List Dr
noncomputable def aa6 (l:List Nat):List D:=l.map λ(k:Nat)=>D.int (k:Int)
noncomputable def Mc.ps (m:Mc):List D:=[.int m.L,.int m.R,.tup (aa6 m.bg),.tup (aa6 m.en),.tup (m.ds.map Dr.d)]
noncomputable def Mc.d (m:Mc):D:=.tup m.ps
structure Dr.Ok (m:Mc)(x:Dr):Prop where
 a:x.a<m.R
 l:97<=x.l/\x.l<97+m.L
 b:x.b<m.R
 t:x.t<4
structure Mc.Ok (m:Mc):Prop where
 L1:1<=m.L
 L3:m.L<=3
 R1:1<=m.R
 R5:m.R<=5
 bg:(∀ k∈m.bg,k<m.R)/\m.bg.Pairwise (· < ·)
 en:(∀ k∈m.en,k<m.R)/\m.en.Pairwise (· < ·)
 ds:(∀ x∈m.ds,x.Ok m)/\m.ds.length<=75
theorem ad5 {l:List Nat}:∀ d∈aa6 l,∀ n,d.bnd n=true:=λ d hd n=>by
 obtain⟨c,_,rfl⟩:=aS.mp hd;rfl
theorem aP1 {l:List Dr}:∀ d∈l.map Dr.d,∀ n,d.bnd n=true:=λ d hd n=>by
 obtain⟨c,_,rfl⟩:=aS.mp hd;rfl
theorem bk4 {m:Mc}:∀ d∈m.ps,∀ n,d.bnd n=true:=λ d hd n=>by
 simp only[Mc.ps,ax,bp,or_false]at hd
 rcases hd with rfl|rfl|rfl|rfl|rfl
 ·rfl
 ·rfl
 ·unfold D.bnd;exact qc ad5 n
 ·unfold D.bnd;exact qc ad5 n
 ·unfold D.bnd;exact qc aP1 n
theorem bH9 (m:Mc)(n:Nat):m.d.bnd n=true:=by unfold Mc.d D.bnd;exact qc bk4 n
noncomputable def aC7 (bits k:Nat):List Nat:=(bf k).filter λ i=>decide (bits / 2^i % 2=1)
theorem aO2 (h k:Nat):(∀ i∈aC7 h k,i<k)/\(aC7 h k).Pairwise (· < ·) :=
 ⟨λ i hi=>bL.mp (gE.mp hi).1,kA _ List.pairwise_lt_range⟩
theorem aX8 (F:Nat)(k:Nat):(ac5 0 (k:Int)).filterMap (av2 F)=aa6 (aC7 F k):=by
 unfold ac5 aC7 aa6
 simp only[jf,bJ]
 rw[cE]
 induction (bf k)with
 | nil=>rfl
 | cons i l ih =>
  rw[aO,List.filter_cons]
  have e:((F:Int) / (1*2^((0:Int)+(i:Int)).toNat) % 2=1)↔(F / 2^i % 2=1):=by
   rw[fN,show((0:Int)+(i:Int)).toNat=i by omega]
   have:((F:Int) / 2^i % 2)=((F / 2^i % 2:Nat):Int):=by simp
   rw[this];omega
  simp only[iC,av2]
  by_cases h:F / 2^i % 2=1
  ·rw[if_pos (e.mpr h)]
   simp only[h,decide_true,if_true,aV]
   rw[<-ih,fg]
  ·rw[if_neg λ z=>h (e.mp z)]
   simp only[h,decide_false]
   exact ih
theorem az7 {P:Pr}[Has P ab4][Has P ac2](n:Nat){s:Sto}{r:Nat}(hs:∃ b,s[r]?=some (zD b))(k:Nat)(h:k<=5) :
  ∃(l:List Nat) (b:Nat×Nat),((∀ i∈l,i<k)/\l.Pairwise (· < ·))/\(aa1 P (n+2)).call "_law_rooms" [.ref r,.int k] s=.ok (.tup (aa6 l)) (s.set r (zD b)):=by
 obtain⟨F,b,e⟩:=aJ7 (P:=P) n hs k (by omega) (by omega)
 rw[aX8]at e
 exact⟨_,b,aO2 F k,e⟩
def McR (s:Sto)(r:Nat)(x:R D):Prop:=∃(m:Mc) (b:Nat×Nat),m.Ok/\x=.ok m.d (s.set r (zD b))
theorem aH0 {P : Pr} [Has P ab4] [Has P ac2] [Has P ab7] (n : Nat) {s : Sto} {r : Nat} (hs : ∃ b, s[r]? = some (zD b)) : McR s r ((aa1 P (n + 3)).call "_law_machine" [.ref r] s) := by
  have e0 : (aa1 P (n + 3)).call "_law_machine" [.ref r] s = _ := zx ab7 (n := n + 2) rfl
  have hr := as4 hs
  obtain⟨a, b1, ha, e1⟩ := zY (P := P) (n + 1) hs 3 (by decide) (by decide)
  obtain⟨c, b2, hc, e2⟩ := zY (P := P) (n + 1) (af2 (b := b1) hr) 5 (by decide) (by decide)
  rw[c8]at e2
  obtain⟨m1, b3, hm1, e3⟩ := zY (P := P) (n + 1) (af2 (b := b2) hr) 13 (by decide) (by decide)
  rw[c8]at e3
  obtain⟨m2, b4, hm2, e4⟩ := zY (P := P) (n + 1) (af2 (b := b3) hr) 8 (by decide) (by decide)
  rw[c8]at e4
  obtain⟨m3, b5, hm3, e5⟩ := zY (P := P) (n + 1) (af2 (b := b4) hr) 76 (by decide) (by decide)
  rw[c8]at e5
  rw[e0]
  simp -implicitDefEqProofs [ab7, e1, e2, e3, e4]
  obtain ⟨many, bb, hmany, hif⟩ : ∃ (many : Nat) (bb : Nat × Nat), many <= 75 /\ (if (m2 : Int) = 7 then
                      ((aa1 P (n + 2)).call "_law_take" [D.ref r, D.int 76] (List.set s r (zD b4))).bind λ d s =>
                        R.ok
                          (Ct.next [some (D.ref r), some (D.int (1 + ↑a)), some (D.int (1 + ↑c)), some d, none, none]) s
                    else
                      R.ok
                        (Ct.next
                          [some (D.ref r), some (D.int (1 + ↑a)), some (D.int (1 + ↑c)), some (D.int ↑m1), none, none])
                        (List.set s r (zD b4))) = .ok (.next [some (.ref r), some (.int (1 + a)), some (.int (1 + c)), some (.int many), none, none]) (s.set r (zD bb)) := by
    by_cases h7 : (m2 : Int) = 7
    · exact⟨m3, b5, by omega, by rw[if_pos h7, e5]; rfl⟩
    · exact⟨m1, b4, by omega, by rw[if_neg h7]⟩
  rw[hif]
  simp -implicitDefEqProofs
  rw[qq (by unfold W62; omega) (by unfold W62; omega)]
  simp only[R.bind_ok]
  refine zM (W := McR s r) (λ j ρ u => ∃(b : Nat × Nat) (l : List Dr) (x : Option D), (∀ d ∈ l, d.Ok ⟨a + 1, c + 1, [], [], []⟩) /\ l.length = j /\ ρ = [some (.ref r), some (.int (1 + a)), some (.int (1 + c)), some (.int many), some (.ref s.length), x] /\ u = s.set r (zD b) ++ [.lst (l.map Dr.d)]) ⟨bb, [], none, by simp, rfl, rfl, rfl⟩ (λ _ _ _ _ _ => rfl) ?_ ?_
  · rintro j d ρ u hj ⟨b, l, x, hl, hlen, rfl, rfl⟩
    obtain⟨hj2, rfl⟩ := qy hj
    obtain⟨k1, c1, hk1, f1⟩ := ao9 (P := P) (n + 1) (t := [.lst (l.map Dr.d)]) hr b (1 + c) (by omega) (af4 (by omega))
    obtain⟨k2, c2, hk2, f2⟩ := ao9 (P := P) (n + 1) (t := [.lst (l.map Dr.d)]) hr c1 (1 + a) (by omega) (af4 (by omega))
    obtain⟨k3, c3, hk3, f3⟩ := ao9 (P := P) (n + 1) (t := [.lst (l.map Dr.d)]) hr c2 (1 + c) (by omega) (af4 (by omega))
    obtain⟨k4, c4, hk4, f4⟩ := ao9 (P := P) (n + 1) (t := [.lst (l.map Dr.d)]) hr c3 4 (by decide) (by decide)
    refine qw (ρ := [some (.ref r), some (.int (1 + a)), some (.int (1 + c)), some (.int many), some (.ref s.length), some (.int j)]) (s := s.set r (zD c4) ++ [.lst ((l ++ [(⟨k1, 97 + k2, k3, k4⟩ : Dr)]).map Dr.d)]) ?_ ⟨c4, l ++ [(⟨k1, 97 + k2, k3, k4⟩ : Dr)], _, ?_, ?_, rfl, rfl⟩
    · simp -implicitDefEqProofs [turn, f1, f2, f3, f4, be5 (show k2 < 3 by omega)]
      rw[bG9 (by unfold LIM; simp; omega)]
      rfl
    · intro d hd
      rcases bw.mp hd with h|h
      · exact hl d h
      · rw[bE.mp h]; constructor <;> simp only <;> omega
    · simp[hlen]
  · rintro ρ u ⟨b, l, x, hl, hlen, rfl, rfl⟩
    obtain⟨l1, c1, g1, f1⟩ := az7 (P := P) n (s := s.set r (zD b) ++ [.lst (l.map Dr.d)]) (r := r) ⟨b, zv (ae8 hr)⟩ (c + 1) (by omega)
    rw[aw8 (by rw[bA]; exact hr), c8]at f1
    obtain⟨l2, c2, g2, f2⟩ := az7 (P := P) n (s := s.set r (zD c1) ++ [.lst (l.map Dr.d)]) (r := r) ⟨c1, zv (ae8 hr)⟩ (c + 1) (by omega)
    rw[aw8 (by rw[bA]; exact hr), c8]at f2
    rw[show((c + 1 : Nat) : Int) = 1 + (c : Int)by omega]at f1 f2
    have hl3 : (s.set r (zD c2) ++ [O.lst (l.map Dr.d)])[s.length]? = some (.lst (l.map Dr.d)) := by rw[a8 (by simp)]; simp
    have hll : l.length <= 75 := by
      rw[hlen]; simp[ac5]; omega
    simp -implicitDefEqProofs [f1, f2, bv5, hl3, mk]
    refine⟨⟨a + 1, c + 1, l1, l2, l⟩, c2, ⟨by simp, by simp; omega, by simp, by simp; omega, g1, g2, λ x hx => ?_, hll⟩, ?_⟩
    · have := hl x hx
      exact⟨this.a, this.l, this.b, this.t⟩
    · rw[show((1 : Int) + (a : Int)) = ((a + 1 : Nat) : Int)by omega, show((1 : Int) + (c : Int)) = ((c + 1 : Nat) : Int)by omega]
      exact at6 (bH9 ⟨a + 1, c + 1, l1, l2, l⟩) (by nofun) rfl
section
variable {P:Pr}
theorem ak5 {l:List D}{s:Sto}(j:Nat){d:D}(h:l[j]?=some d):ixM (.tup l) (.int (j:Int)) s=.ok d s:=ix_tup h
theorem ixL (m:Mc)(s:Sto):ixM m.d (.int 0) s=.ok (.int m.L) s:=ak5 0 rfl
theorem ixR (m:Mc)(s:Sto):ixM m.d (.int 1) s=.ok (.int m.R) s:=ak5 1 rfl
theorem ixB (m:Mc)(s:Sto):ixM m.d (.int 2) s=.ok (.tup (aa6 m.bg)) s:=ak5 2 rfl
theorem ixE (m:Mc)(s:Sto):ixM m.d (.int 3) s=.ok (.tup (aa6 m.en)) s:=ak5 3 rfl
theorem ixD (m:Mc)(s:Sto):ixM m.d (.int 4) s=.ok (.tup (m.ds.map Dr.d)) s:=ak5 4 rfl
theorem ak2 {s:Sto}{l:List D}(h:∀ d∈l,∀ n,d.bnd n=true):zu s (.tup l) s=.ok (.tup l) s:=zP (λ n=>by unfold D.bnd;exact qc h n) (by nofun)
theorem aq9 [Has P aa7](n:Nat)(m:Mc)(s:Sto):(aa1 P (n+1)).call "begins_of" [m.d] s=.ok (.tup (aa6 m.bg)) s:=by
 refine(zx aa7 rfl).trans ?_
 simp -implicitDefEqProofs [aa7,ixB,ak2 ad5]
theorem aI8 [Has P ab2](n:Nat)(m:Mc)(s:Sto):(aa1 P (n+1)).call "ends_of" [m.d] s=.ok (.tup (aa6 m.en)) s:=by
 refine(zx ab2 rfl).trans ?_
 simp -implicitDefEqProofs [ab2,ixE,ak2 ad5]
theorem ax8 [Has P aa5](n:Nat)(m:Mc)(s:Sto):(aa1 P (n+1)).call "doors_of" [m.d] s=.ok (.tup (m.ds.map Dr.d)) s:=by
 refine(zx aa5 rfl).trans ?_
 simp -implicitDefEqProofs [aa5,ixD,ak2 aP1]
@[simp] theorem af7 (a b:Nat) (s:Sto):qb .ne (.str [a]) (.str [b]) s=.ok (.bl (!decide (a=b))) s:=by
 show(match eqv s DEEP (.str [a]) (.str [b])with|some r=>R.ok (D.bl (!r)) s|none=>.bad)=_
 have:eqv s DEEP (.str [a]) (.str [b])=some ([a]==[b]):=rfl
 rw[this]
 have e:([a]==[b])=decide (a=b):=by rw[e6];simp
 rw[e]
@[simp] theorem bt8 (a b:Nat) (s:Sto):qb .eq (.str [a]) (.str [b]) s=.ok (.bl (decide (a=b))) s:=by
 show(match eqv s DEEP (.str [a]) (.str [b])with|some r=>R.ok (D.bl r) s|none=>.bad)=_
 have:eqv s DEEP (.str [a]) (.str [b])=some ([a]==[b]):=rfl
 rw[this]
 have e:([a]==[b])=decide (a=b):=by rw[e6];simp
 rw[e]
theorem bo3 {F:List Dr}{p:Int}{x:Dr}{s:Sto}(h0:0<=p)(h:F[p.toNat]?=some x):ixM (.tup (F.map Dr.d)) (.int p) s=.ok x.d s:=by
 have:=ix_tup (s:=s) (l:=F.map Dr.d) (j:=p.toNat) (d:=x.d) (by rw[aB,h];rfl)
 rwa [show((p.toNat:Nat):Int)=p by omega]at this
theorem aH1 (x:Dr)(s:Sto):ixM x.d (.int 0) s=.ok (.int x.a) s:=ak5 0 rfl
theorem aI3 (x:Dr)(s:Sto):ixM x.d (.int 1) s=.ok (.str [x.l]) s:=ak5 1 rfl
theorem aG7 (x:Dr)(s:Sto):ixM x.d (.int 2) s=.ok (.int x.b) s:=ak5 2 rfl
theorem bb0 (x:Dr)(s:Sto):ixM x.d (.int 3) s=.ok (.int x.t) s:=ak5 3 rfl
end
noncomputable def ab3 (S:Int->Prop):Option Int->Prop
 | none=>∀ c,¬ S c
 | some c=>S c/\∀ c',S c'->c<=c'
theorem ab3.eq {S G:Int->Prop}{o F:Option Int}(h:ab3 S o)(h':ab3 G F)(e:∀ c,S c↔G c):o=F:=by
 cases o with
 | none =>
  cases F with
  | none=>rfl
  | some c=>exact absurd ((e c).mpr h'.1) (h c)
 | some c =>
  cases F with
  | none=>exact absurd ((e c).mp h.1) (h' c)
  | some c' =>
   have Y:=h.2 c' ((e c').mpr h'.1)
   have J:=h'.2 c ((e c).mp h.1)
   rw[show c=c' by omega]
theorem ab3.congr {S F:Int->Prop}{o:Option Int}(h:ab3 S o)(e:∀ c,S c↔F c):ab3 F o:=by
 cases o with
 | none=>exact λ c hc=>h c ((e c).mpr hc)
 | some c=>exact⟨(e c).mp h.1,λ G hc=>h.2 G ((e G).mpr hc)⟩
noncomputable def minO:Option Int->Option Int->Option Int
 | none,x=>x
 | some a,none=>some a
 | some a,some b=>if b<a then some b else some a
theorem ab3.or {S G:Int->Prop}{o F:Option Int}(h:ab3 S o)(h':ab3 G F):ab3 (λ c=>S c\/G c) (minO o F):=by
 cases o with
 | none =>
  cases F with
  | none=>exact λ c hc=>hc.elim (h c) (h' c)
  | some b=>exact⟨.inr h'.1,λ c hc=>hc.elim (λ z=>absurd z (h c)) (h'.2 c)⟩
 | some a =>
  cases F with
  | none=>exact⟨.inl h.1,λ c hc=>hc.elim (h.2 c) (λ z=>absurd z (h' c))⟩
  | some b =>
   show ab3 _ (if b<a then some b else some a)
   by_cases hlt:b<a
   ·rw[if_pos hlt]
    exact⟨.inr h'.1,λ c hc=>hc.elim (λ z=>by have:=h.2 c z;omega) (h'.2 c)⟩
   ·rw[if_neg hlt]
    exact⟨.inl h.1,λ c hc=>hc.elim (h.2 c) (λ z=>by have:=h'.2 c z;omega)⟩
theorem ab3.add {S:Int->Prop}{o:Option Int}(h:ab3 S o)(k:Int):ab3 (λ c=>∃ F,S F/\c=F+k) (o.map (·+k)):=by
 cases o with
 | none=>rintro c ⟨F,h',_⟩;exact h F h'
 | some a=>exact⟨⟨a,h.1,rfl⟩,by rintro c ⟨F,h',rfl⟩;have:=h.2 F h';show a+k<=F+k;omega⟩
noncomputable def Wk (ds:List Dr):List Nat->Nat->Nat->Int->Prop
 | [],p,q,c=>p=q/\c=0
 | x::w,p,q,c=>∃ d∈ds,d.a=p/\d.l=x/\∃ c':Int,Wk ds w d.b q c'/\c=(d.t:Int)+c'
theorem ak4 {Z:List Dr}{x:Nat}:∀ {w:List Nat} {p q:Nat} {c:Int},Wk Z (w++[x]) p q c↔∃ d∈Z,d.l=x/\d.b=q/\∃ F:Int,Wk Z w p d.a F/\c=F+(d.t:Int)
 | [],p,q,c=>by
  constructor
  ·rintro⟨d,hd,rfl,hx,F,⟨Y,G⟩,rfl⟩
   exact⟨d,hd,hx,Y,0,⟨rfl,rfl⟩,by omega⟩
  ·rintro⟨d,hd,hx,hb,F,⟨Y,G⟩,rfl⟩
   exact⟨d,hd,Y.symm,hx,0,⟨hb,rfl⟩,by omega⟩
 | y::w,p,q,c=>by
  constructor
  ·rintro⟨d,hd,ha,hy,F,h,rfl⟩
   obtain⟨e,he,hx,hb,J,G,rfl⟩:=ak4.mp h
   exact⟨e,he,hx,hb,d.t+J,⟨d,hd,ha,hy,J,G,rfl⟩,by omega⟩
  ·rintro⟨e,he,hx,hb,F,⟨d,hd,ha,hy,J,G,rfl⟩,rfl⟩
   exact⟨d,hd,ha,hy,J+e.t,ak4.mpr ⟨e,he,hx,hb,J,G,rfl⟩,by omega⟩
noncomputable def Dr.turn (x:Dr):Dr:=⟨x.b,x.l,x.a,x.t⟩
theorem an7 {Y:List Dr}:∀ {w:List Nat} {p q:Nat} {c:Int},Wk (Y.map Dr.turn) w.reverse q p c↔Wk Y w p q c
 | [],p,q,c=>by
  constructor
  ·rintro⟨J,G⟩;exact⟨J.symm,G⟩
  ·rintro⟨J,G⟩;exact⟨J.symm,G⟩
 | x::w,p,q,c=>by
  rw[cL,ak4]
  constructor
  ·rintro⟨d,hd,hl,hb,F,h,rfl⟩
   obtain⟨e,he,rfl⟩:=aS.mp hd
   exact⟨e,he,hb,hl,F,an7.mp h,by show F+(e.t:Int)=_;omega⟩
  ·rintro⟨e,he,ha,hl,F,h,rfl⟩
   exact⟨e.turn,aS.mpr ⟨e,he,rfl⟩,hl,ha,F,an7.mpr h,by show _=F+(e.t:Int);omega⟩
def Mc.Wk (m:Mc)(w:List Nat)(c:Int):Prop:=∃ p∈m.bg,∃ q∈m.en,DV.Wk m.ds w p q c
noncomputable def Mc.turn (m:Mc):Mc:=⟨m.L,m.R,m.en,m.bg,m.ds.map Dr.turn⟩
theorem Mc.turn_ok {m:Mc}(h:m.Ok):m.turn.Ok:=⟨h.L1,h.L3,h.R1,h.R5,h.en,h.bg,λ x hx=>by
 obtain⟨e,he,rfl⟩:=aS.mp hx
 have:=h.ds.1 e he
 exact⟨this.b,this.l,this.a,this.t⟩,by rw[show m.turn.ds=m.ds.map Dr.turn from rfl,aw];exact h.ds.2⟩
theorem Mc.turn_wk {m:Mc}{w:List Nat}{c:Int}:m.turn.Wk w.reverse c↔m.Wk w c:=by
 constructor
 ·rintro⟨p,hp,q,hq,h⟩;exact⟨q,hq,p,hp,an7.mp h⟩
 ·rintro⟨p,hp,q,hq,h⟩;exact⟨q,hq,p,hp,an7.mpr h⟩
noncomputable def ae6 (row:List (Option Int)):List D:=row.map al5
theorem aA4 (row:List (Option Int)):(ae6 row).length=row.length:=aw ..
theorem az4 {row:List (Option Int)}{k:Nat}{o:Option Int}(h:row[k]?=some o):(ae6 row)[k]?=some (al5 o):=by unfold ae6;rw[aB,h];rfl
theorem aN0 {s T:Sto}{k:Nat}{o:O}(h:s.length<=k):(s++T).set k o=s++T.set (k - s.length) o:=by rw[gG,if_neg (by omega)]
def qE (S:Nat->Int->Prop)(row:List (Option Int)):Prop:=∀ k o,row[k]?=some o->ab3 (S k) o
theorem ah5 {s:Sto}{k:Nat}:∀ {l:List Nat},inL s (.int k) (aa6 l)=some (decide (k∈l))
 | []=>rfl
 | a::l=>by
  have F:=ah5 (s:=s) (k:=k) (l:=l)
  have e:eqv s DEEP (.int (a:Int)) (.int (k:Int))=some ((a:Int)==(k:Int)):=rfl
  show(match eqv s DEEP (.int (a:Int)) (.int (k:Int)),inL s (.int k) (aa6 l)with|some a,some b=>some (a||b)|_,_=>none)=_
  rw[e,F]
  show some (((a:Int)==(k:Int))||decide (k∈l))=some _
  congr 1
  rw[e6]
  simp
  constructor
  ·rintro(h|h)
   ·exact .inl (by omega)
   ·exact .inr h
  ·rintro(h|h)
   ·exact .inl (by omega)
   ·exact .inr h
theorem aD0 {s:Sto}{k:Nat}{l:List Nat}:inM (.int k) (.tup (aa6 l)) s=.ok (decide (k∈l)) s:=by unfold inM;simp only[ah5]
theorem aO1 (b:Bool)(s:Sto):bi .int [.bl b] s=.ok (.int (if b then 1 else 0)) s:=by cases b<;>rfl
theorem am6:∀ l:List Int,qa (l.map D.int)=some l
 | []=>rfl
 | a::l=>by rw[aV];unfold qa;rw[am6 l];rfl
theorem aq4:∀(l:List Int) (a:Int),(l.foldl min a=a\/l.foldl min a∈l)/\l.foldl min a<=a/\∀ y∈l,l.foldl min a<=y
 | [],a=>⟨.inl rfl,dW _,λ y hy=>by cases hy⟩
 | b::l,a=>by
  obtain⟨G,J,F⟩:=aq4 l (min a b)
  rw[db]
  refine⟨?_,by omega,λ y hy=>?_⟩
  ·rcases G with h|h
   ·rw[h]
    rcases km a b with z|z
    ·left;omega
    ·right;rw[show min a b=b by omega];exact aq ..
   ·exact .inr (ak _ h)
  ·rcases ax.mp hy with z|z
   ·rw[z];omega
   ·exact F y z
theorem am7 (l:List Int):ab3 (λ c=>c∈l) (minI l):=by
 cases l with
 | nil=>exact λ c hc=>by cases hc
 | cons a l =>
  obtain⟨J,G,F⟩:=aq4 l a
  refine⟨?_,λ y hy=>?_⟩
  ·rcases J with h|h
   ·rw[h];exact aq ..
   ·exact ak _ h
  ·rcases ax.mp hy with z|z
   ·rw[z];exact G
   ·exact F y z
theorem bo4 (l:List Int)(s:Sto):mkD .min (l.map D.int) .non s=.ok (al5 (minI l)) s:=by
 unfold mkD
 simp only[am6]
 cases minI l<;>rfl
def aT9 (m:Mc)(w:List Nat)(s:Sto)(x:R D):Prop:=∃ o,ab3 (m.Wk w) o/\x=.ok (al5 o) s
def af1 (S:Nat->Int->Prop)(x:Nat)(ds:List Dr)(k:Nat)(c:Int):Prop:=∃ d∈ds,d.l=x/\d.b=k/\∃ c':Int,S d.a c'/\c=c'+(d.t:Int)
theorem ad6 {S:Nat->Int->Prop}{x:Nat}{G:List Dr}{d:Dr}{J:List (Option Int)}(h:qE (af1 S x G) J)(hn:∀ F,¬(d.l=x/\S d.a F)):qE (af1 S x (G++[d])) J:=λ k o hk=>by
 refine(h k o hk).congr λ c=>?_
 constructor
 ·rintro⟨e,he,r⟩;exact⟨e,bw.mpr (.inl he),r⟩
 ·rintro⟨e,he,hl,hb,F,hs,r⟩
  rcases bw.mp he with z|z
  ·exact⟨e,z,hl,hb,F,hs,r⟩
  ·rw[bE.mp z]at hl hs;exact absurd ⟨hl,hs⟩ (hn F)
theorem ap8 {S:Nat->Int->Prop}{x:Nat}{G:List Dr}{d:Dr}{F:List (Option Int)}{i:Int}(h:qE (af1 S x G) F)(hx:d.l=x)(hi:ab3 (S d.a) (some i)){o:Option Int}(ho:F[d.b]?=some o) :
  qE (af1 S x (G++[d])) (F.set d.b (minO o (some (i+d.t)))):=λ k J hk=>by
 have hlt:d.b<F.length:=(ac.mp ho).1
 by_cases e:d.b=k
 ·subst e
  rw[aL hlt]at hk
  cases hk
  refine((h _ o ho).or (hi.add d.t)).congr λ c=>?_
  constructor
  ·rintro(⟨e,he,r⟩|r)
   ·exact⟨e,bw.mpr (.inl he),r⟩
   ·exact⟨d,bw.mpr (.inr (bE.mpr rfl)),hx,rfl,r⟩
  ·rintro⟨e,he,hl,hb,r⟩
   rcases bw.mp he with z|z
   ·exact .inl ⟨e,z,hl,hb,r⟩
   ·rw[bE.mp z]at r;exact .inr r
 ·rw[aP e]at hk
  refine(h k J hk).congr λ c=>?_
  constructor
  ·rintro⟨e,he,r⟩;exact⟨e,bw.mpr (.inl he),r⟩
  ·rintro⟨e',he,hl,hb,r⟩
   rcases bw.mp he with z|z
   ·exact⟨e',z,hl,hb,r⟩
   ·rw[bE.mp z]at hb;exact absurd hb e
def FromS (m:Mc)(w:List Nat)(k:Nat)(c:Int):Prop:=∃ p∈m.bg,Wk m.ds w p k c
theorem ap9 {m:Mc}{w:List Nat}{x k:Nat}{c:Int}:af1 (FromS m w) x m.ds k c↔FromS m (w++[x]) k c:=by
 constructor
 ·rintro⟨d,hd,hl,hb,F,⟨p,hp,h⟩,rfl⟩
  exact⟨p,hp,ak4.mpr ⟨d,hd,hl,hb,F,h,rfl⟩⟩
 ·rintro⟨p,hp,h⟩
  obtain⟨d,hd,hl,hb,F,G,rfl⟩:=ak4.mp h
  exact⟨d,hd,hl,hb,F,⟨p,hp,G⟩,rfl⟩
theorem ag1 {m:Mc}{w:List Nat}{row:List (Option Int)}(Y:row.length=m.R)(Z:∀ k∈m.en,k<m.R)(h:qE (FromS m w) row):ab3 (m.Wk w) (minI (m.en.filterMap λ q=>row.getD q none)):=by
 have at_:∀ q∈m.en,∃ o,row[q]?=some o/\row.getD q none=o/\ab3 (FromS m w q) o:=λ q hq=>by
  have hlt:q<row.length:=by rw[Y];exact Z q hq
  exact⟨row[q],ag hlt,by simp[List.getD,hlt],h q _ (ag hlt)⟩
 have F:∀ c,c∈(m.en.filterMap λ q=>row.getD q none)↔∃ q∈m.en,row.getD q none=some c:=λ c=>cb
 have hl:=am7 (m.en.filterMap λ q=>row.getD q none)
 cases e:minI (m.en.filterMap λ q=>row.getD q none)with
 | none =>
  rw[e]at hl
  rintro c ⟨p,hp,q,hq,hw⟩
  obtain⟨o,h1,J,G⟩:=at_ q hq
  cases o with
  | none=>exact G c ⟨p,hp,hw⟩
  | some y=>exact hl y ((F y).mpr ⟨q,hq,J⟩)
 | some z =>
  rw[e]at hl
  obtain⟨q,hq,hz⟩:=(F z).mp hl.1
  refine⟨?_,λ c hc=>?_⟩
  ·obtain⟨o,h1,J,G⟩:=at_ q hq
   rw[J]at hz;subst hz
   obtain⟨p,hp,hw⟩:=G.1
   exact⟨p,hp,q,hq,hw⟩
  ·obtain⟨p,hp,q,hq,hw⟩:=hc
   obtain⟨o,h1,J,G⟩:=at_ q hq
   cases o with
   | none=>exact absurd ⟨p,hp,hw⟩ (G c)
   | some y =>
    have h4:=G.2 c ⟨p,hp,hw⟩
    have h5:=hl.2 y ((F y).mpr ⟨q,hq,J⟩)
    omega
theorem zK {α β:Type}{f g:α->Option β}:∀ {l:List α},(∀ x∈l,f x=g x)->l.filterMap f=l.filterMap g
 | [],_=>rfl
 | a::l,h=>by rw[aO,aO,h a (aq ..),zK λ x hx=>h x (ak _ hx)]
theorem good_of {L:Nat}{w:List Nat}(h:w.length<=200)(hw:Lts L w):bA4 L (.str w)=true:=by
 unfold bA4
 simp only[h,decide_true,iE,aU,decide_eq_true_eq]
 exact hw
@[simp] theorem bP3 {F:Fns} {ρ:Env} {s:Sto} (a b:E):evI F (.zip (.seq a) (.seq b)) ρ s=(ev F a ρ s).bind λ x s=>(ev F b ρ s).bind λ y s=>(aj0 x s).bind λ p s=>(aj0 y s).bind λ q s=>.ok ⟨bK7 p.its q.its,p.src++q.src⟩ s:=rfl
theorem ix_str {l:List Nat}{j c:Nat}{s:Sto}(hj:l[j]?=some c):ixM (.str l) (.int (j:Int)) s=.ok (.str [c]) s:=by
 have hl:j<l.length:=(ac.mp hj).1
 have e:l[j]=c:=(ac.mp hj).2
 simp[ixM,ixn,hl,e]
theorem zQ {s:Sto}{o:O}:(s++[o])[s.length]?=some o:=by simp
theorem aU1 {P:Pr}[Has P ac3](n:Nat){m:Mc}(hm:m.Ok)(w:List Nat)(hw:w.length<=1000)(s:Sto):aT9 m.turn w.reverse s ((aa1 P (n+1)).call "_law_least" [m.d,.str w] s):=by
 have g3:=Mc.turn_ok hm
 have b5:m.turn.ds=m.ds.map Dr.turn:=rfl
 have f3:m.turn.en=m.bg:=rfl
 have e0:(aa1 P (n+1)).call "_law_least" [m.d,.str w] s=_:=zx ac3 (n:=n) rfl
 rw[e0]
 have h5:=hm.R5
 simp -implicitDefEqProofs [ac3,ixR]
 rw[qq (by unfold W62;omega) (by unfold W62;omega)]
 simp only[R.bind_ok]
 rw[if_pos (by simp[ac5];unfold LIM;omega)]
 obtain⟨ρ1,s1,e1,c2,x1,h1⟩:=zV (ok:=λ a4=>chk s a4 []) (g:=as5 (aa1 P n) (.one 0) (.ite (.cmp .isin (.var 0) (.ix (.var 1) (.cst (.int 3)))) (.cst (.int 0)) (.cst .non))) (λ ρ u=>u=s/\∃ x,ρ=[x,some m.d])
  (λ d=>match d with|.int i=>some (al5 (if i.toNat∈m.en then some 0 else none))|_=>none) (ac5 0 m.R) (ql [some m.d,some (.str w),none,none,none,none,none,none,none,none] [none,some 0]) s ⟨rfl,none,rfl⟩ (λ _ _ _=>rfl) (by
   rintro d hd ρ u ⟨rfl,x,rfl⟩
   obtain⟨j,hj⟩:=eS hd
   obtain⟨h0,rfl⟩:=qy hj
   rw[fg]
   have b6:=aD0 (s:=u) (k:=j) (l:=m.en)
   by_cases hb:j∈m.en
   ·refine⟨[some (.int j),some m.d],u,?_,rfl,_,rfl⟩
    unfold as5
    simp -implicitDefEqProofs only[zT,setV_0,ev_ite,ev_cst,Cn_non,Cn_int,R.bind_ok,ev_ix,ev_cmp,qi,qk,qj,ixE,ap6,b6,hb,decide_true,if_true,tru_bl,bJ,au7]
   ·refine⟨[some (.int j),some m.d],u,?_,rfl,_,rfl⟩
    unfold as5
    simp -implicitDefEqProofs only[zT,setV_0,ev_ite,ev_cst,Cn_non,Cn_int,R.bind_ok,ev_ix,ev_cmp,qi,qk,qj,ixE,ap6,b6,hb,decide_false,if_false,bO,tru_bl,bJ,aj7])
 rw[c2]at e1
 have c1:(ac5 0 (m.R:Int)).filterMap (λ d=>match d with|.int i=>some (al5 (if i.toNat∈m.en then some 0 else none))|_=>none)=ae6 ((bf m.R).map λ k=>if k∈m.en then some 0 else none):=by
  unfold ac5 ae6
  rw[cE,jg,<-ed]
  simp only[jf,bJ]
  refine zK λ k _=>?_
  simp only[iC,fg,bJ]
 rw[c1]at e1
 rw[e1]
 simp -implicitDefEqProofs [mk]
 have sW:∀ S,bv6 (.str w) S=.ok (.str w.reverse) S:=λ _=>rfl
 rw[sW]
 simp only[R.bind_ok]
 generalize w.reverse=w'
 have f1:∀ S,as9 (.str w') S=.ok ⟨w'.map λ c=>.str [c],[]⟩ S:=λ _=>rfl
 rw[f1]
 simp only[R.bind_ok]
 refine zM (W:=aT9 m.turn w' s) (λ j ρ u=>∃(T:Sto) (k2:Nat) (row:List (Option Int)) (x3 x4 x5 x6 x7 x8 J:Option D),u=s++T/\s.length<=k2/\u[k2]?=some (.lst (ae6 row))/\row.length=m.R/\qE (FromS m.turn (w'.take j)) row/\ρ=[some m.d,some (.str w),some (.ref k2),x3,x4,x5,x6,x7,x8,J])
  ⟨_,s.length,(bf m.R).map (λ k=>if k∈m.en then some 0 else none),_,_,_,_,_,_,_,rfl,by omega,by simp,by simp,?_,rfl⟩ (λ _ _ _ _ _=>rfl) ?_ ?_
 ·intro k o hk
  rw[aB]at hk
  by_cases hkR:k<m.R
  ·rw[dH hkR]at hk
   cases hk
   show ab3 _ (if k∈m.en then some 0 else none)
   by_cases hb:k∈m.en
   ·rw[if_pos hb]
    exact⟨⟨k,hb,rfl,rfl⟩,by rintro c ⟨p,_,_,rfl⟩;omega⟩
   ·rw[if_neg hb]
    rintro c ⟨p,hp,rfl,_⟩;exact hb hp
  ·rw[bS (by simp;omega)]at hk;cases hk
 ·rintro j d ρ u hj ⟨T,k2,row,x3,x4,x5,x6,x7,x8,J,rfl,c4,g2,a1,a3,rfl⟩
  obtain⟨c,hc,rfl⟩:∃ c,w'[j]?=some c/\d=.str [c]:=by
   rw[aB]at hj
   cases e:w'[j]? with
   | none=>rw[e]at hj;cases hj
   | some c=>rw[e]at hj;cases hj;exact⟨c,rfl,rfl⟩
  have g0:k2<(s++T).length:=(ac.mp g2).1
  have sq:as9 (.ref k2) (s++T)=.ok ⟨ae6 row,[k2]⟩ (s++T):=by simp only[as9,g2]
  obtain⟨ρ2,s2,e2,d2,_⟩:=zV (ok:=λ a4=>chk (s++T) a4 [k2]) (g:=as5 (aa1 P n) (.one 0) (.cst .non)) (λ ρ u=>u=s++T/\∃ x,ρ=[x]) (λ _=>some .non) (ae6 row) (ql [some m.d,some (.str w),some (.ref k2),some (.str [c]),x4,x5,x6,x7,x8,J] [none]) (s++T) ⟨rfl,none,rfl⟩ (λ _ _ h=>by rw[h.1];simp[chk]) (by
   rintro d _ ρ u ⟨rfl,x,rfl⟩
   exact⟨[some d],s++T,by unfold as5;simp -implicitDefEqProofs,rfl,_,rfl⟩)
  subst d2
  have e4:(ae6 row).filterMap (λ _=>some D.non)=ae6 (row.map λ _=>none):=by
   unfold ae6
   rw[jg,cE,<-ed]
   exact zK λ _ _=>rfl
  rw[e4]at e2
  have e5:(ae6 row).length<=LIM:=by rw[aA4,a1];unfold LIM;omega
  have sD:∀ S,as9 (.tup (m.ds.map Dr.d)) S=.ok ⟨m.ds.map Dr.d,[]⟩ S:=λ _=>rfl
  conv=>arg 2;simp -implicitDefEqProofs [turn,sq,e5,e2,mk,ixD,sD]
  rw[<-be,<-aR]
  have d0:(s++T++[O.lst (ae6 (row.map λ _=>none))])[(s++T).length]?=some (.lst (ae6 (row.map λ _=>none))):=by simp
  have c0:s.length<=(s++T).length:=by simp
  generalize f5:(s++T).length=k4 at *
  have f4:w'.take j++[c]=w'.take (j+1):=by
   have hlt:j<w'.length:=(ac.mp hc).1
   have e:w'[j]=c:=(ac.mp hc).2
   rw[<-e,cf]
  refine zM (W:=Nx _) (λ i ρ v=>∃(F:Sto) (G:List (Option Int)) (y5 y6 y7 y8:Option D),v=s++F/\v[k2]?=some (.lst (ae6 row))/\v[k4]?=some (.lst (ae6 G))/\G.length=m.R/\qE (af1 (FromS m.turn (w'.take j)) c (m.turn.ds.take i)) G/\ρ=[some m.d,some (.str w),some (.ref k2),some (.str [c]),some (.ref k4),y5,y6,y7,y8,J])
   ⟨T++[.lst (ae6 (row.map λ _=>none))],row.map λ _=>none,_,_,_,_,by simp,zv g2,d0,by simp[a1],?_,rfl⟩ (λ _ _ _ _ _=>rfl) ?_ ?_
  ·intro k o hk
   rw[aB]at hk
   cases e:row[k]? with
   | none=>rw[e]at hk;cases hk
   | some _ =>
    rw[e]at hk;cases hk
    rintro c' ⟨d,hd,_⟩
    rw[hX]at hd;cases hd
  ·rintro i d ρ v hi ⟨F,G,y5,y6,y7,y8,rfl,b0,g4,Z,a0,rfl⟩
   obtain⟨x,hx,rfl⟩:∃ x,m.ds[i]?=some x/\d=x.d:=by
    rw[aB]at hi
    cases e:m.ds[i]? with
    | none=>rw[e]at hi;cases hi
    | some x=>rw[e]at hi;cases hi;exact⟨x,rfl,rfl⟩
   have hok:=hm.ds.1 x (aX hx)
   have a6:m.turn.ds.take (i+1)=m.turn.ds.take i++[x.turn]:=by
    have hlt:i<m.ds.length:=(ac.mp hx).1
    have e:m.ds[i]=x:=(ac.mp hx).2
    rw[b5,<-j1,<-j1,<-cf hlt,e,e7];rfl
   obtain⟨oa,ha⟩:∃ o,row[x.b]?=some o:=⟨row[x.b]'(by rw[a1];exact hok.b),ag _⟩
   obtain⟨ob,hb⟩:∃ o,G[x.a]?=some o:=⟨G[x.a]'(by rw[Z];exact hok.a),ag _⟩
   have ia:ixM (.ref k2) (.int x.b) (s++F)=.ok (al5 oa) (s++F):=ai9 b0 (az4 ha)
   have ib:ixM (.ref k4) (.int x.a) (s++F)=.ok (al5 ob) (s++F):=ai9 g4 (az4 hb)
   have hne:k2≠k4:=by omega
   have f2:k4<(s++F).length:=(ac.mp g4).1
   have a5:x.d=.tup [.int x.a,.str [x.l],.int x.b,.int x.t]:=rfl
   have ta:x.turn.a=x.b:=rfl
   have tb:x.turn.b=x.a:=rfl
   have tl:x.turn.l=x.l:=rfl
   have tt:x.turn.t=x.t:=rfl
   have stay:qE (af1 (FromS m.turn (w'.take j)) c (m.turn.ds.take (i+1))) G->∃(b4:Sto) (Y:List (Option Int)) (z5 z6 z7 z8:Option D),s++F=s++b4/\(s++F)[k2]?=some (.lst (ae6 row))/\(s++F)[k4]?=some (.lst (ae6 Y))/\Y.length=m.R/\qE (af1 (FromS m.turn (w'.take j)) c (m.turn.ds.take (i+1))) Y/\[some m.d,some (.str w),some (.ref k2),some (.str [c]),some (.ref k4),some (.int x.a),some (.str [x.l]),some (.int x.b),some (.int x.t),J]=[some m.d,some (.str w),some (.ref k2),some (.str [c]),some (.ref k4),z5,z6,z7,z8,J]:=λ h=>⟨F,G,_,_,_,_,rfl,b0,g4,Z,h,rfl⟩
   by_cases hl:x.l=c
   ·cases oa with
    | none =>
     refine qw (ρ:=[some m.d,some (.str w),some (.ref k2),some (.str [c]),some (.ref k4),some (.int x.a),some (.str [x.l]),some (.int x.b),some (.int x.t),J]) (s:=s++F) ?_ (stay ?_)
     ·simp -implicitDefEqProofs only[turn,a5,bindT_tup,setVs_cons,setVs_nil,setV_s,setV_0,cw,Option.bind_some,qB,exs_nil,ex_ite,ev_and,ev_cmp,qi,qk,qj,R.bind_ok,bt8,hl,decide_true,tru_bl,if_true,ev_notN,ev_ix,ia,aj7,j0,if_false,bO,nxt_next]
     ·rw[a6]
      refine ad6 (d:=x.turn) a0 λ c' b3=>?_
      exact a3 x.b none ha c' b3.2
    | some y =>
     have a2:=ap8 (d:=x.turn) a0 hl (a3 x.b (some y) ha) hb
     rw[tb,tt]at a2
     have b1:setIx (.ref k4) (.int x.a) (.int (y+x.t)) (s++F)=.ok () ((s++F).set k4 (.lst (ae6 (G.set x.a (some (y+x.t)))))):=by
      rw[bm2 g4 (by rw[aA4,Z];exact hok.a)]
      unfold ae6
      rw[ko];rfl
     have b2:minO ob (some (y+x.t))=some (y+x.t)->∃(b4:Sto) (Y:List (Option Int)) (z5 z6 z7 z8:Option D),(s++F).set k4 (.lst (ae6 (G.set x.a (some (y+x.t)))))=s++b4/\((s++F).set k4 (.lst (ae6 (G.set x.a (some (y+x.t))))))[k2]?=some (.lst (ae6 row))/\((s++F).set k4 (.lst (ae6 (G.set x.a (some (y+x.t))))))[k4]?=some (.lst (ae6 Y))/\Y.length=m.R/\qE (af1 (FromS m.turn (w'.take j)) c (m.turn.ds.take (i+1))) Y/\[some m.d,some (.str w),some (.ref k2),some (.str [c]),some (.ref k4),some (.int x.a),some (.str [x.l]),some (.int x.b),some (.int x.t),J]=[some m.d,some (.str w),some (.ref k2),some (.str [c]),some (.ref k4),z5,z6,z7,z8,J]:=λ h =>
      ⟨_,G.set x.a (some (y+x.t)),_,_,_,_,aN0 c0,by rw[aP (bX hne)];exact b0,ae8 f2,by simp[Z],by rw[a6,<-h];exact a2,rfl⟩
     cases ob with
     | none =>
      refine qw (ρ:=[some m.d,some (.str w),some (.ref k2),some (.str [c]),some (.ref k4),some (.int x.a),some (.str [x.l]),some (.int x.b),some (.int x.t),J]) (s:=(s++F).set k4 (.lst (ae6 (G.set x.a (some (y+x.t)))))) ?_ (b2 rfl)
      simp -implicitDefEqProofs [turn,a5,hl,ia,ib,b1]
     | some z =>
      by_cases hlt:y+x.t<z
      ·refine qw (ρ:=[some m.d,some (.str w),some (.ref k2),some (.str [c]),some (.ref k4),some (.int x.a),some (.str [x.l]),some (.int x.b),some (.int x.t),J]) (s:=(s++F).set k4 (.lst (ae6 (G.set x.a (some (y+x.t)))))) ?_ (b2 (by show(if y+(x.t:Int)<z then _ else _)=_;rw[if_pos hlt]))
       simp -implicitDefEqProofs [turn,a5,hl,ia,ib,b1,hlt]
      ·refine qw (ρ:=[some m.d,some (.str w),some (.ref k2),some (.str [c]),some (.ref k4),some (.int x.a),some (.str [x.l]),some (.int x.b),some (.int x.t),J]) (s:=s++F) ?_ (stay ?_)
       ·simp -implicitDefEqProofs [turn,a5,hl,ia,ib,hlt]
       ·rw[a6]
        have e:minO (some z) (some (y+(x.t:Int)))=some z:=by show(if y+(x.t:Int)<z then _ else _)=_;rw[if_neg hlt]
        rw[e]at a2
        have e2:G.set x.a (some z)=G:=by
         have g1:x.a<G.length:=(ac.mp hb).1
         have e3:G[x.a]=some z:=(ac.mp hb).2
         rw[<-e3,eg]
        rwa [e2]at a2
   ·refine qw (ρ:=[some m.d,some (.str w),some (.ref k2),some (.str [c]),some (.ref k4),some (.int x.a),some (.str [x.l]),some (.int x.b),some (.int x.t),J]) (s:=s++F) ?_ (stay ?_)
    ·simp -implicitDefEqProofs [turn,a5,hl]
    ·rw[a6]
     exact ad6 (d:=x.turn) a0 λ c' b3=>hl b3.1
  ·rintro ρ v ⟨F,G,y5,y6,y7,y8,rfl,b0,g4,Z,a0,rfl⟩
   rw[aw,show m.ds.length=m.turn.ds.length by rw[b5,aw],dE]at a0
   refine qw (ρ:=[some m.d,some (.str w),some (.ref k4),some (.str [c]),some (.ref k4),y5,y6,y7,y8,J]) (s:=s++F) (by simp -implicitDefEqProofs) ⟨F,k4,G,_,_,_,_,_,_,_,rfl,c0,g4,Z,?_,rfl⟩
   intro k o hk
   rw[<-f4]
   exact(a0 k o hk).congr λ c=>ap9
 ·rintro ρ u ⟨T,k2,row,x3,x4,x5,x6,x7,x8,J,rfl,c4,g2,a1,a3,rfl⟩
  rw[aw,dE]at a3
  have sE:as9 (.tup (aa6 m.bg)) (s++T)=.ok ⟨aa6 m.bg,[]⟩ (s++T):=rfl
  have g5:m.bg.length<=5:=by
   have nd:m.bg.Nodup:=hm.bg.2.imp (λ h=>ay h)
   have:=cW (l₂:=bf m.R) nd (λ x hx=>bL.mpr (hm.bg.1 x hx))
   simp at this;omega
  obtain⟨ρ3,s3,e3,c3,_⟩:=zV (ok:=λ a4=>chk (s++T) a4 []) (g:=ap0 (aa1 P n) (.one 0) (.notN (.ix (.var 1) (.var 0))) (.ix (.var 1) (.var 0))) (λ ρ u=>u=s++T/\∃ x,ρ=[x,some (.ref k2)]) (λ d=>match d with|.int i=>(row.getD i.toNat none).map D.int|_=>none) (aa6 m.bg) (ql [some m.d,some (.str w),some (.ref k2),x3,x4,x5,x6,x7,x8,J] [none,some 2]) (s++T) ⟨rfl,none,rfl⟩ (λ _ _ h=>rfl) (by
   rintro d hd ρ u ⟨rfl,x,rfl⟩
   obtain⟨q,hq,rfl⟩:=aS.mp hd
   have hlt:q<row.length:=by rw[a1];exact hm.bg.1 q hq
   have ix:=ai9 (s:=s++T) g2 (az4 (ag hlt))
   refine⟨[some (.int q),some (.ref k2)],s++T,?_,rfl,_,rfl⟩
   have hg:row.getD ((q:Int).toNat) none=row[q]:=by simp[List.getD,hlt]
   unfold ap0
   simp only[hg]
   cases e:row[q]with
   | none=>rw[e]at ix;simp -implicitDefEqProofs [ix]
   | some y=>rw[e]at ix;simp -implicitDefEqProofs [ix])
  subst c3
  have f0:(aa6 m.bg).filterMap (λ d=>match d with|.int i=>(row.getD i.toNat none).map D.int|_=>none)=(m.bg.filterMap λ q=>row.getD q none).map D.int:=by
   unfold aa6
   rw[cE,List.map_filterMap]
   exact zK λ q _=>rfl
  rw[f0]at e3
  refine⟨_,ag1 (m:=m.turn) a1 hm.bg.1 a3,?_⟩
  have d1:(aa6 m.bg).length<=LIM:=by unfold aa6;rw[aw];unfold LIM;omega
  have a2:av5 (.ref (s++T).length) (s++T++[O.lst ((m.bg.filterMap λ q=>row.getD q none).map D.int)])=.ok ((m.bg.filterMap λ q=>row.getD q none).map D.int) (s++T++[O.lst ((m.bg.filterMap λ q=>row.getD q none).map D.int)]):=by simp only[av5,zQ]
  simp -implicitDefEqProofs only[qB,exs_nil,ex_asg,ex_ret,ev_mk,z9,evI_seq,ev_ix,qi,ev_cst,Cn_int,qk,qj,R.bind_ok,ixB,sE,d1,if_true,e3,mk,alloc_eq,setC_some,zT,setV_s,setV_0,cw,nxt_next,ev_mkDs,Cn_non,a2,bo4,nxt_ret,fin_ret]
  rw[be,f3]
  exact ae2 (aA5 _) (aA9 _)
theorem aY4 {P:Pr}[Has P ac3](n:Nat){m:Mc}(F:m.Ok)(w:List Nat)(hw:w.length<=1000)(s:Sto):aT9 m w s ((aa1 P (n+1)).call "_law_least" [m.d,.str w] s):=by
 obtain⟨o,h,e⟩:=aU1 (P:=P) n F w hw s
 exact⟨o,h.congr λ c=>Mc.turn_wk,e⟩
theorem aA0 {n:Nat}:∀ {l:List D},D.bndL n l=true->∀ x∈l,x.bnd n=true
 | [],_,x,hx=>by cases hx
 | d::l,h,x,hx=>by
  unfold D.bndL at h
  rw[aj]at h
  rcases ax.mp hx with rfl|hx
  ·exact h.1
  ·exact aA0 h.2 x hx
@[simp] theorem bL3 {F:Fns} {ρ:Env} {s:Sto} (a lo hi:E):ev F (.slLU a lo hi) ρ s=(ev F a ρ s).bind λ x s=>(ev F lo ρ s).bind λ y s=>match y with|.int i=>(ev F hi ρ s).bind (λ z s=>match z with|.int j=>slM x (some i) (some j) s|_=>.bad)|_=>.bad:=rfl
theorem enumL_len:∀(l:List D) (m:Nat),(ac0 m l).length=l.length
 | [],_=>rfl
 | a::l,m=>by unfold ac0;rw[aK,aK,enumL_len l]
@[simp] theorem bJ7 {F:Fns} {ρ:Env} {s:Sto} (e:E):evI F (.enum (.seq e)) ρ s=(ev F e ρ s).bind λ d s=>(ar2 d s).bind λ q s=>.ok ⟨ac0 0 q.its,q.src⟩ s:=rfl
noncomputable def row (m:Nat)(f:Nat->Int):List D:=(bf m).map λ j=>.int (f j)
@[simp] theorem bP4 {m:Nat} {f:Nat->Int}:(row m f).length=m:=by unfold row;simp
noncomputable def prN (f g:Nat->Nat->Int)(i j:Nat):Nat->Int
 | 0=>3
 | k+1=>if f i k<3 then(let b:=(if g k j > f i k then g k j else f i k);if b<prN f g i j k then b else prN f g i j k)else prN f g i j k
noncomputable def pr (m:Nat)(f g:Nat->Nat->Int)(i j:Nat):Int:=prN f g i j m
noncomputable def bG1 (m:Nat)(f:Nat->Nat->Int):Sto:=(bf m).map λ i=>.lst (row m (f i))
@[simp] theorem bA9 {m:Nat} {f:Nat->Nat->Int}:(bG1 m f).length=m:=by unfold bG1;simp
noncomputable def bW0 (p m:Nat):List D:=(bf m).map λ i=>.ref (p+i)
noncomputable def shN (f:Nat->Nat->Int)(i j:Nat):Nat->Int
 | 0=>3
 | k+1=>let b:=max (max (f i k) (if f k k=1 then 2 else f k k)) (f k j);if b<shN f i j k then b else shN f i j k
noncomputable def sh (m:Nat)(f:Nat->Nat->Int)(i j:Nat):Int:=shN f i j m
inductive Stp where
 | let_ (c:Nat)|pair (i j:Nat)|sharp (i:Nat)
noncomputable def Stp.d:Stp->D
 | .let_ c=>.tup [.str [108,101,116,116,101,114],.str [c]]
 | .pair i j=>.tup [.str [112,97,105,114],.int i,.int j]
 | .sharp i=>.tup [.str [115,104,97,114,112],.int i]
theorem aE4 {l:List D}(h:∀ d∈l,d.ncl=true):D.nclL l=true:=by
 induction l with
 | nil=>rfl
 | cons d l ih=>unfold D.nclL;rw[h d (aq ..),ih λ x hx=>h x (ak _ hx)];rfl
theorem ba3 {l:List Nat}:D.nclL (aa6 l)=true:=aE4 λ d hd=>by obtain⟨x,_,rfl⟩:=aS.mp hd;rfl
theorem bb7 {l:List Int}:D.nclL (l.map D.int)=true:=aE4 λ d hd=>by obtain⟨x,_,rfl⟩:=aS.mp hd;rfl
theorem bk7 {s:Sto}{r:Nat}{o:O}(h:s.all O.ncl=true)(ho:o.ncl=true):(s.set r o).all O.ncl=true:=by
 rw[aU]at h ⊢
 intro x hx
 rcases fB hx with h1|h1
 ·exact h x h1
 ·rw[h1];exact ho
section
variable {s:Sto} {r:Nat} {b:Int} {A B C:List D} {T:Sto}
end
section
variable {m:Nat} {f:Nat->Nat->Int} {x:Int}
end
section
variable {F:Fns} {ρ:Env} {s:Sto}
end
theorem ao6 {s:Sto}{o:O}(h:s.all O.ncl=true)(ho:o.ncl=true):(s++[o]).all O.ncl=true:=by rw[List.all_append,h];simp[ho]
noncomputable def Stp.t (c:Int):Stp->D
 | .sharp i=>.tup [.str [116,105,109,101,115],.int i,.int c]
 | x=>x.d
section
variable {P:Pr} [Has P az9] [Has P al4] [HasL P af5]
end
section
variable {P:Pr} [Has P az9]
end
section
variable {P:Pr} [Has P az9] [Has P aO6] [Has P am2] [Has P aa5] [Has P qC] [HasL P z0]
end
theorem bU6 {s:Sto}{a b:Nat}{l m:List D}(G:s[a]?=some (.lst l))(F:s[b]?=some (.lst m))(h:l.length+m.length<=LIM):af0 .add (.ref a) (.ref b) s=.ok (.ref s.length) (s++[.lst (l++m)]):=by
 show(match s[a]?,s[b]? with|some (.lst l),some (.lst m)=>(if l.length+m.length<=LIM then ab5 (.lst (l++m)) s else .bad)|_,_=>.bad:R D)=_
 rw[G,F]
 exact if_pos h
theorem bK0 {s:Sto}{o:O}:(s++[o])[s.length]?=some o:=by rw[a8 (am _)];simp
theorem aE8 (k a v:D):∀ l:List (D×D),look k (l++[(a,v)])=match look k l with|some x=>some x|none=>if a=k then some v else none
 | []=>by unfold look;rfl
 | (b,u)::l=>by
  rw[eA]
  unfold look
  by_cases h:b=k
  ·rw[if_pos h,if_pos h]
  ·rw[if_neg h,if_neg h];exact aE8 k a v l
theorem at8 {s:Sto}{r:Nat}{l:List (D×D)}{k:D}(h:s[r]?=some (.dic l))(hk:k.key=true):qb .notin k (.ref r) s=.ok (.bl (!(look k l).isSome)) s:=by
 show(inM k (.ref r) s).bind (λ r s=>R.ok (D.bl (!r)) s)=_
 simp only[inM,h,hk,if_true,R.bind_ok]
theorem bc0 {s:Sto}{r:Nat}{l:List (D×D)}{k:D}(h:s[r]?=some (.dic l))(hk:k.key=true):qb .isin k (.ref r) s=.ok (.bl (look k l).isSome) s:=by
 show(inM k (.ref r) s).bind (λ r s=>R.ok (D.bl r) s)=_
 simp only[inM,h,hk,if_true,R.bind_ok]
theorem aK8 {s:Sto}{r:Nat}{l:List (D×D)}{k v:D}(h:s[r]?=some (.dic l))(hk:k.key=true)(hv:look k l=some v):ixM (.ref r) k s=.ok v s:=by
 simp only[ixM,h,hk,if_true,hv]
theorem bs5 {s:Sto}{r:Nat}{l:List (D×D)}{k v:D}(h:s[r]?=some (.dic l))(hk:k.key=true)(hl:l.length<LIM):setIx (.ref r) k v s=.ok () (s.set r (.dic (ah6 k v l))):=by
 simp[setIx,h,hk,hl]
theorem aQ3 {F:Fns}{ρ:Env}{s:Sto}:ev F (.dic .nil .nil) ρ s=.ok (.ref s.length) (s++[.dic []]):=rfl
theorem aB5 {s:Sto}{o p:O}:(s++[o]).set s.length p=s++[p]:=by rw[List.set_append_right _ _ (am _)];simp
section
variable {P:Pr} [Has P az9] [Has P aO6] [Has P bk3] [Has P am2] [Has P aa5] [Has P qC] [HasL P z0] [Has P bl8] [HasL P aH2] [Has P aQ8] [HasL P at4] [Has P at2]
end
noncomputable def Pl (ds:List Dr):List Nat->List Nat->Nat->Nat->Int->Prop
 | [],[],p,q,c=>p=q/\c=0
 | x::w,k::ps,p,q,c=>∃ d,ds[k]?=some d/\d.a=p/\d.l=x/\∃ c':Int,Pl ds w ps d.b q c'/\c=(d.t:Int)+c'
 | _,_,_,_,_=>False
theorem aT6 {G:List Dr}{x k:Nat}{d:Dr}(hd:G[k]?=some d)(hx:d.l=x):∀ {w ps:List Nat} {p:Nat} {c:Int},Pl G w ps p d.a c->Pl G (w++[x]) (ps++[k]) p d.b (c+(d.t:Int))
 | [],[],p,c,h=>by obtain⟨F,J⟩:=h;exact⟨d,hd,F.symm,hx,0,⟨rfl,rfl⟩,by omega⟩
 | [],_::_,p,c,h=>h.elim
 | _::_,[],p,c,h=>h.elim
 | y::w,j::ps,p,c,h=>by
  obtain⟨e,he,F,J,Z,Y,h4⟩:=h
  exact⟨e,he,F,J,Z+(d.t:Int),aT6 hd hx Y,by omega⟩
theorem aC2 {G:List Dr}:∀ {w ps:List Nat} {p q:Nat} {c:Int},Pl G w ps p q c->ps.length=w.length
 | [],[],p,q,c,h=>rfl
 | [],_::_,p,q,c,h=>h.elim
 | _::_,[],p,q,c,h=>h.elim
 | y::w,j::ps,p,q,c,h=>by
  obtain⟨e,he,Y,J,Z,F,h4⟩:=h
  rw[aK,aK,aC2 F]
theorem aA7 (k j v:D):∀ l:List (D×D),look j (l.map λ p=>if p.1=k then(p.1,v)else p)=if k=j then(look j l).map λ _=>v else look j l
 | []=>by unfold look;simp
 | (a,u)::l=>by
  rw[aV]
  have F:=aA7 k j v l
  by_cases h:a=k
  ·rw[if_pos h]
   show(if a=j then some v else look j _)=if k=j then(if a=j then some u else look j l).map (λ _=>v)else(if a=j then some u else look j l)
   rw[F]
   subst h
   by_cases h2:a=j
   ·simp[h2]
   ·simp[h2]
  ·rw[if_neg h]
   show(if a=j then some u else look j _)=if k=j then(if a=j then some u else look j l).map (λ _=>v)else(if a=j then some u else look j l)
   rw[F]
   by_cases h2:a=j
   ·have G:k≠j:=λ z=>h (by rw[z,h2])
    simp[h2,G]
   ·simp[h2]
theorem bc8 (k j v:D)(l:List (D×D)):look j (ah6 k v l)=if k=j then some v else look j l:=by
 unfold ah6
 split
 ·rename_i h
  rw[aA7]
  by_cases e:k=j
  ·subst e
   rw[if_pos rfl,if_pos rfl]
   cases q:look k l with
   | none=>rw[q]at h;cases h
   | some _=>rfl
  ·rw[if_neg e,if_neg e]
 ·rename_i h
  rw[aE8]
  cases q:look j l with
  | none=>rfl
  | some x =>
   by_cases e:k=j
   ·subst e;rw[q]at h;exact absurd rfl h
   ·rw[if_neg e,if_neg e]
theorem bs6 (k v:D)(l:List (D×D)):(ah6 k v l).length<=l.length+1:=by
 unfold ah6
 split
 ·rw[aw];omega
 ·rw[aR];simp
noncomputable def RB (s:Sto)(b0:Nat)(v:Option D):Option (Int×List Nat)->Prop
 | none=>v=none
 | some p=>∃ q,v=some (.tup [.int p.1,.ref q])/\b0<=q/\s[q]?=some (.lst (aa6 p.2))
def Bst (s:Sto)(b0 r n:Nat)(B:List (Option (Int×List Nat))):Prop:=∃ l,s[r]?=some (.dic l)/\l.length<=n/\∀(k:Nat) o,B[k]?=some o->RB s b0 (look (.int k) l) o
theorem RB.app {s T:Sto}{F:Nat}{v:Option D}{o:Option (Int×List Nat)}(h:RB s F v o):RB (s++T) F v o:=by
 cases o with
 | none=>exact h
 | some p=>obtain⟨q,Y,J,G⟩:=h;exact⟨q,Y,J,zv G⟩
theorem Bst.app {s T:Sto}{F r n:Nat}{B:List (Option (Int×List Nat))}(h:Bst s F r n B):Bst (s++T) F r n B:=by
 obtain⟨l,Y,J,G⟩:=h
 exact⟨l,zv Y,J,λ k o e=>(G k o e).app⟩
theorem RB.set {s:Sto}{J r:Nat}{l Z:List (D×D)}{v:Option D}{o:Option (Int×List Nat)}(G:s[r]?=some (.dic l))(h:RB s J v o):RB (s.set r (.dic Z)) J v o:=by
 cases o with
 | none=>exact h
 | some p =>
  obtain⟨q,h1,Y,F⟩:=h
  refine⟨q,h1,Y,?_⟩
  rw[aP λ z=>by rw[z,F]at G;cases G]
  exact F
theorem Bst.put {s:Sto}{J r n:Nat}{B:List (Option (Int×List Nat))}(h:Bst s J r n B){k q:Nat}{c:Int}{ps:List Nat}(hq:s[q]?=some (.lst (aa6 ps)))(hb:J<=q)(hn:n<LIM) :
  ∃ Y,setIx (.ref r) (.int k) (.tup [.int c,.ref q]) s=.ok () (s.set r (.dic Y))/\Bst (s.set r (.dic Y)) J r (n+1) (B.set k (some (c,ps))):=by
 obtain⟨l,F,h2,Z⟩:=h
 have G:r<s.length:=(ac.mp F).1
 refine⟨ah6 (.int k) (.tup [.int c,.ref q]) l,bs5 F rfl (by omega),_,ae8 G,by have:=bs6 (.int k) (.tup [.int c,.ref q]) l;omega,λ j o e=>?_⟩
 rw[bc8]
 by_cases hj:k=j
 ·subst hj
  rw[if_pos rfl]
  have hk:k<B.length:=by have:=(ac.mp e).1;simpa using this
  rw[aL hk]at e
  cases e
  exact RB.set F ⟨q,rfl,hb,hq⟩
 ·rw[if_neg (by intro z;injection z with z;omega)]
  rw[aP hj]at e
  exact RB.set F (Z j o e)
noncomputable def fsB (B:List (Option (Int×List Nat))):List (Option Int):=B.map (kC fx)
theorem as0 {B:List (Option (Int×List Nat))}{k:Nat}{o:Option (Int×List Nat)}(h:B[k]?=some o):(fsB B)[k]?=some (o.map fx):=by unfold fsB;rw[aB,h];rfl
theorem bn8 (B:List (Option (Int×List Nat)))(k:Nat)(o:Option (Int×List Nat)):fsB (B.set k o)=(fsB B).set k (o.map fx):=by unfold fsB;rw[ko]
structure GoodB (m:Mc)(w:List Nat)(B:List (Option (Int×List Nat))):Prop where
 len:B.length=m.R
 low:qE (FromS m w) (fsB B)
 is_:∀(k:Nat) c ps,B[k]?=some (some (c,ps))->∃ p∈m.bg,Pl m.ds w ps p k c
theorem aD5:∀(l:List D) (n i:Nat),(ac0 n l)[i]?=(l[i]?).map λ d=>.tup [.int ((n+i:Nat):Int),d]
 | [],n,i=>by unfold ac0;simp
 | d::l,n,0=>by unfold ac0;simp
 | d::l,n,i+1=>by
  unfold ac0
  rw[cV,cV,aD5 l (n+1) i,show n+1+i=n+(i+1)by omega]
theorem bM5 (c:Int)(q:Nat)(s:Sto):ixM (.tup [.int c,.ref q]) (.int 0) s=.ok (.int c) s:=ak5 0 rfl
theorem bJ8 (c:Int)(q:Nat)(s:Sto):ixM (.tup [.int c,.ref q]) (.int 1) s=.ok (.ref q) s:=ak5 1 rfl
theorem aD3 {k v:D}:∀ {l:List (D×D)},look k l=some v->v∈l.map (·.2)
 | (a,u)::l,h=>by
  unfold look at h
  split at h
  ·cases h;exact aq ..
  ·exact ak _ (aD3 h)
theorem aM7 {s T:Sto}{Y r n:Nat}{B:List (Option (Int×List Nat))}(h:Bst (s++T) Y r n B)(hr:s.length<=r)(hB:∀ k,k<B.length->True):∃ T' r',zu s (.ref r) (s++T)=.ok (.ref r') (s++T')/\Bst (s++T') Y r' n B:=by
 obtain⟨l,F,Z,G⟩:=h
 by_cases hbn:(O.dic l).bnd s.length=true
 ·refine⟨[.dic l],s.length,?_,l,by simp,Z,λ k o e=>?_⟩
  ·unfold zu
   rw[if_pos (qt s T)]
   dsimp only
   rw[if_neg (by omega),F]
   dsimp only
   rw[if_pos hbn,jG]
   rfl
  ·have:=G k o e
   cases o with
   | none=>exact this
   | some p =>
    obtain⟨q,e1,e2,J⟩:=this
    refine⟨q,e1,e2,?_⟩
    have hq:q<s.length:=by
     unfold O.bnd at hbn
     rw[aj]at hbn
     have hm:D.tup [.int p.1,.ref q]∈l.map (·.2):=aD3 e1
     have:=aA0 hbn.2 _ hm
     unfold D.bnd D.bndL D.bnd D.bndL D.bnd at this
     simpa [D.bndL]using this
    rw[aJ hq]at J
    exact zv J
 ·refine⟨T,r,?_,l,F,Z,G⟩
  unfold zu
  rw[if_pos (qt s T)]
  dsimp only
  rw[if_neg (by omega),F]
  dsimp only
  rw[if_neg hbn]
end DV
end
local macro_rules | `(tactic| tbr_iter [$xs,*]) => `(tactic| simp -implicitDefEqProofs only [DV.qB, DV.exs_nil, DV.ex_asg, DV.ex_ite, DV.ex_ret, DV.ex_ex, DV.ex_for, DV.ex_whl, DV.ex_setIx, DV.ex_cont, DV.ex_pass, DV.ex_und, DV.qi, DV.ev_cst, DV.ev_bin, DV.ev_not, DV.ev_cmp, DV.ev_and, DV.ev_or, DV.ev_ite, DV.ev_tup, DV.ev_lst, DV.ev_ix, DV.ev_call, DV.ev_bi, DV.ev_mk, DV.ev_mkD, DV.ev_mks, DV.ev_mkDs, DV.ev_meth, DV.ev_isN, DV.ev_notN, DV.evs_nil, DV.evs_cons, DV.evas_nil, DV.evas_ex, DV.evI_seq, DV.evI_rng1, DV.evL_seq, DV.Cn_bl, DV.Cn_int, DV.Cn_non, DV.Cn_str, DV.R.bind_ok, DV.zT, DV.bindT_tup, DV.setVs_nil, DV.setVs_cons, DV.setV_s, DV.setV_0, DV.unsetV_s, DV.unsetV_0, DV.qk, DV.qj, Option.map_some, Option.bind_some, DV.setC_some, DV.nxt_next, DV.nxt_ret, DV.nxt_cont, DV.fin_ret, DV.fin_next, DV.add_int, DV.sub_int, DV.lt_int, DV.le_int, DV.gt_int, DV.ge_int, DV.eq_int, DV.ne_int, DV.alloc_eq, DV.tru_bl, if_true, if_false, Bool.false_eq_true, decide_true, decide_false, Bool.not_true, Bool.not_false, $[$xs:term],*])
noncomputable section
namespace DV
def bT8 (m:Mc)(w:List Nat)(s:Sto)(b0:Nat)(x:R D):Prop:=∃ T r B,x=.ok (.ref r) (s++T)/\Bst (s++T) b0 r 75 B/\GoodB m w B
theorem bE4 {P:Pr}[Has P aa5][Has P aa4](n:Nat){m:Mc}(hm:m.Ok){w:List Nat}(hw:w.length<=1000)(x:Nat){s:Sto}{b0 r nn:Nat}{B:List (Option (Int×List Nat))}(hB:Bst s b0 r nn B)(hG:GoodB m w B)(hb:b0<=s.length) :
  bT8 m (w++[x]) s b0 ((aa1 P (n+2)).call "best_led_on" [m.d,.ref r,.str [x]] s):=by
 have e0:(aa1 P (n+2)).call "best_led_on" [m.d,.ref r,.str [x]] s=_:=zx aa4 (n:=n+1) rfl
 rw[e0]
 have hd:∀ S,(aa1 P (n+1)).call "doors_of" [m.d] S=.ok (.tup (m.ds.map Dr.d)) S:=ax8 (P:=P) n m
 have sT:∀ S,ar2 (.tup (m.ds.map Dr.d)) S=.ok ⟨m.ds.map Dr.d,[]⟩ S:=λ _=>rfl
 have g1:r<s.length:=by obtain⟨l,h1,_⟩:=hB;exact(ac.mp h1).1
 obtain⟨lb,f1,_,e5⟩:=hB
 have g3:=hm.ds.2
 simp -implicitDefEqProofs [aa4,aQ3,hd,sT]
 refine zM (W:=bT8 m (w++[x]) s b0) (λ i ρ u=>∃(T:Sto) (Z:List (Option (Int×List Nat))) (y4 y5 y6 y7 y8:Option D),u=s++T/\Bst u b0 s.length i Z/\Z.length=m.R/\qE (af1 (FromS m w) x (m.ds.take i)) (fsB Z)/\(∀(k:Nat) c ps,Z[k]?=some (some (c,ps))->∃ p∈m.bg,Pl m.ds (w++[x]) ps p k c)/\ρ=[some m.d,some (.ref r),some (.str [x]),some (.ref s.length),y4,y5,y6,y7,y8])
  ⟨[.dic []],aE m.R none,_,_,_,_,_,rfl,⟨[],by simp,am _,λ k o e=>?_⟩,by simp,λ k o e=>?_,λ k c ps e=>?_,rfl⟩ (λ _ _ _ _ _=>rfl) ?_ ?_
 ·rw[bK]at e
  split at e
  ·cases e;exact rfl
  ·cases e
 ·unfold fsB at e
  rw[List.map_replicate,bK]at e
  split at e
  ·cases e
   rintro c' ⟨d,hd,_⟩
   rw[hX]at hd;cases hd
  ·cases e
 ·rw[bK]at e
  split at e<;>cases e
 ·rintro i d ρ u hi ⟨T,Z,y4,y5,y6,y7,y8,rfl,a6,a0,G,b1,rfl⟩
  obtain⟨e,he,rfl⟩:∃ e,m.ds[i]?=some e/\d=.tup [.int (i:Int),e.d]:=by
   rw[aD5,aB]at hi
   cases q:m.ds[i]? with
   | none=>rw[q]at hi;cases hi
   | some e=>rw[q]at hi;cases hi;exact⟨e,rfl,by rw[d8]⟩
  have f5:i<m.ds.length:=(ac.mp he).1
  have hok:=hm.ds.1 e (aX he)
  have b6:m.ds.take (i+1)=m.ds.take i++[e]:=by
   have q:m.ds[i]=e:=(ac.mp he).2
   rw[<-q,cf]
  have e1:(s++T)[r]?=some (.dic lb):=zv f1
  obtain⟨oa,ha⟩:∃ o,B[e.a]?=some o:=⟨B[e.a]'(by rw[hG.len];exact hok.a),ag _⟩
  obtain⟨ob,b4⟩:∃ o,Z[e.b]?=some o:=⟨Z[e.b]'(by rw[a0];exact hok.b),ag _⟩
  have ra:=e5 e.a oa ha
  have f3:=a6
  obtain⟨ld,c1,f4,b2⟩:=f3
  have rb:=b2 e.b ob b4
  have F:=at8 (k:=.int e.a) e1 rfl
  have Y:=at8 (k:=.int e.b) c1 rfl
  have a1:qE (af1 (FromS m w) x (m.ds.take (i+1))) (fsB Z)->∀ ρ',(∃ z4 z5 z6 z7 z8,ρ'=[some m.d,some (.ref r),some (.str [x]),some (.ref s.length),z4,z5,z6,z7,z8])->∃(T':Sto) (J:List (Option (Int×List Nat))) (y4 y5 y6 y7 y8:Option D),s++T=s++T'/\Bst (s++T) b0 s.length (i+1) J/\J.length=m.R/\qE (af1 (FromS m w) x (m.ds.take (i+1))) (fsB J)/\(∀(k:Nat) c ps,J[k]?=some (some (c,ps))->∃ p∈m.bg,Pl m.ds (w++[x]) ps p k c)/\ρ'=[some m.d,some (.ref r),some (.str [x]),some (.ref s.length),y4,y5,y6,y7,y8]:=by
   rintro h ρ' ⟨z4,z5,z6,z7,z8,rfl⟩
   exact⟨T,Z,_,_,_,_,_,rfl,⟨ld,c1,by omega,b2⟩,a0,h,b1,rfl⟩
  by_cases hx:e.l=x
  ·cases oa with
   | none =>
    have ra:look (.int e.a) lb=none:=ra
    rw[ra]at F
    refine bf6 (ρ:=[some m.d,some (.ref r),some (.str [x]),some (.ref s.length),some (.int i),some e.d,some (.int e.a),some (.int e.b),y8]) (s:=s++T) ?_ (a1 ?_ _ ⟨_,_,_,_,_,rfl⟩)
    ·tbr_iter [turn,aH1,aI3,aG7,af7,hx,F,cC]
    ·rw[b6]
     exact ad6 G λ c' c4=>hG.low e.a none (as0 ha) c' c4.2
   | some pa =>
    obtain⟨c,ps⟩:=pa
    obtain⟨q,ra,g2,hq⟩:=ra
    rw[ra]at F
    have b5:=aK8 (s:=s++T) e1 rfl ra
    have a4:=ap8 G hx (hG.low e.a (some c) (as0 ha)) (as0 b4)
    rw[<-b6]at a4
    obtain⟨p,hp,hpl⟩:=hG.is_ e.a c ps ha
    have d1:=aT6 he hx hpl
    have f2:(s++T)[q]?=some (.lst (aa6 ps)):=zv hq
    have a5:=bU6 (s:=s++T++[.lst [.int (i:Int)]]) (a:=q) (b:=(s++T).length) (l:=aa6 ps) (m:=[.int (i:Int)]) (zv f2) zQ (by
     have:=aC2 hpl
     unfold aa6 LIM
     rw[aw,b9]
     omega)
    have d0:aa6 ps++[.int (i:Int)]=aa6 (ps++[i]):=by unfold aa6;rw[e7];rfl
    rw[d0]at a5
    have c2:(s++T++[O.lst [D.int (i:Int)]]).length=(s++T).length+1:=by rw[aR (as:=s++T),b9]
    obtain⟨l',b3,c3⟩:=Bst.put (k:=e.b) (c:=c+(e.t:Int)) (ps:=ps++[i]) (q:=(s++T++[O.lst [D.int (i:Int)]]).length) ((a6.app (T:=[.lst [.int (i:Int)]])).app (T:=[.lst (aa6 (ps++[i]))])) (by simp) (by rw[c2,aR];omega) (by unfold LIM;omega)
    have a3:(ob.map fx=none\/∃ z,ob.map fx=some z/\c+(e.t:Int)<z)->∀ ρ',(∃ z4 z5 z6 z7 z8,ρ'=[some m.d,some (.ref r),some (.str [x]),some (.ref s.length),z4,z5,z6,z7,z8])->∃(T':Sto) (J:List (Option (Int×List Nat))) (y4 y5 y6 y7 y8:Option D),(s++T++[O.lst [D.int (i:Int)]]++[O.lst (aa6 (ps++[i]))]).set s.length (.dic l')=s++T'/\Bst ((s++T++[O.lst [D.int (i:Int)]]++[O.lst (aa6 (ps++[i]))]).set s.length (.dic l')) b0 s.length (i+1) J/\J.length=m.R/\qE (af1 (FromS m w) x (m.ds.take (i+1))) (fsB J)/\(∀(k:Nat) c ps,J[k]?=some (some (c,ps))->∃ p∈m.bg,Pl m.ds (w++[x]) ps p k c)/\ρ'=[some m.d,some (.ref r),some (.str [x]),some (.ref s.length),y4,y5,y6,y7,y8]:=by
     rintro h ρ' ⟨z4,z5,z6,z7,z8,rfl⟩
     refine⟨_,Z.set e.b (some (c+(e.t:Int),ps++[i])),_,_,_,_,_,by rw[be,be];exact aN0 (am _),c3,by simp[a0],?_,λ k c0 e4 hk=>?_,rfl⟩
     ·rw[bn8]
      have a2:minO (ob.map fx) (some (c+(e.t:Int)))=some (c+(e.t:Int)):=by
       rcases h with h|⟨z,h,hlt⟩
       ·rw[h];rfl
       ·rw[h];show(if c+(e.t:Int)<z then _ else _)=_;rw[if_pos hlt]
      rw[a2]at a4
      exact a4
     ·by_cases hkb:e.b=k
      ·subst hkb
       rw[aL (by rw[a0];exact hok.b)]at hk
       cases hk
       exact⟨p,hp,d1⟩
      ·rw[aP hkb]at hk
       exact b1 k c0 e4 hk
    cases ob with
    | none =>
     have rb:look (.int e.b) ld=none:=rb
     rw[rb]at Y
     refine qw (ρ:=[some m.d,some (.ref r),some (.str [x]),some (.ref s.length),some (.int i),some e.d,some (.int e.a),some (.int e.b),some (.int (c+e.t))]) (s:=(s++T++[O.lst [D.int (i:Int)]]++[O.lst (aa6 (ps++[i]))]).set s.length (.dic l')) ?_ (a3 (.inl rfl) _ ⟨_,_,_,_,_,rfl⟩)
     tbr_iter [turn,aH1,aI3,aG7,bb0,af7,hx,F,Y,cC,cA,b5,bM5,bJ8,a5,b3]
    | some pb =>
     obtain⟨z,f0⟩:=pb
     obtain⟨q2,rb,_,_⟩:=rb
     rw[rb]at Y
     have d2:=aK8 (s:=s++T) c1 rfl rb
     by_cases hlt:c+(e.t:Int)<z
     ·refine qw (ρ:=[some m.d,some (.ref r),some (.str [x]),some (.ref s.length),some (.int i),some e.d,some (.int e.a),some (.int e.b),some (.int (c+e.t))]) (s:=(s++T++[O.lst [D.int (i:Int)]]++[O.lst (aa6 (ps++[i]))]).set s.length (.dic l')) ?_ (a3 (.inr ⟨z,rfl,hlt⟩) _ ⟨_,_,_,_,_,rfl⟩)
      tbr_iter [turn,aH1,aI3,aG7,bb0,af7,hx,F,Y,cC,cA,b5,d2,bM5,bJ8,hlt,a5,b3]
     ·refine qw (ρ:=[some m.d,some (.ref r),some (.str [x]),some (.ref s.length),some (.int i),some e.d,some (.int e.a),some (.int e.b),some (.int (c+e.t))]) (s:=s++T) ?_ (a1 ?_ _ ⟨_,_,_,_,_,rfl⟩)
      ·tbr_iter [turn,aH1,aI3,aG7,bb0,af7,hx,F,Y,cC,cA,b5,d2,bM5,bJ8,hlt]
      ·have a2:minO (kC fx (some (z,f0))) (some (c+(e.t:Int)))=some z:=by show(if c+(e.t:Int)<z then _ else _)=_;rw[if_neg hlt]
       rw[a2]at a4
       have e2:(fsB Z).set e.b (some z)=fsB Z:=by
        have g0:e.b<(fsB Z).length:=by unfold fsB;rw[aw,a0];exact hok.b
        have e3:(fsB Z)[e.b]=some z:=(ac.mp (as0 b4)).2
        rw[<-e3,eg]
       rwa [e2]at a4
  ·refine bf6 (ρ:=[some m.d,some (.ref r),some (.str [x]),some (.ref s.length),some (.int i),some e.d,some (.int e.a),some (.int e.b),y8]) (s:=s++T) ?_ (a1 ?_ _ ⟨_,_,_,_,_,rfl⟩)
   ·tbr_iter [turn,aH1,aI3,aG7,af7,hx]
   ·rw[b6]
    exact ad6 G λ c' c4=>hx c4.1
 ·rintro ρ u ⟨T,Z,y4,y5,y6,y7,y8,rfl,a6,a0,G,b1,rfl⟩
  rw[enumL_len,aw,dE]at G
  obtain⟨T',r',hc,c3⟩:=aM7 a6 (am _) (λ _ _=>trivial)
  refine⟨T',r',Z,?_,?_,a0,λ k o hk=>(G k o hk).congr λ c=>ap9,b1⟩
  ·tbr_iter []
   exact hc
  ·obtain⟨l,h1,h2,h3⟩:=c3
   refine⟨l,h1,?_,h3⟩
   rw[enumL_len,aw]at h2
   omega
theorem aL8 (f:Nat->Int):∀ k,aE3 f k<=k
 | 0=>am _
 | k+1=>by
  unfold aE3
  split
  ·exact am _
  ·exact Nat.le_succ_of_le (aL8 f k)
theorem aC8 (f : Nat -> Int) : ∀ k j, j <= k -> f (aE3 f k) <= f j
  | 0, j, h => by have : j = 0 := by omega
                  subst this; exact dW _
  | k + 1, j, h => by
    have ih := aC8 f k
    unfold aE3
    split
    · rename_i hb
      by_cases hj : j = k + 1
      · subst hj; exact dW _
      · have := ih j (by omega); omega
    · rename_i hb
      by_cases hj : j = k + 1
      · subst hj; omega
      · exact ih j (by omega)
theorem aZ0 {s T:Sto}{q:Nat}{o:O}(h:(s++T)[q]?=some o)(hq:s.length<=q)(hb:o.bnd s.length=true):zu s (.ref q) (s++T)=.ok (.ref s.length) (s++[o]):=by
 unfold zu
 rw[if_pos (qt s T)]
 dsimp only
 rw[if_neg (by omega),h]
 dsimp only
 rw[if_pos hb,jG]
 rfl
theorem bC8 {s:Sto}{r q:Nat}{C:List D}(F:s[r]?=some (.lst C))(h:s[q]?=some (.lst [])):qb .eq (.ref r) (.ref q) s=.ok (.bl (decide (C=[]))) s:=by
 have:eqv s DEEP (.ref r) (.ref q)=some (decide (C=[])):=by
  show(match s[r]?,s[q]? with
   | some (O.lst l),some (O.lst m)=>if l.length=m.length then eqL (eqv s 29) l m else some false
   | _,_=>none)=_
  rw[F,h]
  cases C with
  | nil=>rfl
  | cons a l=>simp
 show(match eqv s DEEP (.ref r) (.ref q)with|some r=>R.ok (D.bl r) s|none=>.bad)=_
 rw[this]
theorem aP9 {s:Sto}{b0:Nat}{l:List (D×D)}{B:List (Option (Int×List Nat))}(G:∀(k:Nat) o,B[k]?=some o->RB s b0 (look (.int k) l) o):∀(en:List Nat),(∀ k∈en,k<B.length)->ag5 0 (en.filterMap λ(k:Nat)=>look (.int (k:Int)) l)=some (en.filterMap λ k=>(fsB B).getD k none)
 | [],_=>rfl
 | k::en,h=>by
  have Y:=aP9 G en λ j hj=>h j (ak _ hj)
  have hk:=h k (aq ..)
  have Z:B[k]?=some B[k]:=ag hk
  have F:=G k _ Z
  have J:(fsB B).getD k none=(B[k]).map fx:=by rw[aG,as0 Z];rfl
  cases e:B[k]with
  | none =>
   rw[e]at F J
   have F:look (.int (k:Int)) l=none:=F
   rw[aO,aO,F,J]
   exact Y
  | some p =>
   rw[e]at F J
   obtain⟨q,h1,h2,h3⟩:=F
   rw[aO,aO,h1,J]
   show(match aX2 0 (.tup [.int p.1,.ref q])with|some z=>(match ag5 0 (en.filterMap λ(k:Nat)=>look (.int (k:Int)) l)with|some zs=>some (z::zs)|none=>none)|none=>none)=_
   rw[Y]
   rfl
theorem aB3 {j:Int}:∀ {l:List D} {F:List Int},ag5 j l=some F->F.length=l.length/\∀(i:Nat) d,l[i]?=some d->∃ z,aX2 j d=some z/\F[i]?=some z
 | [],F,h=>by cases h;exact⟨rfl,λ i d e=>by cases e⟩
 | d::l,F,h=>by
  have h:(match aX2 j d with|some z=>(match ag5 j l with|some zs=>some (z::zs)|none=>none)|none=>none)=some F:=h
  cases e1:aX2 j d with
  | none=>rw[e1]at h;cases h
  | some z =>
   rw[e1]at h
   cases e2:ag5 j l with
   | none=>rw[e2]at h;cases h
   | some zs =>
    rw[e2]at h
    cases h
    obtain⟨Y,J⟩:=aB3 e2
    refine⟨by rw[aK,aK,Y],λ i d' G=>?_⟩
    cases i with
    | zero=>cases G;exact⟨z,e1,rfl⟩
    | succ i=>exact J i d' G
theorem bj7 {l:List D}{F:List Int}(h:ag5 0 l=some F)(hne:l≠[])(s:Sto):∃ d z,d∈l/\aX2 0 d=some z/\ay6 0 l s=.ok d s/\minI F=some z:=by
 obtain⟨G,hat⟩:=aB3 h
 have h0:0<l.length:=io.mpr hne
 have J:=aL8 (λ i=>F.getD i 0) (l.length - 1)
 have hlt:aE3 (λ i=>F.getD i 0) (l.length - 1)<l.length:=by omega
 obtain⟨z,hz,hk⟩:=hat _ _ (ag hlt)
 refine⟨_,z,eF hlt,hz,?_,?_⟩
 ·unfold ay6
  rw[h]
  show(match l[aE3 (λ i=>F.getD i 0) (l.length - 1)]? with|some d=>R.ok d s|none=>.bad)=_
  rw[ag hlt]
 ·have hv:F.getD (aE3 (λ i=>F.getD i 0) (l.length - 1)) 0=z:=by rw[aG,hk];rfl
  have L:ab3 (λ c=>c∈F) (some z):=by
   refine⟨aX hk,λ c hc=>?_⟩
   obtain⟨j,hj,e⟩:=cq.mp hc
   have:=aC8 (λ i=>F.getD i 0) (l.length - 1) j (by omega)
   have e2:F.getD j 0=c:=by rw[aG,ag hj];exact e
   simp only[hv,e2]at this
   exact this
  exact(am7 F).eq L λ c=>kE
def bi9 (m:Mc)(w:List Nat)(s:Sto)(x:R D):Prop:=(x=.ok .non s/\ab3 (m.Wk w) none)\/∃ ps c,x=.ok (.ref s.length) (s++[.lst (aa6 ps)])/\(∃ p∈m.bg,∃ q∈m.en,Pl m.ds w ps p q c)/\ab3 (m.Wk w) (some c)
theorem by4 {m:Mc}(F:m.Ok):m.en.length<=5:=by
 have G:=F.R5
 have nd:m.en.Nodup:=F.en.2.imp (λ h=>ay h)
 have:=cW (l₂:=bf m.R) nd (λ x hx=>bL.mpr (F.en.1 x hx))
 simp at this;omega
theorem bg4 {m:Mc}(F:m.Ok):m.bg.length<=5:=by
 have G:=F.R5
 have nd:m.bg.Nodup:=F.bg.2.imp (λ h=>ay h)
 have:=cW (l₂:=bf m.R) nd (λ x hx=>bL.mpr (F.bg.1 x hx))
 simp at this;omega
theorem road_ok {P:Pr}[Has P aa7][Has P ab2][Has P aa5][Has P aa4][Has P ai3](n:Nat){m:Mc}(hm:m.Ok)(w:List Nat)(hw:w.length<=1000)(s:Sto):bi9 m w s ((aa1 P (n+3)).call "road" [m.d,.str w] s):=by
 have e0:(aa1 P (n+3)).call "road" [m.d,.str w] s=_:=zx ai3 (n:=n+2) rfl
 rw[e0]
 have hb:∀ S,(aa1 P (n+2)).call "begins_of" [m.d] S=.ok (.tup (aa6 m.bg)) S:=aq9 (P:=P) (n+1) m
 have b2:∀ S,(aa1 P (n+2)).call "ends_of" [m.d] S=.ok (.tup (aa6 m.en)) S:=aI8 (P:=P) (n+1) m
 have sB:∀ S,as9 (.tup (aa6 m.bg)) S=.ok ⟨aa6 m.bg,[]⟩ S:=λ _=>rfl
 have sE:∀ S,as9 (.tup (aa6 m.en)) S=.ok ⟨aa6 m.en,[]⟩ S:=λ _=>rfl
 have sW:∀ S,as9 (.str w) S=.ok ⟨w.map λ c=>.str [c],[]⟩ S:=λ _=>rfl
 have f3:=bg4 hm
 have f2:=by4 hm
 have h5:=hm.R5
 simp -implicitDefEqProofs [ai3,aQ3,hb,sB]
 refine zM (W:=bi9 m w s) (λ i ρ u=>∃(T:Sto) (B:List (Option (Int×List Nat))) (y3 y4 y5:Option D),u=s++T/\Bst u s.length s.length i B/\B.length=m.R/\(∀(k:Nat) o,B[k]?=some o->o=if k∈m.bg.take i then some (0,[])else none)/\ρ=[some m.d,some (.str w),some (.ref s.length),y3,y4,y5])
  ⟨[.dic []],aE m.R none,_,_,_,rfl,⟨[],by simp,am _,λ k o e=>?_⟩,by simp,λ k o e=>?_,rfl⟩ (λ _ _ _ _ _=>rfl) ?_ ?_
 ·rw[bK]at e
  split at e
  ·cases e;exact rfl
  ·cases e
 ·rw[bK]at e
  split at e
  ·cases e;rw[hX,if_neg (by simp)]
  ·cases e
 ·rintro i d ρ u hi ⟨T,B,y3,y4,y5,rfl,hB,Y,hat,rfl⟩
  obtain⟨k,hk,rfl⟩:∃ k,m.bg[i]?=some k/\d=.int (k:Int):=by
   unfold aa6 at hi
   rw[aB]at hi
   cases q:m.bg[i]? with
   | none=>rw[q]at hi;cases hi
   | some k=>rw[q]at hi;cases hi;exact⟨k,rfl,rfl⟩
  have f0:i<m.bg.length:=(ac.mp hk).1
  have b5:m.bg.take (i+1)=m.bg.take i++[k]:=by
   have q:m.bg[i]=k:=(ac.mp hk).2
   rw[<-q,cf]
  have hkR:=hm.bg.1 k (aX hk)
  obtain⟨l',b0,c1⟩:=Bst.put (k:=k) (c:=0) (ps:=[]) (q:=(s++T).length) (hB.app (T:=[.lst []])) zQ (by rw[aR];omega) (by unfold LIM;omega)
  refine qw (ρ:=[some m.d,some (.str w),some (.ref s.length),some (.int (k:Int)),y4,y5]) (s:=(s++T++[O.lst []]).set s.length (.dic l')) ?_ ⟨_,B.set k (some (0,[])),_,_,_,by rw[be];exact aN0 (am _),c1,by simp[Y],λ j o e=>?_,rfl⟩
  ·tbr_iter [turn,b0]
  ·rw[b5]
   by_cases hj:k=j
   ·subst hj
    rw[aL (by omega)]at e
    cases e
    rw[if_pos (by simp)]
   ·rw[aP hj]at e
    rw[hat j o e]
    have:(j∈m.bg.take i++[k])↔j∈m.bg.take i:=by simp;omega
    by_cases h:j∈m.bg.take i
    ·rw[if_pos h,if_pos (this.mpr h)]
    ·rw[if_neg h,if_neg (λ z=>h (this.mp z))]
 rintro ρ u ⟨T,B,y3,y4,y5,rfl,hB,Y,hat,rfl⟩
 have b3:(aa6 m.bg).length=m.bg.length:=by unfold aa6;rw[aw]
 rw[b3,dE]at hat
 have Z:GoodB m [] B:=by
  refine⟨Y,λ k o hk=>?_,λ k c ps e=>?_⟩
  ·unfold fsB at hk
   rw[aB]at hk
   cases q:B[k]? with
   | none=>rw[q]at hk;cases hk
   | some o' =>
    rw[q]at hk
    cases hk
    rw[hat k o' q]
    by_cases hb:k∈m.bg
    ·rw[if_pos hb]
     exact⟨⟨k,hb,rfl,rfl⟩,by rintro c ⟨p,_,_,rfl⟩;exact dW _⟩
    ·rw[if_neg hb]
     rintro c ⟨p,hp,h1,_⟩;exact hb (h1▸hp)
  ·have:=hat k _ e
   by_cases hb:k∈m.bg
   ·rw[if_pos hb]at this
    cases this
    exact⟨k,hb,rfl,rfl⟩
   ·rw[if_neg hb]at this;cases this
 tbr_iter [sW,R.bind_assoc]
 refine zM (W:=bi9 m w s) (λ j ρ u=>∃(T:Sto) (r nn:Nat) (B:List (Option (Int×List Nat))) (y3 y4 y5:Option D),u=s++T/\Bst u s.length r nn B/\GoodB m (w.take j) B/\ρ=[some m.d,some (.str w),some (.ref r),y3,y4,y5])
  ⟨T,s.length,_,B,_,_,_,rfl,hB,Z,rfl⟩ (λ _ _ _ _ _=>rfl) ?_ ?_
 ·rintro j d ρ u hj ⟨T,r,nn,B,y3,y4,y5,rfl,hB,Z,rfl⟩
  obtain⟨c,hc,rfl⟩:∃ c,w[j]?=some c/\d=.str [c]:=by
   rw[aB]at hj
   cases e:w[j]? with
   | none=>rw[e]at hj;cases hj
   | some c=>rw[e]at hj;cases hj;exact⟨c,rfl,rfl⟩
  have e4:w.take j++[c]=w.take (j+1):=by
   have hlt:j<w.length:=(ac.mp hc).1
   have e:w[j]=c:=(ac.mp hc).2
   rw[<-e,cf]
  obtain⟨T',r',B',e1,c3,a6⟩:=bE4 (P:=P) n hm (w:=w.take j) (by rw[dz];omega) c hB Z (by rw[aR];omega)
  rw[e4]at a6
  refine qw (ρ:=[some m.d,some (.str w),some (.ref r'),y3,some (.str [c]),y5]) (s:=s++T++T') ?_ ⟨T++T',r',_,B',_,_,_,by rw[be],c3,a6,rfl⟩
  tbr_iter [turn,e1]
 rintro ρ u ⟨T,r,nn,B,y3,y4,y5,rfl,hB,Z,rfl⟩
 rw[aw,dE]at Z
 obtain⟨l,b1,f1,a4⟩:=hB
 have a5:(aa6 m.en).length<=LIM:=by unfold aa6;rw[aw];unfold LIM;omega
 obtain⟨ρ3,s3,e3,b4,_⟩:=zV (ok:=λ d1=>chk (s++T) d1 []) (g:=ap0 (aa1 P (n+2)) (.one 0) (.cmp .isin (.var 0) (.var 1)) (.ix (.var 1) (.var 0))) (λ ρ u=>u=s++T/\∃ x,ρ=[x,some (.ref r)]) (λ d=>match d with|.int i=>look (.int i) l|_=>none) (aa6 m.en) (ql [some m.d,some (.str w),some (.ref r),y3,y4,y5] [none,some 2]) (s++T) ⟨rfl,none,rfl⟩ (λ _ _ h=>rfl) (by
  rintro d hd ρ u ⟨rfl,x,rfl⟩
  obtain⟨k,hk,rfl⟩:=aS.mp hd
  refine⟨[some (.int k),some (.ref r)],s++T,?_,rfl,_,rfl⟩
  have a0:=bc0 (k:=.int (k:Int)) b1 rfl
  unfold ap0
  cases e:look (.int (k:Int)) l with
  | none=>rw[e]at a0;tbr_iter [a0,cC,e]
  | some v=>rw[e]at a0;have b6:=aK8 (s:=s++T) b1 rfl e;tbr_iter [a0,cA,b6,e])
 subst b4
 have c4:(aa6 m.en).filterMap (λ d=>match d with|.int i=>look (.int i) l|_=>none)=m.en.filterMap λ(k:Nat)=>look (.int (k:Int)) l:=by
  unfold aa6
  rw[cE]
  exact zK λ q _=>rfl
 rw[c4]at e3
 have J:=aP9 a4 m.en λ k hk=>by rw[Z.len];exact hm.en.1 k hk
 have F:=ag1 (m:=m) (w:=w) (row:=fsB B) (by unfold fsB;rw[aw,Z.len]) hm.en.1 Z.low
 generalize d2:(m.en.filterMap λ(k:Nat)=>look (.int (k:Int)) l)=fl at e3 J
 have g5:(s++T++[O.lst fl]++[O.lst []])[(s++T).length]?=some (.lst fl):=zv zQ
 have a1:=bC8 (s:=s++T++[O.lst fl]++[O.lst []]) (q:=(s++T++[O.lst fl]).length) g5 zQ
 by_cases hne:fl=[]
 ·left
  rw[decide_eq_true hne]at a1
  refine⟨?_,?_⟩
  ·tbr_iter [z9,b2,sE,a5,e3,mk,a1]
   rw[be,be]
   exact ae2 (d:=.non) (λ _=>rfl) (by nofun)
  ·subst hne
   have:(m.en.filterMap λ k=>(fsB B).getD k none)=[]:=(au J).symm
   rw[this]at F
   exact F
 ·right
  rw[decide_eq_false hne]at a1
  obtain⟨d,z,hd,hz,a3,hI⟩:=bj7 J hne (s++T++[O.lst fl]++[O.lst []])
  rw[hI]at F
  rw[<-d2]at hd
  obtain⟨k,hk,G⟩:=cb.mp hd
  have c2:k<B.length:=by rw[Z.len];exact hm.en.1 k hk
  have a2:B[k]?=some B[k]:=ag c2
  have hr:=a4 k _ a2
  cases e:B[k]with
  | none =>
   rw[e]at hr
   have hr:look (.int (k:Int)) l=none:=hr
   rw[hr]at G;cases G
  | some p =>
   obtain⟨c,ps⟩:=p
   rw[e]at hr a2
   obtain⟨q,h1,h2,h3⟩:=hr
   rw[h1]at G
   cases G
   have d0:z=c:=by
    have:some c=some z:=hz
    exact(au this).symm
   subst d0
   obtain⟨p0,c0,hpl⟩:=Z.is_ k z ps a2
   refine⟨ps,z,?_,⟨p0,c0,k,hk,hpl⟩,F⟩
   have e2:av5 (.ref (s++T).length) (s++T++[O.lst fl]++[O.lst []])=.ok fl (s++T++[O.lst fl]++[O.lst []]):=by simp only[av5,g5]
   tbr_iter [z9,b2,sE,a5,e3,mk,a1,bv4,e2,a3,bJ8]
   have e5:(s++(T++([O.lst fl]++[O.lst []])))[q]?=some (.lst (aa6 ps)):=by
    rw[<-be];exact zv h3
   rw[be,be]
   exact aZ0 e5 h2 (by unfold O.bnd;exact qc ad5 _)
theorem ax2 {ρ:Env}{i:Nat}{d:D}(h:ρ[i]?=some (some d))(s:Sto):aF9 ρ i s=.ok d s:=by unfold aF9;rw[h]
structure Gd (ns:List Int)(r:Nat)(u:Sto):Prop where
 scr:u[0]?=some (.ro (ns.map D.int))
 ncl:u.all O.ncl=true
 bag:∃ b,u[r]?=some (zD b)
 r0:r≠0
theorem Gd.put {ns:List Int}{r:Nat}{u:Sto}(h:Gd ns r u)(b:Nat×Nat):Gd ns r (u.set r (zD b)):=⟨by rw[aP h.r0];exact h.scr,bk7 h.ncl rfl,af2 (as4 h.bag),h.r0⟩
theorem Gd.snoc {ns:List Int}{r:Nat}{u:Sto}(h:Gd ns r u){o:O}(ho:o.ncl=true):Gd ns r (u++[o]):=⟨zv h.scr,ao6 h.ncl ho,bn3 h.bag,h.r0⟩
noncomputable def aO9 (x y z:Int):E:=(.ix (.lst (.cons (.cst (.int x)) (.cons (.cst (.int x)) (.cons (.cst (.int x)) (.cons (.ix (.lst (.cons (.cst (.int y)) (.cons (.cst (.int z)) .nil))) (.bi .int (.cons (.cmp .eq (.var 1) (.cst (.int 0))) .nil))) .nil))))) (.call "_law_take" (.ex (.var 2) (.ex (.cst (.int 4)) .nil))))
theorem bo7 {P:Pr}[Has P ab4](n:Nat){ns:List Int}{r:Nat}{u:Sto}(h:Gd ns r u){x y z:Nat}{ρ:Env}{j:Nat}(J:ρ[1]?=some (some (.int (j:Int))))(Z:ρ[2]?=some (some (.ref r))){B:Nat}(hx:x<=B)(hy:y<=B)(hz:z<=B) :
  ∃(v:Nat) (G:Sto),v<=B/\Gd ns r G/\ev (aa1 P (n+1)) (aO9 x y z) ρ u=.ok (.int (v:Int)) G:=by
 have g1:Gd ns r (u++[O.lst [D.int (y:Int),.int (z:Int)]]):=h.snoc rfl
 obtain⟨v,hv,e1⟩:∃ v:Nat,v<=B/\ev (aa1 P (n+1)) (.ix (.lst (.cons (.cst (.int y)) (.cons (.cst (.int z)) .nil))) (.bi .int (.cons (.cmp .eq (.var 1) (.cst (.int 0))) .nil))) ρ u=.ok (.int (v:Int)) (u++[O.lst [D.int (y:Int),.int (z:Int)]]):=by
  by_cases hj:(j:Int)=0
  ·have F:ixM (.ref u.length) (.int 1) (u++[O.lst [D.int (y:Int),.int (z:Int)]])=.ok (.int (z:Int)) (u++[O.lst [D.int (y:Int),.int (z:Int)]]):=ai9 (j:=1) bK0 rfl
   refine⟨z,hz,?_⟩
   tbr_iter [ax2 J,aO1,hj,F]
  ·have F:ixM (.ref u.length) (.int 0) (u++[O.lst [D.int (y:Int),.int (z:Int)]])=.ok (.int (y:Int)) (u++[O.lst [D.int (y:Int),.int (z:Int)]]):=ai9 (j:=0) bK0 rfl
   refine⟨y,hy,?_⟩
   tbr_iter [ax2 J,aO1,hj,F]
 have Y:Gd ns r (u++[O.lst [D.int (y:Int),.int (z:Int)]]++[O.lst [D.int (x:Int),.int (x:Int),.int (x:Int),.int (v:Int)]]):=g1.snoc rfl
 obtain⟨d,b,hd,e2⟩:=zY (P:=P) n Y.bag 4 (by decide) (by decide)
 have hq:((u++[O.lst [D.int (y:Int),.int (z:Int)]]++[O.lst [D.int (x:Int),.int (x:Int),.int (x:Int),.int (v:Int)]]).set r (zD b))[(u++[O.lst [D.int (y:Int),.int (z:Int)]]).length]?=some (.lst [D.int (x:Int),.int (x:Int),.int (x:Int),.int (v:Int)]):=by
  rw[aP (by have:=as4 g1.bag;omega)];exact bK0
 have g3:=Y.put b
 have key:∀ k:Nat,d=k->∀ w:Nat,[D.int (x:Int),.int (x:Int),.int (x:Int),.int (v:Int)][k]?=some (.int (w:Int))->w<=B->∃(v:Nat) (G:Sto),v<=B/\Gd ns r G/\ev (aa1 P (n+1)) (aO9 x y z) ρ u=.ok (.int (v:Int)) G:=λ k hk w hw hB=>by
  subst hk
  refine⟨w,_,hB,g3,?_⟩
  have F:=ai9 hq hw
  unfold aO9
  rw[ev_ix,ev_lst]
  simp -implicitDefEqProofs only[evs_cons,evs_nil,ev_cst,Cn_int,R.bind_ok]
  rw[e1]
  tbr_iter [ax2 Z,e2,F]
 have a0:d<4:=by omega
 rcases(by omega:d=0\/d=1\/d=2\/d=3)with h0|h0|h0|h0
 ·exact key 0 h0 x rfl hx
 ·exact key 1 h0 x rfl hx
 ·exact key 2 h0 x rfl hx
 ·exact key 3 h0 v rfl hv
def bB8 (s:Sto)(r B:Nat)(x:R D):Prop:=∃(w:List Nat) (b:Nat×Nat),w.length<=B/\x=.ok (.str w) (s.set r (zD b))
theorem aY7 {P:Pr}[Has P ab4][Has P aj4](n:Nat){s:Sto}{r L:Nat}(hL:1<=L)(F:L<=3)(hs:∃ b,s[r]?=some (zD b))(B:Nat)(Z:B<=500):bB8 s r B ((aa1 P (n+2)).call "_law_word" [.ref r,.int L,.int B] s):=by
 have G:(aa1 P (n+2)).call "_law_word" [.ref r,.int L,.int B] s=_:=zx aj4 (n:=n+1) rfl
 have Y:=as4 hs
 obtain⟨a,h,ha,e1⟩:=zY (P:=P) n hs ((B:Int)+1) (by omega) (af4 (by omega))
 rw[G]
 simp -implicitDefEqProofs [aj4,e1]
 rw[qq (by unfold W62;omega) (by unfold W62;omega)]
 simp only[R.bind_ok]
 refine zM (W:=bB8 s r B) (λ j ρ u=>∃(b:Nat×Nat) (w:List Nat) (x:Option D),w.length=j/\ρ=[some (.ref r),some (.int L),some (.int B),some (.str w),x]/\u=s.set r (zD b)) ⟨h,[],none,rfl,rfl,rfl⟩ (λ _ _ _ _ _=>rfl) ?_ ?_
 ·rintro j d ρ u hj ⟨b,w,x,hl,rfl,rfl⟩
  obtain⟨J,rfl⟩:=qy hj
  obtain⟨k,c,hk,f⟩:=zY (P:=P) n (af2 (b:=b) Y) L (by omega) (af4 (by omega))
  rw[c8]at f
  refine qw (ρ:=[some (.ref r),some (.int L),some (.int B),some (.str (w++[97+k])),some (.int j)]) (s:=s.set r (zD c)) ?_ ⟨c,_,_,by simp[hl],rfl,rfl⟩
  simp -implicitDefEqProofs [turn,f,be5 (show k<3 by omega)]
  rw[aV1 (by unfold LIM;simp;omega)]
  rfl
 ·rintro ρ u ⟨b,w,x,hl,rfl,rfl⟩
  simp -implicitDefEqProofs
  refine⟨w,b,?_,qA (λ _=>rfl) (by nofun) rfl⟩
  rw[hl];simp[ac5];omega
theorem aG2 {s:Sto}{r:Nat}{l:List D}(h:s[r]?=some (.lst l)):bi .isList [.ref r] s=.ok (.bl true) s:=by
 show(isK 5 (.ref r) s)=_
 simp only[isK,h];rfl
theorem bc1 {s:Sto}{a k:Nat}{l:List Nat}(h:s[a]?=some (.lst (aa6 l))):inM (.int k) (.ref a) s=.ok (decide (k∈l)) s:=by unfold inM;simp only[h,ah5]
theorem bt6 {l:List Nat}{i k:Nat}(h:l[i]?=some k):(aa6 l)[i]?=some (.int (k:Int)):=by unfold aa6;rw[aB,h];rfl
noncomputable def by2:Ss:=(.cons (.ite (.or (.not (.bi .isInt (.cons (.ix (.var 2) (.var 5)) .nil))) (.or (.bi .isBool (.cons (.ix (.var 2) (.var 5)) .nil)) (.not (.chain .le .lt (.cst (.int 0)) (.ix (.var 2) (.var 5)) (.bi .len (.cons (.ix (.var 0) (.cst (.int 4))) .nil)))))) (.cons (.ret (.cst .non)) .nil) .nil) (.cons (.asg (.one 6) (.ix (.ix (.var 0) (.cst (.int 4))) (.ix (.var 2) (.var 5)))) (.cons (.ite (.or (.cmp .notin (.ix (.var 6) (.cst (.int 0))) (.var 3)) (.cmp .ne (.ix (.var 6) (.cst (.int 1))) (.ix (.var 1) (.var 5)))) (.cons (.ret (.cst .non)) .nil) .nil) (.cons (.asg (.one 3) (.lst (.cons (.ix (.var 6) (.cst (.int 2))) .nil))) (.cons (.asg (.one 4) (.bin .add (.var 4) (.ix (.var 6) (.cst (.int 3))))) .nil)))))
theorem aV0:af9.body=(.cons (.ite (.or (.not (.bi .isList (.cons (.var 2) .nil))) (.cmp .ne (.bi .len (.cons (.var 2) .nil)) (.bi .len (.cons (.var 1) .nil)))) (.cons (.ret (.cst .non)) .nil) .nil) (.cons (.asg (.one 3) (.mk .list (.comp (.one 0) (.seq (.ix (.var 0) (.cst (.int 2)))) (.var 0) [none]))) (.cons (.asg (.one 4) (.cst (.int 0))) (.cons (.for_ (.one 5) (.rng1 (.bi .len (.cons (.var 1) .nil))) by2) (.cons (.ite (.cmp .eq (.bi .len (.cons (.mk .list (.compIf (.one 0) (.seq (.var 3)) (.cmp .isin (.var 0) (.ix (.var 1) (.cst (.int 3)))) (.var 0) [none,some 0])) .nil)) (.cst (.int 0))) (.cons (.ret (.cst .non)) .nil) .nil) (.cons (.ret (.var 4)) .nil)))))):=rfl
noncomputable def enF (m:Mc):D->Option D
 | .int i=>if i.toNat∈m.en then some (.int i)else none
 | _=>none
theorem aw5 (m:Mc)(k:Nat):enF m (.int (k:Int))=if k∈m.en then some (.int (k:Int))else none:=by simp only[enF,bJ]
theorem bj1 {P:Pr}[Has P af9](n:Nat){m:Mc}(hm:m.Ok){w ps:List Nat}(hw:w.length<=1000){p q:Nat}{c:Int}(hp:p∈m.bg)(hq:q∈m.en)(h:Pl m.ds w ps p q c){s:Sto}{r:Nat}(hr:s[r]?=some (.lst (aa6 ps))) :
  (aa1 P (n+1)).call "_law_cost" [m.d,.str w,.ref r] s=.ok (.int c) s:=by
 have e0:(aa1 P (n+1)).call "_law_cost" [m.d,.str w,.ref r] s=_:=zx af9 (n:=n) rfl
 rw[e0,aV0,show(List.map some [m.d,D.str w,D.ref r]++aE af9.vs none)=[some m.d,some (.str w),some (.ref r),none,none,none,none]from rfl]
 have a4:=aC2 h
 have a3:=aT2 hr
 have b0:(aa6 ps).length=w.length:=by unfold aa6;rw[aw,a4]
 rw[b0]at a3
 have sB:∀ S,as9 (.tup (aa6 m.bg)) S=.ok ⟨aa6 m.bg,[]⟩ S:=λ _=>rfl
 have b4:=bg4 hm
 have a1:(aa6 m.bg).length<=LIM:=by unfold aa6;rw[aw];unfold LIM;omega
 obtain⟨ρ3,s3,e3,b3,_⟩:=zV (ok:=λ Z=>chk s Z []) (g:=as5 (aa1 P n) (.one 0) (.var 0)) (λ ρ u=>u=s/\∃ x,ρ=[x]) (λ d=>some d) (aa6 m.bg) (ql [some m.d,some (.str w),some (.ref r),none,none,none,none] [none]) s ⟨rfl,none,rfl⟩ (λ _ _ h=>rfl) (by
  rintro d hd ρ u ⟨rfl,x,rfl⟩
  refine⟨[some d],u,?_,rfl,_,rfl⟩
  unfold as5
  tbr_iter [])
 rw[b3,show(aa6 m.bg).filterMap (λ d=>some d)=aa6 m.bg from List.filterMap_some ..]at e3
 tbr_iter [aG2 hr,a3,aN8,bc9,ixB,sB,a1,e3,mk]
 rw[qq (by unfold W62;omega) (by unfold W62;omega)]
 simp only[R.bind_ok]
 rw[R.bind_assoc]
 refine aE5 (λ k ρ u=>∃(T:Sto) (a:Nat) (hs:List Nat) (p':Nat) (Y c':Int) (y5 y6:Option D),u=s++T/\u[a]?=some (.lst (aa6 hs))/\hs.length<=5/\p'∈hs/\Pl m.ds (w.drop k) (ps.drop k) p' q c'/\Y+c'=c/\ρ=[some m.d,some (.str w),some (.ref r),some (.ref a),some (.int Y),y5,y6])
  ⟨[.lst (aa6 m.bg)],s.length,m.bg,p,0,c,_,_,rfl,zQ,b4,hp,by rw[fw,fw];exact h,by omega,rfl⟩ (λ _ _ _ _ _=>rfl) ?_ ?_
 ·rintro k d ρ u hk ⟨T,a,hs,p',Y,c',y5,y6,rfl,ha,b5,a0,hpl,hcc,rfl⟩
  obtain⟨G,rfl⟩:=qy hk
  rw[fg]
  have a5:k<w.length:=by omega
  have a2:k<ps.length:=by omega
  have ew:w.drop k=w[k]::w.drop (k+1):=(cG a5)
  have ep:ps.drop k=ps[k]::ps.drop (k+1):=(cG a2)
  rw[ew,ep]at hpl
  obtain⟨e,he,h1,h2,c2,h3,h4⟩:=hpl
  have hj:ps[k]?=some ps[k]:=ag a2
  have hx:w[k]?=some w[k]:=ag a5
  generalize ps[k]=j at he hj
  generalize w[k]=x at h2 hx
  have c3:j<m.ds.length:=(ac.mp he).1
  have i1:ixM (.ref r) (.int (k:Int)) (s++T)=.ok (.int (j:Int)) (s++T):=ai9 (zv hr) (bt6 hj)
  have i2:ixM (.tup (m.ds.map Dr.d)) (.int (j:Int)) (s++T)=.ok e.d (s++T):=bo3 (by omega) (by rw[bJ];exact he)
  have i3:ixM (.str w) (.int (k:Int)) (s++T)=.ok (.str [x]) (s++T):=ix_str hx
  have d1:decide ((0:Int)<=(j:Int))=true:=decide_eq_true (by omega)
  have d2:decide ((j:Int)<((m.ds.map Dr.d).length:Int))=true:=decide_eq_true (by rw[aw];omega)
  have F:=bc1 (k:=e.a) ha
  rw[decide_eq_true (show e.a∈hs by rw[h1];exact a0)]at F
  refine qw (ρ:=[some m.d,some (.str w),some (.ref r),some (.ref (s++T).length),some (.int (Y+e.t)),some (.int k),some e.d]) (s:=s++T++[.lst [.int e.b]]) ?_ ⟨T++[.lst (aa6 [e.b])],(s++T).length,[e.b],e.b,Y+e.t,c2,_,_,by rw[<-be];rfl,zQ,by simp,by simp,h3,by omega,rfl⟩
  unfold by2 turn
  tbr_iter [i1,aQ1,aF5,aW8,d1,bp3,ixD,d2,i2,aH1,aI3,aG7,bb0,bc5,F,i3,af7,h2]
 ·rintro ρ u ⟨T,a,hs,p',Y,c',y5,y6,rfl,ha,b5,a0,hpl,hcc,rfl⟩
  have b2:(ac5 0 (w.length:Int)).length=w.length:=by simp[ac5]
  rw[b2,jx,<-a4,jx]at hpl
  obtain⟨rfl,rfl⟩:=hpl
  have sH:as9 (.ref a) (s++T)=.ok ⟨aa6 hs,[a]⟩ (s++T):=by simp only[as9,ha]
  have a6:(aa6 hs).length<=LIM:=by unfold aa6;rw[aw];unfold LIM;omega
  obtain⟨ρ4,s4,e4,c0,_⟩:=zV (ok:=λ Z=>chk (s++T) Z [a]) (g:=ap0 (aa1 P n) (.one 0) (.cmp .isin (.var 0) (.ix (.var 1) (.cst (.int 3)))) (.var 0)) (λ ρ u=>u=s++T/\∃ x,ρ=[x,some m.d]) (enF m) (aa6 hs) (ql [some m.d,some (.str w),some (.ref r),some (.ref a),some (.int Y),y5,y6] [none,some 0]) (s++T) ⟨rfl,none,rfl⟩ (λ _ _ h=>by rw[h.1];simp[chk]) (by
   rintro d hd ρ u ⟨rfl,x,rfl⟩
   obtain⟨k,hk,rfl⟩:=aS.mp hd
   refine⟨[some (.int k),some m.d],s++T,?_,rfl,_,rfl⟩
   have F:=aD0 (s:=s++T) (k:=k) (l:=m.en)
   unfold ap0
   by_cases G:k∈m.en
   ·rw[decide_eq_true G]at F
    tbr_iter [ixE,ap6,F,aw5,G]
   ·rw[decide_eq_false G]at F
    tbr_iter [ixE,ap6,F,aw5,G])
  have J:D.int (p':Int)∈(aa6 hs).filterMap (enF m):=cb.mpr ⟨.int (p':Int),aS.mpr ⟨p',a0,rfl⟩,by rw[aw5,if_pos hq]⟩
  generalize (aa6 hs).filterMap (enF m)=fl at J e4
  rw[c0]at e4
  have c1:=List.length_pos_of_mem J
  have b1:=aT2 (s:=s++T++[.lst fl]) (r:=(s++T).length) (l:=fl) zQ
  have b6:decide ((fl.length:Int)=0)=false:=decide_eq_false (by omega)
  tbr_iter [z9,sH,a6,e4,mk,b1,b6]
  rw[show Y=c by omega,be]
  exact ae2 (d:=.int c) (λ _=>rfl) (by nofun)
theorem bs0 {s:Sto}{r:Nat}{l:List D}(h:s[r]?=some (.lst l)):meth .reverse (.ref r) [] s=.ok .non (s.set r (.lst l.reverse)):=by
 show(match s[r]? with|some (.lst l)=>R.ok D.non (s.set r (.lst l.reverse))|_=>.bad:R D)=_
 rw[h]
theorem aE7 {a b:List D}(h:D.nclL a=true)(g:D.nclL b=true):D.nclL (a++b)=true:=by
 induction a with
 | nil=>exact g
 | cons x a ih =>
  unfold D.nclL at h
  rw[aj]at h
  show(D.ncl x&&D.nclL (a++b))=true
  rw[h.1,ih h.2];rfl
theorem aW6 {a:List D}(h:D.nclL a=true):D.nclL a.reverse=true:=by
 induction a with
 | nil=>rfl
 | cons x a ih =>
  unfold D.nclL at h
  rw[aj]at h
  rw[cL]
  exact aE7 (ih h.2) (by show(D.ncl x&&D.nclL [])=true;rw[h.1];rfl)
noncomputable def bN2:S:=(.for_ (.one 6) (.rng1 (.cst (.int 2))) (.cons (.asg (.one 7) (.call "road" (.ex (.var 3) (.ex (.var 4) .nil)))) (.cons (.ite (.isN (.var 5)) (.cons (.ite (.notN (.var 7)) (.cons (.ret (.cst (.bl false))) .nil) .nil) (.cons .cont .nil)) .nil) (.cons (.ite (.cmp .ne (.call "_law_cost" (.ex (.var 3) (.ex (.var 4) (.ex (.var 7) .nil)))) (.var 5)) (.cons (.ret (.cst (.bl false))) .nil) .nil) (.cons (.ex (.meth .append (.var 7) (.cons (.cst (.int 0)) .nil))) (.cons (.ex (.meth .reverse (.var 7) .nil)) .nil))))))
theorem bC0:aa9.body=(.cons (.for_ (.one 1) (.rng1 (.bin .add (.bi .min2 (.cons (.bi .len (.cons (.var 0) .nil)) (.cons (.cst (.int 4)) .nil))) (.cst (.int 1)))) (.cons (.asg (.one 2) (.call "_law_bag" (.ex (.var 0) (.ex (.var 1) .nil)))) (.cons (.asg (.one 3) (.call "_law_machine" (.ex (.var 2) .nil))) (.cons (.asg (.one 4) (.call "_law_word" (.ex (.var 2) (.ex (.ix (.var 3) (.cst (.int 0))) (.ex (aO9 10 60 200) .nil))))) (.cons (.asg (.one 5) (.call "_law_least" (.ex (.var 3) (.ex (.var 4) .nil)))) (.cons bN2 .nil)))))) (.cons (.ret (.cst (.bl true))) .nil)):=rfl
section
variable {P:Pr} [Has P aa9] [Has P au5] [Has P ab4] [Has P ac2] [Has P ab7] [Has P aj4] [Has P ac3] [Has P af9] [Has P aa7] [Has P ab2] [Has P aa5] [Has P aa4] [Has P ai3]
theorem bv2 (n:Nat){ns:List Int}{m:Mc}(hm:m.Ok){w:List Nat}(hw:w.length<=1000){o:Option Int}(ho:ab3 (m.Wk w) o){u:Sto}(hu:u[0]?=some (.ro (ns.map D.int)))(hn:u.all O.ncl=true)(x1 Z x6 x7:Option D) :
  ∃(v:Sto) (J Y:Option D),v[0]?=some (.ro (ns.map D.int))/\v.all O.ncl=true/\ex (aa1 P (n+3)) bN2 [some (.ref 0),x1,Z,some m.d,some (.str w),some (al5 o),x6,x7] u=.ok (.next [some (.ref 0),x1,Z,some m.d,some (.str w),some (al5 o),J,Y]) v:=by
 unfold bN2
 tbr_iter []
 rw[qq (by unfold W62;omega) (by unfold W62;omega)]
 simp only[R.bind_ok]
 obtain⟨ρ',v,e,h⟩:=aw1 (ok:=λ a1=>chk u a1 []) (g:=turn (aa1 P (n+3)) (.one 6) ((.cons (.asg (.one 7) (.call "road" (.ex (.var 3) (.ex (.var 4) .nil)))) (.cons (.ite (.isN (.var 5)) (.cons (.ite (.notN (.var 7)) (.cons (.ret (.cst (.bl false))) .nil) .nil) (.cons .cont .nil)) .nil) (.cons (.ite (.cmp .ne (.call "_law_cost" (.ex (.var 3) (.ex (.var 4) (.ex (.var 7) .nil)))) (.var 5)) (.cons (.ret (.cst (.bl false))) .nil) .nil) (.cons (.ex (.meth .append (.var 7) (.cons (.cst (.int 0)) .nil))) (.cons (.ex (.meth .reverse (.var 7) .nil)) .nil))))))) (λ _ ρ v=>v[0]?=some (.ro (ns.map D.int))/\v.all O.ncl=true/\∃ J Y,ρ=[some (.ref 0),x1,Z,some m.d,some (.str w),some (al5 o),J,Y]) (ac5 0 2) 0 [some (.ref 0),x1,Z,some m.d,some (.str w),some (al5 o),x6,x7] u ⟨hu,hn,_,_,rfl⟩ (λ _ _ _ _ _=>rfl) (by
  rintro k d ρ v hk ⟨hv,F,J,Y,rfl⟩
  rcases road_ok (P:=P) n hm w hw v with⟨er,hL⟩|⟨ps,c,er,⟨p,hp,q,hq,hpl⟩,hL⟩
  ·have G:o=none:=ho.eq hL λ c=>kE
   subst G
   refine⟨[some (.ref 0),x1,Z,some m.d,some (.str w),some (al5 none),some d,some .non],v,.inr ?_,hv,F,_,_,rfl⟩
   unfold turn
   tbr_iter [er,aj7]
  ·have G:o=some c:=ho.eq hL λ c=>kE
   subst G
   have ec:=bj1 (P:=P) (n+2) hm hw hp hq hpl (s:=v++[.lst (aa6 ps)]) (r:=v.length) zQ
   have a3:=aC2 hpl
   have ea:=am8 (s:=v++[.lst (aa6 ps)]) (r:=v.length) (v:=.int 0) zQ (by unfold aa6 LIM;rw[aw];omega)
   rw[aB5]at ea
   have a0:=bs0 (s:=v++[O.lst (aa6 ps++[D.int 0])]) (r:=v.length) zQ
   rw[aB5]at a0
   refine⟨[some (.ref 0),x1,Z,some m.d,some (.str w),some (al5 (some c)),some d,some (.ref v.length)],v++[O.lst (aa6 ps++[D.int 0]).reverse],.inl ?_,zv hv,ao6 F (aW6 (aE7 ba3 rfl)),_,_,rfl⟩
   have a2:decide (D.int c=D.non)=false:=rfl
   unfold turn
   tbr_iter [er,au7,a2,ec,ea,a0])
 obtain⟨hv,F,J,Y,rfl⟩:=h
 exact⟨v,J,Y,hv,F,e⟩
theorem bP9 (n:Nat):bP7 P (n+4):=by
 intro ns hl
 have e0:(aa1 P (n+4)).call "law" [.ref 0] [.ro (ns.map D.int)]=_:=zx aa9 (n:=n+3) rfl
 rw[e0,bC0,show(List.map some [D.ref 0]++aE aa9.vs none)=[some (.ref 0),none,none,none,none,none,none,none]from rfl]
 have a1:([.ro (ns.map D.int)]:Sto)[0]?=some (.ro (ns.map D.int)):=rfl
 have Z:bi .len [.ref 0] [.ro (ns.map D.int)]=.ok (.int ns.length) [.ro (ns.map D.int)]:=by rw[bg1 a1,aw]
 have hk:(if 4<(ns.length:Int)then 4 else(ns.length:Int))+1=((min ns.length 4+1:Nat):Int):=by omega
 tbr_iter [Z,bd4,hk]
 rw[qq (by unfold W62;omega) (by unfold W62;omega)]
 simp only[R.bind_ok]
 rw[R.bind_assoc]
 refine zM (W:=Yes) (λ j ρ t=>t[0]?=some (.ro (ns.map D.int))/\t.all O.ncl=true/\∃ x1 x2 x3 Y J G F,ρ=[some (.ref 0),x1,x2,x3,Y,J,G,F]) ⟨rfl,by
   simp only[dM,ki,iD];exact bb7,_,_,_,_,_,_,_,rfl⟩ (λ _ _ _ _ _=>rfl) ?_ ?_
 ·rintro j d ρ t hj ⟨ht,hn,x1,x2,x3,Y,J,G,F,rfl⟩
  obtain⟨_,rfl⟩:=qy hj
  rw[fg]
  have a3:0<t.length:=(ac.mp ht).1
  have h:=bF4 (P:=P) (n+2) ns j t 0 ht hl
  have G0:Gd ns t.length (t++[zD (bn1 ns j)]):=⟨zv ht,ao6 hn rfl,⟨_,bK0⟩,by omega⟩
  generalize t++[zD (bn1 ns j)]=S at h G0
  generalize t.length=r at h G0
  obtain⟨m,b1,hm,em⟩:=aH0 (P:=P) n G0.bag
  have G1:=G0.put b1
  obtain⟨B,u,hB,G2,ep⟩:=bo7 (P:=P) (n+2) G1 (x:=10) (y:=60) (z:=200) (ρ:=[some (.ref 0),some (.int (j:Int)),some (.ref r),some m.d,Y,J,G,F]) (j:=j) rfl rfl (B:=200) (by decide) (by decide) (by decide)
  obtain⟨w,b3,hw,ew⟩:=aY7 (P:=P) (n+1) hm.L1 hm.L3 G2.bag B (by omega)
  have G3:=G2.put b3
  obtain⟨o,ho,eo⟩:=aY4 (P:=P) (n+2) hm w (by omega) (u.set r (zD b3))
  obtain⟨v,y6,y7,hv,a2,ef⟩:=bv2 (P:=P) n hm (w:=w) (by omega) ho G3.scr G3.ncl (some (.int (j:Int))) (some (.ref r)) G F
  refine qw (ρ:=[some (.ref 0),some (.int (j:Int)),some (.ref r),some m.d,some (.str w),some (al5 o),y6,y7]) (s:=v) ?_ ⟨hv,a2,_,_,_,_,_,_,_,rfl⟩
  unfold turn
  simp -implicitDefEqProofs only[zT,setV_s,setV_0,cw,qB,ex_asg,ev_call,evas_ex,evas_nil,qi,qk,qj,R.bind_ok,h,em,setC_some,nxt_next,ev_ix,ev_cst,Cn_int,ixL]
  have a0:ev (aa1 P (n+3)) (aO9 10 60 200) [some (.ref 0),some (.int (j:Int)),some (.ref r),some m.d,Y,J,G,F] (S.set r (zD b1))=.ok (.int (B:Int)) u:=ep
  rw[a0]
  simp -implicitDefEqProofs only[R.bind_ok,ew,zT,setV_s,setV_0,cw,setC_some,nxt_next,qB,ex_asg,ev_call,evas_ex,evas_nil,qi,qk,qj,eo]
  rw[ef]
  tbr_iter []
 ·rintro ρ t ⟨ht,hn,x1,x2,x3,Y,J,G,F,rfl⟩
  tbr_iter []
  exact aQ9 _ _
end
end DV
end
local macro_rules | `(tactic| walk_at "sc") => `(tactic| exact ⟨rfl, rfl, rfl, by decide +kernel, rfl, by decide +kernel, by decide +kernel⟩)
local macro_rules | `(tactic| walk_at "df") => `(tactic| (dsimp only; exact ⟨_, _, _, _, _, _, _, _, _, _, by k_is, by k_is, by k_is, by k_is⟩))
noncomputable section
namespace My
open PySem L2
noncomputable def top (i:Nat):Stmt:=PySem.Challenge.pw_leasttolls_k06_a_road_of_least_toll.main.body.getD i (.Pass ⟨0,0,0,0⟩)
theorem bU7:aL0 ["walk"]:=λ params h _ _ _ _ _ _ _ _ us hl=>by
 obtain⟨args,rfl,ha⟩:=aj9 h
 revert us
 refine bd1 ?_
 intro F
 rcases args with _|⟨⟨a0,_,_⟩,_|⟨_,_⟩⟩
 all_goals simp only[aV,dA,List.cons.injEq,and_true,and_false,reduceCtorEq]at ha
 obtain rfl:=ha
 exact⟨rfl,λ _ _=>rfl⟩
noncomputable def ai1:List Str:=["road"]
noncomputable abbrev al0:Stmt:=top 1
noncomputable abbrev au8:Stmt:=top 2
noncomputable abbrev an0:Stmt:=top 3
noncomputable abbrev bg8:Stmt:=top 5
noncomputable abbrev ad4:Stmt:=top 6
noncomputable abbrev am1:Stmt:=top 8
noncomputable abbrev ah7:Stmt:=top 9
noncomputable abbrev ag3:Stmt:=top 10
noncomputable abbrev ac8:Stmt:=top 11
noncomputable abbrev ai8:Stmt:=top 12
noncomputable abbrev ag2:Stmt:=top 13
noncomputable abbrev ak0:Stmt:=top 14
noncomputable abbrev as2:Stmt:=top 15
noncomputable def tb:List (String×lO×Stmt):=[("begins_of",DV.aa7,al0),("ends_of",DV.ab2,au8),("doors_of",DV.aa5,an0),("road",DV.ai3,bg8),("best_led_on",DV.aa4,ad4),("_law_bag",DV.au5,am1),("_law_take",DV.ab4,ah7),("_law_rooms",DV.ac2,ag3),("_law_machine",DV.ab7,ac8),("_law_word",DV.aj4,ai8),("_law_least",DV.ac3,ag2),("_law_cost",DV.af9,ak0),("law",DV.aa9,as2)]
noncomputable def bL0:List (String×kH):=[]
noncomputable def bV4:List (String×lN):=[("road.0",DV.ai0)]
noncomputable def tbl:List (String×lO):=tb.map λ p=>(p.1,p.2.1)
noncomputable def P:kU:=⟨λ f=>tbl.lookup f,λ f=>bV4.lookup f,λ x=>bL0.lookup x,λ _=>none,λ _=>none,λ _=>false,λ _=>false⟩
instance:DV.HasL P DV.ai0:=⟨rfl⟩
instance:DV.Has P DV.aa7:=⟨rfl⟩
instance:DV.Has P DV.ab2:=⟨rfl⟩
instance:DV.Has P DV.aa5:=⟨rfl⟩
instance:DV.Has P DV.ai3:=⟨rfl⟩
instance:DV.Has P DV.aa4:=⟨rfl⟩
instance:DV.Has P DV.au5:=⟨rfl⟩
instance:DV.Has P DV.ab4:=⟨rfl⟩
instance:DV.Has P DV.ac2:=⟨rfl⟩
instance:DV.Has P DV.ab7:=⟨rfl⟩
instance:DV.Has P DV.aj4:=⟨rfl⟩
instance:DV.Has P DV.ac3:=⟨rfl⟩
instance:DV.Has P DV.af9:=⟨rfl⟩
instance:DV.Has P DV.aa9:=⟨rfl⟩
theorem az5:DT ai1 P "begins_of" DV.aa7 al0:=⟨["machine"],["machine"],by walk_at "sc",rfl,rfl,λ _ _ _ _ _ _=>bd1 (λ _=>rfl),.inl (by decide +kernel)⟩
theorem aQ5:DT ai1 P "ends_of" DV.ab2 au8:=⟨["machine"],["machine"],by walk_at "sc",rfl,rfl,λ _ _ _ _ _ _=>bd1 (λ _=>rfl),.inl (by decide +kernel)⟩
theorem aG6:DT ai1 P "doors_of" DV.aa5 an0:=⟨["machine"],["machine"],by walk_at "sc",rfl,rfl,λ _ _ _ _ _ _=>bd1 (λ _=>rfl),.inl (by decide +kernel)⟩
theorem bw4:DT ai1 P "road" DV.ai3 bg8:=⟨["machine", "word", "best", "room", "letter", "found"],["machine", "word"],by walk_at "sc",rfl,rfl,λ _ _ _ _ _ _=>bd2 (λ _ _=>rfl),.inr ⟨by decide,[("road.0",DV.ai0,["walk"],[])],by decide +kernel,by decide +kernel,λ p hp=>by
 simp only[ax,bp,or_false]at hp
 rcases hp with rfl
 ·exact⟨rfl,bU7⟩⟩⟩
theorem ao3:DT ai1 P "best_led_on" DV.aa4 ad4:=⟨["machine", "best", "letter", "led_on", "place", "door", "start", "goal", "cost"],["machine", "best", "letter"],by walk_at "sc",rfl,rfl,λ _ _ _ _ _ _=>bd3 (λ _ _ _=>rfl),.inl (by decide +kernel)⟩
theorem aI2:DT ai1 P "_law_bag" DV.au5 am1:=⟨["_law_script", "_law_at", "_law_cell", "_law_mix", "_law_k"],["_law_script", "_law_at"],by walk_at "sc",rfl,rfl,λ _ _ _ _ _ _=>bd2 (λ _ _=>rfl),.inl (by decide +kernel)⟩
theorem az2:DT ai1 P "_law_take" DV.ab4 ah7:=⟨["_law_bag_here", "_law_many", "_law_digit", "_law_number", "_law_room"],["_law_bag_here", "_law_many"],by walk_at "sc",rfl,rfl,λ _ _ _ _ _ _=>bd2 (λ _ _=>rfl),.inl (by decide +kernel)⟩
theorem av0:DT ai1 P "_law_rooms" DV.ac2 ag3:=⟨["_law_bag_here", "_law_many", "_law_bits"],["_law_bag_here", "_law_many"],by walk_at "sc",rfl,rfl,λ _ _ _ _ _ _=>bd2 (λ _ _=>rfl),.inl (by decide +kernel)⟩
theorem al8:DT ai1 P "_law_machine" DV.ab7 ac8:=⟨["_law_bag_here", "_law_letters", "_law_rooms_here", "_law_many", "_law_doors", "_law_k"],["_law_bag_here"],by walk_at "sc",rfl,rfl,λ _ _ _ _ _ _=>bd1 (λ _=>rfl),.inl (by decide +kernel)⟩
theorem az0:DT ai1 P "_law_word" DV.aj4 ai8:=⟨["_law_bag_here", "_law_letters", "_law_most", "_law_word_here", "_law_k"],["_law_bag_here", "_law_letters", "_law_most"],by walk_at "sc",rfl,rfl,λ _ _ _ _ _ _=>bd3 (λ _ _ _=>rfl),.inl (by decide +kernel)⟩
theorem at0:DT ai1 P "_law_least" DV.ac3 ag2:=⟨["_law_machine_here", "_law_word_here", "_law_later", "_law_letter", "_law_sooner", "_law_start", "_law_sign", "_law_goal", "_law_cost_here", "_law_some"],["_law_machine_here", "_law_word_here"],by walk_at "sc",rfl,rfl,λ _ _ _ _ _ _=>bd2 (λ _ _=>rfl),.inl (by decide +kernel)⟩
theorem ay8:DT ai1 P "_law_cost" DV.af9 ak0:=⟨["_law_machine_here", "_law_word_here", "_law_places", "_law_here", "_law_cost_here", "_law_k", "_law_door"],["_law_machine_here", "_law_word_here", "_law_places"],by walk_at "sc",rfl,rfl,λ _ _ _ _ _ _=>bd3 (λ _ _ _=>rfl),.inl (by decide +kernel)⟩
theorem bg2:FnScope ["_law_script", "_law_at", "_law_bag_here", "_law_machine_here", "_law_word_here", "_law_due", "_law_again", "_law_found"] ["_law_script"] (defScope as2):=by walk_at "sc"
theorem bx8:mSs ⟨["_law_script", "_law_at", "_law_bag_here", "_law_machine_here", "_law_word_here", "_law_due", "_law_again", "_law_found"],defScope as2,λ _ _ _=>false⟩ DV.aa9.body (zq as2)=true:=by decide +kernel
theorem bE8:bR3 "law" as2 ["_law_script"]:=λ _ _ _ _ _ _=>bd1 λ _=>rfl
theorem bO2:DT ai1 P "law" DV.aa9 as2:=⟨_,_,bg2,rfl,rfl,bE8,.inl bx8⟩
theorem bN4:∀ p∈tb,DT ai1 P p.1 p.2.1 p.2.2:=by
 intro p hp
 unfold tb at hp
 simp only[ax,bp,or_false]at hp
 rcases hp with rfl|rfl|rfl|rfl|rfl|rfl|rfl|rfl|rfl|rfl|rfl|rfl|rfl
 ·exact az5
 ·exact aQ5
 ·exact aG6
 ·exact bw4
 ·exact ao3
 ·exact aI2
 ·exact az2
 ·exact av0
 ·exact al8
 ·exact az0
 ·exact at0
 ·exact ay8
 ·exact bO2
theorem bz1 {l:c9}{w:World}{K:ae}{h:Heap}{mg:Str->Option Value}{fa:Addr}(X:K.In h)(G:h.Ns bC mg)(J:mg "law"=some (.ref fa))(hD:∀ p∈tb,bN1 K p.1 p.2.2)(hz:∀ x∈bNames,gC K bC x=some none)
  (hT:∀ x∈ai1,(a7 K x).isSome=true) (tnd:decide (((bl2 ai1 K).map (·.1)).Nodup)=true)
  : ∃ Y:bF,(∀(s:af) (v:Value),jH s Y ⟨[v],[]⟩ [("_law_script",v)])/\∀ base:Heap,K.In base->base.Ns bC mg->BM mg base->br9 K ai1 base->FnOk l.prog w K mg base CX0 42 fa Y ["_law_script"] (spB ai1 K):=by
 have Z:PrOk (aV4 ai1 P K) (bp4 ai1 K) P mg:=by
  refine⟨λ f d h=>aA8 (tbl:=tbl) (λ p hp=>?_) f d h,λ x d h=>aS9 (tbl:=bL0) ?_ x d h,λ x hx=>PySem.W.mg_none_of X G (hz x hx),bK9 X G,bM3,of_decide_eq_true tnd,λ _ _ h=>(by cases h),λ _ _ h=>(by cases h),λ _ h=>(by cases h),λ _ h=>(by cases h),λ _ _ _ _ h=>(by cases h)⟩
  ·obtain⟨r,hr,rfl⟩:=aS.mp hp
   exact good_of X G hT (hD r hr) (bN4 r hr)
  ·intro p hp
   unfold bL0 at hp
   simp only[ax,bp,or_false]at hp
 obtain⟨f,od,an,sl,oc,kV,dc,pm,cd,ct,a,l0,c,k⟩:=hD ("law",DV.aa9,as2) (by unfold tb;simp)
 have e:=J.symm.trans (eK X G a)
 cases e
 have F:=be4 (st:=as2) l0 c k
 refine⟨_,λ s v=>.of_eq rfl,λ base _ _ bm hk=>(bF0 Z (bi3 hT bm hk) 10 (bl9 Z (bi3 hT bm hk) 10) (d:=DV.aa9) (f := "law") rfl ⟨F,eK X G a,F.binds bE8⟩ bg2 rfl rfl bx8 aS1).imp (λ vs H Q E q=>bD7 (λ ns h=>DV.bP9 (P:=P) 7 ns h) vs H Q E (ba5 hT q))⟩
end My
end
open PySem PySem.W PyProof.Rows
set_option maxRecDepth 100000 in
set_option maxHeartbeats 0 in
theorem PySem.Challenge.cw_leasttolls_k06_a_road_of_least_toll_holds : PySem.Challenge.rw_leasttolls_k06_a_road_of_least_toll.Holds := by
 refine My.GT.2 ?_
 delta My.GT
 dsimp only
 k_fill
 refine L2.aK6 (l:=PySem.Challenge.rw_leasttolls_k06_a_road_of_least_toll) (n:=63) (k:=42) (x := "_law_script") (sp:=L2.spB My.ai1) My.ai1 rfl (by decide) rfl ⟨rfl,by decide,by decide⟩ (λ w h Y=>⟨PySem.W.km_in_of Y,PySem.W.km_tabs_of Y⟩) (λ w=>?R) (λ w=>?NT) ?F (λ K H a ns hl hB hS hF=>L2.bA0 hl hB hS hF)
 case R=>kernel_rfl
 case NT=>kernel_rfl
 case F =>
  intro w mg fa h KX G hmg
  refine' My.bz1 KX G hmg ?hD ?hz  ?hT ?tnd
  case hD =>
   intro p hp
   unfold My.tb at hp
   simp only[ax,bp,or_false]at hp
   rcases hp with rfl|rfl|rfl|rfl|rfl|rfl|rfl|rfl|rfl|rfl|rfl|rfl|rfl
   all_goals walk_at "df"
  case hz =>
   intro x hx
   unfold L2.bNames at hx
   simp only[ax,bp,or_false]at hx
   rcases hx with rfl|rfl|rfl|rfl|rfl|rfl|rfl|rfl|rfl|rfl|rfl|rfl|rfl|rfl|rfl|rfl|rfl|rfl<;>k_is
  case hT =>
   intro x hx
   simp only[My.ai1,ax,bp,or_false]at hx
   subst hx<;>kernel_rfl
  (case tnd=>kernel_rfl)
