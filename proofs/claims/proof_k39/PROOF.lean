import PyProof.Rows.All
import Wide.All
import OpenK.AllK
import Wide.FinOn
import PyProof.EqAt
import PyProof.EqKinds
import PyProof.TupleCall
import PyProof.MinMaxWalk
import PyProof.WalkInts
import PyProof.NeKinds
import PyProof.SliceStr2
import PyProof.StrBlockI
import PyProof.MaxThree
import PyProof.ZipIter
import PyProof.Draws
import PyProof.EnumMake
import PyProof.ListMulRoad
import PyProof.Rows.StrRev
import PyProof.DictItems
import PyProof.ListRange
import PyProof.AutoIntG2
import PyProof.FactsAll.int_6
import KE.IntBitsLaws
import PySem.Challenge.RW_leasttolls_k39_long_words_written
set_option Elab.async false
set_option linter.all false
set_option maxRecDepth 100000
set_option maxHeartbeats 4000000
open PySem.W renaming Frag->ac,tabIn->a8,CodeHd->bw,kia_one->bD,kitOne->bE,findIn->bI,kla_fn->bM,mg_of->bP,keepIn->bR,nsIn->bV,fnX->b7,fnOf->cF,envX->cG,OpenLaw->cI,specialIn->dE,tabObj->dH,KitX->dL,Looks->dZ,looks_findIn->d6,takesIn->ee,codeIn->eV,methodObj->fi,mroIn->fB,cellsFrom_some->fZ,instObj->gv,lookIn->gM,kitAny->gZ,kitx_tuple->iC,callWith_K->iD,kitx_list->iU,kitx_dict->iV,plainGet->i7,codeHdIn->jo,TabsAt->jW,noTabs->jX,WalkO->jZ
open List renaming getElem?_eq_some_iff->ae,mem_cons_of_mem->ai,getElem?_eq_getElem->am,replicate->ar,size_toArray->au,mem_cons_self->aw,mem_cons->ay,getElem?_append_left->aB,length_map->aE,getElem?_append_right->aF,all_eq_true->aG,map_cons->aI,getElem?_map->aJ,length_append->aL,getD_eq_getElem?_getD->aM,range->aN,mem_append_right->aO,getElem?_set_self->aU,length_cons->aV,mem_map->aW,lookup_cons->aX,getElem?_set_ne->aY,append_nil->a7,mem_map_of_mem->bj,mem_of_getElem?->bp,length_take->bq,length_set->br,map_append->bt,replicate_succ->bC,not_mem_nil->bG,append_assoc->bL,take_of_length_le->bS,filterMap_cons->bT,foldl_cons->bU,flatten_cons->bZ,length_nil->ci,mem_append_left->cj,map_nil->cr,take_append_of_le_length->cE,mem_singleton->cH,nodup_cons->cK,find?_cons->cM,length_singleton->cN,contains_iff_mem->cO,mem_range->cT,map->cV,getElem?_range->da,all_cons->dg,mem_append->dh,of_mem_zip->di,length_eq_zero_iff->dA,reverse_cons->dG,foldl_append->dM,getElem?_toArray->dN,getElem?_eq_none->dR,length_drop->dU,any_cons->dY,nil_append->eA,set_set->eO,mem_filterMap->eT,getElem?_take->e8,drop_zero->e9,drop_eq_getElem_cons->fg,mem_or_eq_of_mem_set->fh,length_range->fx,getElem?_replicate->fL,drop_eq_nil_of_le->gm,length_replicate->gA,dropLast_eq_take->gH,set_append_right->gI,take_append_drop->gJ,forIn_nil->gQ,filterMap->gR,mem_iff_getElem->gS,take_take->g6,length_pos_iff->ib,cons_append->jn,take_length->jr,take_append->js,mem_filter->jw,forIn_cons->jy,range_succ->jz,set_append->jB,foldl->jP,all_nil->j8,length->kg,lookup->kh
open PySem renaming Shared->af,wpAny_bind->ah,mem_of_lookup->ax,wpAny_pure->aA,Program->aD,sizeLine->aH,cellsFrom->aK,Around->aP,mainGlobals->aS,Arguments->a9,bootBuiltins->be,starEach->bo,FuncData->bv,wpAny_mono->bz,wpAny_newObj_type->bH,NameKind->bJ,binaryOp->bQ,assignEach->b8,wpAny_Call_Name_kw->b9,wpAny_passesOwn->cg,wpAny_truthy_bool->cq,wpAny_holding->cx,rawInt->cz,wpAny_callSpecial?_slot->cA,codeAmong->cB,wpAny_execs_nil->cJ,pushCells_keeps->cL,foldedSetIterable->cQ,sysModules->cS,wpAny_call_entry->cY,isTrue->dj,wpAny_field->dq,sliceBounds->du,backTo->dC,wpAny_pyIter_list->dD,pushCells->dW,relabel->dX,bindArgs->d4,letOwnedTupleGo->d9,codeAny_mono->eM,swapsWith->eP,compareOp->eQ,call_meets->eX,newFunctionEnv->eY,wpAny_binaryOp_repeat_ref->fc,sizeLine_eq->fj,InCallC->fm,Paired->fA,IsPart->fD,attributeBase->fF,wpAny_comprehension_free->fG,ExceptHandler->fH,storeName->fK,noFill_tuple_add->fM,builtinsNs->fV,assign->fW,codeAny->fX,wpAny_call->fY,name_of_addr->f7,getItem->f8,wpAny_typeOf->f9,typeIs_int->gh,codeAny_compStart_list->gj,wpAny_storeName_local->gz,codeAny_call_function->gB,wpAny_storeName_cell->gL,strIterType->gT,codeAny_call_builtin->gU,tupleKind->g7,callerA->g8,TriplesOk->g9,valueAt->hG,wpAny_standAt->ik,swappedStores->io,behindInMarks->ip,seq_tuple_add->iq,annotationsOf->iw,wpAny_pyIter_tuple->iB,typeIs_str->iG,tupleKind_room_in1->iL,wpAny_assign_Name->iT,concat_meets->iW,wpAny_sequenceKey->iX,seqIndex_neg->iY,slot_list_getitem->iZ,notedBy->i3,wpAny_execs_cons->i6,typeOf->jk,noteFrame->jm,seqSlot_of->jp,wpAny_Try_except->jq,seqIndex_of->jt,holding->jF,BindsTo->jG,Keyword->jH,argBest->jJ,call->jK,wpAny_Name->jL,Result->jM,PlainAttrs->jO,wpAny_rule->jQ,defaultsOf->jR,qualnameIn->jS,quietNames->jV,setFlight->j2,Within->j4,pyIter->j5
open Bool renaming and_eq_true->ag,false_ne_true->aQ,false_eq_true->bf,or_eq_true->bN,not_eq_true'->dJ,or_eq_false_iff->d5,eq_iff_iff->eF,and_true->fI,true_and->fJ,and_eq_true_iff->gK,false_or->iu
open Nat renaming le_refl->aj,le_trans->ao,lt_of_lt_of_le->aq,ne_of_lt->av,lt_irrefl->bF,pow_le_pow_right->bX,lt_trans->cu,zero_add->cw,le_of_lt->cW,ne_of_gt->cX,lt_succ_self->cZ,zero_le->dv,mul_add->dw,le_succ->d7,strongRecOn->eG,le_of_succ_le->fq,lt_succ_of_lt->fu,lt_trichotomy->fw,min_le_right->fN,succ_pred_eq_of_pos->fS,min_eq_right->fT,sub_self->gu,mul_le_mul_left->ig,add_comm->i0,le_of_not_lt->jl,min_eq_left->jD,mul_succ->j6,lt_or_ge->j9,add_zero->ka
open PySem.Heap renaming get?_push_of_some->ak,lt_size->az,get?_push_size->aR,size_push->bW,SameBut->dB,get?_update_other->gf,get?_update_self->gC,ExtBut->jv
open Option.some renaming inj->aC
open False renaming elim->aZ
open Option renaming map_some->bh,isSome_iff_exists->fC,map_eq_some_iff->gk,isSome_some->iJ,getD_none->i9
open PyProof.Rows renaming slot_tuple_getitem->bu,kindOf->dS,envOfC->ef,AllBare->eJ,callWith_type1->eK,subscriptTail_builtinR->gb,entry_tuple_getitem->hJ,tupleItemsOf_->ir,args_tuple_getitem->iE,IntsAre->jI,tail_any->jN
open PySem.Builtin.Str renaming strSliceIndices->bA,tooLong->dP,glued->i4
open PySem.Str renaming ofString->bB
open PySem.Builtin.SmallTypes renaming nextOf->bK
open Ne renaming symm->bO
open PySem.F renaming slot_tuple_iterator_next->cb,args_tuple_add_2->db,slot_int_rmul->dk,entry_tuple_add->dm,slot_tuple_add->dF,slot_tuple_mul->dI,attrBase_ValueError->dQ,args_tuple_iterator_next_1->eD,entry_tuple_iterator_next->eN,slot_dict_getitem->fe,slot_tuple_rmul->fO,plainAttrs_list->fR,slot_list_append->gD,slot_str_join->gF,args_int_rmul_2->gP,excBase_ValueError->gY,slot_int_index->hV,entry_int_rmul->hX,slot_list_pop->iH,fills_int_mul->iI
open PySem.W.Looks renaming andThen->cc,now->fv,tag->kq,ld->kr
open PySem.Builtin.Slice renaming slicePlaces->cf,sliceAdjust->c8,sliceApplied->eW,slicePartIndex->jx,sliceFields->jY
open PySem.Builtin.Tuple renaming tupleExact->cy,tupleItemsOf->cU,tupleTooMany->eZ,tupleIsExact->jT
open PySem.Builtin.Getset_descriptor renaming descrCheckInstance->cC,descrOwnerAndName->cD,descrGetter->c7,descrNameAndClass->fU,descrGetArgs->gX
open Int renaming toNat_natCast->cR,mul_le_mul_of_nonneg_left->d8,fdiv_eq_ediv_of_nonneg->eU,natCast_mul->gx,toNat_of_nonneg->ie,emod_lt_of_pos->iQ,le_trans->i5,le_refl->ju,emod_nonneg->jC
open Array renaming toList_append->c9,length_toList->eI,getElem?_toList->gE,getElem?_mapIdx->gG,append_assoc->iA,toList->iR
open PySem.Builtin.List renaming listTooLong->de
open PySem.Builtin.ObjectAttr renaming find->dz
open PySem.Txt renaming slice->eB
open PySem.Calls renaming Name_function_global->eR,callWith_builtin->gi,evalArgs_plain->gO
open PySem.W.OpenLaw renaming wellSaid->fy
open Classical renaming propDecidable->fQ
open PySem.Obj renaming mapSeq->gd,data_mapFields->iK
open PySem.SeqAt.EqAt renaming same->gy,int_str->iy,str_int->iz,of_refs->iP
open PySem.Around renaming frames_deeper->gN
open PySem.Heap.SameBut renaming update->ic
open PySem.Paired renaming length->ii,snoc->kj
open PySem.W.KF renaming slot_gs->iM
open PySem.SeqAt renaming EqAt->iO,RcNeAt->j7,RcAt->ko
open PyProof.Rows.IsTup renaming new->i8
open PySem.PassesOwn renaming never->jA
open List.cons renaming injEq->jE
open PySem.Builtin renaming bitAnd->jU
open PySem.Value renaming isStrOf->j0,isInt->ke
open PySem.Builtin.Range renaming rangeSize->j1
open PySem.W.OpenRow renaming toRowW->j3
open PySem.Heap.Ns renaming new->ki
open PySem.Heap.IsSliceOf renaming new->km
open PySem.Walks renaming list->kn
noncomputable section
namespace L2
open PySem PySem.Spec PyProof.Rows
theorem head_of {l:cI}{q:aD}{loose:List Str}{H:PySem.W.Hook}{N:Nat}{d:DefRec}{h:List (Str×Expr)}
  (left:PySem.W.LeftO l.row.prog q loose (λ s=>PySem.W.xlAt q [] s&&PySem.W.recOk (PySem.W.RowW.records (j3 l.row)) s) H.obs H.val N)
  (y:PySem.W.defOf q l.row.name=some (d,h)) (hp:l.row.prog.theDef l.row.name=some (d.params,d.body,d.scope)) (hk:PySem.W.kwWritten? d.params.kwonlyargs d.params.kw_defaults=some h) (B:(!l.row.writes||l.row.records.isEmpty)=true)
  (k1:l.row.wellSaid=true) (ok:(PySem.W.chainsOk q&&PySem.W.opensWell l.row.prog&&(PySem.W.frees l.row.toRowW&&l.row.within.isEmpty))=true) (hb:l.row.prog.bare) (hw:l.row.toRowW.promised)
  (call:jZ q loose (PySem.W.XL q []) H.says l.row.toRowW d h λ f vs=>jK f vs):l.row.Holds :=
 PySem.W.holds_open left H.of H.keeps (λ s e=>PySem.W.xl_of s (gK.mp e).1) PySem.W.XL.keeps y hp hk (λ s e=>PySem.W.recFacts_of (gK.mp e).2) B k1 ok hb hw call
end L2
end
noncomputable section
namespace My
open PySem L2
noncomputable def nmS:Stmt->Bool
 | .Assign [.Name x _] _ _=>decide (x=("__name__":Str))
 | _=>false
noncomputable def vq:aD:={ PySem.Challenge.pw_leasttolls_k39_long_words_written with main:={ (PySem.Challenge.pw_leasttolls_k39_long_words_written).main with body:=(PySem.Challenge.pw_leasttolls_k39_long_words_written).main.body.filter λ s=>!nmS s } }
inductive IsL:cI->Prop|mk:IsL PySem.Challenge.rw_leasttolls_k39_long_words_written
theorem bJ0 {l:cI}(h:IsL l):PySem.Challenge.rw_leasttolls_k39_long_words_written=l:=by cases h;rfl
noncomputable def lwp:{ l:cI // IsL l }:=by
 refine⟨?p,?h⟩
 case h =>
  have e:PySem.Challenge.rw_leasttolls_k39_long_words_written=?p:=by
   conv=>lhs;reduce
  exact e▸IsL.mk
theorem ws1:fy lwp.1=true:=by k_qdec
theorem ws:fy PySem.Challenge.rw_leasttolls_k39_long_words_written=true:=by
 rw[bJ0 lwp.2];exact ws1
end My
end
section
open PySem PySem.W PyProof.Rows
local macro_rules | `(tactic| o_head $H) => `(tactic| refine L2.head_of (q := My.vq) (loose := ["NoMaking"]) (H := $H) (N := 4000) (λ w => by kernel_rfl) (by rfl) (by rfl) (by rfl) rfl (by assumption) (by decide +kernel) ⟨rfl, rfl, rfl, rfl, rfl, by decide +kernel⟩ ?_ ?_)
set_option maxRecDepth 100000 in
set_option maxHeartbeats 0 in
noncomputable def My.GT:{ G:Prop // G->PySem.Challenge.rw_leasttolls_k39_long_words_written.Holds }:=by
 refine⟨?G,?h⟩
 case h =>
  intro g
  w_on;refine holds_law My.ws λ said=>?_;k_head;(focus w_witness2)
  exact g
end
noncomputable section
namespace L2
open PySem PySem.Spec PyProof.Rows
noncomputable abbrev Key:=Sum Int Str
noncomputable def aJ9:Key->Value->Bool
 | .inl k,v=>ke k v
 | .inr x,v=>j0 x v
noncomputable def cb6 (w:World):Key->Int
 | .inl k=>hashInt k
 | .inr x=>hashStr w x
theorem zB:∀ {k:Key} {v:Value},aJ9 k v=true->(∃ i t,k=Sum.inl i/\v=Value.int i t)\/(∃ x t,k=Sum.inr x/\v=Value.str x t)
 | .inl i,v,h=>by
  obtain⟨t,e⟩:=Value.isInt_shape (k:=i) (v:=v) h
  exact .inl ⟨i,t,rfl,e⟩
 | .inr x,v,h=>by
  obtain⟨t,e⟩:=Value.isStrOf_shape (x:=x) (v:=v) h
  exact .inr ⟨x,t,rfl,e⟩
theorem aW0 (i:Int)(t:Tok):aJ9 (.inl i) (.int i t)=true:=by simp[aJ9,ke]
theorem aO8 (x:Str)(t:Tok):aJ9 (.inr x) (.str x t)=true:=by simp[aJ9,j0]
theorem bL3 (a b:Int):decide ((Sum.inl a:Key)=Sum.inl b)=(a==b):=by
 by_cases e:a=b
 ·subst e;simp
 ·have h:¬(Sum.inl a:Key)=Sum.inl b:=λ q=>e (Sum.inl.inj q)
  rw[decide_eq_false h]
  exact(beq_eq_false_iff_ne.mpr e).symm
theorem bC2 (a b:Str):decide ((Sum.inr a:Key)=Sum.inr b)=decide (a=b):=by
 by_cases e:a=b
 ·subst e;simp
 ·have h:¬(Sum.inr a:Key)=Sum.inr b:=λ q=>e (Sum.inr.inj q)
  rw[decide_eq_false h,decide_eq_false e]
theorem bM0 (a:Int)(b:Str):decide ((Sum.inl a:Key)=Sum.inr b)=false:=decide_eq_false (λ q=>nomatch q)
theorem bM1 (a:Str)(b:Int):decide ((Sum.inr a:Key)=Sum.inl b)=false:=decide_eq_false (λ q=>nomatch q)
noncomputable def zT (prog:aD)(w:World):PySem.KeyKind prog w Key where
 is:=aJ9
 hash:=cb6 w
 inj:=λ v a b ha hb=>by
  rcases zB ha with⟨i,t,rfl,rfl⟩|⟨x,t,rfl,rfl⟩
  ·rcases zB hb with⟨j,u,rfl,e⟩|⟨y,u,rfl,e⟩
   ·injection e with e1 _;rw[e1]
   ·exact nomatch e
  ·rcases zB hb with⟨j,u,rfl,e⟩|⟨y,u,rfl,e⟩
   ·exact nomatch e
   ·injection e with e1 _;rw[e1]
 byValue:=λ k v h=>by
  rcases zB h with⟨i,t,rfl,rfl⟩|⟨x,t,rfl,rfl⟩<;>rfl
 pyHash:=λ hv h=>by
  rcases zB hv with⟨i,t,rfl,rfl⟩|⟨x,t,rfl,rfl⟩
  ·exact wpAny_pyHash_int h
  ·exact wpAny_pyHash_str h
 eqBool:=λ hu hv h=>by
  rcases zB hu with⟨i,t,rfl,rfl⟩|⟨x,t,rfl,rfl⟩
  ·rcases zB hv with⟨j,u,rfl,rfl⟩|⟨y,u,rfl,rfl⟩
   ·rw[bL3]at h;exact wpAny_eqBool_int h
   ·rw[bM0]at h;exact iy i t y u _ _ _ _ h
  ·rcases zB hv with⟨j,u,rfl,rfl⟩|⟨y,u,rfl,rfl⟩
   ·rw[bM1]at h;exact iz x t j u _ _ _ _ h
   ·rw[bC2]at h;exact wpAny_eqBool_str h
 «strs»:=λ k x t v h=>by
  rcases zB h with⟨i,u,rfl,e⟩|⟨y,u,rfl,e⟩
  ·exact nomatch e
  ·injection e with e1 _
   subst e1
   cases v<;>rfl
theorem aB8 (prog:aD)(w:World)(i:Int)(t:Tok):(zT prog w).is (.inl i) (.int i t)=true:=aW0 i t
theorem aB5 (prog:aD)(w:World)(x:Str)(t:Tok):(zT prog w).is (.inr x) (.str x t)=true:=aO8 x t
inductive V where
 | non|bl (b:Bool)|int (i:Int)|str (x:Str)|byt (b:Array UInt8)|flt (b:UInt64)|ref (a:Addr)|ty (n:String)
 deriving DecidableEq
noncomputable def RelV:V->Value->Prop
 | .non,u=>u=Value.none
 | .bl b,u=>u=Value.bool b
 | .int i,u=>∃ t,u=Value.int i t
 | .str x,u=>∃ t,u=Value.str x t
 | .byt b,u=>∃ t,u=Value.bytes b t
 | .flt b,u=>∃ t,u=Value.float b t
 | .ref a,u=>u=Value.ref a
 | .ty n,u=>u=Value.type n
abbrev Vals:List V->List Value->Prop:=fA RelV
theorem Vals.length {h:List V}{us:List Value}(r:Vals h us):h.length=us.length:=ii r
theorem Vals.get:∀ {h:List V} {us:List Value} {i:Nat} {x:V},Vals h us->h[i]?=some x->∃ u,us[i]?=some u/\RelV x u
 | _,_,_,_,.nil,e=>by simp at e
 | _,_,0,_,.cons r _,e=>by simp at e;subst e;exact⟨_,rfl,r⟩
 | _,_,i+1,x,.cons _ t,e=>by
  obtain⟨u,B,y⟩:=Vals.get (i:=i) (x:=x) t (by simpa using e)
  exact⟨u,by simpa using B,y⟩
theorem Vals.set {x:V}{u:Value}(r:RelV x u):∀ {h:List V} {us:List Value} (i:Nat),Vals h us->Vals (h.set i x) (us.set i u)
 | _,_,_,.nil=>.nil
 | _,_,0,.cons _ t=>.cons r t
 | _,_,i+1,.cons q t=>.cons q (Vals.set r i t)
theorem Vals.append:∀ {h ys:List V} {us ws:List Value},Vals h us->Vals ys ws->Vals (h++ys) (us++ws)
 | _,_,_,_,.nil,s=>s
 | _,_,_,_,.cons r t,s=>.cons r (Vals.append t s)
theorem Vals.take:∀ {h:List V} {us:List Value} (n:Nat),Vals h us->Vals (h.take n) (us.take n)
 | _,_,0,_=>.nil
 | _,_,_+1,.nil=>.nil
 | _,_,n+1,.cons r t=>.cons r (Vals.take n t)
theorem Vals.drop:∀ {h:List V} {us:List Value} (n:Nat),Vals h us->Vals (h.drop n) (us.drop n)
 | _,_,0,r=>r
 | _,_,_+1,.nil=>.nil
 | _,_,n+1,.cons _ t=>Vals.drop n t
noncomputable def aK6:Option V->Option Value->Prop
 | some v,some u=>RelV v u
 | none,none=>True
 | _,_=>False
def KV {κ:Type}:List (κ×V)->List (κ×Value)->Prop:=fA λ(p:κ×V) (q:κ×Value)=>p.1=q.1/\RelV p.2 q.2
noncomputable def kV:Key->V
 | .inl i=>.int i
 | .inr x=>.str x
inductive HO where
 | lst (xs:List V)
 | tup (xs:List V)
 | dK (kvs:List (Key×V))|dT (kvs:List (List Key×V))
 | set (S:Int->Bool) (n:Nat)
 | ins (C dx:Addr) (fs:List (Str×V))
 | own (x:Addr)
 | xd (fs:List (Str×V))
 | met (f x:Addr)
 | rng (lo hi:Int)
 | frz (o:Obj) (u:HO)
 | tbl (ps:Array Value)
 | ext (φ:Heap->Prop)
noncomputable abbrev Hp:=Addr->Option HO
noncomputable def upd (H:Hp)(a:Addr)(o:HO):Hp:=λ b=>if b=a then some o else H b
theorem zb {H:Hp}{a:Addr}{o:HO}:upd H a o a=some o:=by unfold upd;rw[if_pos rfl]
theorem za {H:Hp}{a b:Addr}{o:HO}(h:b≠a):upd H a o b=H b:=by unfold upd;rw[if_neg h]
theorem bV5 {H:Hp}{a b:Addr}{o u:HO}(h:H a=some o)(h':H b=some u)(d:o≠u):a≠b:=by
 intro e;subst e;rw[h]at h';exact d (aC h')
theorem zq {H:Hp}{a b:Addr}{o:HO}(h:H a=some o)(h':H b=none):a≠b:=by
 intro e;subst e;rw[h]at h';cases h'
section
variable (P:aD) (w:World)
noncomputable def ab6 (H:Hp)(h:Heap)(a:Addr):HO->Prop
 | .lst xs=>xs.length<=aH/\∃(its:List Value) (n:Nat),Vals xs its/\h.get? a=some { cls:=.type "list",data:=.seq its.toArray n }
 | .tup xs=>xs.length<=aH/\∃ its:List Value,Vals xs its/\IsTup h a its.toArray
 | .dK kvs=>kvs.length<=aH/\(a==cS)=false/\∃ vs,KV kvs vs/\h.DictOf (zT P w) a vs
 | .dT kvs=>kvs.length<=aH/\(a==cS)=false/\∃ xs:List (List Key×Addr×Value),
   fA (λ(p:List Key×V) (q:List Key×Addr×Value)=>p.1=q.1/\H q.2.1=some (.tup (p.1.map kV))/\RelV p.2 q.2.2) kvs xs /\
   ∃ o es ep,h.get? a=some o/\o.ExactDict/\o.data=.dict es ep/\es.toList=xs.map (entryOfKey (g7 (zT P w)))/\(xs.map (·.1)).Nodup
 | .set S n=>h.SetOf (intKind P w) a S n
 | .ins C dx fs=>H dx=some (.own a)/\fs.length<=1000/\dx≠a/\h.get? a=some (gv C dx) /\
   ∃ mA,h.Ns1 dx mA/\(∀ f,aK6 (fs.lookup f) (mA f))/\j4 mA (fs.map (·.1))
 | .own _=>∃ o,h.get? a=some o
 | .xd fs=>∃ mA,h.Ns1 a mA/\∀ f,aK6 (fs.lookup f) (mA f)
 | .rng lo hi=>∃ t u v,h.get? a=some { cls:=.type "range",data:=.fields #[.int lo t,.int hi u,.int 1 v] }
 | .frz o u=>h.get? a=some o/\ab6 H h a u
 | .tbl ps=>h.get? a=some { cls:=.none,data:=.fields ps }
 | .met f x=>h.get? a=some (fi (.ref f) (.ref x))
 | .ext φ=>φ h/\(∃ o,h.get? a=some o)/\∀ h1 h2:Heap,φ h1->(∀ o,h1.get? a=some o->h2.get? a=some o)->φ h2
def HOk (H:Hp)(h:Heap):Prop:=∀ a o,H a=some o->ab6 P w H h a o
end
section
variable {P:aD} {w:World} {H H':Hp} {h h':Heap} {a:Addr} {o:HO}
theorem ab6.lt (x:ab6 P w H h a o):a<h.objs.size:=by
 cases o with
 | lst xs=>obtain⟨_,_,_,_,e⟩:=x;exact az e
 | tup xs=>obtain⟨_,_,_,p⟩:=x;exact p.lt
 | dK kvs=>obtain⟨_,_,_,_,o,_,_,e,_⟩:=x;exact az e
 | dT kvs=>obtain⟨_,_,_,_,o,_,_,e,_⟩:=x;exact az e
 | set S n=>obtain⟨o,_,_,_,e,_⟩:=x;exact az e
 | ins C dx fs=>obtain⟨_,_,_,e,_⟩:=x;exact az e
 | own y=>obtain⟨_,e⟩:=x;exact az e
 | xd fs=>obtain⟨_,⟨_,_,_,e,_⟩,_⟩:=x;exact az e
 | rng lo hi=>obtain⟨_,_,_,e⟩:=x;exact az e
 | frz ob u=>obtain⟨e,_⟩:=x;exact az e
 | tbl ps=>exact az (show h.get? a=some _ from x)
 | met f y=>exact az (show h.get? a=some _ from x)
 | ext φ=>obtain⟨_,⟨_,e⟩,_⟩:=x;exact az e
theorem fA.mapP {α β:Type}{F G:α->β->Prop}:∀ {h:List α} {y:List β},fA F h y->(∀ a b,F a b->G a b)->fA G h y
 | _,_,.nil,_=>.nil
 | _,_,.cons r t,f=>.cons (f _ _ r) (fA.mapP t f)
theorem ab6.stay (x:ab6 P w H h a o)(k:∀ b u,(b=a\/H b=some (.own a))->h.get? b=some u->h'.get? b=some u)
  (ho:∀ b,H b=some (.own a)->H' b=some (.own a)) (Y:∀ b G,H b=some (.tup G)->H' b=some (.tup G)):ab6 P w H' h' a o:=by
 induction o with
 | lst G=>obtain⟨z,its,n,r,e⟩:=x;exact⟨z,its,n,r,k _ _ (.inl rfl) e⟩
 | tup G=>obtain⟨z,its,r,ob,e,c⟩:=x;exact⟨z,its,r,ob,k _ _ (.inl rfl) e,c⟩
 | dK kvs=>obtain⟨z,y,vs,r,ob,es,B,e,c⟩:=x;exact⟨z,y,vs,r,ob,es,B,k _ _ (.inl rfl) e,c⟩
 | dT kvs =>
  obtain⟨z,y,G,r,ob,es,B,e,c⟩:=x
  exact⟨z,y,G,fA.mapP r λ p q z=>⟨z.1,Y _ _ z.2.1,z.2.2⟩,ob,es,B,k _ _ (.inl rfl) e,c⟩
 | set S n=>obtain⟨ob,es,B,t,e,c⟩:=x;exact⟨ob,es,B,t,k _ _ (.inl rfl) e,c⟩
 | ins C dx fs =>
  obtain⟨d,z,ne,e,J,⟨od,es,B,e2,c⟩,r⟩:=x
  exact⟨ho _ d,z,ne,k _ _ (.inl rfl) e,J,⟨od,es,B,k _ _ (.inr d) e2,c⟩,r⟩
 | own y=>obtain⟨ob,e⟩:=x;exact⟨ob,k _ _ (.inl rfl) e⟩
 | xd fs=>obtain⟨J,⟨od,es,B,e,c⟩,r⟩:=x;exact⟨J,⟨od,es,B,k _ _ (.inl rfl) e,c⟩,r⟩
 | rng lo hi=>obtain⟨t,u,v,e⟩:=x;exact⟨t,u,v,k _ _ (.inl rfl) e⟩
 | frz ob u ih=>obtain⟨e,q⟩:=x;exact⟨k _ _ (.inl rfl) e,ih q⟩
 | tbl ps =>
  have e:h.get? a=some { cls:=.none,data:=.fields ps }:=x
  show h'.get? a=some { cls:=.none,data:=.fields ps }
  exact k a _ (.inl rfl) e
 | met f y =>
  have e:h.get? a=some (fi (.ref f) (.ref y)):=x
  show h'.get? a=some (fi (.ref f) (.ref y))
  exact k a _ (.inl rfl) e
 | ext φ=>obtain⟨p,⟨o,e⟩,st⟩:=x;exact⟨st _ _ p λ o q=>k _ _ (.inl rfl) q,⟨o,k _ _ (.inl rfl) e⟩,st⟩
theorem HOk.lt (x:HOk P w H h)(e:H a=some o):a<h.objs.size:=(x a o e).lt
theorem HOk.fresh (x:HOk P w H h)(e:h.objs.size<=a):H a=none:=by
 cases q:H a with
 | none=>rfl
 | some u=>exact absurd (aq (x.lt q) e) (bF _)
theorem HOk.kept (x:HOk P w H h)(k:∀ b u,h.get? b=some u->h'.get? b=some u):HOk P w H h':=λ a o e =>
 (x a o e).stay (λ b u _ q=>k b u q) (λ _ q=>q) λ _ _ q=>q
theorem HOk.laid (x:HOk P w H h)(k:∀ b u,h.get? b=some u->h'.get? b=some u)(hp:h.objs.size<=a)(new:ab6 P w (upd H a o) h' a o):HOk P w (upd H a o) h':=λ b u e=>by
 have hn:=x.fresh hp
 by_cases hb:b=a
 ·subst hb;rw[zb]at e;cases e;exact new
 ·rw[za hb]at e
  exact(x b u e).stay (λ c v _ q=>k c v q) (λ c q=>by rw[za (zq q hn)];exact q) λ c y q=>by rw[za (zq q hn)];exact q
end
def Rd (H:Hp)(a:Addr)(u:HO):Prop:=H a=some u\/∃ o,H a=some (.frz o u)
theorem Rd.ok {P:aD}{w:World}{H:Hp}{h:Heap}{a:Addr}{u:HO}(r:Rd H a u)(x:HOk P w H h):ab6 P w H h a u:=by
 rcases r with r|⟨o,r⟩
 ·exact x a u r
 ·obtain⟨_,q⟩:=x a _ r
  exact q
noncomputable def Mut:Option HO->Prop
 | some (.lst _)=>True
 | some (.dK _)=>True
 | some (.dT _)=>True
 | some (.set _ _)=>True
 | some (.ins _ _ _)=>True
 | some (.ext _)=>True
 | _=>False
section
variable {P:aD} {w:World} {H:Hp} {h h':Heap} {x e:Addr} {o':HO}
theorem HOk.write (ok:HOk P w H h)(mu:Mut (H x))(he:e=x\/H e=some (.own x))(k:∀ b u,b≠e->h.get? b=some u->h'.get? b=some u)(Y:∃ u,h'.get? e=some u)
  (new:ab6 P w (upd H x o') h' x o'):HOk P w (upd H x o') h':=λ b u q=>by
 have B:∀ c y,H c=some (.own y)->c≠x:=λ c y r z=>by subst z;rw[r]at mu;exact mu
 have G:∀ c J,H c=some (.tup J)->c≠x:=λ c J r z=>by subst z;rw[r]at mu;exact mu
 by_cases hb:b=x
 ·subst hb;rw[zb]at q;cases q;exact new
 ·rw[za hb]at q
  by_cases hbe:b=e
  ·have Z:H b=some (.own x):=by
    rcases he with z|z
    ·exact absurd (hbe.trans z) hb
    ·rw[hbe];exact z
   rw[q]at Z;cases Z
   obtain⟨v,hv⟩:=Y
   exact⟨v,by rw[hbe];exact hv⟩
  ·refine(ok b u q).stay (λ c v hc r=>k c v ?_ r) (λ c r=>by rw[za (B c b r)];exact r) λ c J r=>by rw[za (G c J r)];exact r
   rcases hc with rfl|hc
   ·exact hbe
   ·rintro rfl
    rcases he with z|z
    ·exact B c b hc z
    ·rw[hc]at z;cases z;exact hb rfl
end
structure Un (fs ex:List Addr)(H H':Hp)(h h':Heap):Prop where
 keep:∀ b o,h.get? b=some o->H b=none->b ∉ fs->b ∉ ex->h'.get? b=some o
 slot:∀ b o,h.get? b=some o->H b=none->b∈fs->b ∉ ex->∃ sl,h'.get? b=some { o with slots:=sl }
 free:∀ b o,h.get? b=some o->H b=none->b ∉ ex->H' b=none
 there:∀ b o,h.get? b=some o->b ∉ ex->∃ o',h'.get? b=some o'
 tups:∀ b xs,H b=some (.tup xs)->H' b=some (.tup xs)
 frzs:∀ b o u,H b=some (.frz o u)->H' b=some (.frz o u)
 tbls:∀ b ps,H b=some (.tbl ps)->∃ more,H' b=some (.tbl (ps++more))
section
variable {fs fs' ex ex':List Addr} {H H1 H2:Hp} {h h1 h2 h':Heap} {a x e:Addr} {o:HO}
theorem Un.any (u:Un fs ex H H1 h h1){b:Addr}{ob:Obj}(q:h.get? b=some ob)(n:H b=none)(hx:b ∉ ex):∃ sl,h1.get? b=some { ob with slots:=sl }:=by
 by_cases hb:b∈fs
 ·exact u.slot b ob q n hb hx
 ·exact⟨ob.slots,u.keep b ob q n hb hx⟩
theorem Un.kept (k:∀ b u,h.get? b=some u->h'.get? b=some u):Un fs ex H H h h' :=
 ⟨λ b ob q _ _ _=>k b ob q,λ b ob q _ _ _=>⟨ob.slots,k b ob q⟩,λ _ _ _ n _=>n,λ b ob q _=>⟨ob,k b ob q⟩,λ _ _ q=>q,λ _ _ _ q=>q,λ _ ps q=>⟨#[],by rw[q];simp⟩⟩
theorem Un.refl:Un fs ex H H h h:=Un.kept λ _ _ q=>q
theorem Un.laid (k:∀ b u,h.get? b=some u->h'.get? b=some u)(hp:h.objs.size<=a)(hn:H a=none):Un fs ex H (upd H a o) h h' where
 keep:=λ b u q _ _ _=>k b u q
 slot:=λ b u q _ _ _=>⟨u.slots,k b u q⟩
 free:=λ b u q n _=>by rw[za (av (aq (az q) hp))];exact n
 there:=λ b u q _=>⟨u,k b u q⟩
 tups:=λ b y q=>by rw[za (zq q hn)];exact q
 frzs:=λ b u y q=>by rw[za (zq q hn)];exact q
 tbls:=λ b ps q=>⟨#[],by rw[za (zq q hn),q];simp⟩
theorem Un.write (mu:Mut (H x))(J:e=x\/H e=some (.own x))(k:∀ b u,b≠e->h.get? b=some u->h'.get? b=some u)(B:∃ u,h'.get? e=some u):Un fs ex H (upd H x o) h h':=by
 have hx:∀ b,H b=none->b≠x:=λ b n z=>by subst z;rw[n]at mu;exact mu
 have hb:∀ b,H b=none->b≠e:=λ b n z=>by
  subst z
  rcases J with r|r
  ·exact hx b n r
  ·rw[n]at r;cases r
 have y:∀ b u,H b=some u->¬ Mut (some u)->b≠x:=λ b u q nm z=>by subst z;rw[q]at mu;exact nm mu
 refine⟨λ b u q n _ _=>k b u (hb b n) q,λ b u q n _ _=>⟨u.slots,k b u (hb b n) q⟩,λ b u q n _=>by rw[za (hx b n)];exact n,λ b u q _=>?_,
  λ b G q=>by rw[za (y b _ q λ z=>z)];exact q,λ b u G q=>by rw[za (y b _ q λ z=>z)];exact q,λ b ps q=>⟨#[],by rw[za (y b _ q λ z=>z),q];simp⟩⟩
 by_cases hbe:b=e
 ·subst hbe;exact B
 ·exact⟨u,k b u hbe q⟩
end
noncomputable def trk (h:Heap)(H:Hp):List Addr:=(aN h.objs.size).filter λ a=>(H a).isSome
noncomputable def aW8 (h:Heap)(H:Hp):Heap:=PySem.W.hideAll h (trk h H)
theorem aQ1 (h:Heap)(H:Hp):(aW8 h H).objs.size=h.objs.size:=PySem.W.hideAll_size _ _
theorem ai3 {h:Heap}{H:Hp}{b:Addr}{o:Obj}(e:h.get? b=some o)(n:H b=none):(aW8 h H).get? b=some o :=
 PySem.W.hideAll_get _ e λ y=>by
  have q:(H b).isSome=true:=(jw.mp y).2
  rw[n]at q;simp at q
theorem bk3 {h:Heap}{H:Hp}{b:Addr}{o:Obj}(e:(aW8 h H).get? b=some o):h.get? b=some o/\H b=none:=by
 have e':h.get? b=some o:=PySem.W.of_hideAll (trk h H) e
 refine⟨e',?_⟩
 cases q:H b with
 | none=>rfl
 | some x =>
  have y:b∈trk h H:=jw.mpr ⟨cT.mpr (az e'),by simp[q]⟩
  have z:(aW8 h H).get? b=none:=PySem.W.hideAll_none (trk h H) y
  rw[z]at e;cases e
noncomputable def bk7 (g h:Heap)(L:Addr):List (Addr×Obj):=(aN h.objs.size).filterMap λ a=>if a=L\/(g.get? a).isSome=true then none else(h.get? a).map λ o=>(a,o)
noncomputable def rest (g h:Heap)(L d:Addr):List (Addr×Obj):=(bk7 g h L).filter λ p=>decide (p.1≠d)
structure Mod (K:ac)(mg:Str->Option Value)(base:Heap):Prop where
 kin:K.In base
 glob:base.Ns aS mg
 blt:∃ mb,base.Ns fV mb/\∀ x:Str,x ≠ "__name__"->mb x=be x
 nolimit:base.NoLimit
structure Cx where
 prog:aD
 w:World
 K:ac
 mg:Str->Option Value
 base:Heap
 A:aP
 N:List Str
 s₀:af
 H₀:Hp
 env:Env
 outer:List Env
 stack:List Env
 ex:List Addr
 fn:Str->Bool
 calm:Bool
 pn:List (Addr×Obj)
 xe:Value->af->Prop
noncomputable def frs (l:List Env):List Addr:=l.filterMap (·.frame)
noncomputable abbrev Cx.fs (X:Cx):List Addr:=frs X.outer
def Vis (sc:Scope)(x:Str):Prop:=sc.names.lookup x=some .local\/sc.names.lookup x=some .cell\/sc.names.lookup x=some .free
def Loc (sc:Scope)(x:Str):Prop:=sc.names.lookup x=some .local\/sc.names.lookup x=some .cell
def Look (env:Env)(h:Heap)(m:Str->Option Value)(x:Str)(u:Value):Prop :=
 (env.kindOf x=some .local/\m x=some u)\/((env.kindOf x=some .cell\/env.kindOf x=some .free)/\∃ c,env.cells.lookup x=some c/\h.IsCell c (some u))
structure Cx.Ok (X:Cx):Prop where
 mod:Mod X.K X.mg X.base
 kind:X.env.scope.kind=.function
 glob:X.env.globals=aS
 blt:X.env.builtins=fV
 above:X.s₀.heap.objs.size<=X.env.locals
 inj:∀ x y c,X.env.cells.lookup x=some c->X.env.cells.lookup y=some c->x=y
 has:∀ x,(X.env.kindOf x=some .cell\/X.env.kindOf x=some .free)->∃ c,X.env.cells.lookup x=some c
 cab:∀ x c,X.fn x=true->X.env.cells.lookup x=some c->X.s₀.heap.objs.size<=c
 hd:X.calm=true->X.A.handled=none
 frames:X.A.frames=some X.stack
 stk:X.stack=X.outer\/(X.stack=X.env::X.outer/\X.env.frame=some X.env.locals)
 exf:∀ b∈X.ex,b≠X.env.locals/\∀ x c,X.env.cells.lookup x=some c->c≠b
 bs:∀ b o,X.base.get? b=some o->X.s₀.heap.get? b=some o/\X.H₀ b=none
 bsz:X.base.objs.size<=X.s₀.heap.objs.size
 noex:∀ b o,X.base.get? b=some o->b ∉ X.ex
 exfs:∀ b∈X.ex,b ∉ X.fs
 funs:X.s₀.heap.FunFrames X.base X.outer
 frf:∀ b∈X.fs,X.H₀ b=none
structure Inv (X:Cx)(pins:List (Addr×Obj))(σ:List (Option V))(H:Hp)(s:af):Prop where
 ok:X.Ok
 os:s.os=X.s₀.os
 bare:eJ s.gens
 base:Un X.fs X.ex X.H₀ H X.s₀.heap s.heap
 loc:∃ m,s.heap.Ns X.env.locals m/\∀(i:Nat) (x:Str) (v:V),X.N[i]?=some x->σ[i]?=some (some v)->Vis X.env.scope x->∃ u,RelV v u/\Look X.env s.heap m x u
 cell:∀ x c,X.env.cells.lookup x=some c->∃ v,s.heap.IsCell c v
 free:H X.env.locals=none
 freeC:∀ x c,X.env.cells.lookup x=some c->H c=none
 pin:∀ p∈X.pn++pins,s.heap.get? p.1=some p.2/\H p.1=none/\p.1≠X.env.locals/\p.1 ∉ X.fs/\∀ v,p.2.data≠.cell v
 hok:HOk X.prog X.w H s.heap
 len:σ.length=X.N.length
section
variable {X:Cx} {pins:List (Addr×Obj)} {σ:List (Option V)} {H H':Hp} {s:af} {h':Heap}
theorem Cx.Ok.nofr (ok:X.Ok){b:Addr}{o:Obj}(e:X.base.get? b=some o):b ∉ X.fs:=λ hb=>by
 have:=(ok.funs.mem hb).1
 rw[e]at this;cases this
theorem Inv.bs (I:Inv X pins σ H s):∀ b o,X.base.get? b=some o->s.heap.get? b=some o/\H b=none:=λ b o e =>
 ⟨I.base.keep b o (I.ok.bs b o e).1 (I.ok.bs b o e).2 (I.ok.nofr e) (I.ok.noex b o e),I.base.free b o (I.ok.bs b o e).1 (I.ok.bs b o e).2 (I.ok.noex b o e)⟩
theorem Inv.bk (I:Inv X pins σ H s):∀ b o,X.base.get? b=some o->s.heap.get? b=some o:=λ b o e=>(I.bs b o e).1
theorem Inv.mod (I:Inv X pins σ H s):Mod X.K X.mg X.base:=I.ok.mod
theorem Inv.kIn (I:Inv X pins σ H s):X.K.In s.heap:=I.ok.mod.kin.keeps I.bk
theorem Inv.lt (I:Inv X pins σ H s):X.env.locals<s.heap.objs.size:=let⟨_,hn,_⟩:=I.loc;hn.lt
theorem Inv.sz (I:Inv X pins σ H s):X.s₀.heap.objs.size<=s.heap.objs.size:=ao I.ok.above (cW I.lt)
theorem Inv.nofs (I:Inv X pins σ H s){a:Addr}(h:s.heap.objs.size<=a):a ∉ X.fs:=λ hb=>by
 obtain⟨_,o,ho,_⟩:=I.ok.funs.mem hb
 exact absurd (aq (az ho) (ao I.sz h)) (bF _)
theorem Inv.cne (I:Inv X pins σ H s):∀ x c,X.env.cells.lookup x=some c->c≠X.env.locals:=λ x c e z=>by
 obtain⟨v,o,ho,hd⟩:=I.cell x c e
 obtain⟨m,⟨G,es,B,y,h,_⟩,_⟩:=I.loc
 rw[z,y]at ho;cases ho;rw[h]at hd;cases hd
theorem Inv.funs (I:Inv X pins σ H s):s.heap.FunFrames X.base X.outer:=by
 have all:∀(l:List Env),(∀ b∈frs l,b∈X.fs)->X.s₀.heap.FunFrames X.base l->s.heap.FunFrames X.base l:=by
  intro l
  induction l with
  | nil=>intro _ _;trivial
  | cons env r ih =>
   intro hs hl
   obtain⟨hk,⟨L,o,y,hn,ho,hd⟩,B⟩:=hl
   have h:L∈X.fs:=hs L (by unfold frs;rw[bT,y];exact aw)
   obtain⟨sl,e⟩:=I.base.slot L o ho (I.ok.frf L h) h λ z=>I.ok.exfs L z h
   exact⟨hk,⟨L,_,y,hn,e,hd⟩,ih (λ b hb=>hs b (by unfold frs;rw[bT,y];exact ai _ hb)) B⟩
 exact all X.outer (λ _ hb=>hb) I.ok.funs
theorem Inv.stack (I:Inv X pins σ H s):s.heap.FunFrames X.base X.stack:=by
 rcases I.ok.stk with e|⟨e,h⟩
 ·rw[e];exact I.funs
 ·rw[e]
  obtain⟨m,hn,_⟩:=I.loc
  refine .cons (by rw[I.ok.kind];decide) h hn ?_ I.funs
  exact Heap.get?_none_of_le (ao I.ok.bsz I.ok.above)
theorem Inv.stkSub (I:Inv X pins σ H s):∀ b∈frs X.stack,b∈X.env.locals::X.fs:=λ b hb=>by
 rcases I.ok.stk with e|⟨e,h⟩
 ·rw[e]at hb;exact ai _ hb
 ·rw[e]at hb
  unfold frs at hb
  rw[bT,h]at hb
  exact hb
theorem Inv.stkFree (I:Inv X pins σ H s):∀ b∈frs X.stack,H b=none:=λ b hb=>by
 rcases ay.mp (I.stkSub b hb)with e|hb
 ·rw[e];exact I.free
 ·obtain⟨_,o,ho,_⟩:=I.ok.funs.mem hb
  exact I.base.free b o ho (I.ok.frf b hb) λ z=>I.ok.exfs b z hb
theorem Inv.step {g':Array GenState}{t':Nat}{d':Drawn}{ch:List Addr}(I:Inv X pins σ H s)
  (B:∀ b∈ch,(b∈X.ex\/X.s₀.heap.objs.size<=b)/\b≠X.env.locals/\(∀ x c,X.env.cells.lookup x=some c->c≠b)/\∀ p∈X.pn++pins,p.1≠b)
  (keep:∀ b o,b≠X.env.locals->b ∉ X.fs->b ∉ ch->s.heap.get? b=some o->H b=none->h'.get? b=some o)
  (slot:∀ b o,b≠X.env.locals->b∈X.fs->b ∉ ch->s.heap.get? b=some o->H b=none->∃ sl,h'.get? b=some { o with slots:=sl }) (free:∀ b o,b ∉ ch->s.heap.get? b=some o->H b=none->H' b=none)
  (there:∀ b o,b ∉ ch->s.heap.get? b=some o->∃ Z,h'.get? b=some Z)
  (tups:∀ b J,H b=some (.tup J)->H' b=some (.tup J)) (frzs:∀ b o u,H b=some (.frz o u)->H' b=some (.frz o u)) (tbls:∀ b ps,H b=some (.tbl ps)->∃ a0,H' b=some (.tbl (ps++a0)))
  (ns:∀ m,s.heap.Ns X.env.locals m->h'.Ns X.env.locals m) (hok:HOk X.prog X.w H' h') (hg:eJ g') :
  Inv X pins σ H' { s with heap:=h',gens:=g',drawn:=d',toks:=t' }:=by
 have Y:∀ b o,X.s₀.heap.get? b=some o->b≠X.env.locals:=λ b o e=>av (aq (az e) I.ok.above)
 have G:∀ b o,X.s₀.heap.get? b=some o->b ∉ X.ex->b ∉ ch:=λ b o e hx hb=>by
  rcases(B b hb).1 with z|z
  ·exact hx z
  ·exact absurd (aq (az e) z) (bF _)
 have h:∀ x c,X.env.cells.lookup x=some c->∀ v,s.heap.IsCell c v->h'.IsCell c v:=λ x c e v ⟨o,ho,hd⟩=>by
  have y:c ∉ ch:=λ z=>(B c z).2.2.1 x c e rfl
  by_cases hc:c∈X.fs
  ·obtain⟨sl,q⟩:=slot c o (I.cne x c e) hc y ho (I.freeC x c e)
   exact⟨_,q,hd⟩
  ·exact⟨o,keep c o (I.cne x c e) hc y ho (I.freeC x c e),hd⟩
 refine⟨I.ok,I.os,hg,⟨λ b o e n hb hx=>?_,λ b o e n hb hx=>?_,λ b o e n hx=>?_,λ b o e hx=>?_,λ b J e=>tups b J (I.base.tups b J e),λ b o J e=>frzs b o J (I.base.frzs b o J e),λ b ps e=>?_⟩,?_,λ x c e=>?_,?_,λ x c e=>?_,λ p hp=>?_,hok,I.len⟩
 ·exact keep b o (Y b o e) hb (G b o e hx) (I.base.keep b o e n hb hx) (I.base.free b o e n hx)
 ·obtain⟨sl,e1⟩:=I.base.slot b o e n hb hx
  obtain⟨a1,e2⟩:=slot b _ (Y b o e) hb (G b o e hx) e1 (I.base.free b o e n hx)
  exact⟨a1,e2⟩
 ·obtain⟨Z,e1⟩:=I.base.there b o e hx
  exact free b Z (G b o e hx) e1 (I.base.free b o e n hx)
 ·obtain⟨Z,e1⟩:=I.base.there b o e hx
  exact there b Z (G b o e hx) e1
 ·obtain⟨m1,e1⟩:=I.base.tbls b ps e
  obtain⟨m2,e2⟩:=tbls b _ e1
  exact⟨m1++m2,by rw[e2,iA]⟩
 ·obtain⟨m,hn,hl⟩:=I.loc
  refine⟨m,ns m hn,λ i x v e1 e2 e3=>?_⟩
  obtain⟨u,r,l⟩:=hl i x v e1 e2 e3
  refine⟨u,r,?_⟩
  rcases l with l|⟨k,c,e,z⟩
  ·exact .inl l
  ·exact .inr ⟨k,c,e,h x c e _ z⟩
 ·obtain⟨v,z⟩:=I.cell x c e
  exact⟨v,h x c e v z⟩
 ·obtain⟨m,⟨o,_,_,ho,_⟩,_⟩:=I.loc
  exact free _ o (λ z=>(B _ z).2.1 rfl) ho I.free
 ·obtain⟨v,o,ho,hd⟩:=I.cell x c e
  exact free c o (λ z=>(B c z).2.2.1 x c e rfl) ho (I.freeC x c e)
 ·obtain⟨e,n,ne,nf,d⟩:=I.pin p hp
  have y:p.1 ∉ ch:=λ z=>(B p.1 z).2.2.2 p hp rfl
  exact⟨keep p.1 p.2 ne nf y e n,free p.1 p.2 y e n,ne,nf,d⟩
theorem Inv.un {t':Nat}(I:Inv X pins σ H s)(u:Un X.fs [] H H' s.heap h')(hok:HOk X.prog X.w H' h'):Inv X pins σ H' { s with heap:=h',toks:=t' }:=by
 obtain⟨m,⟨o,es,Z,ho,r⟩,_⟩:=id I.loc
 obtain⟨sl,G⟩:=u.any ho I.free (by simp)
 exact I.step (g':=s.gens) (d':=s.drawn) (ch:=[]) (λ _ z=>nomatch z) (λ b o _ hb _ e n=>u.keep b o e n hb (by simp)) (λ b o _ hb _ e n=>u.slot b o e n hb (by simp)) (λ b o _ e n=>u.free b o e n (by simp)) (λ b o _ e=>u.there b o e (by simp)) u.tups u.frzs u.tbls (λ m' J=>by
  obtain⟨o',y,B,h,Y⟩:=J
  rw[ho]at h;cases h
  exact⟨_,y,B,G,Y⟩) hok I.bare
theorem Inv.call {g':Array GenState}{t':Nat}{d':Drawn}{ch:List Addr}(I:Inv X pins σ H s)(u:Un (frs X.stack) ch H H' s.heap h')(hok:HOk X.prog X.w H' h')(Z:eJ g')
  (h:∀ b∈ch,(b∈X.ex\/X.s₀.heap.objs.size<=b)/\b≠X.env.locals/\(∀ x c,X.env.cells.lookup x=some c->c≠b)/\∀ p∈X.pn++pins,p.1≠b) :
  Inv X pins σ H' { s with heap:=h',gens:=g',drawn:=d',toks:=t' }:=by
 obtain⟨m,⟨o,es,ep,ho,r⟩,_⟩:=id I.loc
 obtain⟨sl,B⟩:=u.any ho I.free λ z=>(h _ z).2.1 rfl
 exact I.step (ch:=ch) h (λ b o B hb hc e n=>u.keep b o e n (λ z=>(ay.mp (I.stkSub b z)).elim B hb) hc) (λ b o _ _ hc e n=>u.any e n hc) (λ b o hc e n=>u.free b o e n hc) (λ b o hc e=>u.there b o e hc) u.tups u.frzs u.tbls (λ m' hm=>by
  obtain⟨o',G,J,y,Y⟩:=hm
  rw[ho]at y;cases y
  exact⟨_,G,J,B,Y⟩) hok Z
theorem Inv.turned {t':Nat}{it:Addr}(I:Inv X pins σ H s)(k:∀ b o,b≠it->s.heap.get? b=some o->h'.get? b=some o)(hn:H it=none)(y:it≠X.env.locals)
  (B:it∈X.ex\/X.s₀.heap.objs.size<=it) (J:∀ x c,X.env.cells.lookup x=some c->c≠it) (Y:∀ p∈X.pn++pins,p.1≠it):Inv X pins σ H { s with heap:=h',toks:=t' }:=by
 have h:∀ b u,H b=some u->b≠it:=λ b u e z=>by rw[z,hn]at e;cases e
 refine I.step (g':=s.gens) (d':=s.drawn) (ch:=[it]) (λ b hb=>?_) (λ b o _ _ hc e _=>k b o (λ z=>hc (by simp[z])) e) (λ b o _ _ hc e _=>⟨o.slots,k b o (λ z=>hc (by simp[z])) e⟩) (λ _ _ _ _ n=>n)
  (λ b o hc e=>⟨o,k b o (λ z=>hc (by simp[z])) e⟩) (λ _ _ e=>e) (λ _ _ _ e=>e) (λ b ps e=>⟨#[],by rw[e];simp⟩) (λ m Z=>?_) (λ b u e=>?_) I.bare
 ·have e:b=it:=by simpa using hb
  subst e
  exact⟨B,y,J,Y⟩
 ·obtain⟨o,es,G,ho,r⟩:=Z
  exact⟨o,es,G,k _ o (bO y) ho,r⟩
 ·refine(I.hok b u e).stay (λ c v hc q=>k c v ?_ q) (λ _ q=>q) λ _ _ q=>q
  rcases hc with z|z
  ·rw[z];exact h b u e
  ·exact h c _ z
theorem Inv.tok (I:Inv X pins σ H s)(t:Nat):Inv X pins σ H { s with toks:=t }:=I.un (h':=s.heap) (t':=t) Un.refl I.hok
theorem Inv.kept {t':Nat}(I:Inv X pins σ H s)(k:∀ b u,s.heap.get? b=some u->h'.get? b=some u):Inv X pins σ H { s with heap:=h',toks:=t' }:=I.un (Un.kept k) (I.hok.kept k)
theorem Inv.laid {a:Addr}{o:HO}{t':Nat}(I:Inv X pins σ H s)(k:∀ b u,s.heap.get? b=some u->h'.get? b=some u)(hp:s.heap.objs.size<=a)(new:ab6 X.prog X.w (upd H a o) h' a o) :
  Inv X pins σ (upd H a o) { s with heap:=h',toks:=t' }:=I.un (Un.laid k hp (I.hok.fresh hp)) (I.hok.laid k hp new)
theorem Inv.write {x e:Addr}{o:HO}{t':Nat}(I:Inv X pins σ H s)(mu:Mut (H x))(y:e=x\/H e=some (.own x))(k:∀ b u,b≠e->s.heap.get? b=some u->h'.get? b=some u)(h:∃ u,h'.get? e=some u)
  (new:ab6 X.prog X.w (upd H x o) h' x o):Inv X pins σ (upd H x o) { s with heap:=h',toks:=t' }:=I.un (Un.write mu y k h) (I.hok.write mu y k h new)
theorem Inv.pins_of {y:List (Addr×Obj)}(I:Inv X pins σ H s)(h:∀ p∈y,s.heap.get? p.1=some p.2/\H p.1=none/\p.1≠X.env.locals/\p.1 ∉ X.fs/\∀ v,p.2.data≠.cell v):Inv X y σ H s :=
 ⟨I.ok,I.os,I.bare,I.base,I.loc,I.cell,I.free,I.freeC,λ p hp=>(dh.mp hp).elim (λ z=>I.pin p (cj _ z)) (h p),I.hok,I.len⟩
theorem aq1 {N:List Str}(hN:N.Nodup){i j:Nat}{x:Str}(a:N[i]?=some x)(b:N[j]?=some x):i=j:=by
 obtain⟨h,e1⟩:=ae.mp a
 obtain⟨y,e2⟩:=ae.mp b
 exact(List.getElem_inj hN).mp (e1.trans e2.symm)
theorem au6 {M:Model}{A:aP}{E:Value->af->Prop}{i:Nat}{x:Str}{v:V}{u:Value}{Q:Unit->af->Prop}(I:Inv X pins σ H s)(hN:X.N.Nodup)(hi:X.N[i]?=some x)(hx:Loc X.env.scope x)(r:RelV v u)
  (h:∀ s',Inv X pins (σ.set i (some v)) H s'->(∃ a,dB a s.heap s'.heap/\(a=X.env.locals\/X.env.cells.lookup x=some a))->Q () s') (hf:X.fn x=true\/X.env.scope.names.lookup x=some .local:=by first|exact .inl rfl|exact .inr rfl|assumption):wpAny M A (fK X.env x u) Q E s:=by
 obtain⟨m,hn,hl⟩:=id I.loc
 have Z:(X.env.scope.kind==.class||(X.env.scope.kind==.module&&X.env.locals != X.env.globals))=false:=by rw[I.ok.kind];rfl
 have a1:i < σ.length:=by rw[I.len];exact(ae.mp hi).1
 have cne:=I.cne
 have B:∀ {a:Addr} {h':Heap},(∃ o,s.heap.get? a=some o/\H a=none)->dB a s.heap h'->HOk X.prog X.w H h':=λ {a h'} ha hs b ob e=>by
  obtain⟨_,_,G⟩:=ha
  refine(I.hok b ob e).stay (λ c w' hc q=>(hs.2 c ?_).trans q) (λ _ q=>q) λ _ _ q=>q
  rintro rfl
  rcases hc with rfl|hc
  ·rw[G]at e;cases e
  ·rw[G]at hc;cases hc
 rcases hx with hk|hk
 ·refine gz hk hn (λ h' a3 hs=>?_) Z
  obtain⟨oL,_,_,a4,_⟩:=id hn
  refine h _ ⟨I.ok,I.os,I.bare,⟨λ b o e n hb hx=>?_,λ b o e n hb hx=>?_,I.base.free,λ b o e hx=>?_,I.base.tups,I.base.frzs,I.base.tbls⟩,⟨_,a3,λ j y v' e1 e2 e3=>?_⟩,λ y c e=>?_,I.free,I.freeC,λ p hp=>?_,B ⟨oL,a4,I.free⟩ hs,by simpa using I.len⟩ ⟨_,hs,.inl rfl⟩
  ·exact(hs.2 b (av (aq (az e) I.ok.above))).trans (I.base.keep b o e n hb hx)
  ·obtain⟨sl,e1⟩:=I.base.slot b o e n hb hx
   exact⟨sl,(hs.2 b (av (aq (az e) I.ok.above))).trans e1⟩
  ·obtain⟨o',e1⟩:=I.base.there b o e hx
   exact⟨o',(hs.2 b (av (aq (az e) I.ok.above))).trans e1⟩
  ·by_cases hj:j=i
   ·subst hj
    rw[hi]at e1;cases e1
    rw[aU a1]at e2
    cases e2
    exact⟨u,r,.inl ⟨hk,by simp⟩⟩
   ·rw[aY (bO hj)]at e2
    obtain⟨u',r',q⟩:=hl j y v' e1 e2 e3
    refine⟨u',r',?_⟩
    rcases q with⟨k,e⟩|⟨k,c,e,z⟩
    ·refine .inl ⟨k,?_⟩
     have:y≠x:=λ e=>hj (aq1 hN e1 (e▸hi))
     simp[this,e]
    ·exact .inr ⟨k,c,e,z.sameBut hs (cne y c e)⟩
  ·obtain⟨w',z⟩:=I.cell y c e
   exact⟨w',z.sameBut hs (cne y c e)⟩
  ·obtain⟨e,n,ne,nf,d⟩:=I.pin p hp
   exact⟨(hs.2 p.1 ne).trans e,n,ne,nf,d⟩
 ·have J:X.fn x=true:=by
   rcases hf with z|z
   ·exact z
   ·rw[z]at hk;cases hk
  obtain⟨c,hc⟩:=I.ok.has x (.inl hk)
  obtain⟨w',z⟩:=I.cell x c hc
  refine gL I.ok.kind hk hc z (λ h' a2 hs=>?_)
  obtain⟨oc,a0,Y⟩:=id z
  refine h { s with heap:=h' } ⟨I.ok,I.os,I.bare,⟨λ b o e n hb hx=>?_,λ b o e n hb hx=>?_,I.base.free,λ b o e hx=>?_,I.base.tups,I.base.frzs,I.base.tbls⟩,⟨m,hn.sameBut hs (bO (cne x c hc)),λ j y v' e1 e2 e3=>?_⟩,λ y c' e=>?_,I.free,I.freeC,λ p hp=>?_,B ⟨oc,a0,I.freeC x c hc⟩ hs,by simpa using I.len⟩ ⟨c,hs,.inr hc⟩
  ·exact(hs.2 b (av (aq (az e) (I.ok.cab x c J hc)))).trans (I.base.keep b o e n hb hx)
  ·obtain⟨sl,e1⟩:=I.base.slot b o e n hb hx
   exact⟨sl,(hs.2 b (av (aq (az e) (I.ok.cab x c J hc)))).trans e1⟩
  ·obtain⟨o',e1⟩:=I.base.there b o e hx
   exact⟨o',(hs.2 b (av (aq (az e) (I.ok.cab x c J hc)))).trans e1⟩
  ·by_cases hj:j=i
   ·subst hj
    rw[hi]at e1;cases e1
    rw[aU a1]at e2
    cases e2
    exact⟨u,r,.inr ⟨.inl hk,c,hc,a2⟩⟩
   ·rw[aY (bO hj)]at e2
    obtain⟨u',r',q⟩:=hl j y v' e1 e2 e3
    refine⟨u',r',?_⟩
    rcases q with q|⟨k,c',e,z'⟩
    ·exact .inl q
    ·refine .inr ⟨k,c',e,z'.sameBut hs ?_⟩
     rintro rfl
     exact hj (aq1 hN e1 (I.ok.inj _ _ _ e hc▸hi))
  ·by_cases hcc:c'=c
   ·subst hcc;exact⟨_,a2⟩
   ·obtain⟨w2,z2⟩:=I.cell y c' e
    exact⟨w2,z2.sameBut hs hcc⟩
  ·obtain⟨e,n,ne,nf,d⟩:=I.pin p hp
   refine⟨(hs.2 p.1 ?_).trans e,n,ne,nf,d⟩
   intro q
   rw[q,a0]at e
   have q':oc=p.2:=aC e
   exact d w' (by rw[<-q'];exact Y)
theorem af1 {M:Model}{A:aP}{E:Value->af->Prop}{i:Nat}{x:Str}{v:V}{u:Value}{Q:Unit->af->Prop}(I:Inv X pins σ H s)(hN:X.N.Nodup)(B:X.N[i]?=some x)(hx:Loc X.env.scope x)(r:RelV v u)
  (h:∀ s',Inv X pins (σ.set i (some v)) H s'->Q () s') (y:X.fn x=true\/X.env.scope.names.lookup x=some .local:=by first|exact .inl rfl|exact .inr rfl|assumption):wpAny M A (fK X.env x u) Q E s :=
 au6 I hN B hx r (λ s' G _=>h s' G) y
theorem Inv.call' {s':af}{ch:List Addr}(I:Inv X pins σ H s)(ho:s'.os=s.os)(u:Un (frs X.stack) ch H H' s.heap s'.heap)(hok:HOk X.prog X.w H' s'.heap)(y:eJ s'.gens)
  (h:∀ b∈ch,(b∈X.ex\/X.s₀.heap.objs.size<=b)/\b≠X.env.locals/\(∀ x c,X.env.cells.lookup x=some c->c≠b)/\∀ p∈X.pn++pins,p.1≠b):Inv X pins σ H' s':=by
 obtain⟨h',g',d',t',B⟩:=s'
 have e:B=s.os:=ho
 subst e
 exact I.call (g':=g') (t':=t') (d':=d') u hok y h
end
abbrev XK:=Value->Option Addr->Hp->Prop
noncomputable abbrev St:=List (Option V)
abbrev VK:=V->Hp->Prop
abbrev TE:=St->Hp->VK->Prop
abbrev TT:=St->Hp->(Bool->Hp->Prop)->Prop
abbrev TA:=St->Hp->(List V->Hp->Prop)->Prop
structure Ends where
 nx:St->Hp->Prop
 rt:VK
 bk:St->Hp->Prop:=λ _ _=>False
 ct:St->Hp->Prop:=λ _ _=>False
abbrev TS:=Ends->St->Hp->Prop
def EP (X:Cx)(pins:List (Addr×Obj))(σ:St)(Q:VK)(u:Value)(s':af):Prop:=∃ v H',Inv X pins σ H' s'/\RelV v u/\Q v H'
def TP (X:Cx)(pins:List (Addr×Obj))(σ:St)(Q:Bool->Hp->Prop)(b:Bool)(s':af):Prop:=∃ H',Inv X pins σ H' s'/\Q b H'
def AP (X:Cx)(pins:List (Addr×Obj))(σ:St)(Q:List V->Hp->Prop)(us:List Value)(s':af):Prop:=∃ vs H',Inv X pins σ H' s'/\Vals vs us/\Q vs H'
def SP (X:Cx)(pins:List (Addr×Obj))(D:Ends)(f:Flow)(s':af):Prop :=
 match f with
 | .next=>∃ σ' H',Inv X pins σ' H' s'/\D.nx σ' H'
 | .brk=>∃ σ' H',Inv X pins σ' H' s'/\D.bk σ' H'
 | .cont=>∃ σ' H',Inv X pins σ' H' s'/\D.ct σ' H'
 | .ret u=>∃ v σ' H',Inv X pins σ' H' s'/\RelV v u/\D.rt v H'
def PE (X:Cx)(e:Expr)(t:TE):Prop :=
 ∀(pins:List (Addr×Obj)) (s:af) (σ:St) (H:Hp) (Q:VK),Inv X pins σ H s->t σ H Q->wpAny (model X.prog X.w) X.A (eval e X.env) (EP X pins σ Q) X.xe s
def PT (X:Cx)(e:Expr)(t:TT):Prop :=
 ∀(pins:List (Addr×Obj)) (s:af) (σ:St) (H:Hp) (Q:Bool->Hp->Prop),Inv X pins σ H s->t σ H Q->wpAny (model X.prog X.w) X.A (dj e X.env (eval e X.env)) (TP X pins σ Q) X.xe s
def PW (X:Cx)(e:Expr)(t:TT):Prop :=
 ∀(whole:Sem Value) (pins:List (Addr×Obj)) (s:af) (σ:St) (H:Hp) (Q:Bool->Hp->Prop),Inv X pins σ H s->t σ H Q->wpAny (model X.prog X.w) X.A (dj e X.env whole) (TP X pins σ Q) X.xe s
theorem PW.pt {X:Cx}{e:Expr}{t:TT}(h:PW X e t):PT X e t:=h _
def PA (X:Cx)(es:List Expr)(t:TA):Prop :=
 ∀(pos:Pos) (pins:List (Addr×Obj)) (s:af) (σ:St) (H:Hp) (Q:List V->Hp->Prop),Inv X pins σ H s->t σ H Q->wpAny (model X.prog X.w) X.A (spliced (dC pos (bo es X.env))) (AP X pins σ Q) X.xe s
def PS (X:Cx)(st:Stmt)(t:TS):Prop :=
 ∀(pins:List (Addr×Obj)) (s:af) (σ:St) (H:Hp) (D:Ends),Inv X pins σ H s->t D σ H->wpAny (model X.prog X.w) X.A (exec st X.env) (SP X pins D) X.xe s
def PSs (X:Cx)(st:List Stmt)(t:TS):Prop :=
 ∀(pins:List (Addr×Obj)) (s:af) (σ:St) (H:Hp) (D:Ends),Inv X pins σ H s->t D σ H->wpAny (model X.prog X.w) X.A (execs st X.env) (SP X pins D) X.xe s
theorem thn {α:Type}{t:Sem α}{Q y:α->af->Prop}{M:Model}{A:aP}{E:Value->af->Prop}{s:af}(h:wpAny M A t Q E s)(B:∀ a s,Q a s->y a s):wpAny M A t y E s:=bz h B λ _ _ x=>x
section
variable {X:Cx}
theorem bin {a b:Expr}{J tb:TE}(ha:PE X a J)(hb:PE X b tb){B:List (Addr×Obj)}{s:af}{σ:St}{H:Hp}{R:V->V->Hp->Prop}(I:Inv X B σ H s)(h:J σ H λ x G=>tb σ G λ y H2=>R x y H2)
  {α:Type} {Q:α->af->Prop} {f:Value->Value->Sem α}
  (Y:∀ v u s2 x y H2,Inv X B σ H2 s2->RelV x v->RelV y u->R x y H2->wpAny (model X.prog X.w) X.A (f v u) Q X.xe s2) :
  wpAny (model X.prog X.w) X.A (eval a X.env) (λ v s₁=>wpAny (model X.prog X.w) X.A (eval b X.env) (λ u Z=>wpAny (model X.prog X.w) X.A (f v u) Q X.xe Z) X.xe s₁) X.xe s:=by
 refine thn (ha B s σ H _ I h) λ v s1 ⟨x,G,I1,r1,q1⟩=>?_
 refine thn (hb B s1 σ G _ I1 q1) λ u s2 ⟨y,H2,I2,r2,q2⟩=>?_
 exact Y v u s2 x y H2 I2 r1 r2 q2
def aX0 (i:Nat):TE:=λ σ H Q=>∃ v,σ[i]?=some (some v)/\Q v H
def tC (v:V):TE:=λ _ H Q=>Q v H
theorem at0 {i:Nat}{x:Str}{pos:Pos}(hN:X.N[i]?=some x)(hv:Vis X.env.scope x)(hd:(x==("__debug__":Str))=false:=by decide)(B:(x==("__classdict__":Str))=false:=by decide):PE X (.Name x pos) (aX0 i):=by
 intro y s σ H Q I h
 obtain⟨v,e,h⟩:=h
 obtain⟨m,hn,hl⟩:=I.loc
 obtain⟨u,r,l⟩:=hl i x v hN e hv
 have fin:EP X y σ Q u s:=⟨v,H,I,r,h⟩
 rcases l with⟨hk,G⟩|⟨hk,c,hc,hcell⟩
 ·exact jL (wpAny_loadName_local I.ok.kind hk hn G fin) hd
 ·rcases hk with hk|hk
  ·exact jL (wpAny_loadName_cell I.ok.kind hk hc hcell fin) hd
  ·exact jL (wpAny_loadName_free I.ok.kind hk hc hcell fin B) hd
theorem bz0 {i j pos}:PE X (.Constant (.int i) j pos) (tC (.int i)):=λ _ _ _ H _ I h=>wpAny_Constant_int ⟨.int i,H,I.tok _,⟨_,rfl⟩,h⟩
theorem bG3 {b j pos}:PE X (.Constant (.bool b) j pos) (tC (.bl b)):=λ _ _ _ H _ I h=>Constant_bool ⟨.bl b,H,I,rfl,h⟩
theorem bD7 {j pos}:PE X (.Constant .none j pos) (tC .non):=λ _ _ _ H _ I h=>Constant_none ⟨.non,H,I,rfl,h⟩
theorem bh2 {x j pos}:PE X (.Constant (.str x) j pos) (tC (.str x)):=λ _ _ _ H _ I h=>Calls.Constant_str ⟨.str x,H,I.tok _,⟨_,rfl⟩,h⟩
def Gl (X:Cx)(x:Str):Prop:=X.env.kindOf x=some .globalImplicit
theorem aq3 {E:Value->af->Prop}{y:List (Addr×Obj)}{s:af}{σ:St}{H:Hp}{x:Str}{u:Value}{pos:Pos}{Q:Value->af->Prop}(I:Inv X y σ H s)(B:Gl X x)(G:X.mg x=some u)(h:Q u s)
  (hd:(x==("__debug__":Str))=false:=by decide):wpAny (model X.prog X.w) X.A (eval (.Name x pos) X.env) Q E s :=
 eR I.ok.kind B (Calls.loadGlobal_global (by rw[I.ok.glob];exact I.mod.glob.keeps I.bk) G h) hd
theorem aG5 {E:Value->af->Prop}{y:List (Addr×Obj)}{s:af}{σ:St}{H:Hp}{x:Str}{u:Value}{pos:Pos}{Q:Value->af->Prop}(I:Inv X y σ H s)(B:Gl X x)(Y:X.mg x=none)(hv:be x=some u)(h:Q u s)
  (hn:x ≠ "__name__":=by decide) (hd:(x==("__debug__":Str))=false:=by decide):wpAny (model X.prog X.w) X.A (eval (.Name x pos) X.env) Q E s:=by
 obtain⟨Z,J,G⟩:=I.mod.blt
 exact eR I.ok.kind B (Calls.loadGlobal_builtin (by rw[I.ok.glob];exact I.mod.glob.keeps I.bk) Y (by rw[I.ok.blt];exact J.keeps I.bk) ((G x hn).trans hv) h) hd
theorem ak0 {x:Str}{v:V}{u:Value}{pos:Pos}(y:Gl X x)(B:X.mg x=some u)(r:RelV v u)(hd:(x==("__debug__":Str))=false:=by decide):PE X (.Name x pos) (tC v) :=
 λ _ _ _ H _ I h=>aq3 I y B ⟨v,H,I,r,h⟩ hd
theorem bn0 {x:Str}{v:V}{u:Value}{pos:Pos}(y:Gl X x)(B:X.mg x=none)(hv:be x=some u)(r:RelV v u)(hn:x ≠ "__name__":=by decide)(hd:(x==("__debug__":Str))=false:=by decide):PE X (.Name x pos) (tC v) :=
 λ _ _ _ H _ I h=>aG5 I y B hv ⟨v,H,I,r,h⟩ hn hd
variable {a b:Expr} {ta tb:TE} {pos:Pos}
def tB (t:TE):TT:=λ σ H Q=>t σ H λ x H1=>∃ c,x=.bl c/\Q c H1
theorem aR2 {e:Expr}{t:TE}(h:PE X e t)(J:∀ y,dj e X.env y=(do let v <- y;standAt e.pos;jF [v] (truthy v)):=by intro _;rfl):PT X e (tB t):=by
 intro B s σ H Q I hw
 refine isTrue_plain (thn (h B s σ H _ I hw) λ v s1 ⟨x,G,Y,r1,Z⟩=>?_) (J _)
 obtain⟨d,rfl,q⟩:=Z
 cases r1
 exact cq ⟨G,Y,q⟩
variable {tA tB':TT} {rest:List Expr}
def bW9 (t u:TT):TT:=λ σ H Q=>t σ H λ c H1=>if c=true then u σ H1 Q else Q false H1
def tOr (t u:TT):TT:=λ σ H Q=>t σ H λ c H1=>if c=true then Q true H1 else u σ H1 Q
def bY7 (t:TT):TT:=λ σ H Q=>t σ H λ c H1=>Q (!c) H1
theorem bv1 (ha:PT X a tA):PW X (.BoolOp .And [a] pos) tA:=by
 intro B y s σ H Q I h
 refine isTrue_and (thn (ha y s σ H Q I h) λ c s1 e=>?_)
 cases c with
 | true=>exact isTrue_and_nil e
 | false=>exact e
theorem bh8 (ha:PT X a tA):PW X (.BoolOp .Or [a] pos) tA:=by
 intro B y s σ H Q I h
 refine isTrue_or (thn (ha y s σ H Q I h) λ c s1 e=>?_)
 cases c with
 | false=>exact isTrue_or_nil e
 | true=>exact e
theorem bg5 (ha:PT X a tA)(hb:PW X (.BoolOp .And (b::rest) pos) tB'):PW X (.BoolOp .And (a::b::rest) pos) (bW9 tA tB'):=by
 intro Y y s σ H Q I h
 refine isTrue_and (thn (ha y s σ H _ I h) λ c s1 ⟨B,G,J⟩=>?_)
 cases c with
 | true=>exact hb Y y s1 σ B Q G J
 | false=>exact⟨B,G,J⟩
theorem bq5 (ha:PT X a tA)(hb:PW X (.BoolOp .Or (b::rest) pos) tB'):PW X (.BoolOp .Or (a::b::rest) pos) (tOr tA tB'):=by
 intro Y y s σ H Q I h
 refine isTrue_or (thn (ha y s σ H _ I h) λ c s1 ⟨B,G,J⟩=>?_)
 cases c with
 | true=>exact⟨B,G,J⟩
 | false=>exact hb Y y s1 σ B Q G J
theorem bj2 (ha:PT X a tA):PT X (.UnaryOp .Not a pos) (bY7 tA):=by
 intro y s σ H Q I h
 exact isTrue_not (ha y s σ H (λ c B=>Q (!c) B) I h)
def bL1 (ta tb:TE):TE:=λ σ H Q=>ta σ H λ x H1=>∃ c,x=.bl c/\if c=true then tb σ H1 Q else Q (.bl false) H1
def bZ0 (ta tb:TE):TE:=λ σ H Q=>ta σ H λ x H1=>∃ c,x=.bl c/\if c=true then Q (.bl true) H1 else tb σ H1 Q
def bz7 (ta:TE):TE:=λ σ H Q=>ta σ H λ x H1=>∃ c,x=.bl c/\Q (.bl (!c)) H1
theorem aS3 {op}{t:TE}(h:PE X a t):PE X (.BoolOp op [a] pos) t:=λ y s σ H Q I hw=>BoolOp_one (h y s σ H Q I hw)
theorem bg2 (ha:PE X a ta)(hb:PE X (.BoolOp .And (b::rest) pos) tb):PE X (.BoolOp .And (a::b::rest) pos) (bL1 ta tb):=by
 intro y s σ H Q I h
 refine BoolOp_and (thn (ha y s σ H _ I h) λ v s1 ⟨x,G,J,r1,B⟩=>?_)
 obtain⟨c,rfl,B⟩:=B
 cases r1
 refine cq ?_
 cases c with
 | true=>exact hb y s1 σ G Q J B
 | false=>exact⟨.bl false,G,J,rfl,B⟩
theorem bw0 (ha:PE X a ta)(hb:PE X (.BoolOp .Or (b::rest) pos) tb):PE X (.BoolOp .Or (a::b::rest) pos) (bZ0 ta tb):=by
 intro y s σ H Q I h
 refine BoolOp_or (thn (ha y s σ H _ I h) λ v s1 ⟨x,G,J,r1,B⟩=>?_)
 obtain⟨c,rfl,B⟩:=B
 cases r1
 refine cq ?_
 cases c with
 | false=>exact hb y s1 σ G Q J B
 | true=>exact⟨.bl true,G,J,rfl,B⟩
theorem bi2 (ha:PE X a ta):PE X (.UnaryOp .Not a pos) (bz7 ta):=by
 intro y s σ H Q I h
 refine UnaryOp_ (thn (ha y s σ H _ I h) λ v s1 ⟨x,G,J,r1,B⟩=>?_)
 obtain⟨c,rfl,B⟩:=B
 cases r1
 exact not_of (cq ⟨.bl (!c),G,J,rfl,B⟩)
def tIf (t:TT)(ta tb:TE):TE:=λ σ H Q=>t σ H λ c H1=>if c=true then ta σ H1 Q else tb σ H1 Q
theorem aY7 {c:Expr}(hc:PT X c tA)(ha:PE X a ta)(hb:PE X b tb):PE X (.IfExp c a b pos) (tIf tA ta tb):=by
 intro y s σ H Q I h
 refine wpAny_IfExp (thn (hc y s σ H _ I h) λ d s1 ⟨B,G,J⟩=>?_)
 cases d with
 | true=>exact ha y s1 σ B Q G J
 | false=>exact hb y s1 σ B Q G J
end
def SqL (K:ac)(H:Hp)(a:Addr)(xs:List V):Prop :=
 Rd H a (.lst xs) \/
  ∃(o:Obj) (its:Array Value) (n:Nat),K.lookup a=some o/\o.cls=.type "list"/\o.dict=none/\o.data=.seq its n/\its.size<=aH/\Vals xs its.toList
def SqT (K:ac)(H:Hp)(a:Addr)(xs:List V):Prop :=
 Rd H a (.tup xs) \/
  ∃(o:Obj) (its:Array Value) (n:Nat),K.lookup a=some o/\o.cls=.type "tuple"/\o.data=.seq its n/\its.size<=aH/\Vals xs its.toList
noncomputable def cc6:Value->Option V
 | .none=>some .non
 | .bool b=>some (.bl b)
 | .int i _=>some (.int i)
 | .str x _=>some (.str x)
 | .bytes b _=>some (.byt b)
 | .float b _=>some (.flt b)
 | .ref a=>some (.ref a)
 | .type n=>some (.ty n)
 | _=>none
theorem RelV.abs {x:V}{u:Value}(r:RelV x u):cc6 u=some x:=by
 cases x with
 | non=>cases r;rfl
 | bl _=>cases r;rfl
 | int _=>obtain⟨t,rfl⟩:=r;rfl
 | str _=>obtain⟨t,rfl⟩:=r;rfl
 | byt _=>obtain⟨t,rfl⟩:=r;rfl
 | flt _=>obtain⟨t,rfl⟩:=r;rfl
 | ref _=>cases r;rfl
 | ty _=>cases r;rfl
theorem RelV.inj {x y:V}{u:Value}(r:RelV x u)(q:RelV y u):x=y:=aC (r.abs.symm.trans q.abs)
theorem Vals.inj:∀ {h ys:List V} {us:List Value},Vals h us->Vals ys us->h=ys
 | _,_,_,.nil,.nil=>rfl
 | _,_,_,.cons r t,.cons r' t'=>by rw[r.inj r',Vals.inj t t']
section
variable {X:Cx} {pins:List (Addr×Obj)} {σ:St} {H:Hp} {s:af} {a:Addr} {xs ys:List V}
theorem SqL.of {K:ac}(h:H a=some (.lst xs)):SqL K H a xs:=.inl (.inl h)
theorem SqT.of {K:ac}(h:H a=some (.tup xs)):SqT K H a xs:=.inl (.inl h)
theorem Inv.list (I:Inv X pins σ H s)(h:SqL X.K H a xs):∃ its:List Value,Vals xs its/\PlainL s.heap a its.toArray/\xs.length<=aH:=by
 rcases h with h|⟨o,its,n,hk,hc,hd,hs,hz,r⟩
 ·obtain⟨z,its,n,r,e⟩:=h.ok I.hok
  exact⟨its,r,⟨_,n,e,rfl,rfl,rfl⟩,z⟩
 ·refine⟨its.toList,r,⟨o,n,I.kIn a o hk,hc,hd,by simpa using hs⟩,?_⟩
  have e:=r.length
  simp only[eI]at e
  omega
theorem Inv.tuple (I:Inv X pins σ H s)(h:SqT X.K H a xs):∃ its:List Value,Vals xs its/\IsTup s.heap a its.toArray/\xs.length<=aH:=by
 rcases h with h|⟨o,its,n,hk,hc,hs,hz,r⟩
 ·obtain⟨z,its,r,p⟩:=h.ok I.hok
  exact⟨its,r,p,z⟩
 ·refine⟨its.toList,r,⟨o,I.kIn a o hk,hc,n,by simpa using hs⟩,?_⟩
  have e:=r.length
  simp only[eI]at e
  omega
theorem Inv.list_inj (I:Inv X pins σ H s)(h:SqL X.K H a xs)(h':SqL X.K H a ys):xs=ys:=by
 obtain⟨its,r,⟨o,n,e,_,_,d⟩,_⟩:=I.list h
 obtain⟨its',y,⟨B,G,e',_,_,d'⟩,_⟩:=I.list h'
 rw[e]at e';cases e'
 rw[d]at d'
 injection d' with d1 _
 have:its=its':=by simpa using congrArg iR d1
 subst this
 exact r.inj y
theorem Inv.tuple_inj (I:Inv X pins σ H s)(h:SqT X.K H a xs)(h':SqT X.K H a ys):xs=ys:=by
 obtain⟨its,r,⟨o,e,_,n,d⟩,_⟩:=I.tuple h
 obtain⟨its',y,⟨B,e',_,G,d'⟩,_⟩:=I.tuple h'
 rw[e]at e';cases e'
 rw[d]at d'
 injection d' with d1 _
 have:its=its':=by simpa using congrArg iR d1
 subst this
 exact r.inj y
end
noncomputable abbrev Cx.wish (X:Cx)(E:Value->af->Prop):Cx:={ X with xe:=E }
noncomputable abbrev Cx.nox (X:Cx):Cx:=X.wish λ _ _=>False
theorem Cx.Ok.wish {X:Cx}(ok:X.Ok)(E:Value->af->Prop):(X.wish E).Ok :=
 ⟨ok.mod,ok.kind,ok.glob,ok.blt,ok.above,ok.inj,ok.has,ok.cab,ok.hd,ok.frames,ok.stk,ok.exf,ok.bs,ok.bsz,ok.noex,ok.exfs,ok.funs,ok.frf⟩
theorem Cx.Ok.unwish {X:Cx}{E:Value->af->Prop}(ok:(X.wish E).Ok):X.Ok :=
 ⟨ok.mod,ok.kind,ok.glob,ok.blt,ok.above,ok.inj,ok.has,ok.cab,ok.hd,ok.frames,ok.stk,ok.exf,ok.bs,ok.bsz,ok.noex,ok.exfs,ok.funs,ok.frf⟩
section
variable {X:Cx} {pins:List (Addr×Obj)} {σ:St} {H:Hp} {s:af} {E:Value->af->Prop}
theorem Inv.wish (I:Inv X pins σ H s)(E:Value->af->Prop):Inv (X.wish E) pins σ H s:=⟨I.ok.wish E,I.os,I.bare,I.base,I.loc,I.cell,I.free,I.freeC,I.pin,I.hok,I.len⟩
theorem Inv.unwish (I:Inv (X.wish E) pins σ H s):Inv X pins σ H s:=⟨I.ok.unwish,I.os,I.bare,I.base,I.loc,I.cell,I.free,I.freeC,I.pin,I.hok,I.len⟩
theorem SP.unwish {D:Ends}{f:Flow}{s':af}(h:SP (X.wish E) pins D f s'):SP X pins D f s':=by
 cases f with
 | next=>obtain⟨σ',H',I,q⟩:=h;exact⟨σ',H',I.unwish,q⟩
 | brk=>obtain⟨σ',H',I,q⟩:=h;exact⟨σ',H',I.unwish,q⟩
 | cont=>obtain⟨σ',H',I,q⟩:=h;exact⟨σ',H',I.unwish,q⟩
 | ret u=>obtain⟨v,σ',H',I,r,q⟩:=h;exact⟨v,σ',H',I.unwish,r,q⟩
theorem PT.nox {e:Expr}{t:TT}(h:PT X.nox e t):PT X e t:=λ y s σ H Q I hw =>
 bz (h y s σ H Q (I.wish _) hw) (λ _ _ ⟨H',B,q⟩=>⟨H',B.unwish,q⟩) λ _ _ z=>aZ z
theorem PSs.nox {st:List Stmt}{t:TS}(h:PSs X.nox st t):PSs X st t:=λ y s σ H D I hw =>
 bz (h y s σ H D (I.wish _) hw) (λ _ _ q=>q.unwish) λ _ _ z=>aZ z
end
section
variable {X:Cx} {st:Stmt} {rest:List Stmt} {t u:TS} {e:Expr} {te:TE} {pos:Pos}
def bK0:TS:=λ D σ H=>D.nx σ H
noncomputable def bY4 (t u:TS):TS:=λ D σ H=>t { D with nx:=u D } σ H
theorem am0:PSs X [] bK0:=λ _ _ σ H _ I h=>cJ ⟨σ,H,I,h⟩
theorem zS (G:PS X st t)(B:PSs X rest u):PSs X (st::rest) (bY4 t u):=by
 intro y s σ H D I h
 refine i6 (thn (G y s σ H { D with nx:=u D } I h) λ f s1 q=>?_)
 cases f with
 | next =>
  obtain⟨σ',H',J,q⟩:=q
  exact B y s1 σ' H' D J q
 | ret v=>exact q
 | brk=>exact q
 | cont=>exact q
theorem aT9 (B:PS X st t):PSs X [st] t:=by
 intro y s σ H D I h
 refine i6 (thn (B y s σ H D I h) λ f s1 q=>?_)
 cases f with
 | next=>exact cJ q
 | ret v=>exact q
 | brk=>exact q
 | cont=>exact q
theorem Inv.quiet {h:List (Addr×Obj)}{σ:St}{H:Hp}{s:af}(I:Inv X h σ H s):interactive X.env=false:=by simp[interactive,I.ok.kind]
def bA1 (te:TE):TS:=λ D σ H=>te σ H λ _ H1=>D.nx σ H1
theorem aV8 (G:PE X e te)(hs:eP e none pos.line X.env=pure false:=by rfl):PS X (.Expr e pos) (bA1 te):=by
 intro y s σ H D I h
 exact wpAny_Expr_any (thn (G y s σ H _ I h) λ v s1 ⟨x,B,J,r1,Y⟩=>⟨σ,B,J,Y⟩) I.quiet hs
def bZ4 (te:TE):TS:=λ D σ H=>te σ H D.rt
theorem an0 (G:PE X e te):PS X (.Return (some e) pos) (bZ4 te):=by
 intro y s σ H D I h
 exact wpAny_Return_some (thn (G y s σ H _ I h) λ v s1 ⟨x,B,J,r1,Y⟩=>⟨x,σ,B,J,r1,Y⟩)
def bY3 (c:TT)(t u:TS):TS:=λ D σ H=>c σ H λ b H1=>if b=true then t D σ H1 else u D σ H1
theorem bm9 {c:Expr}{a b:List Stmt}{B:TT}(hc:PT X c B)(ha:PSs X a t)(hb:PSs X b u):PS X (.If c a b pos) (bY3 B t u):=by
 intro y s σ H D I h
 refine wpAny_If (thn (hc y s σ H _ I h) λ d s1 ⟨G,J,Y⟩=>?_)
 cases d with
 | true=>exact ha y s1 σ G D J Y
 | false=>exact hb y s1 σ G D J Y
def bh3:TS:=λ _ _ _=>False
theorem bd6:PS X st bh3:=λ _ _ _ _ _ _ h=>h.elim
theorem af3 {y:List Stmt}:PSs X y bh3:=λ _ _ _ _ _ _ h=>h.elim
end
abbrev TG:=V->St->Hp->(St->Hp->Prop)->Prop
abbrev TGs:=List V->St->Hp->(St->Hp->Prop)->Prop
def PG (X:Cx)(target:Expr)(t:TG):Prop :=
 ∀(pins:List (Addr×Obj)) (s:af) (σ:St) (H:Hp) (v:V) (u:Value) (Q:St->Hp->Prop),Inv X pins σ H s->RelV v u->t v σ H Q ->
  wpAny (model X.prog X.w) X.A (fW target X.env u) (λ _ s'=>∃ σ' H',Inv X pins σ' H' s'/\Q σ' H') X.xe s
def PGs (X:Cx)(ts:List Expr)(t:TGs):Prop :=
 ∀(pins:List (Addr×Obj)) (s:af) (σ:St) (H:Hp) (vs:List V) (us:List Value) (Q:St->Hp->Prop),Inv X pins σ H s->Vals vs us->t vs σ H Q ->
  wpAny (model X.prog X.w) X.A (assignInOrder ((b8 ts X.env).map (·.2)) us) (λ _ s'=>∃ σ' H',Inv X pins σ' H' s'/\Q σ' H') X.xe s
abbrev bN7:=V->V->V->Hp->(Hp->Prop)->Prop
def bV4 (X:Cx)(t:bN7):Prop :=
 ∀(pins:List (Addr×Obj)) (s:af) (σ:St) (H:Hp) (o i v:V) (ov iv u:Value) (Q:Hp->Prop),Inv X pins σ H s->RelV o ov->RelV i iv->RelV v u->t o i v H Q ->
  wpAny (model X.prog X.w) X.A (setItem ov iv u) (λ _ s'=>∃ H',Inv X pins σ H' s'/\Q H') X.xe s
section
variable {X:Cx} {pos:Pos}
def au9 (i:Nat):TG:=λ v σ H Q=>Q (σ.set i (some v)) H
theorem aQ4 {i:Nat}{x:Str}(hN:X.N.Nodup)(G:X.N[i]?=some x)(hx:Loc X.env.scope x)(B:X.fn x=true\/X.env.scope.names.lookup x=some .local:=by first|exact .inl rfl|exact .inr rfl|assumption):PG X (.Name x pos) (au9 i):=by
 intro y s σ H v u Q I r h
 exact iT (af1 I hN G hx r (λ s' J=>⟨_,H,J,h⟩) B)
def bZ6:TGs:=λ vs σ H Q=>vs=[]/\Q σ H
def bJ3 (t:TG)(u:TGs):TGs:=λ vs σ H Q=>∃ v r,vs=v::r/\t v σ H λ σ' H'=>u r σ' H' Q
theorem bq4:PGs X [] bZ6:=by
 intro y s σ H vs us Q I r h
 obtain⟨e,h⟩:=h
 subst e
 cases r
 exact assignInOrder_nil ⟨σ,H,I,h⟩
theorem ba5 {e:Expr}{es:List Expr}{t:TG}{u:TGs}(B:PG X e t)(J:PGs X es u)
  (hs:(b8 (e::es) X.env).map (·.2)=fW e X.env::(b8 es X.env).map (·.2):=by rfl):PGs X (e::es) (bJ3 t u):=by
 intro y s σ H vs us Q I r h
 obtain⟨v,vr,e1,h⟩:=h
 subst e1
 cases r with
 | cons r rr =>
  rw[hs]
  refine assignInOrder_cons (thn (B y s σ H _ _ _ I r h) λ _ s1 ⟨σ1,G,Z,Y⟩=>?_)
  exact J y s1 σ1 G _ _ Q Z rr Y
def bS1 (K:ac)(n:Nat)(t:TGs):TG:=λ v σ H Q=>∃ a xs,v=.ref a/\SqT K H a xs/\xs.length=n/\t xs σ H Q
theorem bz8 {es:List Expr}{k:Nat}{t:TGs}{n:Nat}(hc:X.calm=true)(h:PGs X es t)
  (hn:(b8 es X.env).length=n:=by rfl) (B:(b8 es X.env).findIdx? (·.1)=none:=by rfl):PG X (.Tuple es k pos) (bS1 X.K n t):=by
 intro y s σ H v u Q I r hw
 obtain⟨a,J,e1,hq,hl,hw⟩:=hw
 subst e1
 cases r
 obtain⟨its,G,Z,hz⟩:=I.tuple hq
 refine assign_Tuple_tuple (I.ok.hd hc) Z (by simp[hn,<-hl,G.length]) B λ h' hx=>?_
 have Y:Inv X y σ H { s with heap:=h' }:=I.kept (t':=s.toks) λ b o e=>hx b o (av (az e)) e
 exact h y _ σ H J _ Q Y (by simpa using G) hw
def bX1 (to ti:TE)(t:bN7):TG:=λ v σ H Q=>to σ H λ o H1=>ti σ H1 λ i H2=>t o i v H2 λ H3=>Q σ H3
theorem bD0 {o i:Expr}{Z Y:TE}{t:bN7}(ho:PE X o Z)(hi:PE X i Y)(hs:bV4 X t)
  (ha:∀ v,fW (.Subscript o i pos) X.env v=(do
   let G <- jF [v] (eval o X.env)
   let J <- jF [v,G] (eval i X.env)
   standAt pos
   jF [v,G,J] (setItem G J v)
   release [v,G,J] []):=by intro _;rfl):PG X (.Subscript o i pos) (bX1 Z Y t):=by
 intro B s σ H v u Q I r h
 rw[ha]
 refine ah (cx (thn (ho B s σ H _ I h) λ G s1 ⟨x,H1,I1,r1,q1⟩=>?_))
 refine ah (cx (thn (hi B s1 σ H1 _ I1 q1) λ J s2 ⟨y,H2,I2,r2,q2⟩=>?_))
 refine ah (ik (ah (cx (thn (hs B s2 σ H2 x y v G J u _ I2 r1 r2 r q2) λ _ s3 ⟨H3,I3,q3⟩=>?_))))
 exact wpAny_release ⟨σ,H3,I3,q3⟩
def aY8 (te:TE)(g:TG):TS:=λ D σ H=>te σ H λ x H1=>g x σ H1 D.nx
theorem bj0 {tg e:Expr}{B:TE}{g:TG}(Z:PE X e B)(G:PG X tg g)(hs:swapsWithSole [tg] e pos.line X.env=pure false:=by rfl)(hw:io [tg] e X.env=pure none:=by rfl)
  (J:(b8 [tg] X.env).map (·.2)=[fW tg X.env]:=by rfl):PS X (.Assign [tg] e pos) (aY8 B g):=by
 intro y s σ H D I h
 refine wpAny_Assign_stores (thn (Z y s σ H _ I h) λ v s1 ⟨x,Y,I1,r1,q1⟩=>?_) hs hw
 rw[J]
 exact thn (G y s1 σ Y x v _ I1 r1 q1) λ _ s2 q=>q
theorem bf9 {i:Nat}{x:Str}{e:Expr}{J:TE}{B:Pos}(hN:X.N.Nodup)(hi:X.N[i]?=some x)(hx:Loc X.env.scope x)(Z:PE X e J)(hs:eP e (some (.Name x B)) pos.line X.env=pure false:=by rfl)(hf:X.fn x=true\/X.env.scope.names.lookup x=some .local:=by first|exact .inl rfl|exact .inr rfl|assumption) :
  PS X (.Assign [.Name x B] e pos) (aY8 J (au9 i)):=by
 intro G s σ H D I h
 refine wpAny_Assign_Name (thn (Z G s σ H _ I h) λ v s1 ⟨y,Y,I1,r1,q1⟩=>?_) hs
 exact af1 I1 hN hi hx r1 (λ s2 I2=>⟨_,Y,I2,q1⟩) hf
end
section
variable {X:Cx} {pos:Pos}
def bh5 (c:TT)(tb:TS):TS:=λ D σ H=>∃ W:Nat->St->Hp->Prop,(∃ m,W m σ H)/\∀ m σ H,W m σ H ->
 c σ H λ b H1=>if b=true then ∃ N:St->Hp->Prop,(∀ σ' H',N σ' H'->∃ m',m'<m/\W m' σ' H')/\tb { D with nx:=N,ct:=N,bk:=D.nx } σ H1 else D.nx σ H1
theorem bc8 {c:Expr}{body:List Stmt}{tc:TT}{tb:TS}(hp:PassesOwn (model X.prog X.w) X.A X.env X.xe)(hc:PT X c tc)(hb:PSs X body tb):PS X (.While c body [] pos) (bh5 tc tb):=by
 intro y s σ H D I h
 obtain⟨W,⟨m0,w0⟩,turn⟩:=h
 refine wpAny_While (codeAny_whileLoop (λ n s'=>∃ σ' H',Inv X y σ' H' s'/\W n σ' H') ?_ m0 ⟨σ,H,I,w0⟩)
 rintro n s1 ⟨σ1,H1,I1,w1⟩
 refine cg hp (thn (hc y s1 σ1 H1 _ I1 (turn n σ1 H1 w1)) λ b s2 ⟨H2,I2,q2⟩=>?_)
 cases b with
 | true =>
  obtain⟨N,hN,q2⟩:=q2
  rw[if_pos rfl]
  refine cg hp (thn (hb y s2 σ1 H2 _ I2 q2) λ f s3 q3=>?_)
  cases f with
  | next =>
   obtain⟨σ3,B,Y,J⟩:=q3
   obtain⟨m',Z,G⟩:=hN σ3 B J
   exact⟨m',Z,σ3,B,Y,G⟩
  | cont =>
   obtain⟨σ3,B,Y,J⟩:=q3
   obtain⟨m',Z,G⟩:=hN σ3 B J
   exact⟨m',Z,σ3,B,Y,G⟩
  | brk=>exact q3
  | ret v=>exact q3
 | false =>
  rw[if_neg aQ]
  exact cJ ⟨σ1,H2,I2,q2⟩
end
structure It where
 go:Nat->Hp->Prop
 yld:Nat->Hp->V->Hp->Prop
 stop:Nat->Hp->Prop
def FpOk (X:Cx)(pins:List (Addr×Obj))(H:Hp)(b:Addr):Prop :=
 H b=none/\b≠X.env.locals/\b ∉ X.fs/\(b∈X.ex\/X.s₀.heap.objs.size<=b)/\(∀ x c,X.env.cells.lookup x=some c->c≠b)/\∀ p∈X.pn++pins,p.1≠b
theorem Inv.fpOk {X:Cx}{h:List (Addr×Obj)}{σ:St}{H H':Hp}{s:af}{b:Addr}(I:Inv X h σ H s)(hb:s.heap.objs.size<=b)(hn:H' b=none):FpOk X h H' b:=by
 refine⟨hn,cX (aq I.lt hb),I.nofs hb,.inr (ao I.sz hb),λ x c e z=>?_,λ p hp z=>?_⟩
 ·obtain⟨v,q⟩:=I.cell x c e
  exact absurd (aq q.lt (by rw[z];exact hb)) (bF _)
 ·exact absurd (aq (az (I.pin p hp).1) (by rw[z];exact hb)) (bF _)
structure Turn (P:aD)(w:World)(K:ac)(tg:Expr)(J:It)(fp:List Addr)(it:Addr)(tn:Nat->Heap->Prop):Prop where
 mem:it∈fp
 obj:∀ i h,tn i h->∀ b∈fp,∃ o,h.get? b=some o/\∀ v,o.data≠.cell v
 keep:∀ i h h',tn i h->(∀ b∈fp,∀ o,h.get? b=some o->h'.get? b=some o)->tn i h'
 item:∀(X:Cx),X.prog=P->X.w=w->X.K=K->X.calm=true->∀(i:Nat) (pins:List (Addr×Obj)) (s:af) (σ:St) (H:Hp) (E:Value->af->Prop),Inv X pins σ H s->(∀ b∈fp,FpOk X pins H b)->tn i s.heap->J.go i H ->
  wpAny (model P w) X.A (pyNext (.ref it)) (λ r s1=>∃ u,r=some u /\
   wpAny (model P w) X.A (d9 tg (.ref it) u) (λ _ s2=>∃ x H',Inv X pins σ H' s2/\RelV x u/\J.yld i H x H'/\tn (i+1) s2.heap/\∀ b∈fp,H' b=none) E s1) E s
 done:∀(X:Cx),X.prog=P->X.w=w->X.K=K->X.calm=true->∀(i:Nat) (pins:List (Addr×Obj)) (s:af) (σ:St) (H:Hp) (E:Value->af->Prop),Inv X pins σ H s->(∀ b∈fp,FpOk X pins H b)->tn i s.heap->J.stop i H ->
  wpAny (model P w) X.A (pyNext (.ref it)) (λ r s1=>r=none/\Inv X pins σ H s1) E s
 self:∀(A:aP) (i:Nat) (s:af) (Q:Value->af->Prop) (E:Value->af->Prop),tn i s.heap->Q (.ref it) s->wpAny (model P w) A (j5 (.ref it)) Q E s
abbrev TI:=St->Hp->(It->Hp->Prop)->Prop
def PIE (X:Cx)(pins:List (Addr×Obj))(σ:St)(tg:Expr)(R:It->Hp->Prop)(itv:Value)(s2:af):Prop :=
 ∃(it:Addr) (fp:List Addr) (tn:Nat->Heap->Prop) (J:It) (H':Hp),itv=.ref it/\Inv X pins σ H' s2/\Turn X.prog X.w X.K tg J fp it tn/\tn 0 s2.heap/\(∀ b∈fp,FpOk X pins H' b)/\R J H'
def PI (X:Cx)(tg iter:Expr)(wi:TI):Prop :=
 ∀(pins:List (Addr×Obj)) (s:af) (σ:St) (H:Hp) (R:It->Hp->Prop),Inv X pins σ H s->wi σ H R ->
  wpAny (model X.prog X.w) X.A (eval iter X.env) (λ v s1=>wpAny (model X.prog X.w) X.A (j5 v) (PIE X pins σ tg R) X.xe s1) X.xe s
theorem bf6 {M : Model} {A : Around} {E : Value -> Shared -> Prop} {s : Shared} {tg : Expr} {it : Addr} {u : Value} {o : Obj} {n : String} {vs : Array Value} {Q : Unit -> Shared -> Prop} (ho : s.heap.get? it = some o) (hc : o.cls = .type n) (hd : o.data = .fields vs)
    (hn : ["enumerate", "zip", "dict_itemiterator", "dict_reverseitemiterator", "odict_iterator", "itertools.zip_longest", "itertools.pairwise"].contains n = false) (hQ : Q () s) : wpAny M A (d9 tg (.ref it) u) Q E s := by
  unfold d9
  cases tg <;> first
    | exact aA hQ
    | (cases u <;> first
        | exact aA hQ
        | (refine ah (wpAny_load ho ?_)
           rw[hc, hd]
           show wpAny M A (if(["enumerate", "zip", "dict_itemiterator", "dict_reverseitemiterator", "odict_iterator", "itertools.zip_longest", "itertools.pairwise"].contains n && vs[0]? == some (cz _)) = true then _ else _) Q E s
           rw[if_neg (by intro h; rw[hn, Bool.false_and]at h; cases h)]
           exact aA hQ))
noncomputable def Itl (K:ac)(a:Addr):It :=
 ⟨λ i H=>∃ xs x,SqL K H a xs/\xs[i]?=some x,λ i H x H'=>H'=H/\∀ xs,SqL K H a xs->xs[i]?=some x,λ i H=>∃ xs,SqL K H a xs/\xs.length<=i⟩
noncomputable def Itt (K:ac)(a:Addr):It :=
 ⟨λ i H=>∃ xs x,SqT K H a xs/\xs[i]?=some x,λ i H x H'=>H'=H/\∀ xs,SqT K H a xs->xs[i]?=some x,λ i H=>∃ xs,SqT K H a xs/\xs.length<=i⟩
noncomputable def Itr (lo:Int)(n:Nat):It:=⟨λ i _=>i<n,λ i H x H'=>H'=H/\x=.int (lo+i),λ i _=>n<=i⟩
theorem aO4 {P:aD}{w:World}{K:ac}{tg:Expr}(a it:Addr):Turn P w K tg (Itl K a) [it] it (λ i h=>h.IsListIter it a i) where
 mem:=by simp
 obj:=λ i h st b hb=>by
  have e:b=it:=by simpa using hb
  subst e
  obtain⟨o,e,c,d⟩:=st
  exact⟨o,e,λ v z=>by rw[d]at z;cases z⟩
 keep:=λ i h h' st k=>st.at λ o e=>k it (by simp) o e
 item:=by
  intro X Z hw J hc i y s σ H E I G st hg
  subst Z hw J
  obtain⟨xs,x,hq,hx⟩:=hg
  obtain⟨its,rv,p,hz⟩:=I.list hq
  obtain⟨u,hu,ru⟩:=rv.get hx
  obtain⟨f0,f1,f2,f3,Y,f5⟩:=G it (by simp)
  refine wpAny_pyNext_list_item st p.isList (x:=u) (by simpa using hu) λ h' B sb=>?_
  have I1:Inv X y σ H { s with heap:=h' }:=I.turned (t':=s.toks) (λ b o hb e=>(sb.2 b hb).trans e) f0 f1 f3 Y f5
  obtain⟨o,e,c,d⟩:=id B
  exact⟨u,rfl,bf6 (s:={ s with heap:=h' }) e c d (by decide) ⟨x,H,I1,ru,⟨rfl,λ ys hy=>by rw[I.list_inj hy hq];exact hx⟩,B,λ b hb=>(G b hb).1⟩⟩
 done:=by
  intro X Z hw J hc i y s σ H E I G st hg
  subst Z hw J
  obtain⟨xs,hq,hx⟩:=hg
  obtain⟨its,rv,p,hz⟩:=I.list hq
  obtain⟨f0,f1,f2,f3,Y,f5⟩:=G it (by simp)
  have hl:=rv.length
  exact wpAny_pyNext_list_end (I.ok.hd hc) st p.isList (by simp;omega) λ h' eb=>⟨rfl,I.turned (t':=s.toks) (λ b o hb e=>eb b o hb e) f0 f1 f3 Y f5⟩
 self:=λ _ _ _ _ _ st h=>wpAny_pyIter_listiter st h
theorem aK3 {P:aD}{w:World}{K:ac}{tg:Expr}(a it:Addr):Turn P w K tg (Itt K a) [it] it (λ i h=>h.IsTupleIter it a i) where
 mem:=by simp
 obj:=λ i h st b hb=>by
  have e:b=it:=by simpa using hb
  subst e
  obtain⟨o,e,c,d⟩:=st
  exact⟨o,e,λ v z=>by rw[d]at z;cases z⟩
 keep:=λ i h h' st k=>st.at λ o e=>k it (by simp) o e
 item:=by
  intro X Z hw J hc i y s σ H E I G st hg
  subst Z hw J
  obtain⟨xs,x,hq,hx⟩:=hg
  obtain⟨its,rv,p,hz⟩:=I.tuple hq
  obtain⟨u,hu,ru⟩:=rv.get hx
  obtain⟨f0,f1,f2,f3,Y,f5⟩:=G it (by simp)
  refine wpAny_pyNext_tuple_item st (show s.heap.IsTuple a its.toArray from p) (x:=u) (by simpa using hu) λ h' B sb=>?_
  have I1:Inv X y σ H { s with heap:=h' }:=I.turned (t':=s.toks) (λ b o hb e=>(sb.2 b hb).trans e) f0 f1 f3 Y f5
  obtain⟨o,e,c,d⟩:=id B
  exact⟨u,rfl,bf6 (s:={ s with heap:=h' }) e c d (by decide) ⟨x,H,I1,ru,⟨rfl,λ ys hy=>by rw[I.tuple_inj hy hq];exact hx⟩,B,λ b hb=>(G b hb).1⟩⟩
 done:=by
  intro X Z hw J hc i y s σ H E I G st hg
  subst Z hw J
  obtain⟨xs,hq,hx⟩:=hg
  obtain⟨its,rv,p,hz⟩:=I.tuple hq
  obtain⟨f0,f1,f2,f3,Y,f5⟩:=G it (by simp)
  have hl:=rv.length
  exact wpAny_pyNext_tuple_end (I.ok.hd hc) st (show s.heap.IsTuple a its.toArray from p) (by simp;omega) λ h' eb=>⟨rfl,I.turned (t':=s.toks) (λ b o hb e=>eb b o hb e) f0 f1 f3 Y f5⟩
 self:=λ _ _ _ _ _ st h=>wpAny_pyIter_tupleiter st h
theorem aL7 {P:aD}{w:World}{K:ac}{tg:Expr}(it:Addr)(J:Int)(n:Nat):Turn P w K tg (Itr J n) [it] it (λ i h=>IsRangeIter h it (J+(i:Nat)*1) ((n:Int) - (i:Nat)) 1) where
 mem:=by simp
 obj:=λ i h st b hb=>by
  have e:b=it:=by simpa using hb
  subst e
  exact⟨_,st,λ v z=>by
   have z':Data.fields _=Data.cell v:=z
   cases z'⟩
 keep:=λ i h h' st k=>k it (by simp) _ st
 item:=by
  intro X hP hw Y hc i y s σ H E I G st hg
  subst hP hw Y
  obtain⟨f0,f1,f2,f3,Z,f5⟩:=G it (by simp)
  have W:=Walks.range (prog:=X.prog) (w:=X.w) (I.ok.hd hc) it J 1 n
  refine W.item i s _ _ hg st λ v h' tk hv B kk=>?_
  obtain⟨t,rfl⟩:=hv
  have I1:Inv X y σ H { s with heap:=h',toks:=tk }:=I.turned (λ b o hb e=>kk b o (by simpa using hb) e) f0 f1 f3 Z f5
  refine⟨_,rfl,bf6 (s:={ s with heap:=h',toks:=tk }) (n := "range_iterator") B rfl rfl (by decide) ⟨.int (J+i),H,I1,⟨t,?_⟩,⟨rfl,rfl⟩,B,λ b hb=>(G b hb).1⟩⟩
  rw[Int.mul_one]
 done:=by
  intro X hP hw Y hc i y s σ H E I G st hg
  subst hP hw Y
  obtain⟨f0,f1,f2,f3,Z,f5⟩:=G it (by simp)
  exact wpAny_pyNext_range_end (I.ok.hd hc) st (by have:n<=i:=hg;omega) λ h' eb=>⟨rfl,I.turned (t':=s.toks) (λ b o hb e=>eb b o hb e) f0 f1 f3 Z f5⟩
 self:=λ _ _ _ _ _ st h=>wpAny_pyIter_rangeiter st h
section
variable {X:Cx} {tg:Expr}
def bt3 (K:ac)(tl:TE):TI:=λ σ H R=>tl σ H λ x H1=>∃ a,x=.ref a/\(∃ xs,SqL K H1 a xs)/\R (Itl K a) H1
def bR5 (K:ac)(tl:TE):TI:=λ σ H R=>tl σ H λ x H1=>∃ a,x=.ref a/\(∃ xs,SqT K H1 a xs)/\R (Itt K a) H1
theorem bm4 {l:Expr}{G:TE}(hl:PE X l G):PI X tg l (bt3 X.K G):=by
 intro y s σ H R I h
 refine thn (hl y s σ H _ I h) λ v s1 ⟨x,J,B,r1,Y⟩=>?_
 obtain⟨a,e,⟨Z,hq⟩,q⟩:=Y
 subst e
 cases r1
 obtain⟨its,rv,p,hz⟩:=B.list hq
 refine dD p.isList ?_
 refine⟨s1.heap.objs.size,[s1.heap.objs.size],_,_,J,rfl,B.kept (t':=s1.toks) λ b o e=>ak _ e,aO4 a _,⟨_,aR _ rfl,rfl,rfl⟩,λ b hb=>?_,q⟩
 have e:b=s1.heap.objs.size:=by simpa using hb
 subst e
 exact B.fpOk (aj _) (B.hok.fresh (aj _))
theorem bM4 {l:Expr}{G:TE}(hl:PE X l G):PI X tg l (bR5 X.K G):=by
 intro y s σ H R I h
 refine thn (hl y s σ H _ I h) λ v s1 ⟨x,J,B,r1,Y⟩=>?_
 obtain⟨a,e,⟨Z,hq⟩,q⟩:=Y
 subst e
 cases r1
 obtain⟨its,rv,p,hz⟩:=B.tuple hq
 refine iB (show s1.heap.IsTuple a its.toArray from p) ?_
 refine⟨s1.heap.objs.size,[s1.heap.objs.size],_,_,J,rfl,B.kept (t':=s1.toks) λ b o e=>ak _ e,aK3 a _,⟨_,aR _ rfl,rfl,rfl⟩,λ b hb=>?_,q⟩
 have e:b=s1.heap.objs.size:=by simpa using hb
 subst e
 exact B.fpOk (aj _) (B.hok.fresh (aj _))
theorem bd7 {B:List (Addr×Obj)}{σ:St}{H:Hp}{s:af}{R:It->Hp->Prop}{E:Value->af->Prop}{h y:Int}{t u v:Tok}{tk:Nat}(I:Inv X B σ H s)(J:-(2^62)<=h)(Y:h<2^62)(Z:-(2^62)<=y)(h4:y<2^62)
  (q:R (Itr h (y - h).toNat) H):wpAny (model X.prog X.w) X.A (j5 (.ref s.heap.objs.size)) (PIE X B σ tg R) E { s with heap:=s.heap.push { cls:=.type "range",data:=.fields #[.int h t,.int y u,.int 1 v] },toks:=tk }:=by
 refine wpAny_pyIter_range (IsRange.new ..) (small_one J Y Z h4) ?_
 have G:Inv X B σ H { s with heap:=s.heap.push { cls:=.type "range",data:=.fields #[.int h t,.int y u,.int 1 v] },toks:=tk }:=I.kept λ b o e=>ak _ e
 refine⟨(s.heap.push { cls:=.type "range",data:=.fields #[.int h t,.int y u,.int 1 v] }).objs.size,[(s.heap.push { cls:=.type "range",data:=.fields #[.int h t,.int y u,.int 1 v] }).objs.size],_,_,H,rfl,
  G.kept (t':=tk) λ b o e=>ak _ e,aL7 _ h (y - h).toNat,?_,λ b hb=>?_,q⟩
 ·have e1:h+((0:Nat):Int)*1=h:=by simp
  have e2:(((y - h).toNat:Nat):Int) - ((0:Nat):Int)=j1 h y 1:=by rw[rangeSize_one];split<;>omega
  show IsRangeIter _ _ (h+((0:Nat):Int)*1) ((((y - h).toNat:Nat):Int) - ((0:Nat):Int)) 1
  rw[e1,e2]
  exact aR _ rfl
 ·have e:b=(s.heap.push { cls:=.type "range",data:=.fields #[.int h t,.int y u,.int 1 v] }).objs.size:=by simpa using hb
  subst e
  exact G.fpOk (aj _) (G.hok.fresh (aj _))
def bF9 (ta:TA):TI:=λ σ H R=>ta σ H λ vs H1=>∃ j:Int,vs=[.int j]/\-(2^62)<=j/\j<2^62/\R (Itr 0 j.toNat) H1
theorem aR8 {a:Expr}{G:TA}{p pos:Pos}(J:Gl X "range")(Y:X.mg "range"=none)(ha:PA X [a] G)(hs:bo [a] X.env=[(false,eval a X.env)]:=by rfl):PI X tg (.Call (.Name "range" p) [a] [] pos) (bF9 G):=by
 intro y s σ H R I h
 refine Call_ (aG5 I J Y boot_range (eK (thn (ha pos y s σ H _ I h) λ us s1 ⟨vs,H1,Z,r1,B⟩=>?_) hs rfl))
 obtain⟨j,e,B,q2,q⟩:=B
 subst e
 cases r1 with
 | cons r rr =>
  cases rr
  obtain⟨t,rfl⟩:=r
  exact call_range_1 (bd7 Z (by omega) (by omega) B q2 (by simpa using q))
def bX4 (wi:TI)(g:TG)(tb:TS):TS:=λ D σ H=>wi σ H λ J H1=>∃ W:Nat->Nat->St->Hp->Prop,(∃ m,W 0 m σ H1)/\∀ i m σ H,W i m σ H ->
 (J.stop i H/\D.nx σ H)\/(J.go i H/\∃ N:St->Hp->Prop,(∀ σ' H',N σ' H'->∃ m',m'<m/\W (i+1) m' σ' H')/\∀ x H',J.yld i H x H'->g x σ H' λ σ2 H2=>tb { D with nx:=N,ct:=N,bk:=D.nx } σ2 H2)
noncomputable def av1 (fp:List Addr)(h:Heap):List (Addr×Obj):=fp.filterMap λ b=>(h.get? b).map λ o=>(b,o)
theorem qX {y:List Addr}{h:Heap}{b:Addr}{o:Obj}(hb:b∈y)(e:h.get? b=some o):(b,o)∈av1 y h:=eT.mpr ⟨b,hb,by rw[e];rfl⟩
theorem aU0 {y:List Addr}{h:Heap}{p:Addr×Obj}(hp:p∈av1 y h):p.1∈y/\h.get? p.1=some p.2:=by
 obtain⟨b,hb,e⟩:=eT.mp hp
 cases q:h.get? b with
 | none=>rw[q]at e;cases e
 | some o =>
  rw[q]at e
  have e':(b,o)=p:=aC e
  subst e'
  exact⟨hb,q⟩
theorem Inv.pinned {h:List (Addr×Obj)}{σ:St}{H:Hp}{s:af}{y:List Addr}(I:Inv X h σ H s)(B:∀ b∈y,FpOk X h H b)(ho:∀ b∈y,∃ o,s.heap.get? b=some o/\∀ v,o.data≠.cell v):Inv X (h++av1 y s.heap) σ H s :=
 I.pins_of λ p hp=>(dh.mp hp).elim (λ z=>I.pin p (aO _ z)) λ z=>by
  obtain⟨hb,e⟩:=aU0 z
  obtain⟨J,G,Y,_⟩:=B p.1 hb
  obtain⟨o,e',d⟩:=ho p.1 hb
  rw[e]at e';cases e'
  exact⟨e,J,G,Y,d⟩
theorem Inv.unpinned {h y:List (Addr×Obj)}{σ:St}{H:Hp}{s:af}(I:Inv X (h++y) σ H s):Inv X h σ H s:=I.pins_of λ p hp=>I.pin p (aO _ (cj _ hp))
theorem bz4 {iter:Expr}{body:List Stmt}{wi:TI}{g:TG}{tb:TS}{pos:Pos}(hp:PassesOwn (model X.prog X.w) X.A X.env X.xe)(hc:X.calm=true)(hi:PI X tg iter wi)(hg:PG X tg g)(hb:PSs X body tb)
  (hs:∀ x,cQ iter X.env x=pure x:=by intro _;rfl):PS X (.For tg iter body [] pos) (bX4 wi g tb):=by
 intro y s σ H D I h
 refine wpAny_For (thn (hi y s σ H _ I h) λ v s1 h1=>thn h1 λ a6 s2 h2=>?_) hs
 obtain⟨it,fp,tn,J,H2,e,I2,T,a3,f2,W,⟨m0,w0⟩,turn⟩:=h2
 subst e
 have Y:∀ {H':Hp},(∀ b∈fp,H' b=none)->∀ b∈fp,FpOk X y H' b:=λ hn b hb=>⟨hn b hb,(f2 b hb).2⟩
 refine codeAny_forLoop_any (λ n s'=>∃ i σ' H',Inv X y σ' H' s'/\tn i s'.heap/\(∀ b∈fp,H' b=none)/\W i n σ' H') ?_ m0 ⟨0,σ,H2,I2,a3,λ b hb=>(f2 b hb).1,w0⟩
 rintro n s3 ⟨i,σ3,H3,I3,a2,a1,w3⟩
 rcases turn i n σ3 H3 w3 with⟨stop,qn⟩|⟨go,N,hN,step⟩
 ·refine cg hp (thn (T.done X rfl rfl rfl hc i y s3 σ3 H3 X.xe I3 (Y a1) a2 stop) λ r s4 ⟨hr,I4⟩=>?_)
  subst hr
  exact cJ ⟨σ3,H3,I4,qn⟩
 ·refine cg hp (thn (T.item X rfl rfl rfl hc i y s3 σ3 H3 X.xe I3 (Y a1) a2 go) λ r s4 ⟨u,hr,h4⟩=>?_)
  subst hr
  refine cg hp (thn h4 λ _ s5 ⟨x,H5,I5,r5,y5,a0,a4⟩=>?_)
  have a5:=I5.pinned (Y a4) (T.obj _ _ a0)
  refine cg hp (thn (hg _ s5 σ3 H5 x u _ a5 r5 (step x H5 y5)) λ _ s6 ⟨σ6,H6,I6,q6⟩=>?_)
  refine cg hp (thn (hb _ s6 σ6 H6 _ I6 q6) λ f s7 Z=>?_)
  have again:∀ {σ7:St} {G:Hp},Inv X (y++av1 fp s5.heap) σ7 G s7->N σ7 G->∃ m,m<n/\∃ i σ' H',Inv X y σ' H' s7/\tn i s7.heap/\(∀ b∈fp,H' b=none)/\W i m σ' H':=λ {σ7 G} B n7=>by
   obtain⟨m',hm,w7⟩:=hN σ7 G n7
   refine⟨m',hm,i+1,σ7,G,B.unpinned,T.keep _ _ _ a0 λ b hb o e=>(B.pin (b,o) (aO _ (aO _ (qX hb e)))).1,λ b hb=>?_,w7⟩
   obtain⟨o,e,d⟩:=T.obj _ _ a0 b hb
   exact(B.pin (b,o) (aO _ (aO _ (qX hb e)))).2.1
  cases f with
  | next=>obtain⟨σ7,G,B,n7⟩:=Z;exact again B n7
  | cont=>obtain⟨σ7,G,B,n7⟩:=Z;exact again B n7
  | brk=>obtain⟨σ7,G,B,Z⟩:=Z;exact⟨σ7,G,B.unpinned,Z⟩
  | ret v=>obtain⟨x7,σ7,G,B,r7,Z⟩:=Z;exact⟨x7,σ7,G,B.unpinned,r7,Z⟩
end
abbrev R2:=V->V->Hp->VK->Prop
def OpR (X:Cx)(f:Value->Value->Sem Value)(r:R2):Prop :=
 ∀(pins:List (Addr×Obj)) (s:af) (σ:St) (H:Hp) (x y:V) (v u:Value) (Q:VK),Inv X pins σ H s->RelV x v->RelV y u->r x y H Q ->
  wpAny (model X.prog X.w) X.A (f v u) (EP X pins σ Q) X.xe s
def UnR (X:Cx)(f:Value->Sem Value)(r:V->Hp->VK->Prop):Prop :=
 ∀(pins:List (Addr×Obj)) (s:af) (σ:St) (H:Hp) (x:V) (v:Value) (Q:VK),Inv X pins σ H s->RelV x v->r x H Q ->
  wpAny (model X.prog X.w) X.A (f v) (EP X pins σ Q) X.xe s
def ac0 (X:Cx)(f:Value)(r:List V->Hp->VK->Prop):Prop :=
 ∀(pins:List (Addr×Obj)) (s:af) (σ:St) (H:Hp) (xs:List V) (us:List Value) (Q:VK),Inv X pins σ H s->Vals xs us->r xs H Q ->
  wpAny (model X.prog X.w) X.A (call f us) (EP X pins σ Q) X.xe s
def tOp (r:R2)(ta tb:TE):TE:=λ σ H Q=>ta σ H λ x H1=>tb σ H1 λ y H2=>r x y H2 Q
def tUn (r:V->Hp->VK->Prop)(ta:TE):TE:=λ σ H Q=>ta σ H λ x H1=>r x H1 Q
def rI (C:Int->Int->Prop)(g:Int->Int->V):R2:=λ x y H Q=>∃ i j,x=.int i/\y=.int j/\C i j/\Q (g i j) H
def rI0 (g:Int->Int->V):R2:=λ x y H Q=>∃ i j,x=.int i/\y=.int j/\Q (g i j) H
def rU (g:Int->V):V->Hp->VK->Prop:=λ x H Q=>∃ i,x=.int i/\Q (g i) H
section
variable {X:Cx} {a b c:Expr} {ta tb tc:TE} {pos:Pos}
theorem bR7 (ha:PE X a ta)(hb:PE X b tb){B:List (Addr×Obj)}{s:af}{σ:St}{H:Hp}{R:V->V->Hp->Prop}(I:Inv X B σ H s)
  (h:ta σ H λ x G=>tb σ G λ y H2=>R x y H2) {Q:Value->af->Prop} {f:Value->Value->Sem Value}
  (J:∀ v u s2 x y H2,Inv X B σ H2 s2->RelV x v->RelV y u->R x y H2->wpAny (model X.prog X.w) X.A (f v u) Q X.xe s2) :
  wpAny (model X.prog X.w) X.A (eval a X.env) (λ v s₁=>wpAny (model X.prog X.w) X.A (eval b X.env) (λ u Y=>wpAny (model X.prog X.w) X.A (f v u) Q X.xe Y) X.xe s₁) X.xe s:=by
 refine thn (ha B s σ H _ I h) λ v s1 ⟨x,G,I1,r1,q1⟩=>?_
 refine thn (hb B s1 σ G _ I1 q1) λ u s2 ⟨y,H2,I2,Z,q2⟩=>?_
 exact J v u s2 x y H2 I2 r1 Z q2
theorem bR3 {op:Operator}{r:R2}(ho:OpR X (bQ op) r)(ha:PE X a ta)(hb:PE X b tb):PE X (.BinOp a op b pos) (tOp r ta tb):=by
 intro B s σ H Q I h
 exact wpAny_BinOp (bR7 ha hb I h λ v u s2 x y H2 I2 J G q=>ho B s2 σ H2 x y v u Q I2 J G q)
theorem bV0 {op:UnaryOp}{r:V->Hp->VK->Prop}(ho:UnR X (unaryOp op) r)(ha:PE X a ta):PE X (.UnaryOp op a pos) (tUn r ta):=by
 intro y s σ H Q I h
 exact UnaryOp_ (thn (ha y s σ H _ I h) λ v s1 ⟨x,B,G,r1,J⟩=>ho y s1 σ B x v Q G r1 J)
theorem opI {f:Value->Value->Sem Value}{C:Int->Int->Prop}{g:Int->Int->Int}
  (B:∀(i j:Int) (t u:Tok) (s:af) (Q:Value->af->Prop) (E:Value->af->Prop),C i j->Q (.int (g i j) s.toks) { s with toks:=s.toks+1 }->wpAny (model X.prog X.w) X.A (f (.int i t) (.int j u)) Q E s) :
  OpR X f (rI C λ i j=>.int (g i j)):=by
 intro G s σ H x y v u Q I Y J h
 obtain⟨i,j,rfl,rfl,hc,q⟩:=h
 obtain⟨t,rfl⟩:=Y
 obtain⟨t',rfl⟩:=J
 exact B i j t t' s _ _ hc ⟨.int (g i j),H,I.tok _,⟨_,rfl⟩,q⟩
theorem bX0 {f:Value->Value->Sem Value}{g:Int->Int->Int}
  (B:∀(i j:Int) (t u:Tok) (s:af) (Q:Value->af->Prop) (E:Value->af->Prop),Q (.int (g i j) s.toks) { s with toks:=s.toks+1 }->wpAny (model X.prog X.w) X.A (f (.int i t) (.int j u)) Q E s) :
  OpR X f (rI0 λ i j=>.int (g i j)):=by
 intro G s σ H x y v u Q I Y J h
 obtain⟨i,j,rfl,rfl,q⟩:=h
 obtain⟨t,rfl⟩:=Y
 obtain⟨t',rfl⟩:=J
 exact B i j t t' s _ _ ⟨.int (g i j),H,I.tok _,⟨_,rfl⟩,q⟩
theorem bO4 {f:Value->Value->Sem Value}{g:Int->Int->Bool}
  (B:∀(i j:Int) (t u:Tok) (s:af) (Q:Value->af->Prop) (E:Value->af->Prop),Q (.bool (g i j)) s->wpAny (model X.prog X.w) X.A (f (.int i t) (.int j u)) Q E s) :
  OpR X f (rI0 λ i j=>.bl (g i j)):=by
 intro G s σ H x y v u Q I Y J h
 obtain⟨i,j,rfl,rfl,q⟩:=h
 obtain⟨t,rfl⟩:=Y
 obtain⟨t',rfl⟩:=J
 exact B i j t t' s _ _ ⟨.bl (g i j),H,I,rfl,q⟩
def bZ9 (i j:Int):Prop:=0<=j/\j<=1000000/\i.natAbs<2^64
def bN2 (i j:Int):Prop:=(-(2^64)<i/\i<2^64)\/(-(2^64)<j/\j<2^64)
theorem bN2.ok {i j:Int}(h:bN2 i j):IntMulOk i j:=by
 rcases h with⟨B,y⟩|⟨B,y⟩
 ·exact .of_left (intBits_le_64 B y)
 ·exact .of_right (intBits_le_64 B y)
theorem aK0 (k:Nat):(0:Int)<=2^k:=by
 rw[two_pow_cast]
 exact Int.natCast_nonneg _
theorem bJ5:OpR X (bQ .Add) (rI0 λ i j=>.int (i+j)):=bX0 λ _ _ _ _ _ _ _ q=>add_int q
theorem bF5:OpR X (bQ .Sub) (rI0 λ i j=>.int (i - j)):=bX0 λ _ _ _ _ _ _ _ q=>sub_int q
theorem by5:OpR X (bQ .Mod) (rI (λ _ j=>0<j) λ i j=>.int (i % j)):=opI λ i j _ _ _ _ _ hc q=>by
 have h:(0:Int)<j:=hc
 exact mod_int' (by omega) (by rw[Int.fmod_eq_emod_of_nonneg i (by omega)];exact q)
theorem bH0:OpR X (bQ .Pow) (rI bZ9 λ i j=>.int (i^j.toNat)):=opI λ _ _ _ _ _ _ _ hc q=>pow_int_small hc.1 hc.2.1 hc.2.2 q
theorem bA8:OpR X (bQ .LShift) (rI bZ9 λ i j=>.int (i*2^j.toNat)):=opI λ _ _ _ _ _ _ _ hc q=>lshift_int_small hc.1 hc.2.1 hc.2.2 q
theorem bI7:OpR X (bQ .RShift) (rI (λ _ j=>0<=j) λ i j=>.int (i / 2^j.toNat)):=opI λ i j _ _ _ _ _ hc q =>
 rshift_int hc (by rw[eU i (aK0 _)];exact q)
theorem unI {f:Value->Sem Value}{g:Int->Int}
  (y:∀(i:Int) (t:Tok) (s:af) (Q:Value->af->Prop) (E:Value->af->Prop),Q (.int (g i) s.toks) { s with toks:=s.toks+1 }->wpAny (model X.prog X.w) X.A (f (.int i t)) Q E s) :
  UnR X f (rU λ i=>.int (g i)):=by
 intro B s σ H x v Q I G h
 obtain⟨i,rfl,q⟩:=h
 obtain⟨t,rfl⟩:=G
 exact y i t s _ _ ⟨.int (g i),H,I.tok _,⟨_,rfl⟩,q⟩
theorem bA7:UnR X (unaryOp .USub) (rU λ i=>.int (-i)):=unI λ _ _ _ _ _ q=>neg_int q
end
section
variable {X:Cx} {a b c:Expr} {ta tb tc:TE} {pos:Pos}
theorem bR6:OpR X (eQ .Lt) (rI0 λ i j=>.bl (decide (i<j))):=bO4 λ _ _ _ _ _ _ _ q=>lt_int q
theorem bT6:OpR X (eQ .LtE) (rI0 λ i j=>.bl (decide (i<=j))):=bO4 λ _ _ _ _ _ _ _ q=>le_int q
theorem bW1:OpR X (eQ .Gt) (rI0 λ i j=>.bl (decide (j<i))):=bO4 λ _ _ _ _ _ _ _ q=>gt_int q
theorem bV1:OpR X (eQ .GtE) (rI0 λ i j=>.bl (decide (j<=i))):=bO4 λ _ _ _ _ _ _ _ q=>ge_int q
theorem bs2 {op:CmpOp}{r:R2}(ho:OpR X (eQ op) r)(ha:PE X a ta)(hb:PE X b tb)(G:ip op b=false):PE X (.Compare a [op] [b] pos) (tOp r ta tb):=by
 intro B s σ H Q I h
 exact wpAny_Compare1 (bR7 ha hb I h λ v u s2 x y H2 I2 Y J q=>ho B s2 σ H2 x y v u Q I2 Y J q) G
def bJ7 (t:TE):TT:=λ σ H Q=>t σ H λ x H'=>∃ k,x=.bl k/\Q k H'
theorem bt7 {op:CmpOp}{r:R2}(ho:OpR X (eQ op) r)(ha:PE X a ta)(hb:PE X b tb)(hm:ip op b=false):PT X (.Compare a [op] [b] pos) (bJ7 (tOp r ta tb)):=by
 intro B s σ H Q I h
 refine wpAny_isTrue_Compare1 (thn (ha B s σ H _ I h) λ v s1 ⟨x,J,I1,r1,Z⟩=>thn (hb B s1 σ J _ I1 Z) λ u s2 ⟨y,H2,I2,Y,q2⟩ =>
  thn (ho B s2 σ H2 x y v u _ I2 r1 Y q2) λ c s3 ⟨z,G,I3,r3,k,e,q3⟩=>?_) hm
 subst e
 cases r3
 exact cq ⟨G,I3,q3⟩
theorem am3:(aH:Nat)<2^63:=by rw[fj];decide
theorem aJ0:OpR X (bQ .Add) (λ x y H Q=>∃ i j,x=.str i/\y=.str j/\i.length+j.length<=aH/\Q (.str (i++j)) H):=by
 intro B s σ H x y v u Q I J G h
 obtain⟨i,j,rfl,rfl,hz,q⟩:=h
 obtain⟨t,rfl⟩:=J
 obtain⟨t',rfl⟩:=G
 exact add_str (λ t' tk=>⟨.str (i++j),H,I.tok _,⟨_,rfl⟩,q⟩) hz
theorem al5 {x:V}{us:List Value}(r:Vals [x] us):∃ u,us=[u]/\RelV x u:=by
 cases r with
 | cons r1 r2=>cases r2;exact⟨_,rfl,r1⟩
theorem bf3 {x y:V}{us:List Value}(r:Vals [x,y] us):∃ u h,us=[u,h]/\RelV x u/\RelV y h:=by
 cases r with
 | cons r1 r2 =>
  cases r2 with
  | cons r3 r4=>cases r4;exact⟨_,_,rfl,r1,r3⟩
theorem bf5:ac0 X (.builtin "abs") (λ B H Q=>∃ i,B=[.int i]/\Q (.int (if i<0 then -i else i)) H):=by
 intro y s σ H B us Q I r h
 obtain⟨i,rfl,q⟩:=h
 obtain⟨u,rfl,t,rfl⟩:=al5 r
 exact call_abs_int λ u tk=>⟨.int (if i<0 then -i else i),H,I.tok _,⟨_,rfl⟩,q⟩
theorem aP5 (hc:X.calm=true):ac0 X (.builtin "max") (λ B H Q=>∃ i j,B=[.int i,.int j]/\Q (.int (if j > i then j else i)) H):=by
 intro y s σ H B us Q I r h
 obtain⟨i,j,rfl,q⟩:=h
 obtain⟨u,G,rfl,⟨t,rfl⟩,⟨t',rfl⟩⟩:=bf3 r
 refine max_two_ints (I.ok.hd hc) λ h' tk k=>⟨_,H,I.kept k,?_,q⟩
 by_cases hj:j > i
 ·rw[if_pos hj,if_pos hj];exact⟨_,rfl⟩
 ·rw[if_neg hj,if_neg hj];exact⟨_,rfl⟩
theorem aQ0 (hc:X.calm=true):ac0 X (.builtin "min") (λ B H Q=>∃ i j,B=[.int i,.int j]/\Q (.int (if j<i then j else i)) H):=by
 intro y s σ H B us Q I r h
 obtain⟨i,j,rfl,q⟩:=h
 obtain⟨u,G,rfl,⟨t,rfl⟩,⟨t',rfl⟩⟩:=bf3 r
 refine min_two_ints (I.ok.hd hc) λ h' tk k=>⟨_,H,I.kept k,?_,q⟩
 by_cases hj:j<i
 ·rw[if_pos hj,if_pos hj];exact⟨_,rfl⟩
 ·rw[if_neg hj,if_neg hj];exact⟨_,rfl⟩
theorem aV1:ac0 X (.type "int") (λ y H Q=>(∃ i,y=[.int i]/\Q (.int i) H)\/∃ k,y=[.bl k]/\Q (.int (if k then 1 else 0)) H):=by
 intro B s σ H y us Q I r h
 rcases h with⟨i,rfl,q⟩|⟨k,rfl,q⟩
 ·obtain⟨u,rfl,t,rfl⟩:=al5 r
  exact call_int_int ⟨.int i,H,I,⟨_,rfl⟩,q⟩
 ·obtain⟨u,rfl,r1⟩:=al5 r
  cases r1
  exact call_int_bool ⟨.int (if k then 1 else 0),H,I.tok _,⟨_,rfl⟩,q⟩
end
structure ObjM (h:Heap)(x dx C:Addr)(mA:Str->Option Value):Prop where
 obj:h.get? x=some (gv C dx)
 ns:h.Ns1 dx mA
 ne:dx≠x
theorem aT8 {h:Heap}{J:Addr}{G:Str->Option Value}(n:h.Ns1 J G):∃ od,h.get? J=some od/\∀ name,gM name od=some (G name):=by
 obtain⟨o,es,ep,ho,hd,hk,_,Z⟩:=n
 refine⟨o,ho,λ name=>?_⟩
 have e:=Z name
 unfold nsFind findBy at e
 rw[<-Array.find?_toList]at e
 unfold gM
 rw[hd]
 dsimp only
 split
 ·rename_i y q
  rw[q]at e
  exact congrArg some e
 ·rename_i q
  rw[q]at e
  have a:es.toList.any (·.refKey)=false:=by
   rw[List.any_eq_false]
   intro y hy
   obtain⟨z,t,B⟩:=hk y (Array.mem_toList_iff.mp hy)
   simp[DictEntry.refKey,B]
  have Y:¬ es.toList.any (·.refKey)=true:=by rw[a];exact aQ
  rw[if_neg Y]
  exact congrArg some e
theorem ObjM.look {h:Heap}{x B C:Addr}{y:Str->Option Value}(I:ObjM h x B C y):∃ od,PySem.W.InstAt h x (gv C B) C (some od)/\∀ name,gM name od=some (y name) :=
 let⟨od,ho,hl⟩:=aT8 I.ns
 ⟨od,⟨I.obj,rfl,rfl,ho⟩,hl⟩
section
variable {prog:aD} {w:World} {A:aP} {E:Value->af->Prop} {s:af} {K:ac} {x dx C f:Addr} {mA:Str->Option Value} {name:Str} {v:Value}
end
theorem aK6.some_of {v:V}{o:Option Value}(r:aK6 (some v) o):∃ u,o=some u/\RelV v u:=by
 cases o with
 | none=>exact(show False from r).elim
 | some u=>exact⟨u,rfl,r⟩
section
variable {P:aD} {w:World} {H H':Hp} {h h':Heap} {a C dx:Addr} {fs fs':List (Str×V)}
theorem bl6 (hok:HOk P w H h)(e:H a=some (.ins C dx fs)):∃ y,ObjM h a dx C y/\(∀ f,aK6 (fs.lookup f) (y f))/\j4 y (fs.map (·.1))/\fs.length<=1000/\H dx=some (.own a):=by
 obtain⟨d,z,ne,ob,y,n,r,q⟩:=(show ab6 P w H h a (.ins C dx fs)from hok a _ e)
 exact⟨y,⟨ob,n,ne⟩,r,q,z,d⟩
end
structure Cls (K:ac)(C:Addr):Prop where
 pg:i7 K C Str.empty=true
 hd:PySem.W.hasDictIn K C=true
 po:PySem.W.plainOver K C=true
 sa:bI K (.ref C) "__setattr__"=some (some (.builtin "object.__setattr__"))
theorem Cls.get {K:ac}{C:Addr}(c:Cls K C)(f:Str):i7 K C f=true:=c.pg
section
variable {X:Cx} {pins:List (Addr×Obj)} {σ:St} {H:Hp} {s:af} {a C dx:Addr} {fs:List (Str×V)} {f:Str} {v:V} {A:aP} {E:Value->af->Prop}
end
section
variable {X:Cx} {o e value:Expr} {f:Str} {pos pos' tpos:Pos} {ta tv:TE}
end
section
variable {X:Cx} {pins:List (Addr×Obj)} {σ:St} {H:Hp} {s:af} {A:aP} {E:Value->af->Prop} {Q:Value->af->Prop} {c:Value} {b:Bool}
inductive TyOf (K:ac)(H:Hp):V->Value->Prop where
 | non:TyOf K H .non (.type "NoneType")
 | bl (x:Bool):TyOf K H (.bl x) (.type "bool")
 | int (i:Int):TyOf K H (.int i) (.type "int")
 | str (x:Str):TyOf K H (.str x) (.type "str")
 | flt (x:UInt64):TyOf K H (.flt x) (.type "float")
 | lst {a:Addr} {xs:List V} (e:H a=some (.lst xs)):TyOf K H (.ref a) (.type "list")
 | frz {a:Addr} {o:Obj} {xs:List V} (e:H a=some (.frz o (.lst xs))):TyOf K H (.ref a) (.type "list")
 | tup {a:Addr} {xs:List V} (e:H a=some (.tup xs)):TyOf K H (.ref a) (.type "tuple")
 | dK {a:Addr} {kvs:List (Key×V)} (e:H a=some (.dK kvs)):TyOf K H (.ref a) (.type "dict")
 | dT {a:Addr} {kvs:List (List Key×V)} (e:H a=some (.dT kvs)):TyOf K H (.ref a) (.type "dict")
 | ins {a C dx:Addr} {fs:List (Str×V)} (e:H a=some (.ins C dx fs)) (cl:Cls K C) (ha:bI K (.ref C) "__class__"=some (some (.builtin "object.__class__")))
   (hn:dE K (.builtin "object.__class__") "__get__"=some (some (.builtin "getset_descriptor.__get__"))) (htk:ee K (.builtin "object.__class__")=some true)
   (hm:fB K C (.type "object")=some true):TyOf K H (.ref a) (.ref C)
theorem qS {x:V}{u t:Value}(I:Inv X pins σ H s)(B:RelV x u)(ty:TyOf X.K H x t)(e:bE X.K t c=some b)(h:∀ tk,Q (.bool b) { s with toks:=tk }) :
  wpAny (model X.prog X.w) A (call (.builtin "isinstance") [u,c]) Q E s:=by
 cases ty with
 | non=>cases(show u=Value.none from B);exact bD PySem.W.kitx_none I.kIn True.intro e (λ z=>nomatch z) h
 | bl y=>cases(show u=Value.bool y from B);exact bD PySem.W.kitx_bool I.kIn True.intro e (λ z=>nomatch z) h
 | int i=>obtain⟨t,q⟩:=(show ∃ t,u=Value.int i t from B);cases q;exact bD PySem.W.kitx_int I.kIn True.intro e (λ z=>nomatch z) h
 | str y=>obtain⟨t,q⟩:=(show ∃ t,u=Value.str y t from B);cases q;exact bD PySem.W.kitx_str I.kIn True.intro e (λ z=>nomatch z) h
 | flt y=>obtain⟨t,q⟩:=(show ∃ t,u=Value.float y t from B);cases q;exact bD PySem.W.kitx_float I.kIn True.intro e (λ z=>nomatch z) h
 | @lst a Y ea =>
  cases(show u=Value.ref a from B)
  obtain⟨_,_,n,_,G⟩:=(show ab6 X.prog X.w H s.heap a (.lst Y)from I.hok a _ ea)
  exact bD iU I.kIn ⟨_,G,rfl⟩ e (λ z=>nomatch z) h
 | @frz a ob Y ea =>
  cases(show u=Value.ref a from B)
  obtain⟨_,_,_,n,_,G⟩:=(show ab6 X.prog X.w H s.heap a (.frz ob (.lst Y))from I.hok a _ ea)
  exact bD iU I.kIn ⟨_,G,rfl⟩ e (λ z=>nomatch z) h
 | @tup a Y ea =>
  cases(show u=Value.ref a from B)
  obtain⟨_,_,_,p⟩:=(show ab6 X.prog X.w H s.heap a (.tup Y)from I.hok a _ ea)
  obtain⟨o,G,Z,_⟩:=p
  exact bD iC I.kIn ⟨o,G,Z⟩ e (λ z=>nomatch z) h
 | @dK a kvs ea =>
  cases(show u=Value.ref a from B)
  obtain⟨_,_,vs,_,p⟩:=(show ab6 X.prog X.w H s.heap a (.dK kvs)from I.hok a _ ea)
  obtain⟨o,es,ep,G,Z,_⟩:=p
  exact bD iV I.kIn ⟨o,G,Z.1⟩ e (λ z=>nomatch z) h
 | @dT a kvs ea =>
  cases(show u=Value.ref a from B)
  obtain⟨_,_,Y,_,o,es,ep,G,Z,_⟩:=(show ab6 X.prog X.w H s.heap a (.dT kvs)from I.hok a _ ea)
  exact bD iV I.kIn ⟨o,G,Z.1⟩ e (λ z=>nomatch z) h
 | @ins a C dx fs ea cl ha hn htk hm =>
  cases(show u=Value.ref a from B)
  obtain⟨mA,O,_⟩:=bl6 I.hok ea
  obtain⟨od,J,_⟩:=O.look
  exact bD (PySem.W.kitx_own (cl.get _) cl.hd ha hn htk hm) I.kIn J e (λ z=>nomatch z) h
end
structure Room (k:Nat)(A:aP):Prop where
 hd:A.handled=none
 dp:A.depth+3*k+5<recursionLimit
 un:A.units+16*k+200<cLine
theorem Room.mono {j k:Nat}{A:aP}(r:Room k A)(h:j<=k):Room j A:=⟨r.hd,by have:=r.dp;omega,by have:=r.un;omega⟩
theorem Room.deeper {k:Nat}{A:aP}(r:Room (k+1) A)(env:Env):Room k (A.deeper env) :=
 ⟨r.hd,by have:=r.dp;show A.depth+1+3*k+5<_;omega,by have:=r.un;show A.units+3+16*k+200<_;omega⟩
theorem Room.in1 {k:Nat}{A:aP}(r:Room (k+1) A):Room k A.in1 :=
 ⟨r.hd,by have:=r.dp;show A.depth+3*k+5<_;omega,by have:=r.un;show A.units+1+16*k+200<_;omega⟩
theorem Room.depth {k:Nat}{A:aP}(r:Room k A):A.depth<recursionLimit:=by have:=r.dp;omega
theorem Room.units {k:Nat}{A:aP}(r:Room k A):A.units+64<cLine:=by have:=r.un;omega
theorem Room.units0 {k:Nat}{A:aP}(r:Room k A):A.units<cLine:=by have:=r.un;omega
def aZ8:TA:=λ _ H Q=>Q [] H
def aq4 (ta:TE)(tr:TA):TA:=λ σ H Q=>ta σ H λ x H1=>tr σ H1 λ xs H2=>Q (x::xs) H2
section
variable {X:Cx} {e:Expr} {es:List Expr} {te:TE} {t:TA} {pos:Pos}
theorem ad0:PA X [] aZ8:=λ _ _ _ _ H Q I h=>Calls.spliced_nil ⟨[],H,I,.nil,h⟩
theorem zH (ha:PE X e te)(hr:PA X es t)(hs:bo (e::es) X.env=(false,eval e X.env)::bo es X.env:=by rfl):PA X (e::es) (aq4 te t):=by
 intro pos y s σ H Q I h
 rw[hs]
 show wpAny _ _ (spliced ((false,eval e X.env)::dC pos (bo es X.env))) _ _ s
 refine Calls.spliced_cons (thn (ha y s σ H _ I h) λ u s1 ⟨x,J,Z,r1,B⟩=>?_)
 exact thn (hr pos y s1 σ J _ Z B) λ us s2 ⟨G,H2,I2,Y,q2⟩=>⟨x::G,H2,I2,.cons r1 Y,q2⟩
def bY6 (t:TA):TE:=λ σ H Q=>t σ H λ xs H1=>xs.length<=aH/\∀ p,H1 p=none->Q (.ref p) (upd H1 p (.tup xs))
def cc0 (t:TA):TE:=λ σ H Q=>t σ H λ xs H1=>xs.length<=aH/\∀ p,H1 p=none->Q (.ref p) (upd H1 p (.lst xs))
theorem bg8 {x1}(h:PA X es t):PE X (.Tuple es x1 pos) (bY6 t):=by
 intro y s σ H Q I hq
 refine wpAny_Tuple_spliced (thn (h pos y s σ H _ I hq) λ us s1 ⟨J,B,G,r,z,q⟩=>⟨by rw[<-r.length];exact z,?_⟩)
 have Y:B s1.heap.objs.size=none:=G.hok.fresh (aj _)
 refine⟨.ref s1.heap.objs.size,upd B s1.heap.objs.size (.tup J),G.laid (t':=s1.toks) (λ b u e=>ak _ e) (aj _) ?_,rfl,q _ Y⟩
 exact⟨z,us,r,⟨_,aR _ rfl,rfl,_,rfl⟩⟩
theorem bh7 (h:PA X es t):PE X (.List es pos) (cc0 t):=by
 intro y s σ H Q I hq
 refine wpAny_List_spliced (thn (h pos y s σ H _ I hq) λ us s1 ⟨J,B,G,r,z,q⟩=>⟨by rw[<-r.length];exact z,?_⟩)
 have Y:B s1.heap.objs.size=none:=G.hok.fresh (aj _)
 refine⟨.ref s1.heap.objs.size,upd B s1.heap.objs.size (.lst J),G.laid (t':=s1.toks) (λ b u e=>ak _ e) (aj _) ?_,rfl,q _ Y⟩
 exact⟨z,us,0,r,aR _ rfl⟩
end
abbrev Sp:=List V->Hp->VK->XK->Prop
abbrev CXT:=List Env->Hp->af->XK->Value->af->Prop
structure Env0 (P:aD)(w:World)(K:ac)(mg:Str->Option Value)(base:Heap)(A:aP)(outer:List Env)(s:af)(H:Hp):Prop where
 frames:A.frames=some outer
 mod:Mod K mg base
 bs:∀ b o,base.get? b=some o->s.heap.get? b=some o/\H b=none
 bsz:base.objs.size<=s.heap.objs.size
 funs:s.heap.FunFrames base outer
 frf:∀ b∈frs outer,H b=none
 hok:HOk P w H s.heap
 bare:eJ s.gens
def CE (outer:List Env)(P:aD)(w:World)(H:Hp)(s:af)(Q:VK)(u:Value)(s':af):Prop :=
 ∃ v H',s'.os=s.os/\eJ s'.gens/\Un (frs outer) [] H H' s.heap s'.heap/\HOk P w H' s'.heap/\RelV v u/\Q v H'
def CR (CX:CXT)(outer:List Env)(P:aD)(w:World)(H:Hp)(s:af)(Q:VK)(E:XK)(r:jM)(s':af):Prop :=
 match r with
 | .ok (.ret u)=>CE outer P w H s Q u s'
 | .ok _=>False
 | .error e=>CX outer H s E e s'
structure FnOk (P:aD)(w:World)(K:ac)(mg:Str->Option Value)(base:Heap)(CX:CXT)(k:Nat)(f:Addr)(fd:bv)(ps:List Str)(sp:Sp):Prop where
 len:∀ vs H Q E,sp vs H Q E->vs.length=ps.length
 run:∀(A:aP) (outer:List Env) (s:af) (H:Hp) (args:Args) (us:List Value) (vs:List V) (Q:VK) (E:XK),Room k A->Env0 P w K mg base A outer s H->jG s fd args (ps.zip us)->Vals vs us->sp vs H Q E ->
  fX (model P w) A (.call (.ref f) args) (CR CX outer P w H s Q E) s
theorem FnOk.imp {P:aD}{w:World}{K:ac}{mg:Str->Option Value}{base:Heap}{G:CXT}{k:Nat}{f:Addr}{J:bv}{ps:List Str}{sp B:Sp}(F:FnOk P w K mg base G k f J ps sp)
  (h:∀ vs H Q E,B vs H Q E->sp vs H Q E):FnOk P w K mg base G k f J ps B :=
 ⟨λ vs H Q E q=>F.len vs H Q E (h _ _ _ _ q),λ A y s H args us vs Q E Z Y hb hv hs=>F.run A y s H args us vs Q E Z Y hb hv (h _ _ _ _ hs)⟩
section
variable {X:Cx} {pins:List (Addr×Obj)} {σ:St} {H:Hp} {s s':af}
theorem Inv.env0 (I:Inv X pins σ H s):Env0 X.prog X.w X.K X.mg X.base X.A X.stack s H :=
 ⟨I.ok.frames,I.ok.mod,I.bs,ao I.ok.bsz I.sz,I.stack,I.stkFree,I.hok,I.bare⟩
theorem Inv.after {Q:VK}{u:Value}(I:Inv X pins σ H s)(h:CE X.stack X.prog X.w H s Q u s'):EP X pins σ Q u s':=by
 obtain⟨v,H',os,bare,un,hok,r,q⟩:=h
 obtain⟨B,g,d,t,y⟩:=s'
 obtain rfl:y=s.os:=os
 exact⟨v,H',I.call (h':=B) (g':=g) (d':=d) (t':=t) (ch:=[]) un hok bare (λ b z=>absurd z (by simp)),r,q⟩
end
def aJ4 (sp:Sp)(dvs:List V)(E:XK)(t:TA):TE:=λ σ H Q=>t σ H λ vs H1=>sp (vs++dvs) H1 Q E
def Binds (K:ac)(fd:bv)(ps:List Str)(ds:List Value):Prop :=
 ∀(s:af) (us:List Value),K.In s.heap->(us++ds).length=ps.length->jG s fd ⟨us,[]⟩ (ps.zip (us++ds))
theorem Binds.all {K:ac}{y:bv}{ps:List Str}(h:∀ us:List Value,us.length=ps.length->d4 y ⟨us,[]⟩=pure (ps.zip us)):Binds K y ps []:=λ s us _ hl=>by
 rw[a7]at hl ⊢
 exact .of_eq (h us hl)
def af6 (CX:CXT)(X:Cx)(E:XK):Prop:=∀(pins:List (Addr×Obj)) (σ:St) (H:Hp) (s:af) (e:Value) (s':af),Inv X pins σ H s->CX X.stack H s E e s'->X.xe e s'
section
variable {X:Cx} {CX:CXT} {k:Nat} {f C:Addr} {fd:bv} {ps:List Str} {sp:Sp} {dvs:List V} {ds:List Value} {E:XK} {x m:Str} {p pos apos:Pos} {e o:Expr} {es:List Expr} {ta:TE} {t:TA}
theorem bi7 {y:List (Addr×Obj)}{σ:St}{H:Hp}{s:af}{Q:VK}{us:List Value}{vs:List V}(F:FnOk X.prog X.w X.K X.mg X.base CX k f fd ps sp)(G:Room k X.A)(hb:Binds X.K fd ps ds)(hd:Vals dvs ds)(hx:af6 CX X E)
  (I:Inv X y σ H s) (r:Vals vs us) (h:sp (vs++dvs) H Q E):wpAny (model X.prog X.w) X.A (call (.ref f) us) (EP X y σ Q) X.xe s:=by
 have B:Vals (vs++dvs) (us++ds):=r.append hd
 have hl:(us++ds).length=ps.length:=by rw[<-B.length];exact F.len _ _ _ _ h
 refine fY (eM (F.run X.A X.stack s H ⟨us,[]⟩ (us++ds) (vs++dvs) Q E G I.env0 (hb s us I.kIn hl) B h) λ r s' hq=>?_)
 cases r with
 | error e=>exact hx y σ H s e s' I hq
 | ok fl =>
  cases fl with
  | ret u=>exact I.after hq
  | next=>exact aZ hq
  | brk=>exact aZ hq
  | cont=>exact aZ hq
theorem aQ9 (F:FnOk X.prog X.w X.K X.mg X.base CX k f fd ps sp)(hr:Room k X.A)(Y:Gl X x)(hm:X.mg x=some (.ref f))(hk:bR X.K (.ref f)=true)(hb:Binds X.K fd ps ds)(hd:Vals dvs ds)(hx:af6 CX X E)
  (ha:PA X (e::es) t) (G:(x==("__debug__":Str))=false:=by decide) (Z:bo (e::es) X.env=(false,eval e X.env)::bo es X.env:=by rfl) (B:(dC pos (bo es X.env)).any (·.1)=false:=by rfl) :
  PE X (.Call (.Name x p) (e::es) [] pos) (aJ4 sp dvs E t):=by
 intro y s σ H Q I h
 refine b9 (aq3 I Y hm ?_ G)
 refine iD (h₀:=X.base) I.ok.mod.kin hk (thn (ha pos y s σ H _ I h) λ us s1 ⟨vs,H1,J,r,q⟩=>⟨J.kIn,?_⟩) Z B
 exact bi7 F hr hb hd hx J r q
theorem bc9 (F:FnOk X.prog X.w X.K X.mg X.base CX k f fd ps sp)(Y:Room k X.A)(G:Gl X x)(J:X.mg x=some (.ref f))(hk:bR X.K (.ref f)=true)(hb:Binds X.K fd ps ds)(hd:Vals dvs ds)(hx:af6 CX X E)
  (y:(x==("__debug__":Str))=false:=by decide):PE X (.Call (.Name x p) [] [] pos) (aJ4 sp dvs E aZ8):=by
 intro B s σ H Q I h
 refine b9 (aq3 I G J ?_ y)
 exact PySem.W.callWith_K0 I.kIn hk (bi7 (us:=[]) F Y hb hd hx I .nil h)
structure Mk (K:ac)(C f:Addr):Prop where
 makes:PySem.W.makesIn K C=true
 init:bI K (.ref C) "__init__"=some (some (.ref f))
 fn:PySem.W.isFn K (.ref f)=true
 kp:bR K (.ref C)=true
end
section
variable {X:Cx} {CX:CXT} {k:Nat} {f C:Addr} {fd:bv} {ps ks:List Str} {sp:Sp} {E:XK} {x m:Str} {p pos apos kpos:Pos} {e o:Expr} {es:List Expr} {kws:List jH} {te ta:TE} {t tk:TA} {nm:Option Str}
variable {g:List Value->List Value->List Value} {gV:List V->List V->List V}
end
structure FnScope (N P:List Str)(sc:Scope):Prop where
 kind:sc.kind=.function
 co:sc.isCoroutine=false
 gen:sc.isGenerator=false
 nd:N.Nodup
 pre:N.take P.length=P
 par:∀ x∈P,sc.names.lookup x=some .local\/sc.names.lookup x=some .cell
 nofree:∀ y∈sc.names,y.2≠.free
theorem as9 {dS:Str->Option bJ}{x:Str}:∀ {binds:List (Str×Value)} {m:Str->Option Value},(∀ v,(x,v) ∉ binds)->bindL dS binds m x=m x
 | [],_,_=>rfl
 | (n,v)::r,m,h=>by
  unfold bindL
  rw[as9 λ w hw=>h w (ai _ hw)]
  split
  ·have:x≠n:=by rintro rfl;exact h v aw
   simp[this]
  ·rfl
theorem at9 {dS:Str->Option bJ}{x:Str}:∀ {binds:List (Str×Value)} {m:Str->Option Value},(∀ v,(x,v) ∉ binds)->bindC dS binds m x=m x
 | [],_,_=>rfl
 | (n,v)::r,m,h=>by
  unfold bindC
  rw[at9 λ w hw=>h w (ai _ hw)]
  split
  ·rfl
  ·have:x≠n:=by rintro rfl;exact h v aw
   simp[this]
theorem al7 {dS:Str->Option bJ}{x:Str}{v:Value}:∀ {P:List Str} {vs:List Value} {i:Nat} {m:Str->Option Value},P.Nodup->P[i]?=some x->vs[i]?=some v->dS x=some .local ->
  bindL dS (P.zip vs) m x=some v
 | [],_,_,_,_,h,_,_=>by simp at h
 | _::_,[],_,_,_,_,h,_=>by simp at h
 | p::P,w::vs,0,m,nd,h1,h2,hk=>by
  simp at h1 h2;subst h1;subst h2
  show bindL dS ((p,w)::P.zip vs) m p=_
  unfold bindL
  rw[as9 λ v hv=>(cK.mp nd).1 (di hv).1,if_pos hk]
  simp
 | p::P,w::vs,i+1,m,nd,h1,h2,hk=>by
  show bindL dS ((p,w)::P.zip vs) m x=_
  unfold bindL
  exact al7 (i:=i) (cK.mp nd).2 (by simpa using h1) (by simpa using h2) hk
theorem ak2 {dS:Str->Option bJ}{x:Str}{v:Value}:∀ {P:List Str} {vs:List Value} {i:Nat} {m:Str->Option Value},P.Nodup->P[i]?=some x->vs[i]?=some v->dS x≠some .local ->
  bindC dS (P.zip vs) m x=some v
 | [],_,_,_,_,h,_,_=>by simp at h
 | _::_,[],_,_,_,_,h,_=>by simp at h
 | p::P,w::vs,0,m,nd,h1,h2,hk=>by
  simp at h1 h2;subst h1;subst h2
  show bindC dS ((p,w)::P.zip vs) m p=_
  unfold bindC
  rw[at9 λ v hv=>(cK.mp nd).1 (di hv).1,if_neg hk]
  simp
 | p::P,w::vs,i+1,m,nd,h1,h2,hk=>by
  show bindC dS ((p,w)::P.zip vs) m x=_
  unfold bindC
  exact ak2 (i:=i) (cK.mp nd).2 (by simpa using h1) (by simpa using h2) hk
noncomputable def ae7 (N:List Str)(vs:List V):St:=vs.map some++ar (N.length - vs.length) none
noncomputable def as7 (CX:CXT)(P:aD)(w:World)(K:ac)(mg:Str->Option Value)(base:Heap)(N:List Str)(qual:Str)(scope:Scope)(f:Addr)(cd:Value)(A:aP)(outer:List Env)(s:af)(H:Hp)(E:XK):Cx where
 prog:=P
 w:=w
 K:=K
 mg:=mg
 base:=base
 A:=A.deeper (ef qual scope s.heap.objs.size f cd)
 N:=N
 s₀:=s
 H₀:=H
 env:=ef qual scope s.heap.objs.size f cd
 outer:=outer
 stack:=ef qual scope s.heap.objs.size f cd::outer
 ex:=[]
 calm:=true
 fn:=λ _=>true
 pn:=[]
 xe:=λ e s'=>wpAny (model P w) (A.deeper (ef qual scope s.heap.objs.size f cd)) (leaving (ef qual scope s.heap.objs.size f cd) e) (λ _ s''=>CX outer H s E e s'') (λ e' s''=>CX outer H s E e' s'') s'
theorem z6 {sc:Scope}{n:Nat}{x:Str}(h:sc.names.lookup x=some .cell):∃ c,(aK n sc.names []).lookup x=some c:=by
 have q:=fZ sc.names n [] (.inl h)
 exact fC.mp q
theorem aV5 {CX:CXT}{P:aD}{w:World}{K:ac}{mg:Str->Option Value}{base:Heap}{N ps:List Str}{qual:Str}{scope:Scope}{f:Addr}{cd:Value}{A:aP}{B:List Env}{s s1:af}{H:Hp}{E:XK}{us:List Value}{vs:List V}
  (S:FnScope N ps scope) (hd:A.handled=none) (J:Env0 P w K mg base A B s H) (hl:vs.length=ps.length) (r:Vals vs us)
  (x:fm s s.heap.objs.size (bindL (ef qual scope s.heap.objs.size f cd).kindOf (ps.zip us) λ _=>none) (aK (s.heap.objs.size+1) scope.names []) (bindC (ef qual scope s.heap.objs.size f cd).kindOf (ps.zip us) λ _=>none) s1) :
  Inv (as7 CX P w K mg base N qual scope f cd A B s H E) [] (ae7 N vs) H s1:=by
 have a0:ps.length<=N.length:=by have:=congrArg kg S.pre;rw[bq]at this;omega
 obtain⟨h1,tk,rfl,hk⟩:=x.done
 have Y:∀ b:Addr,b ∉ (as7 CX P w K mg base N qual scope f cd A B s H E).ex:=λ b z=>absurd (show b∈([]:List Addr)from z) (by simp)
 refine⟨⟨J.mod,S.kind,rfl,rfl,aj _,λ y z c h1 G=>?_,λ y hy=>?_,λ y c _ h=>?_,λ _=>hd,gN J.frames,.inr ⟨rfl,rfl⟩,λ b z=>absurd z (Y b),J.bs,J.bsz,λ b _ _=>Y b,λ b z=>absurd z (Y b),J.funs,J.frf⟩,
  rfl,J.bare,Un.kept hk,⟨_,x.toInCall.ns,λ i y v h1 G h3=>?_⟩,λ y c h=>⟨_,x.cell y c h⟩,J.hok.fresh (aj _),λ y c h=>?_,λ p hp=>absurd (show p∈([]:List (Addr×Obj))from hp) (by simp),J.hok.kept hk,?_⟩
 ·exact f7 x.apart (ax h1) (ax G)
 ·have hy:scope.names.lookup y=some .cell\/scope.names.lookup y=some .free:=hy
  rcases hy with hy|hy
  ·exact z6 hy
  ·exact absurd rfl (S.nofree _ (ax hy))
 ·exact cW (x.above y c (ax h))
 ·have hi:i<vs.length:=by
   unfold ae7 at G
   by_cases hi:i<vs.length
   ·exact hi
   ·rw[aF (by simpa using hi)]at G
    rw[fL]at G
    split at G<;>cases G
  have ha:vs[i]?=some v:=by
   unfold ae7 at G
   rw[aB (by simpa using hi),aJ]at G
   cases e:vs[i]? with
   | none=>rw[e]at G;cases G
   | some a=>rw[e]at G;cases G;rfl
  obtain⟨u,hu,rv⟩:=r.get ha
  have hp:ps[i]?=some y:=by
   rw[<-S.pre,List.getElem?_take_of_lt (by omega)];exact h1
  have Z:ps.Nodup:=by rw[<-S.pre];exact S.nd.sublist (List.take_sublist _ _)
  refine⟨u,rv,?_⟩
  rcases S.par y (bp hp)with k|k
  ·exact .inl ⟨k,al7 Z hp hu k⟩
  ·obtain⟨c,e⟩:=z6 (n:=s.heap.objs.size+1) k
   refine .inr ⟨.inl k,c,e,?_⟩
   have q:=x.cell y c e
   rw[ak2 Z hp hu (by show scope.names.lookup y≠_;rw[k];decide)]at q
   exact q
 ·exact J.hok.fresh (cW (x.above y c (ax h)))
 ·unfold ae7
  show _=N.length
  rw[aL,aE,gA]
  omega
theorem bq7 {CX:CXT}{P:aD}{w:World}{K:ac}{mg:Str->Option Value}{base:Heap}{k:Nat}{f:Addr}{name qual:Str}{params:a9}{body:List Stmt}{scope:Scope}{dV kV a0 pm B ct oc:Value}{an od:Option Addr}
  {a2:Array (Option Value)} {N ps:List Str} {sp:Sp} (lk:K.lookup f=some ⟨oc,od,.func (cF name qual params body scope dV kV a0 pm an B ct),a2⟩) (a3:eV K B qual=true) (S:FnScope N ps scope)
  (len:∀ vs H Q E,sp vs H Q E->vs.length=ps.length)
  (G:∀(A:aP) (h:List Env) (s:af) (H:Hp) (vs:List V) (Q:VK) (E:XK),Room k (A.deeper (ef qual scope s.heap.objs.size f B))->sp vs H Q E ->
   ∃ t,PSs (as7 CX P w K mg base N qual scope f B A h s H E) body t/\t { nx:=λ _ H'=>Q .non H',rt:=Q } (ae7 N vs) H) :
  FnOk P w K mg base CX (k+1) f (cF name qual params body scope dV kV a0 pm an B ct) ps sp:=by
 refine⟨len,λ A h s H args us vs Q E hr e0 hb r Z=>?_⟩
 have hl:=len _ _ _ _ Z
 have KX:K.In s.heap:=e0.mod.kin.keeps λ b o e=>(e0.bs b o e).1
 have a1:s.heap.NoLimit:=e0.mod.nolimit.keeps λ b o e=>(e0.bs b o e).1
 have Y:∀ y∈ps.zip us,scope.names.lookup y.1=some .local\/(scope.names.lookup y.1=some .cell/\((aK (s.heap.objs.size+1) scope.names []).lookup y.1).isSome=true):=λ⟨n,v⟩ hy=>by
  rcases S.par n (di hy).1 with q|q
  ·exact .inl q
  ·exact .inr ⟨q,fZ _ _ _ (.inl q)⟩
 refine gB hr.depth (KX _ _ lk) rfl S.co S.gen rfl (PySem.W.codeRec_of KX a3) (hb _ _ _ _ ?_)
 refine wpAny_newFunctionEnv_cells S.kind Y λ env he s1 x=>?_
 subst he
 refine⟨a1.keeps x.toInCall.keep,codeAny_func ?_⟩
 obtain⟨t,ht,hq⟩:=G A h s H vs Q E (hr.deeper _) Z
 have I:Inv (as7 CX P w K mg base N qual scope f B A h s H E) [] (ae7 N vs) H s1:=aV5 S hr.hd e0 hl r x
 refine bz (ht [] s1 (ae7 N vs) H _ I hq) (λ fl s' hs=>?_) λ e s' hs=>hs
 have fin:∀ {σ':St} {H':Hp} {v:V} {u:Value},Inv (as7 CX P w K mg base N qual scope f B A h s H E) [] σ' H' s'->RelV v u->Q v H'->CE h P w H s Q u s' :=
  λ {σ' H' v u} J rv q=>⟨v,H',J.os,J.bare,J.base,J.hok,rv,q⟩
 cases fl with
 | ret u =>
  obtain⟨v,σ',H',J,rv,q⟩:=hs
  exact fin J rv q
 | next =>
  obtain⟨σ',H',J,q⟩:=hs
  exact fin (v:=V.non) (u:=Value.none) J rfl q
 | brk =>
  obtain⟨_,_,_,q⟩:=hs
  exact aZ q
 | cont =>
  obtain⟨_,_,_,q⟩:=hs
  exact aZ q
section
variable {X:Cx} {x:Str} {p pos:Pos} {e:Expr} {es:List Expr} {t:TA} {id T:String} {r:List V->Hp->VK->Prop}
def tCB (r:List V->Hp->VK->Prop)(t:TA):TE:=λ σ H Q=>t σ H λ vs H1=>r vs H1 Q
theorem af8 (hc:ac0 X (.builtin id) r)(J:Gl X x)(hm:X.mg x=none)(hv:be x=some (.builtin id))(ha:PA X (e::es) t)(hn:x ≠ "__name__":=by decide)(G:(x==("__debug__":Str))=false:=by decide)
  (he:bo (e::es) X.env=(false,eval e X.env)::bo es X.env:=by rfl) (B:(dC pos (bo es X.env)).any (·.1)=false:=by rfl):PE X (.Call (.Name x p) (e::es) [] pos) (tCB r t):=by
 intro y s σ H Q I h
 refine b9 (aG5 I J hm hv ?_ hn G)
 exact PyProof.Rows.callWith_builtin1 (thn (ha pos y s σ H _ I h) λ us s1 ⟨vs,Z,Y,r1,q1⟩=>hc y s1 σ Z vs us Q Y r1 q1) he B
theorem am2 (hc:ac0 X (.type T) r)(J:Gl X x)(hm:X.mg x=none)(hv:be x=some (.type T))(ha:PA X (e::es) t)(hn:x ≠ "__name__":=by decide)(G:(x==("__debug__":Str))=false:=by decide)
  (he:bo (e::es) X.env=(false,eval e X.env)::bo es X.env:=by rfl) (B:(dC pos (bo es X.env)).any (·.1)=false:=by rfl):PE X (.Call (.Name x p) (e::es) [] pos) (tCB r t):=by
 intro y s σ H Q I h
 refine b9 (aG5 I J hm hv ?_ hn G)
 exact eK (thn (ha pos y s σ H _ I h) λ us s1 ⟨vs,Z,Y,r1,q1⟩=>hc y s1 σ Z vs us Q Y r1 q1) he B
end
end L2
end
noncomputable section
namespace HT
open PySem PyProof.Rows
section
open PySem.SeqAt
open PySem.AutoSeq1 (wpAny_loadPart')
open PySem.MeetsSeq PySem.MeetsSeq2 PySem.MeetsSeq3
end
section
variable {prog:aD} {w:World} {A:aP} {E:Value->af->Prop} {s:af}
theorem cat_tup {t b:Addr}{vs ws:List Value}{Q:Value->af->Prop}(ht:IsTup s.heap t vs.toArray)(hb:IsTup s.heap b ws.toArray)(hv:vs≠[])
  (h1:ws=[]->Q (.ref t) s) (h2:ws≠[]->Q (.ref s.heap.objs.size) { s with heap:=s.heap.push { cls:=.type "tuple",data:=.seq (vs++ws).toArray } })
  (hsz:vs.length+ws.length<=aH):wpAny (model prog w) A (bQ .Add (.ref t) (.ref b)) Q E s:=by
 obtain⟨⟨cls,dd,data,sl⟩,ho,hc,n,hd⟩:=id ht
 obtain⟨⟨a0,J,Y,G⟩,h,y,Z,B⟩:=id hb
 simp only at hc hd y B
 subst hc hd y B
 have e:vs.toArray++ws.toArray=(vs++ws).toArray:=by simp
 by_cases hw:ws=[]
 ·exact iW ⟨_,ho,rfl⟩ ⟨_,h,rfl⟩ fM iq dF dm (db _ _)
   (tuple_addW1 t b vs.toArray ws.toArray n Z dd J sl G (by simpa using hv) (by simp[hw])) ⟨ho,h,h1 hw⟩
 ·refine iW ⟨_,ho,rfl⟩ ⟨_,h,rfl⟩ fM iq dF dm (db _ _)
   (tuple_addW2 t b vs.toArray ws.toArray n Z dd J sl G (by simpa using hv) (by simpa using hw) (by rw[au,au];exact hsz)) ⟨ho,h,?_⟩
  rw[e]
  exact h2 hw
noncomputable def sIx (n d:Nat):Option Int->Nat
 | none=>d
 | some v=>if v<0 then(v+(n:Int)).toNat else min v.toNat n
theorem sIx_le (n d:Nat)(hd:d<=n)(o:Option Int):sIx n d o<=n:=by
 cases o with
 | none=>exact hd
 | some v =>
  show(if v<0 then(v+(n:Int)).toNat else min v.toNat n)<=n
  by_cases hv:v<0
  ·rw[if_pos hv];omega
  ·rw[if_neg hv];exact fN _ _
theorem clip_eq (v:Int)(n d:Nat):(if v<0 then max (v+(n:Int)) 0 else min v (n:Int))=((sIx n d (some v):Nat):Int):=by
 show(if v<0 then max (v+(n:Int)) 0 else min v (n:Int))=(((if v<0 then(v+(n:Int)).toNat else min v.toNat n):Nat):Int)
 by_cases hv:v<0
 ·simp only[if_pos hv];omega
 ·simp only[if_neg hv];omega
theorem adjust_gen (h y:Option Int)(n:Nat):c8 h y 1 (n:Int)=(((sIx n 0 h:Nat):Int),((sIx n n y:Nat):Int)):=by
 have B:¬((1:Int)<0):=by omega
 unfold c8
 simp only[B,if_false]
 refine Prod.ext ?_ ?_
 ·cases h with
  | none=>rfl
  | some v=>exact clip_eq v n 0
 ·cases y with
  | none=>rfl
  | some v=>exact clip_eq v n n
theorem places_gen (i j:Nat):cf (i:Int) (j:Int) 1=j - i:=by
 unfold cf
 have h:(1:Int) > 0:=by omega
 simp only[h,if_true,Int.ediv_one]
 split<;>omega
theorem slicePart_ {v:Value}{o:Option Int}{Q:Option Int->af->Prop}(p:fD v o)(h:Q o s):wpAny (model prog w) A (jx v) Q E s:=by
 cases p with
 | none=>exact slicePart_none h
 | int i t=>exact slicePart_int h
theorem sliceApplied_gen {sl:Addr}{vl vu:Value}{y B:Option Int}{n:Nat}{Q:Int×Int×Nat->af->Prop}(hs:s.heap.IsSliceOf sl vl vu .none)(Y:fD vl y)(pu:fD vu B)
  (h:Q (((sIx n 0 y:Nat):Int),1,sIx n n B - sIx n 0 y) s):wpAny (model prog w) A (eW (.ref sl) (pure (n:Int))) Q E s:=by
 obtain⟨os,G,Z,J⟩:=id hs
 unfold eW jY
 refine ah (ah (dq G J (x:=vl) rfl (ah (dq G J (x:=vu) rfl (ah (dq G J (x:=.none) rfl (aA ?_)))))))
 refine ah (slicePart_none ?_)
 show wpAny _ _ (if((1:Int)==0)=true then _ else _) _ _ s
 rw[if_neg (by decide)]
 refine ah (slicePart_ Y (ah (slicePart_ pu (ah (aA ?_)))))
 show wpAny _ _ (match c8 y B 1 (n:Int)with|(y,B)=>pure (y,(1:Int),cf y B 1)) _ _ s
 rw[adjust_gen y B n]
 show wpAny _ _ (pure (((sIx n 0 y:Nat):Int),(1:Int),cf ((sIx n 0 y:Nat):Int) ((sIx n n B:Nat):Int) 1)) _ _ s
 rw[places_gen]
 exact aA h
theorem pick_gen (h:Array Value)(i k:Nat):((aN k).filterMap λ(m:Nat)=>h[((i:Int)+(m:Int)*1).toNat]?).toArray=((h.toList.drop i).take k).toArray:=by
 have e:(λ(m:Nat)=>h[((i:Int)+(m:Int)*1).toNat]?)=λ m=>h[i+m]?:=by
  funext m
  have:((i:Int)+(m:Int)*1).toNat=i+m:=by omega
  rw[this]
 rw[e]
 have:=pick_run h i k
 rw[List.filterMap_map]at this
 have e2:((λ x=>h[x]?) ∘ λ x=>i+x)=λ m=>h[i+m]?:=rfl
 rw[e2]at this
 rw[this]
theorem getItem_tuple_cut {t sl:Addr}{y:Array Value}{vl vu:Value}{G J:Option Int}{Q:Value->af->Prop}(Y:IsTup s.heap t y)(hs:s.heap.IsSliceOf sl vl vu .none)(pl:fD vl G)(pu:fD vu J)
  (hw:¬(sIx y.size 0 G=0/\sIx y.size y.size J=y.size))
  (h:Q (.ref s.heap.objs.size) { s with heap:=s.heap.push { cls:=.type "tuple",data:=.seq ((y.toList.drop (sIx y.size 0 G)).take (sIx y.size y.size J - sIx y.size 0 G)).toArray } })
  (hsz:y.size<=aH):wpAny (model prog w) A (f8 (.ref t) (.ref sl)) Q E s:=by
 have B:sizeOk (.seq ((y.toList.drop (sIx y.size 0 G)).take (sIx y.size y.size J - sIx y.size 0 G)).toArray):=by
  show((y.toList.drop (sIx y.size 0 G)).take (sIx y.size y.size J - sIx y.size 0 G)).toArray.size<=aH
  rw[au,bq,dU,eI]
  omega
 have hj:sIx y.size y.size J<=y.size:=sIx_le _ _ (aj _) J
 obtain⟨os,a2,a1,a3⟩:=id hs
 have Z:s.TypeIs (.ref sl) "slice":=⟨os,a2,a1⟩
 unfold f8
 try with_reducible refine cx ?_
 first|refine ah (aA ?_)|skip
 refine ah (iX Y.typeIs (by decide) ?_)
 refine ah (cA (name:=bB "__getitem__") Y.typeIs bu
  (cY bu Y.typeIs hJ ?_ (iE _ _)))
 show wpAny _ _ (cU (.ref t) >>= _) _ _ s
 refine ah (ir Y ?_)
 refine ah (f9 Z ?_)
 rw[if_pos (by decide)]
 refine ah (sliceApplied_gen hs pl pu ?_)
 have a0:¬((((sIx y.size 0 G:Nat):Int)==0&&(1:Int)==1&&(sIx y.size y.size J - sIx y.size 0 G)==y.size)=true):=by
  intro q
  rw[ag,ag]at q
  have q1:((sIx y.size 0 G:Nat):Int)=0:=eq_of_beq q.1.1
  have q2:sIx y.size y.size J - sIx y.size 0 G=y.size:=eq_of_beq q.2
  exact hw ⟨by omega,by omega⟩
 show wpAny _ _ (if(((sIx y.size 0 G:Nat):Int)==0&&(1:Int)==1&&(sIx y.size y.size J - sIx y.size 0 G)==y.size)=true then _ else _) _ _ s
 rw[if_neg a0,pick_gen]
 first
  | exact ah (m:=cy _) (bH (aA ⟨_,rfl,aA h⟩) B)
  | exact ah (m:=cy _) (bH (ah (aA (aA ⟨_,rfl,aA h⟩))) B)
  | exact ah (ah (m:=cy _) (bH (aA (aA ⟨_,rfl,aA h⟩)) B))
  | exact ah (ah (m:=cy _) (bH (aA ⟨_,rfl,aA h⟩) B))
end
end HT
noncomputable section
namespace L2
open PySem PySem.Spec PyProof.Rows
abbrev TO:=St->Hp->(Option Int->Hp->Prop)->Prop
def PO (X:Cx)(e:Option Expr)(t:TO):Prop :=
 ∀(pins:List (Addr×Obj)) (s:af) (σ:St) (H:Hp) (Q:Option Int->Hp->Prop),Inv X pins σ H s->t σ H Q ->
  wpAny (model X.prog X.w) X.A (evalPart e X.env) (λ u s'=>∃ o H',Inv X pins σ H' s'/\fD u o/\Q o H') X.xe s
noncomputable def aC0:TO:=λ _ H Q=>Q none H
noncomputable def aQ2 (t:TE):TO:=λ σ H Q=>t σ H λ x H1=>∃ i,x=.int i/\Q (some i) H1
section
variable {X:Cx} {e:Expr} {te:TE} {lo hi:Option Expr} {tl th:TO} {pos p2:Pos}
theorem bt0:PO X none aC0:=by
 intro y s σ H Q I h
 rw[evalPart_none]
 exact aA ⟨none,H,I,.none,h⟩
theorem bk4 (h:PE X e te):PO X (some e) (aQ2 te):=by
 intro y s σ H Q I hw
 rw[evalPart_some]
 refine thn (h y s σ H _ I hw) λ u s1 ⟨x,B,G,r1,J⟩=>?_
 obtain⟨i,rfl,q⟩:=J
 obtain⟨t,rfl⟩:=r1
 exact⟨some i,B,G,.int i t,q⟩
def SlR (X:Cx)(r:V->Option Int->Option Int->Hp->VK->Prop):Prop :=
 ∀(pins:List (Addr×Obj)) (s:af) (σ:St) (H:Hp) (x:V) (v vl vu:Value) (lo hi:Option Int) (sl:Addr) (Q:VK),Inv X pins σ H s->RelV x v->s.heap.IsSliceOf sl vl vu .none->fD vl lo->fD vu hi->r x lo hi H Q ->
  ∃ T id,typeLookup (.type T) "__getitem__"=pure (some (.builtin id))/\s.TypeIs v T/\wpAny (model X.prog X.w) X.A (f8 v (.ref sl)) (EP X pins σ Q) X.xe s
def tSl (r:V->Option Int->Option Int->Hp->VK->Prop)(te:TE)(tl th:TO):TE:=λ σ H Q=>te σ H λ x H1=>tl σ H1 λ l H2=>th σ H2 λ u H3=>r x l u H3 Q
theorem aZ1 {r:V->Option Int->Option Int->Hp->VK->Prop}(hr:SlR X r)(J:PE X e te)(hl:PO X lo tl)(hu:PO X hi th):PE X (.Subscript e (.Slice lo hi none p2) pos) (tSl r te tl th):=by
 intro y s σ H Q I h
 refine Subscript_ (thn (J y s σ H _ I h) λ v s1 ⟨x,G,I1,r1,Y⟩=>?_)
 refine wpAny_Slice (thn (hl y s1 σ G _ I1 Y) λ vl s2 ⟨l,H2,I2,pl,q2⟩=>thn (hu y s2 σ H2 _ I2 q2) λ vu s3 ⟨u,B,I3,pu,q3⟩=>?_)
 rw[evalPart_none]
 refine aA ?_
 have I4:Inv X y σ B { s3 with heap:=s3.heap.push { cls:=.type "slice",data:=.fields #[vl,vu,.none] } }:=I3.kept (t':=s3.toks) λ b ob q=>ak _ q
 obtain⟨T,id,hT,ht,Z⟩:=hr y { s3 with heap:=s3.heap.push { cls:=.type "slice",data:=.fields #[vl,vu,.none] } } σ B x v vl vu l u s3.heap.objs.size Q I4 r1 (km ..) pl pu q3
 show wpAny (model X.prog X.w) X.A (subscriptTail e (.Slice lo hi none p2) v (.ref s3.heap.objs.size)) (EP X y σ Q) X.xe { s3 with heap:=s3.heap.push { cls:=.type "slice",data:=.fields #[vl,vu,.none] } }
 exact jN (ops:=[.ref s3.heap.objs.size,v]) ht hT Z (by with_unfolding_all rfl)
noncomputable def aL1 (xs:List V)(lo hi:Option Int):List V:=(xs.drop (HT.sIx xs.length 0 lo)).take (HT.sIx xs.length xs.length hi - HT.sIx xs.length 0 lo)
theorem al9 (h:List V)(y B:Option Int):(aL1 h y B).length<=h.length:=by
 unfold aL1
 rw[bq,dU]
 omega
def cb5 (K:ac):V->Option Int->Option Int->Hp->VK->Prop:=λ x lo hi H Q=>∃ a xs,x=.ref a/\SqT K H a xs /\
 ¬(HT.sIx xs.length 0 lo=0/\HT.sIx xs.length xs.length hi=xs.length)/\∀ p,H p=none->Q (.ref p) (upd H p (.tup (aL1 xs lo hi)))
theorem bE8:SlR X (cb5 X.K):=by
 intro Z s σ H x v vl vu G J sl Q I rx hs pl pu h
 obtain⟨a,B,rfl,hx,hw,q⟩:=h
 cases rx
 obtain⟨its,r,Y,hz⟩:=I.tuple hx
 have y:its.toArray.size=B.length:=by rw[au];exact r.length.symm
 refine⟨"tuple",_,bu.lookup,Y.typeIs,?_⟩
 refine HT.getItem_tuple_cut Y hs pl pu (by rw[y];exact hw) ?_ (by rw[y];exact hz)
 rw[y]
 refine⟨.ref s.heap.objs.size,_,I.laid (t':=s.toks) (o:=.tup (aL1 B G J)) (λ b ob q=>ak _ q) (aj _) ?_,rfl,q _ (I.hok.fresh (aj _))⟩
 exact⟨ao (al9 B G J) hz,_,(r.drop (HT.sIx B.length 0 G)).take (HT.sIx B.length B.length J - HT.sIx B.length 0 G),i8 _ _⟩
def bO8 (K:ac):R2:=λ x y H Q=>∃ a b xs ys,x=.ref a/\y=.ref b/\SqT K H a xs/\SqT K H b ys/\xs≠[]/\xs.length+ys.length<=aH /\
 (ys=[]->Q (.ref a) H)/\(ys≠[]->∀ p,H p=none->Q (.ref p) (upd H p (.tup (xs++ys))))
theorem Vals.nil_iff {h:List V}{us:List Value}(r:Vals h us):us=[]↔h=[]:=by
 cases r with
 | nil=>simp
 | cons _ _=>simp
theorem bt4:OpR X (bQ .Add) (bO8 X.K):=by
 intro G s σ H x y v u Q I rx Z h
 obtain⟨a,b,Y,ys,rfl,rfl,ha,hb,hx,hz,q1,q2⟩:=h
 cases rx
 cases Z
 obtain⟨its,r1,p1,_⟩:=I.tuple ha
 obtain⟨J,B,p2,_⟩:=I.tuple hb
 refine HT.cat_tup p1 p2 (λ z=>hx (r1.nil_iff.mp z)) (λ z=>⟨.ref a,H,I,rfl,q1 (B.nil_iff.mp z)⟩) (λ z=>?_) (by rw[<-r1.length,<-B.length];exact hz)
 refine⟨.ref s.heap.objs.size,_,I.laid (t':=s.toks) (o:=.tup (Y++ys)) (λ b ob q=>ak _ q) (aj _) ?_,rfl,q2 (λ w=>z (B.nil_iff.mpr w)) _ (I.hok.fresh (aj _))⟩
 exact⟨by rw[aL];exact hz,_,r1.append B,i8 _ _⟩
end
noncomputable def ixN (n:Nat)(i:Int):Option Nat:=if 0<=i then(if i<n then some i.toNat else none)else if -(n:Int)<=i then some (i+n).toNat else none
noncomputable def atI {α:Type}(xs:List α)(i:Int):Option α:=(ixN xs.length i).bind λ j=>xs[j]?
theorem aN6 {n:Nat}{i:Int}{j:Nat}(h:ixN n i=some j):seqIndex? i n=some j/\j<n/\-(n:Int)<=i/\i<n:=by
 unfold ixN at h
 by_cases h0:0<=i
 ·rw[if_pos h0]at h
  by_cases h1:i<n
  ·rw[if_pos h1]at h
   have e:i.toNat=j:=aC h
   exact⟨by rw[jt h0 h1,e],by omega,by omega,h1⟩
  ·rw[if_neg h1]at h;cases h
 ·rw[if_neg h0]at h
  by_cases h1:-(n:Int)<=i
  ·rw[if_pos h1]at h
   have e:(i+n).toNat=j:=aC h
   exact⟨by rw[iY (by omega) h1,e],by omega,h1,by omega⟩
  ·rw[if_neg h1]at h;cases h
theorem aA6 {α:Type}{y:List α}{i:Int}{v:α}(h:atI y i=some v):∃ j,seqIndex? i y.length=some j/\y[j]?=some v/\j<y.length/\-(y.length:Int)<=i/\i<y.length:=by
 unfold atI at h
 cases e:ixN y.length i with
 | none=>rw[e]at h;cases h
 | some j =>
  rw[e]at h
  obtain⟨G,B,Y,J⟩:=aN6 e
  exact⟨j,G,h,B,Y,J⟩
def aT0 (b:Expr):Prop:=∀ o i,subscripted b false o i=operate [o,i] (f8 o i)
def IxR (X:Cx)(r:R2):Prop :=
 ∀(value slice:Expr) (pins:List (Addr×Obj)) (s:af) (σ:St) (H:Hp) (x y:V) (v u:Value) (Q:VK),Inv X pins σ H s->RelV x v->RelV y u->r x y H Q ->
  subscripted slice false v u=operate [v,u] (f8 v u)->wpAny (model X.prog X.w) X.A (subscriptTail value slice v u) (EP X pins σ Q) X.xe s
def MtR (X:Cx)(id:String)(r:V->List V->Hp->VK->Prop):Prop :=
 ∀(pins:List (Addr×Obj)) (s:af) (σ:St) (H:Hp) (x:V) (xs:List V) (v:Value) (us:List Value) (Q:VK),Inv X pins σ H s->RelV x v->Vals xs us->r x xs H Q ->
  wpAny (model X.prog X.w) X.A (call (.builtin id) (v::us)) (EP X pins σ Q) X.xe s
section
variable {X:Cx} {a b:Expr} {ta tb:TE} {pos:Pos}
theorem bW6 {r:R2}(Y:IxR X r)(ha:PE X a ta)(hb:PE X b tb)(hs:aT0 b):PE X (.Subscript a b pos) (tOp r ta tb):=by
 intro B s σ H Q I h
 exact Subscript_ (bR7 ha hb I h λ v u s2 x y H2 I2 J G q=>Y a b B s2 σ H2 x y v u Q I2 J G q (hs _ _))
def bX3 (K:ac):R2:=λ x y H Q=>∃ p xs i v,x=.ref p/\y=.int i/\SqL K H p xs/\atI xs i=some v/\Q v H
def bX2 (K:ac):R2:=λ x y H Q=>∃ p xs i v,x=.ref p/\y=.int i/\SqT K H p xs/\atI xs i=some v/\Q v H
def ca4:R2:=λ x y H Q=>∃ z i c,x=.str z/\y=.int i/\z.length<=aH/\atI z.cps.toList i=some c/\Q (.str ⟨#[c]⟩) H
theorem bu0:IxR X (bX3 X.K):=by
 intro a0 J B s σ H x y v u Q I rx ry h hs
 obtain⟨p,xs,i,z,rfl,rfl,hq,he,q⟩:=h
 cases rx
 obtain⟨t,rfl⟩:=ry
 obtain⟨its,r,Z,hz⟩:=I.list hq
 obtain⟨j,G,h2,h3,h4,h5⟩:=aA6 he
 obtain⟨w,ew,Y⟩:=r.get h2
 have hl:=r.length
 have hn:=am3
 have fin:EP X B σ Q w s:=⟨z,H,I,Y,q⟩
 by_cases h0:0<=i
 ·have hj:i.toNat=j:=by
   rw[jt h0 h5]at G
   exact aC G
  exact item_listR Z.isList h0 (by omega) (by rw[hj];simpa using ew) fin hs
 ·have hj:(i+(its.toArray.size:Int)).toNat=j:=by
   rw[iY (by omega) h4]at G
   rw[au,<-hl]
   exact aC G
  exact gb (x:=w) Z.isList.typeIs iZ.lookup
   (wpAny_getItem_list_neg (Q:=λ r s'=>r=w/\EP X B σ Q r s') Z.isList (by omega) (by rw[au]<;>omega) (by omega) (by rw[hj];simpa using ew) ⟨rfl,fin⟩) hs
theorem ix_tup:IxR X (bX2 X.K):=by
 intro Y G B s σ H x y v u Q I rx ry h hs
 obtain⟨p,xs,i,z,rfl,rfl,hq,he,q⟩:=h
 cases rx
 obtain⟨t,rfl⟩:=ry
 obtain⟨its,r,Z,hz⟩:=I.tuple hq
 obtain⟨j,h1,h2,h3,h4,h5⟩:=aA6 he
 obtain⟨w,ew,J⟩:=r.get h2
 have hl:=r.length
 have hn:=am3
 have fin:EP X B σ Q w s:=⟨z,H,I,J,q⟩
 exact gb (x:=w) Z.typeIs bu.lookup
  (getItem_tuple (j:=j) (Q:=λ r s'=>r=w/\EP X B σ Q r s') Z (by omega) (by omega) (by rw[au,<-hl];exact h1) (by simpa using ew) ⟨rfl,fin⟩) hs
theorem ix_str:IxR X ca4:=by
 intro G B Y s σ H x y v u Q I rx ry h hs
 obtain⟨z,i,c,rfl,rfl,hz,Z,q⟩:=h
 obtain⟨t,rfl⟩:=rx
 obtain⟨t',rfl⟩:=ry
 obtain⟨j,J,h2,h3,h4,h5⟩:=aA6 Z
 have hl:z.cps.toList.length=z.length:=by simp[Str.length]
 rw[hl]at J h4 h5
 have hn:=am3
 exact jN (iG s z t) slot_str_getitem.lookup (getItem_str (c:=c) (by
  have e1:decide (i < -(2^63:Int))=false:=decide_eq_false (by omega)
  have e2:decide (i ≥ 2^63)=false:=decide_eq_false (by omega)
  rw[e1,e2,Bool.or_false]) (by rw[J];simpa using h2) ⟨.str ⟨#[c]⟩,H,I.tok _,⟨_,rfl⟩,q⟩) hs
theorem aK2 (its:List Value)(n j:Nat)(u:Value):gd (·.setIfInBounds j u) { cls:=.type "list",data:=.seq its.toArray n }={ cls:=.type "list",data:=.seq (its.set j u).toArray n }:=by
 simp[gd]
theorem Inv.lst {y:List (Addr×Obj)}{σ:St}{H:Hp}{s:af}{p:Addr}{B:List V}(I:Inv X y σ H s)(h:H p=some (.lst B)) :
  ∃(its:List Value) (n:Nat),Vals B its/\s.heap.get? p=some { cls:=.type "list",data:=.seq its.toArray n }/\B.length<=aH:=by
 obtain⟨z,its,n,r,e⟩:=I.hok p _ h
 exact⟨its,n,r,e,z⟩
theorem Inv.lstUpd {y:List (Addr×Obj)}{σ:St}{H:Hp}{s:af}{p:Addr}{J ys:List V}{its its':List Value}{n B:Nat}{f:Obj->Obj}(I:Inv X y σ H s)(h:H p=some (.lst J))
  (ho:s.heap.get? p=some { cls:=.type "list",data:=.seq its.toArray n }) (G:f { cls:=.type "list",data:=.seq its.toArray n }={ cls:=.type "list",data:=.seq its'.toArray B }) (r:Vals ys its') (hz:ys.length<=aH) (t:Nat) :
  Inv X y σ (upd H p (.lst ys)) { s with heap:=s.heap.update p f,toks:=t }:=by
 have e:(s.heap.update p f).get? p=some { cls:=.type "list",data:=.seq its'.toArray B }:=by
  rw[gC f ho (by rw[G]<;>rfl),G]
 refine I.write (x:=p) (e:=p) (by rw[h];trivial) (.inl rfl) (λ b u hb q=>(gf _ _ (bO hb)).trans q) ⟨_,e⟩ ?_
 exact⟨hz,its',B,r,e⟩
def bT4:V->V->V->Hp->(Hp->Prop)->Prop:=λ o i v H Q=>∃ p xs k j,o=.ref p/\i=.int k/\H p=some (.lst xs)/\ixN xs.length k=some j/\Q (upd H p (.lst (xs.set j v)))
theorem be8:bV4 X bT4:=by
 intro y s σ H o i v ov iv u Q I ro ri rv h
 obtain⟨p,Z,k,j,rfl,rfl,hp,hj,q⟩:=h
 cases ro
 obtain⟨t,rfl⟩:=ri
 obtain⟨its,n,r,ho,hz⟩:=I.lst hp
 obtain⟨B,h2,G,J⟩:=aN6 hj
 have hl:=r.length
 have hn:=am3
 have Y:Inv X y σ (upd H p (.lst (Z.set j v))) { s with heap:=s.heap.update p (gd (·.setIfInBounds j u)) } :=
  I.lstUpd hp ho (aK2 its n j u) (r.set rv j) (by rw[br];exact hz) s.toks
 by_cases h0:0<=k
 ·have hk:k.toNat=j:=by
   rw[jt h0 J]at B
   exact aC B
  exact PySem.W.ki_setAt ho h0 (by omega) (by rw[au,<-hl];exact J) (by rw[hk];exact⟨_,Y,q⟩)
 ·have hk:(k+(its.toArray.size:Int)).toNat=j:=by
   rw[iY (by omega) G]at B
   rw[au,<-hl]
   exact aC B
  exact PySem.W.ki_setBack ho (by omega) (by rw[au,<-hl];exact G) (by omega) (by rw[hk];exact⟨_,Y,q⟩)
theorem ax1 (y B:Option Int)(n:Nat):(du y B none n).1=((HT.sIx n 0 y:Nat):Int)/\(du y B none n).2.1=((HT.sIx n n B:Nat):Int)/\(du y B none n).2.2=1:=by
 refine⟨?_,?_,rfl⟩
 ·cases y with
  | none=>simp[du,HT.sIx]
  | some i =>
   simp only[du,HT.sIx,i9,show(1:Int) > 0 by decide,if_true]
   by_cases h:i<0
   ·simp only[h,if_true]<;>omega
   ·simp only[h,if_false]<;>omega
 ·cases B with
  | none=>simp[du,HT.sIx]
  | some i =>
   simp only[du,HT.sIx,i9,show(1:Int) > 0 by decide,if_true]
   by_cases h:i<0
   ·simp only[h,if_true]<;>omega
   ·simp only[h,if_false]<;>omega
theorem as0 (its:List Value)(h y:Option Int):slicePick its.toArray h y none=((its.drop (HT.sIx its.length 0 h)).take (HT.sIx its.length its.length y - HT.sIx its.length 0 h)).toArray:=by
 obtain⟨G,B,J⟩:=ax1 h y its.toArray.size
 unfold slicePick
 rw[G,B,J]
 simp only[sliceRange_one,pick_run,au]<;>rfl
def bX6 (K:ac):V->Option Int->Option Int->Hp->VK->Prop:=λ x lo hi H Q=>∃ a xs,x=.ref a/\SqL K H a xs/\∀ p,H p=none->Q (.ref p) (upd H p (.lst (aL1 xs lo hi)))
theorem bu1:SlR X (bX6 X.K):=by
 intro Z s σ H x v vl vu G J sl Q I rx hs pl pu h
 obtain⟨a,y,rfl,hx,q⟩:=h
 cases rx
 obtain⟨its,r,Y,hz⟩:=I.list hx
 have B:=r.length
 refine⟨"list",_,iZ.lookup,Y.isList.typeIs,?_⟩
 refine wpAny_getItem_list_slice Y.isList hs pl pu .none (by simp) ?_ (by rw[au]<;>omega)
 rw[as0,<-B]
 refine⟨.ref s.heap.objs.size,_,I.laid (t':=s.toks) (o:=.lst (aL1 y G J)) (λ b ob q=>ak _ q) (aj _) ?_,rfl,q _ (I.hok.fresh (aj _))⟩
 exact⟨ao (al9 y G J) hz,_,0,(r.drop (HT.sIx y.length 0 G)).take (HT.sIx y.length y.length J - HT.sIx y.length 0 G),aR _ rfl⟩
theorem at4:ac0 X (.builtin "len") (λ Y H Q=>∃ p ys,Y=[.ref p]/\(SqL X.K H p ys\/SqT X.K H p ys)/\Q (.int ys.length) H):=by
 intro J s σ H Y us Q I r h
 obtain⟨p,ys,rfl,hq,q⟩:=h
 obtain⟨u,rfl,Z⟩:=al5 r
 cases Z
 have hn:=am3
 rcases hq with hq|hq
 ·obtain⟨its,G,B,hz⟩:=I.list hq
  have y:=G.length
  exact Calls.call_len_list B.isList (by simp only[au]<;>omega) ⟨.int ys.length,H,I.tok _,⟨s.toks+1,by rw[au,y]⟩,q⟩
 ·obtain⟨its,G,B,hz⟩:=I.tuple hq
  have y:=G.length
  exact len_tuple B (by simp only[au]<;>omega) ⟨.int ys.length,H,I.tok _,⟨s.toks+1,by rw[au,y]⟩,q⟩
theorem av4:ac0 X (.builtin "len") (λ B H Q=>∃ z,B=[.str z]/\z.length<=aH/\Q (.int z.length) H):=by
 intro y s σ H B us Q I r h
 obtain⟨z,rfl,hz,q⟩:=h
 obtain⟨u,rfl,t,rfl⟩:=al5 r
 have hn:=am3
 exact len_str (by omega) ⟨.int z.length,H,I.tok _,⟨_,rfl⟩,q⟩
theorem ac0.or {f:Value}{r G:List V->Hp->VK->Prop}(h:ac0 X f r)(h':ac0 X f G):ac0 X f (λ B H Q=>r B H Q\/G B H Q):=by
 intro y s σ H B us Q I J q
 rcases q with q|q
 ·exact h y s σ H B us Q I J q
 ·exact h' y s σ H B us Q I J q
theorem at7:ac0 X (.type "list") (λ Z H Q=>∃ p ys,Z=[.ref p]/\(SqL X.K H p ys\/SqT X.K H p ys)/\∀ l,H l=none->Q (.ref l) (upd H l (.lst ys))):=by
 intro J s σ H Z us Q I r h
 obtain⟨p,ys,rfl,hq,q⟩:=h
 obtain⟨u,rfl,rx⟩:=al5 r
 cases rx
 have fin:∀(its:List Value),Vals ys its->ys.length<=aH->∀(h':Heap) (B:Nat),(∀ b o',s.heap.get? b=some o'->h'.get? b=some o') ->
   h'.get? s.heap.objs.size=some { cls:=.type "list",dict:=none,data:=.seq its.toArray B,slots:=#[] }->EP X J σ Q (.ref s.heap.objs.size) { s with heap:=h' }:=λ its y hz h' B kp e =>
  ⟨.ref s.heap.objs.size,_,I.laid (t':=s.toks) kp (aj _) (show ab6 X.prog X.w _ h' _ (.lst ys)from⟨hz,its,B,y,e⟩),rfl,q _ (I.hok.fresh (aj _))⟩
 rcases hq with hq|hq
 ·obtain⟨its,y,Y,hz⟩:=I.list hq
  have G:=y.length
  obtain⟨o,ho,hc,n,hd⟩:=Y.isList
  exact call_list_seq p (.inl rfl) ho hc hd (λ h' B kp e=>fin its y hz h' B kp e) (by simp only[au]<;>omega)
 ·obtain⟨its,y,Y,hz⟩:=I.tuple hq
  have G:=y.length
  obtain⟨o,ho,hc,n,hd⟩:=Y
  exact call_list_seq p (.inr rfl) ho hc hd (λ h' B kp e=>fin its y hz h' B kp e) (by simp only[au]<;>omega)
theorem ap1:ac0 X (.type "tuple") (λ J H Q=>∃ p ys,J=[.ref p]/\((SqL X.K H p ys/\∀ l,H l=none->Q (.ref l) (upd H l (.tup ys)))\/(SqT X.K H p ys/\Q (.ref p) H))):=by
 intro y s σ H J us Q I r h
 obtain⟨p,ys,rfl,h⟩:=h
 obtain⟨u,rfl,rx⟩:=al5 r
 cases rx
 rcases h with⟨hq,q⟩|⟨hq,q⟩
 ·obtain⟨its,B,G,hz⟩:=I.list hq
  have Y:=B.length
  refine call_tuple_list G.isList (λ h' kp=>?_) (by simp only[au]<;>omega)
  have Z:Inv X y σ H { s with heap:=h' }:=I.kept (t':=s.toks) kp
  have I2:Inv X y σ (upd H h'.objs.size (.tup ys)) { s with heap:=h'.push { cls:=.type "tuple",data:=.seq its.toArray } } :=
   Z.laid (t':=s.toks) (λ b o e=>ak _ e) (aj _) (show ab6 X.prog X.w _ _ _ (.tup ys)from⟨hz,its,B,i8 _ _⟩)
  exact⟨.ref h'.objs.size,_,I2,rfl,q _ (Z.hok.fresh (aj _))⟩
 ·obtain⟨its,B,G,hz⟩:=I.tuple hq
  exact call_tuple_same G ⟨.ref p,H,I,rfl,q⟩
def tyV (K:ac)(T:String)(x:V)(H:Hp):Prop:=match x with
 | .str _=>T = "str"
 | .int _=>T = "int"
 | .ref p=>(T = "list"/\∃ xs,SqL K H p xs)\/(T = "tuple"/\∃ o,K.lookup p=some o/\o.cls=.type "tuple"/\o.dict=none) \/
   (T = "dict"/\((∃ kvs,H p=some (.dK kvs))\/∃ kvs,H p=some (.dT kvs)))\/(T = "set"/\∃ S n,H p=some (.set S n))
 | _=>False
theorem bg3 {h:List (Addr×Obj)}{σ:St}{H:Hp}{s:af}{T:String}{x:V}{v:Value}(I:Inv X h σ H s)(r:RelV x v)(y:tyV X.K T x H) :
  s.TypeIs v T/\∀ a,v=.ref a->∃ ob,s.heap.get? a=some ob/\ob.dict=none:=by
 cases x with
 | str z =>
  obtain⟨t,rfl⟩:=r
  cases(show T = "str" from y)
  exact⟨iG s z t,λ _ e=>nomatch e⟩
 | int i =>
  obtain⟨t,rfl⟩:=r
  cases(show T = "int" from y)
  exact⟨gh s i t,λ _ e=>nomatch e⟩
 | ref p =>
  cases r
  rcases y with⟨rfl,J,hq⟩|⟨rfl,o,hk,hc,hd⟩|⟨rfl,hk⟩|⟨rfl,S,n,hk⟩
  ·obtain⟨its,_,G,_⟩:=I.list hq
   refine⟨G.isList.typeIs,λ a e=>?_⟩
   cases e
   obtain⟨o,n,e,c,hd,_⟩:=G
   exact⟨o,e,hd⟩
  ·refine⟨⟨o,I.kIn p o hk,hc⟩,λ a e=>?_⟩
   cases e
   exact⟨o,I.kIn _ o hk,hd⟩
  ·have z:∃ o,s.heap.get? p=some o/\o.ExactDict:=by
    rcases hk with⟨B,hk⟩|⟨B,hk⟩
    ·obtain⟨_,_,_,_,o,_,_,e,ex,_⟩:=I.hok p _ hk
     exact⟨o,e,ex⟩
    ·obtain⟨_,_,_,_,o,_,_,e,ex,_⟩:=I.hok p _ hk
     exact⟨o,e,ex⟩
   obtain⟨o,e,ex⟩:=z
   refine⟨⟨o,e,ex.1⟩,λ a e2=>?_⟩
   cases e2
   exact⟨o,e,ex.2.1⟩
  ·obtain⟨o,_,_,_,e,ex,_⟩:=I.hok p _ hk
   refine⟨⟨o,e,ex.1⟩,λ a e2=>?_⟩
   cases e2
   exact⟨o,e,ex.2.1⟩
 | _=>exact aZ y
def bY0 (K:ac)(T:String)(r:V->List V->Hp->VK->Prop)(to:TE):TE:=λ σ H Q=>to σ H λ x H1=>tyV K T x H1/\r x [] H1 Q
def tBM (K:ac)(T:String)(r:V->List V->Hp->VK->Prop)(to:TE)(t:TA):TE:=λ σ H Q=>to σ H λ x H1=>tyV K T x H1/\t σ H1 λ xs H2=>r x xs H2 Q
variable {o e:Expr} {es:List Expr} {to:TE} {t:TA} {name:Str} {apos cpos:Pos} {T id:String} {r:V->List V->Hp->VK->Prop}
theorem by3 (pa:jO T)(slot:Slot T name id)(J:jk (.builtin id)=pure (.type "method_descriptor"))(hm:MtR X id r)(ho:PE X o to)
  (G:fF o name X.env (eval o X.env)=eval o X.env:=by rfl) (B:(apos.endLine==cpos.line)=true:=by rfl):PE X (.Call (.Attribute o name apos) [] [] cpos) (bY0 X.K T r to):=by
 intro y s σ H Q I h
 refine wpAny_Call_method0_late G B (thn (ho y s σ H _ I h) λ v s1 ⟨x,H1,Y,r1,ty,q1⟩=>?_)
 obtain⟨Z,h2⟩:=bg3 Y r1 ty
 exact⟨T,id,pa,slot,J,Z,h2,gi rfl (PySem.evalArgs_none (hm y s1 σ H1 x [] v [] Q Y r1 .nil q1))⟩
theorem bT1 (pa:jO T)(slot:Slot T name id)(Z:jk (.builtin id)=pure (.type "method_descriptor"))(hm:MtR X id r)(ho:PE X o to)(ha:PA X (e::es) t)
  (J:fF o name X.env (eval o X.env)=eval o X.env:=by rfl)
  (Y:((dC cpos (bo (e::es) X.env)).all (λ x=>!x.1)&&(backToKw cpos (keywordEach [] X.env)).all (λ x=>x.1.isSome)
   && decide ((e::es).length+([]:List jH).length+(if([]:List jH).isEmpty then 0 else 1)<30))=true:=by rfl)
  (G:(apos.endLine==cpos.line)=true:=by rfl) (hs:bo (e::es) X.env=(false,eval e X.env)::bo es X.env:=by rfl) (B:(dC cpos (bo es X.env)).any (·.1)=false:=by rfl) :
  PE X (.Call (.Attribute o name apos) (e::es) [] cpos) (tBM X.K T r to t):=by
 intro y s σ H Q I h
 refine wpAny_Call_method_late J Y G rfl (thn (ho y s σ H _ I h) λ v s1 ⟨x,H1,I1,r1,ty,q1⟩=>?_)
 obtain⟨h1,h2⟩:=bg3 I1 r1 ty
 refine⟨T,id,pa,slot,Z,h1,h2,?_⟩
 have hA:=ha cpos y s1 σ H1 _ I1 q1
 rw[hs]at hA ⊢
 refine gi (by show(false||(dC cpos (bo es X.env)).any (·.1))=false;rw[B]<;>rfl) (gO ?_)
 exact thn hA λ us s2 ⟨vs,H2,I2,r2,q2⟩=>hm y s2 σ H2 x vs v us Q I2 r1 r2 q2
end
def MtM (X:Cx)(id:String)(r:V->List V->Hp->VK->Prop):Prop :=
 ∀(pins:List (Addr×Obj)) (s:af) (σ:St) (H:Hp) (x:V) (xs:List V) (v:Value) (us:List Value) (Q:VK),Inv X pins σ H s->RelV x v->Vals xs us->r x xs H Q ->
  wpAny (model X.prog X.w) X.A (call (.builtin id) (v::us)) (EP X pins σ Q) X.xe s
theorem Vals.one:∀ {x:V} {us:List Value},Vals [x] us->∃ u,us=[u]/\RelV x u
 | _,_,.cons r .nil=>⟨_,rfl,r⟩
theorem Vals.zero:∀ {us:List Value},Vals [] us->us=[]
 | _,.nil=>rfl
theorem Vals.dropLast {y:List V}{us:List Value}(h:Vals y us):Vals y.dropLast us.dropLast:=by
 induction h with
 | nil=>exact .nil
 | cons r t ih =>
  cases t with
  | nil=>exact .nil
  | cons q t'=>exact .cons r ih
theorem Vals.reverse {y:List V}{us:List Value}(h:Vals y us):Vals y.reverse us.reverse:=by
 induction h with
 | nil=>exact .nil
 | cons r t ih=>rw[dG,dG];exact Vals.append ih (.cons r .nil)
theorem Vals.rep {y:List V}{us:List Value}(h:Vals y us):∀ k:Nat,Vals (ar k y).flatten (ar k us).flatten
 | 0=>.nil
 | k+1=>by
  rw[bC,bC,bZ,bZ]
  exact Vals.append h (Vals.rep h k)
theorem aL8 {α:Type}(l:List α):l.eraseIdx (l.length - 1)=l.dropLast:=by
 induction l with
 | nil=>rfl
 | cons a r ih =>
  cases r with
  | nil=>rfl
  | cons b r =>
   have e:(a::b::r).length - 1=((b::r).length - 1)+1:=by
    have y:(a::b::r).length=r.length+2:=rfl
    have h:(b::r).length=r.length+1:=rfl
    omega
   rw[e,List.eraseIdx_cons_succ,ih]
   all_goals rfl
theorem at2 (its:List Value):∀(k:Nat) (h:List Value),
  jP (λ x1 y=>x1++y) h.toArray (ar k its.toArray)=(h++(ar k its).flatten).toArray
 | 0,h=>by simp
 | k+1,h=>by
  have e:h.toArray++its.toArray=(h++its).toArray:=by simp
  have e2:(h++its)++(ar k its).flatten=h++(ar (k+1) its).flatten:=by
   rw[bC,bZ,bL]
  rw[<-e2,<-at2 its k (h++its),<-e,bC,bU]
section
variable {X:Cx} {pins:List (Addr×Obj)} {σ:St} {H:Hp} {s:af} {l b:Addr} {xs ys zs:List V}
theorem Inv.lset {its its':List Value}{n:Nat}{f:Array Value->Array Value}{t':Nat}(I:Inv X pins σ H s)(B:H l=some (.lst xs))
  (e:s.heap.get? l=some { cls:=.type "list",data:=.seq its.toArray n }) (h:f its.toArray=its'.toArray) (hv:Vals ys its') (hz:ys.length<=aH) :
  Inv X pins σ (upd H l (.lst ys)) { s with heap:=s.heap.update l (gd f),toks:=t' }:=by
 have q:=PySem.IsL.update e f
 rw[h]at q
 refine I.write (x:=l) (e:=l) (by rw[B];exact trivial) (.inl rfl) (λ G u hb y=>(gf s.heap (gd f) (bO hb)).trans y) ⟨_,q⟩ ?_
 exact⟨hz,its',_,hv,q⟩
theorem Inv.lnew {its:List Value}{t':Nat}(I:Inv X pins σ H s)(hv:Vals ys its)(hz:ys.length<=aH) :
  Inv X pins σ (upd H s.heap.objs.size (.lst ys)) { s with heap:=s.heap.push { cls:=.type "list",data:=.seq its.toArray },toks:=t' } :=
 I.laid (λ _ _ q=>ak _ q) (aj _) ⟨hz,its,0,hv,aR _ rfl⟩
theorem Inv.fresh (I:Inv X pins σ H s):H s.heap.objs.size=none:=I.hok.fresh (aj _)
theorem Inv.lstM (I:Inv X pins σ H s)(h:H l=some (.lst xs)):xs.length<=aH/\∃(its:List Value) (n:Nat),Vals xs its/\xs.length=its.length/\s.heap.get? l=some { cls:=.type "list",data:=.seq its.toArray n }:=by
 obtain⟨z,its,n,r,e⟩:=I.hok l _ h
 exact⟨z,its,n,r,r.length,e⟩
theorem aZ9 {n:Nat}(h:n<=aH):de n=false:=by
 unfold de
 exact decide_eq_false (by omega)
end
section
variable {X:Cx}
def bt8:V->List V->Hp->VK->Prop:=λ x vs H Q=>∃ l xs y,x=.ref l/\vs=[y]/\H l=some (.lst xs)/\xs.length<aH/\Q .non (upd H l (.lst (xs++[y])))
theorem av0:MtM X "list.append" bt8:=by
 intro G s σ H x vs v us Q I Y Z h
 obtain⟨l,xs,y,rfl,rfl,B,hz,q⟩:=h
 cases Y
 obtain⟨u,rfl,J⟩:=Z.one
 obtain⟨z,its,n,r,hl,e⟩:=I.lstM B
 refine eX gD ⟨_,e,rfl⟩ F.entry_list_append (F.args_list_append_2 _ _) (PySem.list_append l its.toArray n u (by rw[au];omega)) ⟨e,?_⟩
 refine⟨.non,_,I.lset (its':=its++[u]) B e (by simp) (r.append (.cons J .nil)) ?_,rfl,q⟩
 rw[aL,cN]
 omega
def ca7:V->List V->Hp->VK->Prop:=λ x vs H Q=>∃ l xs y,x=.ref l/\vs=[]/\H l=some (.lst xs)/\xs[xs.length - 1]?=some y/\Q y (upd H l (.lst xs.dropLast))
theorem bF8:MtM X "list.pop" ca7:=by
 intro Y s σ H x vs v us Q I rx rv h
 obtain⟨l,xs,y,rfl,rfl,J,hy,q⟩:=h
 cases rx
 have B:=rv.zero
 subst B
 obtain⟨z,its,n,r,hl,e⟩:=I.lstM J
 obtain⟨u,hu,Z⟩:=r.get hy
 have G:its.toArray[its.toArray.size - 1]?=some u:=by
  show its.toArray[its.length - 1]?=some u
  rw[<-gE,<-hl]
  exact hu
 refine eX iH ⟨_,e,rfl⟩ F.entry_list_pop (F.args_list_pop_1 _) (MeetsSeq.list_pop_last l its.toArray n u G (by rw[au];omega)) ⟨e,?_⟩
 refine⟨y,_,I.lset (its':=its.dropLast) J e ?_ r.dropLast ?_,Z,q⟩
 ·show its.toArray.eraseIdxIfInBounds (its.toArray.size - 1)=its.dropLast.toArray
  rw[au,List.eraseIdxIfInBounds_toArray,aL8]
 ·rw[List.length_dropLast]
  omega
def cc5:R2:=λ x y H Q=>∃ l b xs zs,x=.ref l/\y=.ref b/\H l=some (.lst xs)/\H b=some (.lst zs)/\xs.length+zs.length<=aH/\∀ p,H p=none->Q (.ref p) (upd H p (.lst (xs++zs)))
theorem bE4:OpR X (bQ .Add) cc5:=by
 intro G s σ H x y v u Q I Z Y h
 obtain⟨l,b,xs,zs,rfl,rfl,hH,hB,hz,q⟩:=h
 cases Z
 cases Y
 obtain⟨z,its,n,r,hl,e⟩:=I.lstM hH
 obtain⟨z2,B,n2,r2,J,e2⟩:=I.lstM hB
 refine PySem.P.add_list e e2 ?_ (by rw[au,au];omega)
 have ea:its.toArray++B.toArray=(its++B).toArray:=by simp
 rw[ea]
 exact⟨.ref _,_,I.lnew (t':=s.toks) (r.append r2) (by rw[aL];omega),rfl,q _ I.fresh⟩
def cb0:R2:=λ x y H Q=>∃ l k xs,x=.ref l/\y=.int k/\H l=some (.lst xs)/\-(2^63)<=k/\k<2^63/\xs.length*k.toNat<=aH /\
 ∀ p,H p=none->Q (.ref p) (upd H p (.lst (ar k.toNat xs).flatten))
theorem bo6 {α:Type}(h:List α)(k:Nat):(ar k h).flatten.length=k*h.length:=by
 induction k with
 | zero=>simp
 | succ k ih=>rw[bC,bZ,aL,ih,Nat.succ_mul,i0]
theorem bL5:OpR X (bQ .Mult) cb0:=by
 intro a0 s σ H x y v u Q I rx ry h
 obtain⟨l,k,xs,rfl,rfl,hH,h1,h2,hz,q⟩:=h
 cases rx
 obtain⟨t,rfl⟩:=ry
 obtain⟨z,its,n,r,hl,e⟩:=I.lstM hH
 have Y:its.toArray.size*k.toNat<=aH:=by rw[au,<-hl];exact hz
 have G:¬ its.toArray.size*k.toNat > (2^63 - 1) / 8:=by
  have:(aH:Nat)<=(2^63 - 1) / 8:=by decide
  omega
 have J:¬(!Builtin.List.listFitsIndex k)=true:=by
  rw[fitsIndex_both h1 h2]
  exact aQ
 have B:¬ de (its.toArray.size*k.toNat)=true:=by
  rw[aZ9 Y]
  exact aQ
 have Z:jP (λ x1 x2=>x1++x2) #[] (ar (if its.toArray.isEmpty=true then 0 else k.toNat) its.toArray)=(ar k.toNat its).flatten.toArray:=by
  have f0:∀ m:Nat,jP (λ x1 x2=>x1++x2) #[] (ar m its.toArray)=(ar m its).flatten.toArray:=λ m=>by
   have:=at2 its m []
   rw[eA]at this
   exact this
  rw[f0]
  cases its with
  | nil=>simp
  | cons a r'=>rw[if_neg (by simp)]
 refine fc (T := "list") (U := "int") (by decide) ⟨_,e,rfl⟩ (λ s'=>gh s' k t) noFill_list_mul iI dk repeat_list hV.lookup
  (eX dk (gh s k t) hX (gP _ _) (int___rmul___int_list k t l its.toArray n)
   ⟨e,rfl,⟨_,e,rfl⟩,eX F.slot_list_mul ⟨_,e,rfl⟩ F.entry_list_mul (F.args_list_mul_2 _ _) (AutoListH.list___mul___list_int_3 l its.toArray n k t J G B) ⟨e,?_⟩⟩)
 rw[Z]
 exact⟨.ref _,_,I.lnew (t':=s.toks) (r.rep k.toNat) (by rw[bo6,Nat.mul_comm];exact hz),rfl,q _ I.fresh⟩
end
section
variable {prog:aD} {w:World} {A:aP} {E:Value->af->Prop} {s:af}
end
section
variable {X:Cx}
end
end L2
end
noncomputable section
namespace Att
open PySem PySem.W PySem.Calls PyProof.Rows
theorem ints_of_wellAll {P:Params}{h:Heap}:∀(ns:List Int) (vs:List Value),WellAll P h vs (ns.map WData.int)->jI vs ns:=by
 intro ns
 induction ns with
 | nil =>
  intro vs w
  rw[cr]at w
  cases w
  exact .nil
 | cons n ns ih =>
  intro vs w
  rw[aI]at w
  cases w with
  | cons a b =>
   cases a
   exact .cons _ _ (ih _ b)
theorem script_of {l:OpenLaw}{n:Nat}(hn:l.most=some n){P:Params}{h:Heap}{args:List WData}{y:List Value}
  (B:l.row.toRowW.claim.pre args=true) (Z:WellAll P h y args) :
  ∃ a vs ns,y=[Value.ref a]/\args=[WData.list (ns.map WData.int)]/\h.get? a=some { cls:=.type "list",data:=.seq vs.toArray }/\jI vs ns/\ns.length<=n:=by
 have a0:WShape.hasAll [] args [.list .int]=true:=(pre_splitW B).1
 have hc:l.pre.holds [] { args:=args }=true:=(pre_splitW B).2
 obtain⟨d,r,rfl,h1,h2⟩:=hasAllW_cons a0
 obtain rfl:=hasAllW_nil h2
 obtain⟨xs,rfl,h3⟩:=hasW_list h1
 obtain⟨ns,rfl⟩:=items_int h3
 have G:ns.length<=n:=by
  unfold OpenLaw.pre at hc
  have J:(WTm.not (.lt (.lit (.int (n:Int))) (.len (.arg 0)))).holds [] { args:=[.list (ns.map .int)] }=true:=by
   have J:=(holds_andW hc).1
   rw[hn]at J
   exact J
  have Y:=condW_of J (w_not (w_lt w_lit (w_len_list (w_arg rfl))))
  rw[aE]at Y
  refine jl λ q=>?_
  have q':(n:Int)<((ns.length:Nat):Int):=by omega
  first
   | (rw[decide_eq_true q']at Y;exact absurd Y (by decide))
   | (simp at Y;omega)
 cases Z with
 | cons w1 w2 =>
  cases w2
  cases w1 with
  | list ho hall=>exact⟨_,_,ns,rfl,rfl,ho,ints_of_wellAll ns _ hall,G⟩
theorem post_true (l:OpenLaw)(args:List WData):l.row.toRowW.claim.post args (.bool true) args=true :=
 postW_of (r:=l.row.toRowW) (X:=(true==true))
  (show WShape.has [] (.bool true) .bool=true by first|rfl|decide|simp[WShape.has,WShape.arms,WShape.armsAll])
  (show(WTm.eq .res (.lit (.bool true))).value [] { args:=args,res:=some (.bool true),after:=args }=some (.bool (true==true))from w_eq_bool (w_res rfl) w_lit) rfl
theorem attach_call {l:OpenLaw}{n:Nat}{q:aD}{loose:List Str}{XP:(Str->Option Value)->Heap->Prop}{YP:World->Heap->Prop}{d:DefRec}
  (hn:l.most=some n) (a2:d.params.defaults=[])
  (call:∀(w:World) (s₀ h:af) (mg mb:Str->Option Value) (fa:Addr) (o:Obj) (pm cd y:Value) (a:Addr) (vs:List Value) (ns:List Int),
   Ground q loose [] XP w s₀ mg mb h.heap->YP w h.heap ->
   h.heap.get? fa=some o->o.data=.func (docDef d.name d.params d.body d.scope pm cd y)->h.heap.CodeRec cd d.name->mg d.name=some (.ref fa) ->
   h.heap.get? a=some { cls:=.type "list",data:=.seq vs.toArray }->jI vs ns->ns.length<=n->h.gens=#[] ->
   fX (model l.prog w) g8 (.call (.ref fa) ⟨[.ref a],[]⟩) (λ r s'=>r=.ok (.ret (.bool true))/\OldK h.heap s'.heap/\s'.os=h.os/\eJ s'.gens) h) :
  WalkO q loose XP YP l.row.toRowW d [] (λ f vs=>jK f vs):=by
 intro w s₀ h mg mb G Y fa o pm cd y dV kV ho hd a3 hD a1 hg args a5 as a0 a6 b0 a4 b1
 obtain rfl:dV=.none:=Dflts.none hD a2
 obtain rfl:kV=.none:=Dflts.noKw hD
 obtain⟨a,vs,ns,rfl,rfl,J,B,Z⟩:=script_of hn a0 a4
 refine enter_call (eM (call w s₀ h mg mb fa o pm cd y a vs ns G Y ho (fd_plain hd) a3 a1 J B Z hg) λ r s' hq=>?_)
 obtain⟨rfl,h2,h3,h4⟩:=hq
 exact⟨.inl ⟨.bool true,.bool true,[],rfl,λ _=>rfl,.bool true,post_true l _,λ _=>⟨List.Pairwise.nil,λ _ hm=>(nomatch hm)⟩⟩,h2,h3,h4⟩
section
variable {prog:aD} {w:World} {A:aP} {E:Value->af->Prop} {s:af} {K:Frag}
end
end Att
noncomputable section
namespace L2
open PySem PySem.Spec PyProof.Rows
theorem at1:∀ {vs:List Value} {ns:List Int},jI vs ns->Vals (ns.map V.int) vs
 | _,_,.nil=>.nil
 | _,_,.cons n t h=>.cons ⟨t,rfl⟩ (at1 h)
noncomputable def defArgs (s:Stmt):a9:=match s with
 | .FunctionDef _ a _ _ _ _ _ _ _ _=>a
 | _=>{ posonlyargs:=[],args:=[],vararg:=none,kwonlyargs:=[],kw_defaults:=[],kwarg:=none,defaults:=[] }
noncomputable def zC (s:Stmt):List Stmt:=match s with
 | .FunctionDef _ _ b _ _ _ _ _ _ _=>b
 | _=>[]
noncomputable def defScope (s:Stmt):Scope:=match s with
 | .FunctionDef _ _ _ _ _ _ sc _ _ _=>sc
 | _=>{ kind:=.function,names:=[],isGenerator:=false,isCoroutine:=false }
noncomputable abbrev CX0:CXT:=λ _ _ _ _ _ _=>False
abbrev E0:XK:=λ _ _ _=>False
theorem bE2 {X:Cx}:af6 CX0 X E0:=λ _ _ _ _ _ _ _ h=>h.elim
structure Fun (K:ac)(x qual:Str)(st:Stmt)(f:Addr)(fd:bv):Prop where
 ex:∃(oc:Value) (od:Option Addr) (kV doc pm:Value) (an:Option Addr) (cdv ct:Value) (osl:Array (Option Value)),
  fd=cF x qual (defArgs st) (zC st) (defScope st) .none kV doc pm an cdv ct/\K.lookup f=some ⟨oc,od,.func fd,osl⟩/\eV K cdv qual=true
 kp:bR K (.ref f)=true
section
variable {P:aD} {w:World} {K:ac} {mg:Str->Option Value} {base:Heap}
theorem Fun.ok {x qual:Str}{st:Stmt}{f:Addr}{Z:bv}{N ps:List Str}{k:Nat}{sp:Sp}(F:Fun K x qual st f Z)(S:FnScope N ps (defScope st))(len:∀ vs H Q E,sp vs H Q E->vs.length=ps.length)
  (G:∀(B:Value) (A:aP) (y:List Env) (s:af) (H:Hp) (vs:List V) (Q:VK) (E:XK),Room k (A.deeper (ef qual (defScope st) s.heap.objs.size f B))->sp vs H Q E ->
   ∃ t,PSs (as7 CX0 P w K mg base N qual (defScope st) f B A y s H E).nox (zC st) t/\t { nx:=λ _ H'=>Q .non H',rt:=Q } (ae7 N vs) H):FnOk P w K mg base CX0 (k+1) f Z ps sp:=by
 obtain⟨oc,od,kV,a0,pm,an,B,ct,a1,rfl,lk,Y⟩:=F.ex
 refine bq7 lk Y S len λ A y s H vs Q E hr J=>?_
 obtain⟨t,h,q⟩:=G B A y s H vs Q E hr J
 exact⟨t,h.nox,q⟩
theorem Fun.binds {x qual:Str}{st:Stmt}{f:Addr}{Y:bv}{ps:List Str}(F:Fun K x qual st f Y)
  (h:∀(kV B J:Value) (G:Option Addr) (y ct:Value) (us:List Value),us.length=ps.length->d4 (cF x qual (defArgs st) (zC st) (defScope st) .none kV B J G y ct) ⟨us,[]⟩=pure (ps.zip us)):Binds K Y ps []:=by
 obtain⟨oc,od,kV,B,J,G,y,ct,a0,rfl,lk,Z⟩:=F.ex
 exact .all (h kV B J G y ct)
theorem bj7 {x qual:Str}{st:Stmt}{f:Addr}{oc:Value}{od G:Option Addr}{B:Array (Option Value)}{kV y J h ct:Value}(l:K.lookup f=some ⟨oc,od,.func (cF x qual (defArgs st) (zC st) (defScope st) .none kV y J G h ct),B⟩)
  (c:eV K h qual=true) (k:bR K (.ref f)=true):Fun K x qual st f (cF x qual (defArgs st) (zC st) (defScope st) .none kV y J G h ct):=⟨⟨oc,od,kV,y,J,G,h,ct,B,rfl,l,c⟩,k⟩
end
theorem bF7 {A:aP}{k:Nat}(h:Room k A):A.units+1<cLine:=Nat.lt_of_le_of_lt (Nat.add_le_add_left (by decide:1<=64) _) h.units
section
variable {X:Cx}
theorem pv (i:Nat){x:Str}{pos:Pos}(hN:X.N[i]?=some x:=by rfl)(hv:Vis X.env.scope x:=by first|exact Or.inl rfl|exact Or.inr (Or.inl rfl)|exact Or.inr (Or.inr rfl))(hd:(x==("__debug__":Str))=false:=by decide)
  (h:(x==("__classdict__":Str))=false:=by decide):PE X (.Name x pos) (aX0 i):=at0 hN hv hd h
end
theorem cb4 {A B:Prop}(h:B):if false=true then A else B:=by
 rw[if_neg aQ]
 exact h
theorem iteT {A B:Prop}(h:A):if true=true then A else B:=by
 rw[if_pos rfl]
 exact h
def ad2 (H H':Hp):Prop:=∀ b o,H b=some o->H' b=some o
theorem ad2.refl (H:Hp):ad2 H H:=λ _ _ h=>h
theorem ad2.trans {H y H2:Hp}(a:ad2 H y)(b:ad2 y H2):ad2 H H2:=λ c o h=>b c o (a c o h)
theorem aM3 {prog:aD}{w:World}{A:aP}{R:jM->af->Prop}{s:af}{J y iter:Expr}{B:List Expr}{scope:Scope}{pos:Pos}{it G:Value}{env:Env}(I:Nat->af->Prop)
  (turn:∀ n s,I n s->wpAny (model prog w) A (pyNext it) (λ r Z=>match r with
   | none=>R (.ok .next) Z
   | some v=>wpAny (model prog w) A (d9 y it v) (λ _ Y=>wpAny (model prog w) A (fW y env v) (λ _ s₂ =>
     wpAny (model prog w) A (forIn B true λ c r=>if r=true then do let ok <- dj c env (eval c env);pure (ForInStep.yield ok)else pure (ForInStep.yield r)) (λ ok s₃ =>
      if ok=true then wpAny (model prog w) A (eval J env) (λ x s₄ =>
       wpAny (model prog w) A (call (.builtin "list.append") [G,x]) (λ _ s₅=>∃ m,m<n/\I m s₅) (i3 (model prog w) A env λ e s'=>R (.error e) s') s₄) (i3 (model prog w) A env λ e s'=>R (.error e) s') s₃
      else ∃ m,m<n/\I m s₃) (i3 (model prog w) A env λ e s'=>R (.error e) s') s₂) (i3 (model prog w) A env λ e s'=>R (.error e) s') Y) (i3 (model prog w) A env λ e s'=>R (.error e) s') Z) (i3 (model prog w) A env λ e s'=>R (.error e) s') s)
  (n:Nat) (h:I n s) :
  fX (model prog w) A (.compLoop (.ListComp J [⟨y,iter,B,0⟩] scope pos) 0 it G env) R s:=by
 refine codeAny_loop rfl I (λ n s hI=>?_) n h
 show wpAny _ A ((compTurn (.ListComp J [⟨y,iter,B,0⟩] scope pos) 0 it G env).onRaise (λ x=>do jm x env;theTreesLotGoes x)) _ _ s
 refine wpAny_noted ?_
 rw[compTurn_list]
 refine ah (ik (ah (bz (turn n s hI) (λ r Z h₁=>?_) λ _ _ h'=>h')))
 cases r with
 | none=>exact aA h₁
 | some v =>
  refine ah (bz h₁ (λ _ Y a0=>?_) λ _ _ h'=>h')
  refine ah (bz a0 (λ _ s₂ h₂=>ah (bz h₂ (λ ok s₃ h₃=>?_) λ _ _ h'=>h')) λ _ _ h'=>h')
  cases ok with
  | false=>exact aA ⟨rfl,h₃⟩
  | true =>
   exact ah (ah (bz h₃ (λ x s₄ h₄=>ah (bz h₄ (λ _ s₅ h₅=>aA (aA ⟨rfl,h₅⟩)) λ _ _ h'=>h')) λ _ _ h'=>h'))
noncomputable def ad3 (cells:List (Str×Addr)):List (Str×bJ)->List (Str×Addr)->List (Str×Addr)
 | [],acc=>acc
 | (n,k)::r,acc=>ad3 cells r (if k==.free then(match cells.lookup n with|some c=>(n,c)::acc|none=>acc)else acc)
theorem af4 {env:Env}:∀(names:List (Str×bJ)) (B:List (Str×Addr)),(∀ y∈names,y.2=.free->∃ c,env.cells.lookup y.1=some c) ->
  (forIn names B λ(x:Str×bJ) (cs:List (Str×Addr))=>(if x.2==.free then do let c <- cellOf env x.1;pure (ForInStep.yield ((x.1,c)::cs))else pure (ForInStep.yield cs):Sem (ForInStep (List (Str×Addr)))))=pure (ad3 env.cells names B)
 | [],B,_=>by rw[gQ];rfl
 | (n,k)::r,B,h=>by
  have G:=λ a=>af4 r a λ y hy=>h y (ai _ hy)
  rw[jy]
  unfold ad3
  cases e:(k==NameKind.free)with
  | false =>
   simp only[bf,if_false]
   exact G B
  | true =>
   have hk:k=.free:=by simpa using e
   obtain⟨c,hc⟩:=h (n,k) aw hk
   have e1:cellOf env n=pure c:=by unfold cellOf;rw[hc]
   simp only[if_true,e1,hc]
   exact G _
theorem qf {scope:Scope}{env:Env}(h:∀ y∈scope.names,y.2=.free->∃ c,env.cells.lookup y.1=some c):closureFor scope env=pure (ad3 env.cells scope.names []):=by
 have:=af4 (env:=env) scope.names [] h
 show(forIn scope.names [] (λ(x:Str×bJ) (cs:List (Str×Addr))=>(if x.2==.free then do let c <- cellOf env x.1;pure (ForInStep.yield ((x.1,c)::cs))else pure (ForInStep.yield cs):Sem (ForInStep (List (Str×Addr))))) >>= λ cs=>pure cs)=_
 rw[this]
 rfl
theorem clOf_mem {cells:List (Str×Addr)}{n:Str}{c:Addr}:∀ {names:List (Str×bJ)} {B:List (Str×Addr)},(n,c)∈ad3 cells names B->cells.lookup n=some c\/(n,c)∈B
 | [],_,h=>.inr h
 | (m,k)::r,B,h=>by
  unfold ad3 at h
  rcases clOf_mem h with z|z
  ·exact .inl z
  ·cases e:(k==NameKind.free)with
   | false=>simp only[e,bf,if_false]at z;exact .inr z
   | true =>
    simp only[e,if_true]at z
    cases q:cells.lookup m with
    | none=>rw[q]at z;exact .inr z
    | some d =>
     rw[q]at z
     rcases ay.mp z with y|y
     ·cases y;exact .inl q
     ·exact .inr y
theorem aG4 {cells:List (Str×Addr)}{n:Str}{c:Addr}(hc:cells.lookup n=some c):∀ {names:List (Str×bJ)} {y:List (Str×Addr)},((n,NameKind.free)∈names\/(n,c)∈y)->(n,c)∈ad3 cells names y
 | [],_,h=>by rcases h with h|h;(exact absurd h (by simp));exact h
 | (m,k)::r,y,h=>by
  unfold ad3
  refine aG4 hc ?_
  rcases h with h|h
  ·rcases ay.mp h with e|h
   ·cases e
    right
    simp[hc]
   ·exact .inl h
  ·right
   cases e:(k==NameKind.free)with
   | false=>simpa using h
   | true =>
    simp only[if_true]
    cases q:cells.lookup m with
    | none=>exact h
    | some d=>exact ai _ h
theorem af7 {α:Type}{n:Str}{c:α}:∀ {l:List (Str×α)},(n,c)∈l->(∀ d,(n,d)∈l->d=c)->l.lookup n=some c
 | (m,d)::r,h,u=>by
  rw[aX]
  cases e:n==m with
  | true =>
   have e':=beq_iff_eq.mp e
   subst e'
   rw[u d aw]
  | false =>
   rcases ay.mp h with z|z
   ·cases z;simp at e
   ·exact af7 z λ d' h'=>u d' (ai _ h')
theorem qo {cells:List (Str×Addr)}{n:Str}{c:Addr}{names:List (Str×bJ)}(hc:cells.lookup n=some c)(h:(n,NameKind.free)∈names):(ad3 cells names []).lookup n=some c:=by
 refine af7 (aG4 hc (.inl h)) λ d hd=>?_
 rcases clOf_mem hd with z|z
 ·rw[hc]at z;exact(aC z).symm
 ·exact absurd z (by simp)
theorem zh:∀(names:List (Str×bJ)) (n:Nat) (h:List (Str×Addr)),aK n names h=aK n names []++h
 | [],_,h=>by simp[aK]
 | (x,k)::r,n,h=>by
  unfold aK
  split
  ·rw[zh r (n+1) ((x,n)::h),zh r (n+1) [(x,n)]]
   simp
  ·exact zh r n h
theorem zF:∀ {names:List (Str×bJ)} {n:Nat} {B:List (Str×Addr)} {x:Str} {c:Addr},(x,c)∈aK n names B->(x,NameKind.cell)∈names\/(x,c)∈B
 | [],_,_,_,_,h=>.inr h
 | (y,k)::r,n,B,x,c,h=>by
  unfold aK at h
  split at h
  ·rename_i hk
   rcases zF h with z|z
   ·exact .inl (ai _ z)
   ·rcases ay.mp z with e|z
    ·cases e
     have:k=.cell:=by simpa using hk
     subst this
     exact .inl aw
    ·exact .inr z
  ·rcases zF h with z|z
   ·exact .inl (ai _ z)
   ·exact .inr z
theorem zM {α:Type}(x:Str):∀(l r:List (Str×α)),(l++r).lookup x=(l.lookup x).or (r.lookup x)
 | [],r=>by simp
 | (y,v)::l,r=>by
  rw[jn,aX,aX]
  cases x==y with
  | true=>rfl
  | false=>exact zM x l r
noncomputable def z9 (N':List Str)(src:List (Option Nat))(scope:Scope)(XN:List Str)(xs:Scope):Bool :=
 (scope.kind==.function) &&
 (scope.names.all λ y=>!(y.2==.free)||(xs.names.lookup y.1==some .cell||xs.names.lookup y.1==some .free)) &&
 (scope.names.all λ y=>!(y.2==.local)||scope.names.lookup y.1==some .local) &&
 (scope.names.all λ y=>!(y.2==.cell)||(scope.names.all λ z=>!(z.1==y.1)||z.2==.cell)) &&
 (src.length==N'.length) &&
 ((N'.zip src).all λ y=>match y.2 with|none=>true|some j=>XN[j]?==some y.1&&scope.names.lookup y.1==some .free)
structure CompCk (N':List Str)(src:List (Option Nat))(scope:Scope)(XN:List Str)(xs:Scope):Prop where
 kind:scope.kind=.function
 fr:∀ y∈scope.names,y.2=.free->xs.names.lookup y.1=some .cell\/xs.names.lookup y.1=some .free
 loc:∀ y∈scope.names,y.2=.local->scope.names.lookup y.1=some .local
 cel:∀ y∈scope.names,y.2=.cell->∀ z∈scope.names,z.1=y.1->z.2=.cell
 len:src.length=N'.length
 sr:∀(i j:Nat) (x:Str),src[i]?=some (some j)->N'[i]?=some x->XN[j]?=some x/\scope.names.lookup x=some .free
theorem bh9 {B:List Str}{src:List (Option Nat)}{scope:Scope}{J:List Str}{G:Scope}(h:z9 B src scope J G=true):CompCk B src scope J G:=by
 unfold z9 at h
 simp only[ag]at h
 obtain⟨⟨⟨⟨⟨h1,h2⟩,h3⟩,h4⟩,Y⟩,h6⟩:=h
 refine⟨by simpa using h1,λ y hy e=>?_,λ y hy e=>?_,λ y hy e z hz Z=>?_,by simpa using Y,λ i j x e1 e2=>?_⟩
 ·have:=aG.mp h2 y hy
  simpa [e]using this
 ·have:=aG.mp h3 y hy
  simpa [e]using this
 ·have:=aG.mp h4 y hy
  simp only[e,beq_self_eq_true,Bool.not_true,iu]at this
  have:=aG.mp this z hz
  simpa [Z]using this
 ·have hm:(x,some j)∈B.zip src:=by
   refine bp (i:=i) ?_
   rw[List.getElem?_zip_eq_some]
   exact⟨e2,e1⟩
  have:=aG.mp h6 _ hm
  simpa using this
noncomputable abbrev zQ (X:Cx)(N':List Str)(scope:Scope)(C:Addr)(cells:List (Str×Addr))(s:af)(H:Hp)(ex:List Addr):Cx where
 prog:=X.prog
 w:=X.w
 K:=X.K
 mg:=X.mg
 base:=X.base
 A:=X.A
 N:=N'
 s₀:=s
 H₀:=H
 env:={ scope:=dX scope X.env,locals:=C,globals:=X.env.globals,cells:=cells,qual:=X.env.qual,func:=none,code:=X.env.code,frame:=X.env.frame,builtins:=X.env.builtins }
 outer:=X.stack
 stack:=X.stack
 ex:=ex
 fn:=λ x=>scope.names.lookup x==some .cell
 calm:=X.calm
 pn:=[]
 xe:=λ _ _=>False
def PIf (X:Cx)(ifs:List Expr)(t:TT):Prop :=
 ∀(pins:List (Addr×Obj)) (s:af) (σ:St) (H:Hp) (Q:Bool->Hp->Prop),Inv X pins σ H s->t σ H Q ->
  wpAny (model X.prog X.w) X.A (forIn ifs true λ c r=>if r=true then do let ok <- dj c X.env (eval c X.env);pure (ForInStep.yield ok)else pure (ForInStep.yield r)) (TP X pins σ Q) X.xe s
def cb9:TT:=λ _ H Q=>Q true H
theorem bu8 {X:Cx}:PIf X [] cb9:=λ _ _ _ H _ I h=>wpAny_tests_nil ⟨H,I,h⟩
theorem bv9 {X:Cx}{c:Expr}{t:TT}(h:PT X c t):PIf X [c] t:=λ y s σ H Q I hw=>wpAny_tests_one (h y s σ H Q I hw)
noncomputable def au3 (src:List (Option Nat))(σ:St):St:=src.map λ o=>match o with|none=>none|some j=>(σ[j]?).join
def tComp (src:List (Option Nat))(wi:TI)(g:TG)(tc:TT)(te:TE):TE:=λ σ H Q=>wi σ H λ J H1=>∀ D,H1 D=none ->
 ∃ W:Nat->Nat->St->Hp->Prop,(∃ m,W 0 m (au3 src σ) (upd H1 D (.lst [])))/\∀ i m σ' H',W i m σ' H' ->
  (J.stop i H'/\Q (.ref D) H')\/(J.go i H'/\∃ N:St->Hp->Prop,(∀ σ2 H2,N σ2 H2->∃ m',m'<m/\W (i+1) m' σ2 H2) /\
   ∀ x H2,J.yld i H' x H2->g x σ' H2 λ σ3 H3=>tc σ3 H3 λ b H4=>if b=true then te σ3 H4 λ v H5=>∃ ys,H5 D=some (.lst ys)/\ys.length<aH/\N σ3 (upd H5 D (.lst (ys++[v])))else N σ3 H4)
theorem qA {env:Env}:∀ {names:List (Str×bJ)} {x:Str} {k:bJ},names.lookup x=some k ->
  (names.map λ(n,k)=>if(k==NameKind.free&&env.scope.kind==.function&&env.kindOf n==some .cell)then(n,NameKind.cell)else(n,k)).lookup x =
   some (if(k==NameKind.free&&env.scope.kind==.function&&env.kindOf x==some .cell)then NameKind.cell else k)
 | [],_,_,h=>by simp at h
 | (n,k)::r,x,k',h=>by
  have y:=@qA env r x k'
  show kh x ((if(k==NameKind.free&&env.scope.kind==.function&&env.kindOf n==some .cell)=true then(n,NameKind.cell)else(n,k))::_)=_
  cases hx:x==n with
  | true =>
   have e:=beq_iff_eq.mp hx
   subst e
   simp only[aX,hx]at h
   cases h
   by_cases hc:(k==NameKind.free&&env.scope.kind==.function&&env.kindOf x==some .cell)=true
   ·rw[if_pos hc,if_pos hc];simp only[aX,hx]
   ·rw[if_neg hc,if_neg hc];simp only[aX,hx]
  | false =>
   simp only[aX,hx]at h
   by_cases hc:(k==NameKind.free&&env.scope.kind==.function&&env.kindOf n==some .cell)=true
   ·rw[if_pos hc];simp only[aX,hx];exact y h
   ·rw[if_neg hc];simp only[aX,hx];exact y h
theorem qh {env:Env}:∀ {names:List (Str×bJ)} {x:Str},names.lookup x=none ->
  (names.map λ(n,k)=>if(k==NameKind.free&&env.scope.kind==.function&&env.kindOf n==some .cell)then(n,NameKind.cell)else(n,k)).lookup x=none
 | [],_,_=>rfl
 | (n,k)::r,x,h=>by
  have y:=@qh env r x
  show kh x ((if(k==NameKind.free&&env.scope.kind==.function&&env.kindOf n==some .cell)=true then(n,NameKind.cell)else(n,k))::_)=_
  cases hx:x==n with
  | true=>simp only[aX,hx]at h;cases h
  | false =>
   simp only[aX,hx]at h
   by_cases hc:(k==NameKind.free&&env.scope.kind==.function&&env.kindOf n==some .cell)=true
   ·rw[if_pos hc];simp only[aX,hx];exact y h
   ·rw[if_neg hc];simp only[aX,hx];exact y h
theorem an9 {X:Cx}{N':List Str}{src:List (Option Nat)}{scope:Scope}{a5:List (Addr×Obj)}{σ:St}{H:Hp}{s s4:af}{fp:List Addr}
  (B:CompCk N' src scope X.N X.env.scope) (I:Inv X a5 σ H s) (hf:∀ b∈fp,FpOk X a5 H b) (b1:∀ b∈fp,b<s.heap.objs.size)
  (e4:∃ tk,s4={ s with heap:=dW (s.heap.push { cls:=.type "dict",data:=.dict #[] }) scope.names,toks:=tk }) :
  Inv (zQ X N' scope s.heap.objs.size (aK (s.heap.objs.size+1) scope.names (ad3 X.env.cells scope.names [])) s H fp) [] (au3 src σ) H s4:=by
 obtain⟨tk,rfl⟩:=e4
 have hk:∀ b o,s.heap.get? b=some o->(dW (s.heap.push { cls:=.type "dict",data:=.dict #[] }) scope.names).get? b=some o:=λ b o e=>cL _ _ b o (ak _ e)
 have ok:=cellsFrom_ok scope.names (s.heap.push { cls:=.type "dict",data:=.dict #[] }) (s.heap.objs.size+1) [] ⟨λ _ _ hm=>(nomatch hm),List.Pairwise.nil⟩ (by rw[bW];exact aj _)
 rw[bW]at ok
 have Z:=zh scope.names (s.heap.objs.size+1) (ad3 X.env.cells scope.names [])
 have lk:∀ x c,(aK (s.heap.objs.size+1) scope.names (ad3 X.env.cells scope.names [])).lookup x=some c ->
   ((x,c)∈aK (s.heap.objs.size+1) scope.names []/\(x,NameKind.cell)∈scope.names)\/(X.env.cells.lookup x=some c/\(aK (s.heap.objs.size+1) scope.names []).lookup x=none):=λ x c e=>by
  rw[Z,zM]at e
  cases q:(aK (s.heap.objs.size+1) scope.names []).lookup x with
  | some d =>
   rw[q]at e
   have e':d=c:=aC e
   subst e'
   have hm:=ax q
   refine .inl ⟨hm,?_⟩
   rcases zF hm with z|z
   ·exact z
   ·exact absurd z (by simp)
  | none =>
   rw[q]at e
   have e':(ad3 X.env.cells scope.names []).lookup x=some c:=e
   rcases clOf_mem (ax e')with z|z
   ·exact .inr ⟨z,rfl⟩
   ·exact absurd z (by simp)
 have up:∀ x c,(x,c)∈aK (s.heap.objs.size+1) scope.names []->s.heap.objs.size+1<=c:=λ x c h=>(ok.empty x c h).2
 have b2:∀ x c,X.env.cells.lookup x=some c->c<s.heap.objs.size:=λ x c h=>by
  obtain⟨v,q⟩:=I.cell x c h
  exact q.lt
 have a3:∀ b,b<s.heap.objs.size->b≠s.heap.objs.size:=λ b h=>av h
 have b4:∀ b∈fp,H b=none/\b≠X.env.locals/\b ∉ X.fs:=λ b hb=>⟨(hf b hb).1,(hf b hb).2.1,(hf b hb).2.2.1⟩
 have b5:(dW (s.heap.push { cls:=.type "dict",data:=.dict #[] }) scope.names).Ns s.heap.objs.size (λ _=>none):=(ki s.heap (.type "dict")).keeps (cL _ _)
 have a0:∀ x k,scope.names.lookup x=some k->(dX scope X.env).names.lookup x=some (if(k==NameKind.free&&X.env.scope.kind==.function&&X.env.kindOf x==some .cell)then NameKind.cell else k):=λ x k e=>qA (env:=X.env) e
 have a4:∀ x,scope.names.lookup x=none->(dX scope X.env).names.lookup x=none:=λ x e=>qh (env:=X.env) e
 have b0:∀ x c,(x,NameKind.free)∈scope.names->X.env.cells.lookup x=some c->(aK (s.heap.objs.size+1) scope.names (ad3 X.env.cells scope.names [])).lookup x=some c:=λ x c hx hc=>by
  rw[Z,zM]
  cases q:(aK (s.heap.objs.size+1) scope.names []).lookup x with
  | some d =>
   rcases zF (ax q)with z|z
   ·have:=B.cel _ z rfl _ hx rfl
    cases this
   ·exact absurd z (by simp)
  | none=>exact qo hc hx
 have a6:∀ x,(x,NameKind.free)∈scope.names->∃ c,X.env.cells.lookup x=some c:=λ x hx=>I.ok.has x (B.fr _ hx rfl)
 refine⟨⟨I.ok.mod,B.kind,I.ok.glob,I.ok.blt,aj _,λ x y c e1 e2=>?_,λ x hx=>?_,λ x c hx e=>?_,I.ok.hd,I.ok.frames,.inl rfl,λ b hb=>⟨a3 b (b1 b hb),λ x c e z=>?_⟩,I.bs,ao I.ok.bsz I.sz,λ b o e hb=>?_,λ b hb z=>?_,I.stack,I.stkFree⟩,
  rfl,I.bare,Un.kept hk,⟨_,b5,λ i x v e1 e2 e3=>?_⟩,λ x c e=>?_,I.hok.fresh (aj _),λ x c e=>?_,λ p hp=>absurd (show p∈([]:List (Addr×Obj))from hp) (by simp),I.hok.kept hk,by unfold au3;rw[aE];exact B.len⟩
 ·rcases lk x c e1 with⟨a1,_⟩|⟨a1,_⟩<;>rcases lk y c e2 with⟨a2,_⟩|⟨a2,_⟩
  ·exact f7 ok.apart a1 a2
  ·exact absurd (aq (b2 _ _ a2) (fq (up _ _ a1))) (bF _)
  ·exact absurd (aq (b2 _ _ a1) (fq (up _ _ a2))) (bF _)
  ·exact I.ok.inj x y c a1 a2
 ·cases q:scope.names.lookup x with
  | none =>
   have G:(dX scope X.env).names.lookup x=some .cell\/(dX scope X.env).names.lookup x=some .free:=hx
   rw[a4 x q]at G
   rcases G with z|z<;>cases z
  | some k =>
   have G:(dX scope X.env).names.lookup x=some .cell\/(dX scope X.env).names.lookup x=some .free:=hx
   rw[a0 x k q]at G
   cases k with
   | free =>
    obtain⟨c,hc⟩:=a6 x (ax q)
    exact⟨c,b0 x c (ax q) hc⟩
   | cell =>
    obtain⟨c,hc⟩:=z6 (n:=s.heap.objs.size+1) q
    exact⟨c,by show(aK _ _ _).lookup x=_;rw[Z,zM,hc];rfl⟩
   | _=>rcases G with z|z<;>cases z
 ·have G:(scope.names.lookup x==some .cell)=true:=hx
  have q:scope.names.lookup x=some .cell:=by simpa using G
  rcases lk x c e with⟨a,_⟩|⟨a,b⟩
  ·have:=up _ _ a;show s.heap.objs.size<=c;omega
  ·obtain⟨d,hd⟩:=z6 (n:=s.heap.objs.size+1) q
   rw[hd]at b;cases b
 ·subst z
  rcases lk x c e with⟨a,_⟩|⟨a,_⟩
  ·exact absurd (aq (b1 c hb) (fq (up _ _ a))) (bF _)
  ·exact(hf c hb).2.2.2.2.1 x c a rfl
 ·rcases(hf b hb).2.2.2.1 with z|z
  ·exact I.ok.noex b o e z
  ·exact absurd (aq (az e) (ao I.ok.bsz z)) (bF _)
 ·rcases ay.mp (I.stkSub b z)with y|y
  ·exact(b4 b hb).2.1 y
  ·exact(b4 b hb).2.2 y
 ·have J:(au3 src σ)[i]?=some (some v):=e2
  unfold au3 at J
  rw[aJ]at J
  cases q:src[i]? with
  | none=>rw[q]at J;cases J
  | some o =>
   rw[q]at J
   cases o with
   | none=>cases J
   | some j =>
    have Y:(σ[j]?).join=some v:=aC J
    have ej:σ[j]?=some (some v):=by
     cases q2:σ[j]? with
     | none=>rw[q2]at Y;cases Y
     | some o2=>rw[q2]at Y;exact congrArg some Y
    obtain⟨h1,h2⟩:=B.sr i j x q e1
    have hm:=ax h2
    obtain⟨mX,c0,b6⟩:=I.loc
    have b3:Vis X.env.scope x:=by
     rcases B.fr _ hm rfl with z|z
     ·exact .inr (.inl z)
     ·exact .inr (.inr z)
    obtain⟨u,ru,look⟩:=b6 j x v h1 ej b3
    refine⟨u,ru,.inr ?_⟩
    have hcell:∃ c,X.env.cells.lookup x=some c/\s.heap.IsCell c (some u):=by
     rcases look with⟨z,_⟩|⟨_,c,z1,z2⟩
     ·have z':X.env.scope.names.lookup x=some .local:=z
      rcases B.fr _ hm rfl with y|y<;>(rw[z']at y;cases y)
     ·exact⟨c,z1,z2⟩
    obtain⟨c,c1,c2⟩:=hcell
    refine⟨?_,c,b0 x c hm c1,c2.keeps hk⟩
    show(dX scope X.env).names.lookup x=some .cell\/(dX scope X.env).names.lookup x=some .free
    rw[a0 x _ h2]
    by_cases hc:(NameKind.free==NameKind.free&&X.env.scope.kind==.function&&X.env.kindOf x==some .cell)=true
    ·rw[if_pos hc];exact .inl rfl
    ·rw[if_neg hc];exact .inr rfl
 ·rcases lk x c e with⟨a,_⟩|⟨a,_⟩
  ·exact⟨_,(ok.empty x c a).1⟩
  ·obtain⟨v,q⟩:=I.cell x c a
   exact⟨v,q.keeps hk⟩
 ·rcases lk x c e with⟨a,_⟩|⟨a,_⟩
  ·exact I.hok.fresh (by have:=up _ _ a;omega)
  ·exact I.freeC x c a
theorem aI0 {X:Cx}{N':List Str}{scope:Scope}{h:List (Addr×Obj)}{σ σ':St}{H B:Hp}{s s5:af}{Y:List Addr}{cells:List (Str×Addr)}{h':Heap}
  (I:Inv X h σ H s) (G:∀ b∈Y,FpOk X h H b) (J:Inv (zQ X N' scope s.heap.objs.size cells s H Y) [] σ' B s5) (hs:dB s.heap.objs.size s5.heap h') :
  Inv X h σ B { s5 with heap:=h' }:=by
 have y:∀ b o,s.heap.get? b=some o->b≠s.heap.objs.size:=λ b o e=>av (az e)
 have u:Un (frs X.stack) Y H B s.heap s5.heap:=J.base
 refine I.call' (s':={ s5 with heap:=h' }) (ch:=Y) J.os ⟨λ b o e n hb hx=>?_,λ b o e n hb hx=>?_,λ b o e n hx=>u.free b o e n hx,λ b o e hx=>?_,u.tups,u.frzs,u.tbls⟩ (λ b o e=>?_) J.bare λ b hb=>⟨(G b hb).2.2.2.1,(G b hb).2.1,(G b hb).2.2.2.2.1,(G b hb).2.2.2.2.2⟩
 ·exact(hs.2 b (y b o e)).trans (u.keep b o e n hb hx)
 ·obtain⟨sl,q⟩:=u.slot b o e n hb hx
  exact⟨sl,(hs.2 b (y b o e)).trans q⟩
 ·obtain⟨Z,q⟩:=u.there b o e hx
  exact⟨Z,(hs.2 b (y b o e)).trans q⟩
 ·have fr:B s.heap.objs.size=none:=J.free
  refine(J.hok b o e).stay (λ c w' hc q=>(hs.2 c ?_).trans q) (λ _ q=>q) λ _ _ q=>q
  rintro rfl
  rcases hc with z|hc
  ·rw[<-z,fr]at e;cases e
  ·rw[fr]at hc;cases hc
theorem af2 {M:Model}{A:aP}{E:Value->af->Prop}{s:af}{scope:Scope}{globals:Addr}{B:List (Str×Addr)}{qual:Str}{y:Env}{Q:Env->af->Prop}
  (h:Q { scope:=scope,locals:=s.heap.objs.size,globals:=globals,cells:=aK (s.heap.objs.size+1) scope.names B,qual:=qual,func:=none,code:=y.code,frame:=y.frame,builtins:=y.builtins }
   { s with heap:=dW (s.heap.push { cls:=.type "dict",data:=.dict #[] }) scope.names }) :
  wpAny M A (eY scope globals B [] qual none .none (some y)) Q E s:=by
 simp only[eY,iJ,if_true]
 refine ah (wpAny_alloc ?_)
 refine ah (wpAny_layCells _ (λ name kind cells=>by cases hkc:kind==NameKind.cell<;>simp[hkc]) _ _ _ _ ?_)
 rw[show({ s with heap:=s.heap.push { cls:=.type "dict",data:=.dict #[] } }:af).heap.objs.size=s.heap.objs.size+1 from bW ..]
 refine ah ?_
 rw[gQ]
 exact aA (aA h)
theorem ax5 {X':Cx}{R:jM->af->Prop}{a5 tg iter:Expr}{a3:List Expr}{scope:Scope}{pos:Pos}{g:TG}{tc:TT}{te:TE}{J:It}{fp:List Addr}{it D:Addr}{tn:Nat->Heap->Prop}{W:Nat->Nat->St->Hp->Prop}
  {QD:Hp->Prop} {σ0:St} {H0:Hp} {s4:af} {m0:Nat} (hx:X'.xe=λ _ _=>False) (B:X'.calm=true) (I4:Inv X' [] σ0 H0 s4) (T:Turn X'.prog X'.w X'.K tg J fp it tn) (b0:tn 0 s4.heap)
  (G:∀ H':Hp,(∀ b∈fp,H' b=none)->∀ b∈fp,FpOk X' [] H' b) (b3:∀ b∈fp,H0 b=none) (w0:W 0 m0 σ0 H0)
  (turn:∀ i m σ' H',W i m σ' H'->(J.stop i H'/\QD H')\/(J.go i H'/\∃ N:St->Hp->Prop,(∀ σ2 H2,N σ2 H2->∃ m',m'<m/\W (i+1) m' σ2 H2) /\
   ∀ x H2,J.yld i H' x H2->g x σ' H2 λ σ3 Y=>tc σ3 Y λ b H4=>if b=true then te σ3 H4 λ v H5=>∃ ys,H5 D=some (.lst ys)/\ys.length<aH/\N σ3 (upd H5 D (.lst (ys++[v])))else N σ3 H4))
  (hg:PG X' tg g) (a6:PIf X' a3 tc) (he:PE X' a5 te) (a4:∀ σ' H' s',Inv X' [] σ' H' s'->QD H'->R (.ok .next) s') :
  fX (model X'.prog X'.w) X'.A (.compLoop (.ListComp a5 [⟨tg,iter,a3,0⟩] scope pos) 0 (.ref it) (.ref D) X'.env) R s4:=by
 have nox:∀ {α:Type} {t:Sem α} {Q Q':α->af->Prop} {E:Value->af->Prop} {s:af},wpAny (model X'.prog X'.w) X'.A t Q X'.xe s->(∀ a s,Q a s->Q' a s)->wpAny (model X'.prog X'.w) X'.A t Q' E s :=
  λ h hQ=>bz h hQ λ _ _ z=>by rw[hx]at z;exact z.elim
 refine aM3 (λ n s'=>∃ i σ' H',Inv X' [] σ' H' s'/\tn i s'.heap/\(∀ b∈fp,H' b=none)/\W i n σ' H') ?_ m0 ⟨0,σ0,H0,I4,b0,b3,w0⟩
 rintro n s3 ⟨i,σ3,Y,I3,a2,a1,w3⟩
 rcases turn i n σ3 Y w3 with⟨stop,qn⟩|⟨go,N,hN,step⟩
 ·refine nox (T.done X' rfl rfl rfl B i [] s3 σ3 Y X'.xe I3 (G Y a1) a2 stop) λ r s4 ⟨hr,I4⟩=>?_
  subst hr
  exact a4 σ3 Y s4 I4 qn
 ·refine nox (T.item X' rfl rfl rfl B i [] s3 σ3 Y X'.xe I3 (G Y a1) a2 go) λ r s4 ⟨u,hr,h4⟩=>?_
  subst hr
  refine nox h4 λ _ s5 ⟨x,H5,I5,r5,y5,a0,b2⟩=>?_
  have b1:=I5.pinned (G H5 b2) (T.obj _ _ a0)
  refine nox (hg _ s5 σ3 H5 x u _ b1 r5 (step x H5 y5)) λ _ s6 ⟨σ6,H6,I6,q6⟩=>?_
  have again:∀ {σ7:St} {Z:Hp} {s7:af},Inv X' ([]++av1 fp s5.heap) σ7 Z s7->N σ7 Z->∃ m,m<n/\∃ i σ' H',Inv X' [] σ' H' s7/\tn i s7.heap/\(∀ b∈fp,H' b=none)/\W i m σ' H':=λ {σ7 Z s7} I7 n7=>by
   obtain⟨m',hm,w7⟩:=hN σ7 Z n7
   refine⟨m',hm,i+1,σ7,Z,I7.unpinned,T.keep _ _ _ a0 λ b hb o e=>(I7.pin (b,o) (aO _ (aO _ (qX hb e)))).1,λ b hb=>?_,w7⟩
   obtain⟨o,e,d⟩:=T.obj _ _ a0 b hb
   exact(I7.pin (b,o) (aO _ (aO _ (qX hb e)))).2.1
  refine nox (a6 _ s6 σ6 H6 _ I6 q6) λ b s7 ⟨Z,I7,q7⟩=>?_
  cases b with
  | false =>
   rw[if_neg aQ]at q7 ⊢
   exact again I7 q7
  | true =>
   rw[if_pos rfl]at q7 ⊢
   refine nox (he _ s7 σ6 Z _ I7 q7) λ v s8 ⟨y,H8,I8,r8,ys,hy,hz,q8⟩=>?_
   refine nox (av0 _ s8 σ6 H8 (.ref D) [y] (.ref D) [v] (λ _ H9=>N σ6 H9) I8 rfl (.cons r8 .nil) ⟨D,ys,y,rfl,rfl,hy,hz,q8⟩) λ v9 s9 ⟨_,H9,I9,_,q9⟩=>?_
   exact again I9 q9
theorem aW2 {X:Cx}{a5 tg iter:Expr}{a2:List Expr}{scope:Scope}{pos:Pos}{wi:TI}{g:TG}{tc:TT}{te:TE}(N':List Str)(src:List (Option Nat))
  (a6:z9 N' src scope X.N X.env.scope=true) (hi:PI X tg iter wi) (Y:X.calm=true)
  (b0:∀(C:Addr) (cells:List (Str×Addr)) (s:af) (H:Hp) (ex:List Addr),PG (zQ X N' scope C cells s H ex) tg g/\PIf (zQ X N' scope C cells s H ex) a2 tc/\PE (zQ X N' scope C cells s H ex) a5 te)
  (hs:∀ x,cQ iter X.env x=pure x:=by intro _;rfl):PE X (.ListComp a5 [⟨tg,iter,a2,0⟩] scope pos) (tComp src wi g tc te):=by
 intro B s σ H Q I h
 have ck:=bh9 a6
 rw[eval_ListComp]
 have hcl:=qf (scope:=scope) (env:=X.env) λ y hy e=>I.ok.has y.1 (ck.fr y hy e)
 refine fG (use:=none) rfl hs hcl ck.kind ck.loc (thn (hi B s σ H _ I h) λ v s1 h1=>thn h1 λ b6 s2 h2=>?_)
 obtain⟨it,G,tn,J,H2,e,I2,T,a0,f2,W⟩:=h2
 subst e
 have hD:=I2.fresh
 obtain⟨W,⟨m0,w0⟩,turn⟩:=W _ hD
 have I3:=I2.lnew (its:=[]) (ys:=[]) (t':=s2.toks) .nil (dv _)
 have a1:∀ b∈G,b<s2.heap.objs.size:=λ b hb=>by obtain⟨o,q,_⟩:=T.obj _ _ a0 b hb;exact az q
 have f3:∀ b∈G,FpOk X B (upd H2 s2.heap.objs.size (.lst [])) b:=λ b hb=>⟨by rw[za (av (a1 b hb))];exact(f2 b hb).1,(f2 b hb).2⟩
 refine bH (af2 ?_)
 generalize Z:({ s2 with heap:=s2.heap.push { cls:=.type "list",data:=.seq ([]:List Value).toArray },toks:=s2.toks }:af)=s3 at I3
 have b5:({ s2 with heap:=s2.heap.push { cls:=.type "list",data:=.seq ([]:List Value).toArray } }:af)=s3:=Z
 have b2:∀ b∈G,b<s3.heap.objs.size:=λ b hb=>by
  rw[<-Z]
  show b<(s2.heap.push _).objs.size
  rw[bW]
  exact fu (a1 b hb)
 have I4:=an9 (s4:={ s3 with heap:=dW (s3.heap.push { cls:=.type "dict",data:=.dict #[] }) scope.names }) ck I3 f3 b2 ⟨_,rfl⟩
 have a4:tn 0 (dW (s3.heap.push { cls:=.type "dict",data:=.dict #[] }) scope.names):=T.keep _ _ _ a0 λ b hb o e=>cL _ _ b o (ak _ (by rw[<-Z];exact ak _ e))
 obtain⟨hg,b3,he⟩:=b0 s3.heap.objs.size (aK (s3.heap.objs.size+1) scope.names (ad3 X.env.cells scope.names [])) s3 (upd H2 s2.heap.objs.size (.lst [])) G
 have a3:∀ H':Hp,(∀ b∈G,H' b=none)->∀ b∈G,FpOk (zQ X N' scope s3.heap.objs.size (aK (s3.heap.objs.size+1) scope.names (ad3 X.env.cells scope.names [])) s3 (upd H2 s2.heap.objs.size (.lst [])) G) [] H' b:=λ H' hn b hb =>
  ⟨hn b hb,(I4.ok.exf b hb).1,I4.ok.exfs b hb,.inl hb,λ x c e=>(I4.ok.exf b hb).2 x c e,λ p hp=>absurd (show p∈([]:List (Addr×Obj))from hp) (by simp)⟩
 have T':Turn X.prog X.w X.K tg J G it tn:=T
 have b4:∀ b∈G,upd H2 s2.heap.objs.size (.lst []) b=none:=λ b hb=>(f3 b hb).1
 have L:=ax5 (X':=zQ X N' scope s3.heap.objs.size (aK (s3.heap.objs.size+1) scope.names (ad3 X.env.cells scope.names [])) s3 (upd H2 s2.heap.objs.size (.lst [])) G) (R:=compPost (model X.prog X.w) X.A X.xe none (EP X B σ Q) (Value.ref s2.heap.objs.size) s3.heap.objs.size) (iter:=iter) (scope:=scope) (pos:=pos) (QD:=λ H'=>Q (.ref s2.heap.objs.size) H') rfl Y I4 T' a4 a3 b4 w0 turn hg b3 he
  (λ σ' H' s' J' q=>by
   obtain⟨mm,hn,_⟩:=J'.loc
   exact⟨mm,hn,λ h' b1=>⟨.ref s2.heap.objs.size,H',aI0 I3 f3 J' b1,rfl,q⟩⟩)
 exact gj L (T.self _ _ _ _ _ a4 L)
section
variable {X:Cx}
theorem bP1:be "abs"=some (.builtin "abs"):=by decide +kernel
theorem bU1:be "len"=some (.builtin "len"):=by decide +kernel
theorem bB2:be "min"=some (.builtin "min"):=by decide +kernel
theorem bP5:be "max"=some (.builtin "max"):=by decide +kernel
theorem bR9:be "all"=some (.builtin "all"):=by decide +kernel
theorem qU:be "isinstance"=some (.builtin "isinstance"):=by decide +kernel
theorem bB8:be "int"=some (.type "int"):=by decide +kernel
theorem bG1:be "bool"=some (.type "bool"):=by decide +kernel
theorem bP8:be "str"=some (.type "str"):=by decide +kernel
theorem aO9:be "tuple"=some (.type "tuple"):=by decide +kernel
theorem bi9:be "list"=some (.type "list"):=by decide +kernel
def bQ3 (i j:Int):Prop:=0<j/\j<2^4096
theorem aJ6 {y:Int}(h0:0<y)(h:y<2^4096):y.natAbs.log2<9000:=by
 have hn:y.natAbs<2^4096:=by
  have:(y.natAbs:Int)=y:=by omega
  have B:(y.natAbs:Int)<((2^4096:Nat):Int):=by rw[this];simpa using h
  exact Int.ofNat_lt.mp B
 have:=(Nat.log2_lt (by omega)).mpr hn
 omega
theorem bb6:OpR X (bQ .FloorDiv) (rI bQ3 λ i j=>.int (i / j)):=opI λ i j _ _ _ _ _ hc q=>by
 refine floordiv_int (by have:=hc.1;omega) ?_ (.inl (PyProof.noPylong_of_log2 (aJ6 hc.1 hc.2)))
 rw[eU i (by have:=hc.1;omega)]
 exact q
theorem aD9 {K:ac}(h:X.K=K):IxR X (bX3 K):=by subst h;exact bu0
theorem bt5 {K:ac}(h:X.K=K):IxR X (bX2 K):=by subst h;exact ix_tup
theorem aj7 {K:ac}(y:X.K=K):ac0 X (.builtin "len") (λ h H Q=>∃ p ys,h=[.ref p]/\(SqL K H p ys\/SqT K H p ys)/\Q (.int ys.length) H):=by subst y;exact at4
theorem aA3 {K:ac}(y:X.K=K):ac0 X (.type "tuple") (λ h H Q=>∃ p ys,h=[.ref p]/\((SqL K H p ys/\∀ l,H l=none->Q (.ref l) (upd H l (.tup ys)))\/(SqT K H p ys/\Q (.ref p) H))):=by subst y;exact ap1
theorem aL9 {K:ac}(y:X.K=K):ac0 X (.type "list") (λ h H Q=>∃ p ys,h=[.ref p]/\(SqL K H p ys\/SqT K H p ys)/\∀ l,H l=none->Q (.ref l) (upd H l (.lst ys))):=by subst y;exact at7
theorem ba0 {K:ac}{tg l:Expr}{h:TE}(y:X.K=K)(hl:PE X l h):PI X tg l (bt3 K h):=by subst y;exact bm4 hl
theorem bp5 {K:ac}{tg l:Expr}{h:TE}(y:X.K=K)(hl:PE X l h):PI X tg l (bR5 K h):=by subst y;exact bM4 hl
theorem bm8 {K:ac}{pos:Pos}{es:List Expr}{k:Nat}{t:TGs}{n:Nat}(B:X.K=K)(hc:X.calm=true)(h:PGs X es t)
  (hn:(b8 es X.env).length=n:=by rfl) (y:(b8 es X.env).findIdx? (·.1)=none:=by rfl):PG X (.Tuple es k pos) (bS1 K n t):=by subst B;exact bz8 hc h hn y
end
structure DefAt (K:ac)(mg:Str->Option Value)(x:Str)(st:Stmt)(ps:List Str)(f:Addr)(fd:bv):Prop where
 fn:Fun K x x st f fd
 mg:mg x=some (.ref f)
 bi:Binds K fd ps []
@[irreducible] noncomputable def cc8 (p:Prop):Prop:=p
theorem ad2.new {p:Addr}{H y:Hp}{o:HO}(h:ad2 H y)(hp:y p=none):ad2 H (L2.upd y p o):=λ x o e=>by
 have e1:=h x o e
 rw[za (zq e1 hp)]
 exact e1
section
variable {prog:aD} {w:World} {A:aP} {R:jM->af->Prop} {I:Addr} {fp wr:List Addr} {n:Nat} {P:Nat->Value->Prop} {St:Nat->Heap->Prop} {kw:List (Str×Value)}
end
theorem am1 (val : Nat -> Int) : ∀ k j, j <= k -> val (jJ (λ i j => decide (val i < val j)) k) <= val j
  | 0, j, h => by have : j = 0 := by omega
                  subst this; exact ju _
  | k + 1, j, h => by
    have ih := am1 val k
    unfold jJ
    by_cases hb : val (k + 1) < val (jJ (λ i j => decide (val i < val j)) k)
    · rw[if_pos (by simpa using hb)]
      by_cases hj : j = k + 1
      · subst hj; exact ju _
      · have := ih j (by omega); omega
    · rw[if_neg (by simpa using hb)]
      by_cases hj : j = k + 1
      · subst hj; omega
      · exact ih j (by omega)
theorem aT4 {ns:List Int}{its:List Value}(r:Vals (ns.map V.int) its){i:Nat}{v:Value}(h:its[i]?=some v):∃ z t,ns[i]?=some z/\v=Value.int z t:=by
 have hl:=r.length
 rw[aE]at hl
 have y:i<its.length:=(ae.mp h).1
 obtain⟨u,e1,q⟩:=r.get (i:=i) (x:=.int ns[i]) (by rw[aJ,am (by omega)];rfl)
 rw[h]at e1;cases e1
 obtain⟨t,rfl⟩:=q
 exact⟨_,t,am (by omega),rfl⟩
inductive D where
 | non|bl (b:Bool)|int (i:Int)|str (x:Str)|tup (l:List D)|lst (l:List D)
mutual
noncomputable def D.deep:D->Nat
 | .tup l=>D.deepL l+1
 | .lst l=>D.deepL l+1
 | _=>0
noncomputable def D.deepL:List D->Nat
 | []=>0
 | d::l=>max (D.deep d) (D.deepL l)
end
section
variable {X:Cx}
end
section
variable {X:Cx}
def bT2 (K:ac):R2:=λ x y H Q=>∃ a b xs ys,x=.ref a/\y=.ref b/\SqT K H a xs/\SqT K H b ys/\xs.length+ys.length<=aH/\∀ p H',ad2 H H'->SqT K H' p (xs++ys)->(H' p=some (.tup (xs++ys))\/(p=a/\ys=[])\/(p=b/\xs=[]))->Q (.ref p) H'
theorem br7 {prog:aD}{w:World}{A:aP}{E:Value->af->Prop}{s:af}{t b:Addr}{ws:List Value}{Q:Value->af->Prop}(ht:IsTup s.heap t ([]:List Value).toArray)(hb:IsTup s.heap b ws.toArray)(h1:Q (.ref b) s) :
  wpAny (model prog w) A (bQ .Add (.ref t) (.ref b)) Q E s:=by
 obtain⟨⟨cls,dd,data,sl⟩,ho,hc,n,hd⟩:=id ht
 obtain⟨⟨Z,J,G,Y⟩,h,B,n2,y⟩:=id hb
 simp only at hc hd B y
 subst hc hd B y
 exact iW ⟨_,ho,rfl⟩ ⟨_,h,rfl⟩ fM iq dF dm (db _ _)
   (tuple_addW0 t b _ ws.toArray n n2 dd J sl Y rfl) ⟨ho,h,h1⟩
theorem bn9 {K:ac}(hK:X.K=K):OpR X (bQ .Add) (bT2 K):=by
 subst hK
 intro B s σ H x y v u Q I Y J h
 obtain⟨a,b,G,ys,e1,e2,ha,hb,hz,q⟩:=h
 by_cases hx:G=[]
 ·subst e1;subst e2;subst hx
  cases Y;cases J
  obtain⟨its,r1,p1,_⟩:=I.tuple ha
  obtain⟨Z,r2,p2,_⟩:=I.tuple hb
  obtain rfl:its=[]:=r1.nil_iff.mpr rfl
  exact br7 p1 p2 ⟨.ref b,H,I,rfl,q b H (ad2.refl H) hb (.inr (.inr ⟨rfl,rfl⟩))⟩
 ·refine bt4 B s σ H x y v u Q I Y J ⟨a,b,G,ys,e1,e2,ha,hb,hx,hz,λ z=>?_,λ z p hp=>?_⟩
  ·subst z
   exact q a H (ad2.refl H) (by rw[a7];exact ha) (.inr (.inl ⟨rfl,rfl⟩))
  ·exact q p _ ((ad2.refl H).new hp) (SqT.of zb) (.inl zb)
def cc1 (K:ac):V->Option Int->Option Int->Hp->VK->Prop:=λ x lo hi H Q=>∃ a xs,x=.ref a/\SqT K H a xs/\∀ p H',ad2 H H'->SqT K H' p (aL1 xs lo hi)->(H' p=some (.tup (aL1 xs lo hi))\/(p=a/\aL1 xs lo hi=xs))->Q (.ref p) H'
theorem ar5 {prog:aD}{w:World}{A:aP}{E:Value->af->Prop}{s:af}{t sl:Addr}{y:Array Value}{vl vu:Value}{B Y:Option Int}{Q:Value->af->Prop}(J:IsTup s.heap t y)(hs:s.heap.IsSliceOf sl vl vu .none)(pl:fD vl B)(pu:fD vu Y)
  (hw:HT.sIx y.size 0 B=0/\HT.sIx y.size y.size Y=y.size) (h:Q (.ref t) s):wpAny (model prog w) A (f8 (.ref t) (.ref sl)) Q E s:=by
 obtain⟨os,a1,a0,a2⟩:=id hs
 have Z:s.TypeIs (.ref sl) "slice":=⟨os,a1,a0⟩
 unfold f8
 try with_reducible refine cx ?_
 first|refine ah (aA ?_)|skip
 refine ah (iX J.typeIs (by decide) ?_)
 refine ah (cA (name:=bB "__getitem__") J.typeIs bu
  (cY bu J.typeIs hJ ?_ (iE _ _)))
 show wpAny _ _ (cU (.ref t) >>= _) _ _ s
 refine ah (ir J ?_)
 refine ah (f9 Z ?_)
 rw[if_pos (by decide)]
 refine ah (HT.sliceApplied_gen hs pl pu ?_)
 have G:((((HT.sIx y.size 0 B:Nat):Int)==0&&(1:Int)==1&&(HT.sIx y.size y.size Y - HT.sIx y.size 0 B)==y.size)=true):=by
  rw[hw.1,hw.2]
  simp
 show wpAny _ _ (if(((HT.sIx y.size 0 B:Nat):Int)==0&&(1:Int)==1&&(HT.sIx y.size y.size Y - HT.sIx y.size 0 B)==y.size)=true then _ else _) _ _ s
 rw[if_pos G]
 refine ah (ah (f9 J.typeIs (aA ?_)))
 rw[if_pos (by decide)]
 exact ah (jQ (aA ⟨_,rfl,aA h⟩))
theorem an7 {y:List V}{B G:Option Int}(h:HT.sIx y.length 0 B=0/\HT.sIx y.length y.length G=y.length):aL1 y B G=y:=by
 unfold aL1
 rw[h.1,h.2]
 simp
theorem bn3 {K:ac}(hK:X.K=K):SlR X (cc1 K):=by
 subst hK
 intro G s σ H x v vl vu lo Z sl Q I J hs Y pu h
 obtain⟨a,y,e1,hx,q⟩:=h
 by_cases hw:HT.sIx y.length 0 lo=0/\HT.sIx y.length y.length Z=y.length
 ·subst e1
  cases J
  obtain⟨its,r,ht,hz⟩:=I.tuple hx
  have B:its.toArray.size=y.length:=by rw[au];exact r.length.symm
  refine⟨"tuple",_,bu.lookup,ht.typeIs,?_⟩
  exact ar5 ht hs Y pu (by rw[B];exact hw) ⟨.ref a,H,I,rfl,q a H (ad2.refl H) (by rw[an7 hw];exact hx) (.inr ⟨rfl,an7 hw⟩)⟩
 ·exact bE8 G s σ H x v vl vu lo Z sl Q I J hs Y pu ⟨a,y,e1,hx,hw,λ p hp=>q p _ ((ad2.refl H).new hp) (SqT.of zb) (.inl zb)⟩
theorem aY2 {K:ac}(h:X.K=K):SlR X (bX6 K):=by subst h;exact bu1
end
noncomputable def Its (x:Str):It:=⟨λ i _=>i<x.cps.size,λ i H v H'=>H'=H/\∃ c,x.cps[i]?=some c/\v=.str ⟨#[c]⟩,λ i _=>x.cps.size<=i⟩
theorem aE2 {P:aD}{w:World}{K:ac}{tg:Expr}{G:String}{x:Str}{t:Tok}(it:Addr)(hn:["enumerate", "zip", "dict_itemiterator", "dict_reverseitemiterator", "odict_iterator", "itertools.zip_longest", "itertools.pairwise"].contains G=false)
  (W:∀ A:aP,A.handled=none->Walks P w A it [it] [it] x.cps.size (SignAt x) (λ i h=>h.IsStrIter it G x t i))
  (Y:∀(A:aP) (s:af) (i:Nat) (Q:Option Value->af->Prop) (E:Value->af->Prop),A.handled=none->s.heap.IsStrIter it G x t i->x.cps[i]?=none->(∀ h',jv it s.heap h'->Q none { s with heap:=h' })->wpAny (model P w) A (pyNext (.ref it)) Q E s)
  (B:∀(A:aP) (i:Nat) (s:af) (Q:Value->af->Prop) (E:Value->af->Prop),s.heap.IsStrIter it G x t i->Q (.ref it) s->wpAny (model P w) A (j5 (.ref it)) Q E s):Turn P w K tg (Its x) [it] it (λ i h=>h.IsStrIter it G x t i) where
 mem:=by simp
 obj:=λ i h st b hb=>by
  have e:b=it:=by simpa using hb
  subst e
  obtain⟨o,ho,hc,hd⟩:=st
  exact⟨o,ho,λ v z=>by rw[hd]at z;cases z⟩
 keep:=λ i h h' st k=>by
  obtain⟨o,ho,r⟩:=st
  exact⟨o,k it (by simp) _ ho,r⟩
 item:=by
  intro X hP hw hK hc i y s σ H E I Z st hg
  subst hP hw hK
  obtain⟨f0,f1,f2,f3,f4,f5⟩:=Z it (by simp)
  refine(W X.A (I.ok.hd hc)).item i s _ _ hg st λ v h' tk hv J kk=>?_
  obtain⟨c,u,a0,rfl⟩:=hv
  have I1:Inv X y σ H { s with heap:=h',toks:=tk }:=I.turned (λ b o hb e=>kk b o (by simpa using hb) e) f0 f1 f3 f4 f5
  obtain⟨o,ho,hcl,hd⟩:=id J
  exact⟨_,rfl,bf6 (s:={ s with heap:=h',toks:=tk }) (n:=G) ho hcl hd hn ⟨.str ⟨#[c]⟩,H,I1,⟨u,rfl⟩,⟨rfl,c,a0,rfl⟩,J,λ b hb=>(Z b hb).1⟩⟩
 done:=by
  intro X hP hw hK hc i y s σ H E I Z st hg
  subst hP hw hK
  obtain⟨f0,f1,f2,f3,f4,f5⟩:=Z it (by simp)
  have a1:x.cps.size<=i:=hg
  exact Y X.A s i _ E (I.ok.hd hc) st (by simp;omega) λ h' eb=>⟨rfl,I.turned (t':=s.toks) (λ b o hb e=>eb b o hb e) f0 f1 f3 f4 f5⟩
 self:=λ A i s Q E st h=>B A i s Q E st h
def ca2 (tl:TE):TI:=λ σ H R=>tl σ H λ v H1=>∃ x,v=.str x/\R (Its x) H1
theorem bI8 {X:Cx}{tg l:Expr}{Y:TE}(hl:PE X l Y):PI X tg l (ca2 Y):=by
 intro y s σ H R I h
 refine thn (hl y s σ H _ I h) λ v s1 ⟨v0,H1,G,r1,q1⟩=>?_
 obtain⟨x,e,q⟩:=q1
 subst e
 obtain⟨t,rfl⟩:=r1
 have fin:∀(J:String) (o:Obj),o={ cls:=.type J,data:=.fields #[.str x t,.int 0 0] }->Turn X.prog X.w X.K tg (Its x) [s1.heap.objs.size] s1.heap.objs.size (λ i h=>h.IsStrIter s1.heap.objs.size J x t i)->PIE X y σ tg R (.ref s1.heap.objs.size) { s1 with heap:=s1.heap.push o }:=λ J o Z T=>by
  subst Z
  refine⟨s1.heap.objs.size,[s1.heap.objs.size],_,_,H1,rfl,G.kept (t':=s1.toks) λ b o e=>ak _ e,T,⟨_,aR _ rfl,rfl,rfl⟩,λ b hb=>?_,q⟩
  have e:b=s1.heap.objs.size:=by simpa using hb
  subst e
  exact G.fpOk (aj _) (G.hok.fresh (aj _))
 cases ha:x.cps.all (·<128)
 ·exact wpAny_pyIter_wide ha (fin "str_iterator" _ rfl (aE2 _ (by decide) (λ A hA=>Walks.strWide hA _ x t) (λ A s i Q E hA st hx B=>wpAny_pyNext_wide_end hA st hx B) λ A i s Q E st h=>wpAny_pyIter_striter_wide st h))
 ·exact wpAny_pyIter_ascii ha (fin "str_ascii_iterator" _ rfl (aE2 _ (by decide) (λ A hA=>Walks.strAscii hA _ x t) (λ A s i Q E hA st hx B=>wpAny_pyNext_ascii_end hA st hx B) λ A i s Q E st h=>wpAny_pyIter_striter_ascii st h))
section
variable {X:Cx} {K:ac} {T id:String} {name:Str} {o e:Expr} {es:List Expr} {to:TE} {t:TA} {r:V->List V->Hp->VK->Prop} {apos cpos:Pos}
theorem bh0 (Y:X.K=K)(Z:jO T)(slot:Slot T name id)(J:jk (.builtin id)=pure (.type "method_descriptor"))(hm:MtR X id r)(ho:PE X o to)(ha:PA X (e::es) t)
  (B:fF o name X.env (eval o X.env)=eval o X.env:=by rfl)
  (G:((dC cpos (bo (e::es) X.env)).all (λ x=>!x.1)&&(backToKw cpos (keywordEach [] X.env)).all (λ x=>x.1.isSome)
   && decide ((e::es).length+([]:List jH).length+(if([]:List jH).isEmpty then 0 else 1)<30))=true:=by rfl)
  (y:(apos.endLine==cpos.line)=true:=by rfl) (hs:bo (e::es) X.env=(false,eval e X.env)::bo es X.env:=by rfl) (h:(dC cpos (bo es X.env)).any (·.1)=false:=by rfl) :
  PE X (.Call (.Attribute o name apos) (e::es) [] cpos) (tBM K T r to t):=by
 subst Y
 exact bT1 Z slot J hm ho ha B G y hs h
end
structure Mach where
 letters:Int
 rooms:Int
 begins:List Int
 ends:List Int
 doors:List (Int×Str×Int×Int)
noncomputable def bP3 (q:Int×Str×Int×Int):D:=.tup [.int q.1,.str q.2.1,.int q.2.2.1,.int q.2.2.2]
noncomputable def Mach.D (M:Mach):D:=.tup [.int M.letters,.int M.rooms,.tup (M.begins.map .int),.tup (M.ends.map .int),.tup (M.doors.map bP3)]
noncomputable def ltr (i:Nat):Str:=⟨#[97+i]⟩
structure DoorOk (letters rooms:Int)(q:Int×Str×Int×Int):Prop where
 s0:0<=q.1
 s1:q.1<rooms
 l:∃ i:Nat,(i:Int)<letters/\q.2.1=ltr i
 g0:0<=q.2.2.1
 g1:q.2.2.1<rooms
 t0:0<=q.2.2.2
 t1:q.2.2.2<=3
structure RoomsOk (rooms:Int)(l:List Int):Prop where
 mem:∀ r∈l,0<=r/\r<rooms
 up:l.Pairwise (· < ·)
structure Mach.Ok (most:Nat)(M:Mach):Prop where
 l0:1<=M.letters
 l1:M.letters<=3
 r0:1<=M.rooms
 r1:M.rooms<=5
 b:RoomsOk M.rooms M.begins
 e:RoomsOk M.rooms M.ends
 d:∀ q∈M.doors,DoorOk M.letters M.rooms q
 m:M.doors.length<=most
mutual
noncomputable def D.tups:D->Bool
 | .lst _=>false
 | .tup l=>D.tupsL l
 | _=>true
noncomputable def D.tupsL:List D->Bool
 | []=>true
 | d::l=>D.tups d&&D.tupsL l
end
end L2
end
noncomputable section
namespace L2
end L2
end
noncomputable section
namespace L2
open PySem PySem.Spec PyProof.Rows
noncomputable def minO:List Int->Option Int
 | []=>none
 | a::l=>some (match minO l with|none=>a|some b=>if b<a then b else a)
theorem aM0 {X:Cx}{Z tg iter:Expr}{Y:List Expr}{scope:Scope}{pos a0 py:Pos}{y:Str}{i:Nat}{wi:TI}{g:TG}{tc:TT}{te:TE}(N':List Str)(src:List (Option Nat))
  (hN:X.N.Nodup) (b5:X.N[i]?=some y) (a4:X.env.scope.names.lookup y=some .local)
  (b6:z9 N' src scope X.N X.env.scope=true) (hi:PI X tg iter wi) (a1:X.calm=true)
  (b3:∀(C:Addr) (cells:List (Str×Addr)) (s:af) (H:Hp) (ex:List Addr),PG (zQ X N' scope C cells s H ex) tg g/\PIf (zQ X N' scope C cells s H ex) Y tc/\PE (zQ X N' scope C cells s H ex) Z te)
  (hs:∀ x,cQ iter X.env x=pure x:=by intro _;rfl)
  (c0:eP (.ListComp Z [⟨tg,iter,Y,0⟩] scope pos) (some (.Name y py)) a0.line X.env=pure true:=by rfl) :
  PS X (.Assign [.Name y py] (.ListComp Z [⟨tg,iter,Y,0⟩] scope pos) a0) (aY8 (tComp src wi g tc te) (au9 i)):=by
 intro B s σ H D0 I h
 have ck:=bh9 b6
 rw[exec_Assign_Name_used _ _ _ _ c0]
 refine ah (ik (ah ?_))
 show wpAny _ X.A (do let _ <- comprehension (.ListComp Z [⟨tg,iter,Y,0⟩] scope pos) scope X.env _ (newList []) false (eval iter X.env) (some (fW (.Name y py) X.env))) _ _ s
 have hcl:=qf (scope:=scope) (env:=X.env) λ y hy e=>I.ok.has y.1 (ck.fr y hy e)
 refine ah (bz (fG (use:=some (fW (.Name y py) X.env)) (Q:=λ _ s'=>SP X B D0 .next s') rfl hs hcl ck.kind ck.loc (thn (hi B s σ H _ I h) λ v s1 h1=>thn h1 λ c3 s2 h2=>?_)) (λ _ s' hq=>aA (aA hq)) λ _ _ e=>e)
 obtain⟨it,G,tn,J,H2,e,I2,T,a5,f2,W⟩:=h2
 subst e
 have hD:=I2.fresh
 obtain⟨W,⟨m0,w0⟩,turn⟩:=W _ hD
 have I3:=I2.lnew (its:=[]) (ys:=[]) (t':=s2.toks) .nil (dv _)
 have a6:∀ b∈G,b<s2.heap.objs.size:=λ b hb=>by obtain⟨o,q,_⟩:=T.obj _ _ a5 b hb;exact az q
 have f3:∀ b∈G,FpOk X B (upd H2 s2.heap.objs.size (.lst [])) b:=λ b hb=>⟨by rw[za (av (a6 b hb))];exact(f2 b hb).1,(f2 b hb).2⟩
 refine bH (af2 ?_)
 generalize a2:({ s2 with heap:=s2.heap.push { cls:=.type "list",data:=.seq ([]:List Value).toArray },toks:=s2.toks }:af)=s3 at I3
 have c2:({ s2 with heap:=s2.heap.push { cls:=.type "list",data:=.seq ([]:List Value).toArray } }:af)=s3:=a2
 have b2:∀ b∈G,b<s3.heap.objs.size:=λ b hb=>by
  rw[<-a2]
  show b<(s2.heap.push _).objs.size
  rw[bW]
  exact fu (a6 b hb)
 have I4:=an9 (s4:={ s3 with heap:=dW (s3.heap.push { cls:=.type "dict",data:=.dict #[] }) scope.names }) ck I3 f3 b2 ⟨_,rfl⟩
 have a3:tn 0 (dW (s3.heap.push { cls:=.type "dict",data:=.dict #[] }) scope.names):=T.keep _ _ _ a5 λ b hb o e=>cL _ _ b o (ak _ (by rw[<-a2];exact ak _ e))
 obtain⟨hg,b4,he⟩:=b3 s3.heap.objs.size (aK (s3.heap.objs.size+1) scope.names (ad3 X.env.cells scope.names [])) s3 (upd H2 s2.heap.objs.size (.lst [])) G
 have b0:∀ H':Hp,(∀ b∈G,H' b=none)->∀ b∈G,FpOk (zQ X N' scope s3.heap.objs.size (aK (s3.heap.objs.size+1) scope.names (ad3 X.env.cells scope.names [])) s3 (upd H2 s2.heap.objs.size (.lst [])) G) [] H' b:=λ H' hn b hb =>
  ⟨hn b hb,(I4.ok.exf b hb).1,I4.ok.exfs b hb,.inl hb,λ x c e=>(I4.ok.exf b hb).2 x c e,λ p hp=>absurd (show p∈([]:List (Addr×Obj))from hp) (by simp)⟩
 have T':Turn X.prog X.w X.K tg J G it tn:=T
 have c1:∀ b∈G,upd H2 s2.heap.objs.size (.lst []) b=none:=λ b hb=>(f3 b hb).1
 have L:=ax5 (X':=zQ X N' scope s3.heap.objs.size (aK (s3.heap.objs.size+1) scope.names (ad3 X.env.cells scope.names [])) s3 (upd H2 s2.heap.objs.size (.lst [])) G) (R:=compPost (model X.prog X.w) X.A X.xe (some (fW (.Name y py) X.env)) (λ _ s'=>SP X B D0 .next s') (Value.ref s2.heap.objs.size) s3.heap.objs.size) (iter:=iter) (scope:=scope) (pos:=pos) (QD:=λ H'=>D0.nx (σ.set i (some (.ref s2.heap.objs.size))) H') rfl a1 I4 T' a3 b0 c1 w0 turn hg b4 he
  (λ σ' H' s' J' q=>by
   have J2:=aI0 I3 f3 J' (Heap.SameBut.refl _ _)
   obtain⟨mm,hn,_⟩:=J'.loc
   have nL:s3.heap.objs.size≠X.env.locals:=cX I3.lt
   have nC:∀ x c,X.env.cells.lookup x=some c->c≠s3.heap.objs.size:=λ x c e=>by
    obtain⟨v,z⟩:=I3.cell x c e
    exact av z.lt
   show wpAny _ X.A (fW (.Name y py) X.env (.ref s2.heap.objs.size)) _ _ _
   refine iT (au6 (v:=.ref s2.heap.objs.size) J2 hN b5 (.inl a4) rfl (λ s5 I5 sb=>?_) (.inr a4))
   obtain⟨aa,sb,ha⟩:=sb
   have na:s3.heap.objs.size≠aa:=by
    rcases ha with z|z
    ·rw[z];exact nL
    ·exact λ e=>nC _ _ z e.symm
   refine⟨mm,hn.sameBut sb na,λ h' b1=>⟨_,H',I5.turned (t':=s5.toks) (λ b o hb e=>(b1.2 b hb).trans e) J'.free nL (.inr I3.sz) nC λ p hp z=>?_,q⟩⟩
   exact absurd (az (I3.pin p hp).1) (by rw[z];exact bF _))
 exact gj L (T.self _ _ _ _ _ a3 L)
def cc3:V->Option Int->Option Int->Hp->VK->Prop:=λ x lo hi H Q=>∃ z,x=.str z/\z.length<=aH/\Q (.str (eB z lo hi)) H
theorem au4 {v:Value}{o:Option Int}(p:fD v o):∃ q:Option (Int×Tok),v=partValue q/\q.map (·.1)=o:=by
 cases p with
 | none=>exact⟨none,rfl,rfl⟩
 | int i t=>exact⟨some (i,t),rfl,rfl⟩
theorem bK8 {X:Cx}:SlR X cc3:=by
 intro Y s σ H x v vl vu G B sl Q I rx hs pl pu h
 obtain⟨z,rfl,hz,q⟩:=h
 obtain⟨t,rfl⟩:=rx
 obtain⟨l,rfl,el⟩:=au4 pl
 obtain⟨u,rfl,Z⟩:=au4 pu
 refine⟨"str",_,F.slot_str_getitem.lookup,iG s z t,?_⟩
 refine wpAny_getItem_str_slice (l:=l) (u:=u) (st:=none) hs rfl ?_
 unfold sliceMade
 have e:slicePicked z l u none=bA G B 1 z.length:=by
  unfold slicePicked
  rw[el,Z]
  rfl
 rw[e]
 unfold eB at q
 split
 ·rename_i hc
  have y:((1:Int)==1&&(bA G B 1 z.length).length==z.length)=true:=hc
  rw[if_pos y]at q
  exact⟨.str z,H,I,⟨t,rfl⟩,q⟩
 ·rename_i hc
  have y:¬((1:Int)==1&&(bA G B 1 z.length).length==z.length)=true:=hc
  rw[if_neg y]at q
  have J:(Str.mk (gR (λ x=>z.cps[x]?) (bA G B 1 z.length)).toArray).length<=aH:=by
   show(gR (λ x=>z.cps[x]?) (bA G B 1 z.length)).toArray.size<=aH
   rw[au]
   exact ao (List.length_filterMap_le _ _) (ao (sliceIndices_le G B z.length) hz)
  exact⟨J,.str _,H,I.tok _,⟨_,rfl⟩,q⟩
section
variable {M:Model} {A:aP} {E:Value->af->Prop} {s₀ s:af} {m cm:Str->Option Value} {env:Env} {cs:List (Str×Addr)}
theorem bq0 {n:Str}{v:Value}{Q:Unit->af->Prop}(z:fm s₀ env.locals m cs cm s)(B:env.scope.kind=.function)(kl:env.kindOf n=some .local)
  (go:∀ s',fm s₀ env.locals (λ y=>if y=n then some v else m y) cs cm s'->Q () s'):wpAny M A (fK env n v) Q E s:=by
 refine gz kl z.toInCall.ns (λ g G h=>go _ ⟨⟨?a,G,λ b o e=>?b,z.toInCall.fresh⟩,λ k c e=>?c,z.apart,z.above⟩) (by rw[B];rfl)
 case a=>obtain⟨J,tk,e⟩:=z.toInCall.same;subst e;exact⟨g,_,rfl⟩
 case b=>exact h.extBut b o (av (aq (az e) z.toInCall.fresh)) (z.toInCall.keep b o e)
 case c=>exact(z.cell k c e).sameBut h (cX (z.above k c (ax e)))
theorem bm1 {n:Str}{c:Addr}{v:Value}{Q:Unit->af->Prop}(z:fm s₀ env.locals m cs cm s)(G:env.scope.kind=.function)(J:env.kindOf n=some .cell)
  (e1:env.cells.lookup n=some c) (e2:cs.lookup n=some c) (go:∀ s',fm s₀ env.locals m cs (λ y=>if y=n then some v else cm y) s'->Q () s'):wpAny M A (fK env n v) Q E s:=by
 have up:=z.above n c (ax e2)
 refine gL G J e1 (z.cell n c e2) λ g Y h=>go _ ⟨⟨?a,z.toInCall.ns.sameBut h (av up),λ b o e=>?b,z.toInCall.fresh⟩,λ k B e=>?c,z.apart,z.above⟩
 case a=>obtain⟨Z,tk,e⟩:=z.toInCall.same;subst e;exact⟨g,_,rfl⟩
 case b=>exact h.extBut b o (av (cu (aq (az e) z.toInCall.fresh) up)) (z.toInCall.keep b o e)
 case c =>
  by_cases q:k=n
  ·subst q
   rw[e2]at e;cases e
   simpa using Y
  ·rw[if_neg q]
   exact(z.cell k B e).sameBut h λ y=>q (f7 z.apart (ax e) (y▸ax e2))
theorem aC6 (f:Str×Value->PUnit->Sem (ForInStep PUnit))(Y:∀ n v u,f (n,v) u=(do fK env n v;pure (.yield ⟨⟩)))(J:env.scope.kind=.function)(sub:∀ n c,cs.lookup n=some c->env.cells.lookup n=some c) :
  ∀(bs:List (Str×Value)) (m G:Str->Option Value) (s:af) (Q:PUnit->af->Prop),fm s₀ env.locals m cs G s ->
   (∀ y∈bs,env.kindOf y.1=some .local\/(env.kindOf y.1=some .cell/\∃ c,cs.lookup y.1=some c)) ->
   (∀ s',fm s₀ env.locals (bindL env.kindOf bs m) cs (bindC env.kindOf bs G) s'->Q ⟨⟩ s')->wpAny M A (forIn bs ⟨⟩ f) Q E s
 | [],m,G,s,Q,z,_,go=>by rw[gQ];exact aA (go s z)
 | (n,v)::r,m,G,s,Q,z,hy,go=>by
  rw[jy,Y]
  have hr:=λ y (q:y∈r)=>hy y (ai _ q)
  rcases hy (n,v) aw with kl|⟨kc,c,e2⟩
  ·refine ah (ah (bq0 z J kl λ s' Z=>aA (aC6 f Y J sub r _ _ s' Q Z hr λ h B=>go h ?_)))
   unfold bindL bindC;rw[if_pos kl,if_pos kl];exact B
  ·have nl:¬ env.kindOf n=some .local:=by rw[kc];decide
   refine ah (ah (bm1 z J kc (sub n c e2) e2 λ s' Z=>aA (aC6 f Y J sub r _ _ s' Q Z hr λ h B=>go h ?_)))
   unfold bindL bindC;rw[if_neg nl,if_neg nl];exact B
end
theorem an5 {M:Model}{A:aP}{E:Value->af->Prop}{s:af}{scope:Scope}{globals:Addr}{h:List (Str×Addr)}{binds:List (Str×Value)}{qual:Str}{func:Option Addr}{code:Value}{builtins:Addr}{Q:Env->af->Prop}
  (G:scope.kind=.function) (hy:∀ y∈binds,scope.names.lookup y.1=some .local\/(scope.names.lookup y.1=some .cell/\∃ c,(aK (s.heap.objs.size+1) scope.names []).lookup y.1=some c))
  (go:∀ env,env=newEnv scope s.heap.objs.size globals (aK (s.heap.objs.size+1) scope.names h) qual func code none builtins ->
   ∀ s',fm s env.locals (bindL env.kindOf binds λ _=>none) (aK (s.heap.objs.size+1) scope.names []) (bindC env.kindOf binds λ _=>none) s'->Q env s') :
  wpAny M A (eY scope globals h binds qual func code none builtins) Q E s:=by
 simp only[eY,Option.isSome_none,bf,if_false]
 refine ah (wpAny_alloc (ah (wpAny_layCells _ (λ nm kd Y=>by cases q:kd==NameKind.cell<;>simp[q]) _ _ _ _ ?_)))
 have ok:=cellsFrom_ok scope.names (s.heap.push { cls:=.type "frame",data:=.dict #[] }) (s.heap.objs.size+1) [] ⟨λ _ _ J=>(nomatch J),List.Pairwise.nil⟩ (by rw[bW];exact aj _)
 have B:({ s with heap:=s.heap.push { cls:=.type "frame",data:=.dict #[] } }:af).heap.objs.size=s.heap.objs.size+1:=bW ..
 rw[bW]at ok
 rw[B]
 refine ah (aC6 (s₀:=s) (cs:=aK (s.heap.objs.size+1) scope.names []) (env:=newEnv scope s.heap.objs.size globals (aK (s.heap.objs.size+1) scope.names h) qual func code none builtins)
  _ (λ _ _ _=>rfl) G (λ n c e=>?sub) binds (λ _=>none) (λ _=>none) _ _ ⟨⟨⟨_,_,rfl⟩,?ns,λ b o e=>?k,aj _⟩,λ n c e=>(ok.empty n c (ax e)).1,ok.apart,λ n c e=>(ok.empty n c e).2⟩ hy λ s' x=>aA (go _ rfl s' x))
 case sub =>
  show(aK _ _ _).lookup n=some c
  rw[zh,zM,e];rfl
 case ns=>exact(ki s.heap (.type "frame")).keeps (cL _ _)
 case k=>exact cL _ _ b o (ak _ e)
noncomputable def qj (c:Addr)(qual:Str):HO:=.ext λ h=>h.CodeRec (.ref c) qual
noncomputable def ap2 (f:Addr)(fd:bv):HO:=.ext λ h=>h.get? f=some { cls:=.type "function",data:=.func fd }
theorem aG9 {P:aD}{w:World}{H:Hp}{h:Heap}{c:Addr}{q:Str}(r:h.CodeRec (.ref c) q):ab6 P w H h c (qj c q):=by
 refine⟨r,?_,λ G B z k=>?_⟩
 ·obtain⟨y,o,vs,t,e,g,_⟩:=r
  cases e
  exact⟨o,g⟩
 ·obtain⟨y,o,vs,t,e,g,d⟩:=z
  cases e
  exact⟨c,o,vs,t,rfl,k o g,d⟩
theorem au8 {P:aD}{w:World}{H:Hp}{h:Heap}{c:Addr}{q:Str}(x:HOk P w H h)(e:H c=some (qj c q)):h.CodeRec (.ref c) q:=(x c _ e).1
theorem as4 {P:aD}{w:World}{H:Hp}{h:Heap}{f:Addr}{y:bv}(r:h.get? f=some { cls:=.type "function",data:=.func y }):ab6 P w H h f (ap2 f y) :=
 ⟨r,⟨_,r⟩,λ _ _ z k=>k _ z⟩
theorem ar8 {P:aD}{w:World}{H:Hp}{h:Heap}{f:Addr}{y:bv}(x:HOk P w H h)(e:H f=some (ap2 f y)):h.get? f=some { cls:=.type "function",data:=.func y }:=(x f _ e).1
noncomputable def isC (cells:List (Str×Addr))(b:Addr):Bool:=cells.any λ p=>cells.lookup p.1==some b
theorem ad8 {cells:List (Str×Addr)}{b:Addr}:isC cells b=true↔∃ x,cells.lookup x=some b:=by
 unfold isC
 rw[List.any_eq_true]
 constructor
 ·rintro⟨p,_,e⟩;exact⟨p.1,by simpa using e⟩
 ·rintro⟨x,e⟩;exact⟨(x,b),ax e,by simpa using e⟩
noncomputable def ab1 (cells:List (Str×Addr))(H:Hp):Hp:=λ b=>if isC cells b=true then none else H b
noncomputable def Put (cells:List (Str×Addr))(H H':Hp):Hp:=λ b=>if isC cells b=true then H b else H' b
theorem ab1.cell {cells:List (Str×Addr)}{H:Hp}{b:Addr}(h:isC cells b=true):ab1 cells H b=none:=if_pos h
theorem ab1.ne {cells:List (Str×Addr)}{H:Hp}{b:Addr}(h:isC cells b≠true):ab1 cells H b=H b:=if_neg h
theorem ab1.some {cells:List (Str×Addr)}{H:Hp}{b:Addr}{o:HO}(h:ab1 cells H b=some o):isC cells b≠true/\H b=some o:=by
 unfold ab1 at h
 split at h
 ·cases h
 ·rename_i z;exact⟨z,h⟩
theorem ab1.none {cells:List (Str×Addr)}{H:Hp}{b:Addr}(h:H b=none):ab1 cells H b=none:=by
 unfold ab1
 split
 ·rfl
 ·exact h
theorem Put.cell {cells:List (Str×Addr)}{H H':Hp}{b:Addr}(h:isC cells b=true):Put cells H H' b=H b:=if_pos h
theorem Put.ne {cells:List (Str×Addr)}{H H':Hp}{b:Addr}(h:isC cells b≠true):Put cells H H' b=H' b:=if_neg h
def Cells (clos:List (Str×Addr))(H:Hp):Prop:=∀ x c,clos.lookup x=some c->∃ o v,H c=some (.frz o (.own c))/\o.data=.cell v
theorem Cells.at {y:List (Str×Addr)}{H:Hp}(z:Cells y H){b:Addr}(h:isC y b=true):∃ o v,H b=some (.frz o (.own b))/\o.data=.cell v:=by
 obtain⟨x,e⟩:=ad8.mp h
 exact z x b e
def Cap (clos:List (Str×Addr))(H:Hp)(fr:List Str)(cap:List V):Prop:=∀(i:Nat) (x:Str) (v:V),fr[i]?=some x->cap[i]?=some v->∃ c o u,clos.lookup x=some c/\H c=some (.frz o (.own c))/\o.data=.cell (some u)/\RelV v u
structure LamScope (N ps fr:List Str)(sc:Scope):Prop where
 kind:sc.kind=.function
 co:sc.isCoroutine=false
 gen:sc.isGenerator=false
 nd:N.Nodup
 app:N=ps++fr
 par:∀ x∈ps,sc.names.lookup x=some .local\/sc.names.lookup x=some .cell
 frs:∀ x∈fr,sc.names.lookup x=some .free
 cel:∀ y∈sc.names,y.2=.cell->sc.names.lookup y.1=some .cell
noncomputable def az2 (P:aD)(w:World)(K:ac)(mg:Str->Option Value)(base:Heap)(N:List Str)(qual:Str)(scope:Scope)(f:Addr)(cd:Value)(clos:List (Str×Addr))(A:aP)(outer:List Env)(s:af)(H:Hp):Cx where
 prog:=P
 w:=w
 K:=K
 mg:=mg
 base:=base
 A:=A.deeper (cG qual scope s.heap.objs.size f cd (aK (s.heap.objs.size+1) scope.names clos))
 N:=N
 s₀:=s
 H₀:=ab1 clos H
 env:=cG qual scope s.heap.objs.size f cd (aK (s.heap.objs.size+1) scope.names clos)
 outer:=outer
 stack:=cG qual scope s.heap.objs.size f cd (aK (s.heap.objs.size+1) scope.names clos)::outer
 ex:=[]
 fn:=λ x=>scope.names.lookup x==some .cell
 calm:=true
 pn:=[]
 xe:=λ _ _=>False
theorem HOk.drop {P:aD}{w:World}{H:Hp}{h:Heap}{B:List (Str×Addr)}(x:HOk P w H h)(z:Cells B H):HOk P w (ab1 B H) h:=λ b o e=>by
 obtain⟨_,e'⟩:=ab1.some e
 have J:∀ c u,H c=some u->(∀ o v,u≠.frz o v)->isC B c≠true:=λ c u q d y=>by
  obtain⟨o,v,G,_⟩:=z.at y
  rw[q]at G;cases G
  exact d _ _ rfl
 exact(x b o e').stay (λ _ _ _ q=>q) (λ c q=>by rw[ab1.ne (J c _ q λ _ _=>by nofun)];exact q) λ c Y q=>by rw[ab1.ne (J c _ q λ _ _=>by nofun)];exact q
theorem aN7 {P:aD}{w:World}{K:ac}{mg:Str->Option Value}{base:Heap}{N ps fr:List Str}{qual:Str}{scope:Scope}{f:Addr}{cd:Value}{h:List (Str×Addr)}{A:aP}{B:List Env}{s s1:af}{H:Hp}{us:List Value}{vs cap:List V}
  (S:LamScope N ps fr scope) (hd:A.handled=none) (G:Env0 P w K mg base A B s H) (hl:vs.length=ps.length) (a2:cap.length=fr.length) (r:Vals vs us)
  (hc:Cells h H) (inj:∀ x y c,h.lookup x=some c->h.lookup y=some c->x=y) (a3:∀ x,scope.names.lookup x=some .free->∃ c,h.lookup x=some c) (Z:Cap h H fr cap)
  (x:fm s s.heap.objs.size (bindL (cG qual scope s.heap.objs.size f cd (aK (s.heap.objs.size+1) scope.names h)).kindOf (ps.zip us) λ _=>none) (aK (s.heap.objs.size+1) scope.names [])
   (bindC (cG qual scope s.heap.objs.size f cd (aK (s.heap.objs.size+1) scope.names h)).kindOf (ps.zip us) λ _=>none) s1) :
  Inv (az2 P w K mg base N qual scope f cd h A B s H) [] (vs.map some++cap.map some) (ab1 h H) s1:=by
 obtain⟨h1,tk,rfl,hk⟩:=x.done
 have Y:∀ b:Addr,b ∉ (az2 P w K mg base N qual scope f cd h A B s H).ex:=λ b z=>absurd (show b∈([]:List Addr)from z) (by simp)
 have lk:∀ y c,(aK (s.heap.objs.size+1) scope.names h).lookup y=some c->(aK (s.heap.objs.size+1) scope.names []).lookup y=some c\/((aK (s.heap.objs.size+1) scope.names []).lookup y=none/\h.lookup y=some c):=λ y c e=>by
  rw[zh,zM]at e
  cases q:(aK (s.heap.objs.size+1) scope.names []).lookup y with
  | some d=>rw[q]at e;left;simpa using e
  | none=>rw[q]at e;right;exact⟨rfl,by simpa using e⟩
 have own:∀ y c,(aK (s.heap.objs.size+1) scope.names []).lookup y=some c->s.heap.objs.size<c:=λ y c e=>x.above y c (ax e)
 have a0:∀ y c,h.lookup y=some c->c<s.heap.objs.size:=λ y c e=>by
  obtain⟨o,v,q,_⟩:=hc y c e
  exact G.hok.lt q
 have hx:∀ y c,h.lookup y=some c->scope.names.lookup y=some .free->(aK (s.heap.objs.size+1) scope.names h).lookup y=some c:=λ y c e k=>by
  rw[zh,zM]
  cases q:(aK (s.heap.objs.size+1) scope.names []).lookup y with
  | none=>exact e
  | some d =>
   rcases zF (ax q)with z|z
   ·rw[S.cel _ z rfl]at k;cases k
   ·exact absurd z (by simp)
 have dn:∀ b,H b=none->ab1 h H b=none:=λ b e=>ab1.none e
 refine⟨⟨G.mod,S.kind,rfl,rfl,aj _,λ y z c a b=>?inj,λ y hy=>?has,λ y c hy e=>?cab,λ _=>hd,gN G.frames,.inr ⟨rfl,rfl⟩,λ b z=>absurd z (Y b),λ b o e=>⟨(G.bs b o e).1,dn b (G.bs b o e).2⟩,G.bsz,λ b _ _=>Y b,λ b z=>absurd z (Y b),G.funs,λ b hb=>dn b (G.frf b hb)⟩,
  rfl,G.bare,Un.kept hk,⟨_,x.toInCall.ns,λ i y v q1 q2 q3=>?loc⟩,λ y c e=>?cell,dn _ (G.hok.fresh (aj _)),λ y c e=>?freeC,λ p hp=>absurd (show p∈([]:List (Addr×Obj))from hp) (by simp),(G.hok.drop hc).kept hk,?len⟩
 case inj =>
  rcases lk y c a with a|⟨_,a⟩<;>rcases lk z c b with b|⟨_,b⟩
  ·exact f7 x.apart (ax a) (ax b)
  ·exact absurd (cu (own _ _ a) (a0 _ _ b)) (bF _)
  ·exact absurd (cu (own _ _ b) (a0 _ _ a)) (bF _)
  ·exact inj y z c a b
 case has =>
  have hy:scope.names.lookup y=some .cell\/scope.names.lookup y=some .free:=hy
  rcases hy with hy|hy
  ·obtain⟨c,e⟩:=z6 (n:=s.heap.objs.size+1) hy
   refine⟨c,?_⟩
   show(aK (s.heap.objs.size+1) scope.names h).lookup y=some c
   rw[zh,zM,e];rfl
  ·obtain⟨c,e⟩:=a3 y hy
   exact⟨c,hx y c e hy⟩
 case cab =>
  have hy:(scope.names.lookup y==some .cell)=true:=hy
  have a4:scope.names.lookup y=some .cell:=by simpa using hy
  rcases lk y c e with a|⟨a,_⟩
  ·exact cW (own y c a)
  ·obtain⟨d,q⟩:=z6 (n:=s.heap.objs.size+1) a4
   rw[q]at a;cases a
 case loc =>
  have a1:ps.Nodup:=by have:=S.nd;rw[S.app]at this;exact(List.nodup_append.mp this).1
  by_cases hi:i<vs.length
  ·have ha:vs[i]?=some v:=by
    rw[aB (by simpa using hi),aJ]at q2
    cases e:vs[i]? with
    | none=>rw[e]at q2;cases q2
    | some a=>rw[e]at q2;cases q2;rfl
   obtain⟨u,hu,rv⟩:=r.get ha
   have hp:ps[i]?=some y:=by
    have J:N[i]?=some y:=q1
    rw[S.app,aB (by omega)]at J;exact J
   refine⟨u,rv,?_⟩
   rcases S.par y (bp hp)with k|k
   ·exact .inl ⟨k,al7 a1 hp hu k⟩
   ·obtain⟨c,e⟩:=z6 (n:=s.heap.objs.size+1) k
    refine .inr ⟨.inl k,c,?_,?_⟩
    ·show(aK (s.heap.objs.size+1) scope.names h).lookup y=some c
     rw[zh,zM,e];rfl
    ·have q:=x.cell y c e
     rw[ak2 a1 hp hu (by show scope.names.lookup y≠_;rw[k];decide)]at q
     exact q
  ·have hf:fr[i - vs.length]?=some y:=by
    have J:N[i]?=some y:=q1
    rw[S.app,aF (by omega)]at J;rw[hl];exact J
   have hv:cap[i - vs.length]?=some v:=by
    rw[aF (by simpa using hi),aJ,aE]at q2
    cases e:cap[i - vs.length]? with
    | none=>rw[e]at q2;cases q2
    | some a=>rw[e]at q2;cases q2;rfl
   obtain⟨c,o,u,e1,e2,e3,e4⟩:=Z _ y v hf hv
   have kf:=S.frs y (bp hf)
   refine⟨u,e4,.inr ⟨.inr kf,c,hx y c e1 kf,?_⟩⟩
   exact⟨o,hk c o (G.hok c _ e2).1,e3⟩
 case cell =>
  rcases lk y c e with a|⟨_,a⟩
  ·exact⟨_,x.cell y c a⟩
  ·obtain⟨o,v,q,d⟩:=hc y c a
   exact⟨v,o,hk c o (G.hok c _ q).1,d⟩
 case freeC =>
  rcases lk y c e with a|⟨_,a⟩
  ·exact dn c (G.hok.fresh (cW (own y c a)))
  ·exact ab1.cell (ad8.mpr ⟨y,a⟩)
 case len =>
  show _=N.length
  rw[S.app]
  simp[hl,a2]
theorem aW4 {P:aD}{w:World}{B:List Env}{H H':Hp}{s s':af}{h:List (Str×Addr)}(hok:HOk P w H s.heap)(hc:Cells h H)(frf:∀ b∈frs B,H b=none)
  (un:Un (frs B) [] (ab1 h H) H' s.heap s'.heap) (Y:HOk P w H' s'.heap):Un (frs B) [] H (Put h H H') s.heap s'.heap/\HOk P w (Put h H H') s'.heap:=by
 have nc:∀ b,H b=none->isC h b≠true:=λ b e y=>by
  obtain⟨o,v,q,_⟩:=hc.at y
  rw[e]at q;cases q
 have J:∀ c u,H c=some u->(∀ o v,u≠.frz o v)->isC h c≠true:=λ c u q d y=>by
  obtain⟨o,v,q',_⟩:=hc.at y
  rw[q]at q';cases q'
  exact d _ _ rfl
 have G:∀ b,isC h b=true->H' b=none:=λ b y=>by
  obtain⟨o,v,q,_⟩:=hc.at y
  exact un.free b o (hok b _ q).1 (ab1.cell y) (by simp)
 refine⟨⟨λ b o e n hb hx=>un.keep b o e (ab1.none n) hb hx,λ b o e n hb hx=>un.slot b o e (ab1.none n) hb hx,λ b o e n hx=>?_,λ b o e hx=>un.there b o e hx,λ b Z e=>?_,λ b o u e=>?_,λ b ps e=>?_⟩,λ b o e=>?_⟩
 ·rw[Put.ne (nc b n)];exact un.free b o e (ab1.none n) hx
 ·have z:=J b _ e λ _ _=>by nofun
  rw[Put.ne z];exact un.tups b Z (by rw[ab1.ne z];exact e)
 ·by_cases z:isC h b=true
  ·rw[Put.cell z];exact e
  ·rw[Put.ne z];exact un.frzs b o u (by rw[ab1.ne z];exact e)
 ·have z:=J b _ e λ _ _=>by nofun
  rw[Put.ne z];exact un.tbls b ps (by rw[ab1.ne z];exact e)
 ·by_cases z:isC h b=true
  ·rw[Put.cell z]at e
   obtain⟨ob,v,q,d⟩:=hc.at z
   rw[q]at e;cases e
   have g:=(hok b _ q).1
   have g':=un.keep b ob g (ab1.cell z) (λ y=>by rw[frf b y]at q;cases q) (by simp)
   exact⟨g',ob,g'⟩
  ·rw[Put.ne z]at e
   have np:∀ c u,H' c=some u->Put h H H' c=some u:=λ c u q=>by
    rw[Put.ne λ y=>by rw[G c y]at q;cases q];exact q
   exact(Y b o e).stay (λ _ _ _ q=>q) (λ c q=>np c _ q) λ c Z q=>np c _ q
structure ClOk (P:aD)(w:World)(K:ac)(mg:Str->Option Value)(base:Heap)(k:Nat)(R:Hp->Prop)(f:Addr)(sp:Sp):Prop where
 run:∀(A:aP) (outer:List Env) (s:af) (H:Hp) (us:List Value) (vs:List V) (Q:VK),Room k A->Env0 P w K mg base A outer s H->R H->Vals vs us->sp vs H Q E0 ->
  fX (model P w) A (.call (.ref f) ⟨us,[]⟩) (CR CX0 outer P w H s Q E0) s
theorem ClOk.ofFn {P:aD}{w:World}{K:ac}{mg:Str->Option Value}{base:Heap}{k:Nat}{f:Addr}{G:bv}{ps:List Str}{sp:Sp}(F:FnOk P w K mg base CX0 k f G ps sp)(hb:Binds K G ps []):ClOk P w K mg base k (λ _=>True) f sp :=
 ⟨λ A y s H us vs Q J B _ r h=>by
  have hl:=F.len _ _ _ _ h
  have:=hb s us (B.mod.kin.keeps λ b o e=>(B.bs b o e).1) (by rw[a7,<-r.length];exact hl)
  rw[a7]at this
  exact F.run A y s H ⟨us,[]⟩ us vs Q E0 J B this r h⟩
def au1 (H:Hp)(f:Addr)(qual:Str)(params:a9)(body:Expr)(scope:Scope)(fr:List Str)(cap:List V)(clos:List (Str×Addr)):Prop :=
 ∃ pm c' ctv,H f=some (ap2 f (bM "<lambda>" qual params body scope clos pm (.ref c') ctv))/\H c'=some (qj c' qual)/\Cells clos H /\
  (∀ x y c,clos.lookup x=some c->clos.lookup y=some c->x=y)/\(∀ x,scope.names.lookup x=some .free->∃ c,clos.lookup x=some c)/\Cap clos H fr cap
def BM (mg:Str->Option Value)(base:Heap):Prop:=∃ bm ob,mg "__builtins__"=some (.ref bm)/\bm≠fV/\base.get? bm=some ob/\ob.cls=.type "module"/\ob.dict=some fV/\ob.data=.plain
def bW8 (cells:List (Str×Addr))(P:Addr)(qual:Str)(params:a9)(body:Expr)(scope:Scope)(pos:Pos):TE:=λ _ H Q =>
 ∃ ps:Array Value,H P=some (.tbl ps)/\g9 ps.toList /\
  (cB pos ps.toList=none->∀ c' f pm ctv,H c'=none->H f=none->c'≠f ->
   Q (.ref f) (upd (upd (upd H P (.tbl (ps++#[cz pos.line,cz pos.col,.ref c']))) c' (qj c' qual)) f (ap2 f (bM "<lambda>" qual params body scope (ad3 cells scope.names []) pm (.ref c') ctv)))) /\
  (∀ cv,cB pos ps.toList=some cv->∃ c',cv=.ref c'/\∀ f pm ctv,H f=none->Q (.ref f) (upd H f (ap2 f (bM "<lambda>" qual params body scope (ad3 cells scope.names []) pm (.ref c') ctv))))
noncomputable def lamCheck (scope xs:Scope):Bool:=scope.names.all λ y=>!(y.2==.free)||(xs.names.lookup y.1==some .cell||xs.names.lookup y.1==some .free)
theorem aO3 {X:Cx}{c P:Addr}{params:a9}{body:Expr}{scope:Scope}{pos:Pos}(Y:X.env.code=.ref c)(C:bw X.base c P)(hB:BM X.mg X.base)
  (c1:lamCheck scope X.env.scope=true) (c0:jR params X.env=([],[]):=by rfl) :
  PE X (.Lambda params body scope pos) (bW8 X.env.cells P (X.env.qual ++ "<lambda>") params body scope pos):=by
 intro d1 s σ H Q I h
 have c6:∀ y∈scope.names,y.2=.free->X.env.kindOf y.1=some .cell\/X.env.kindOf y.1=some .free:=λ y hy e=>by
  have z:=aG.mp c1 y hy
  have z':X.env.scope.names.lookup y.1=some .cell\/X.env.scope.names.lookup y.1=some .free:=by simpa [e]using z
  exact z'
 obtain⟨ps,Z,ht,b0,a1⟩:=h
 refine PySem.W.kla_eval c0 ?_
 have hcl:=qf (scope:=scope) (env:=X.env) λ y hy e=>I.ok.has y.1 (c6 y hy e)
 have oP:s.heap.get? P=some (dH ps):=I.hok P _ Z
 have a0:s.heap.Ns aS X.mg:=I.mod.glob.keeps I.bk
 have hC:bw s.heap c P:=C.keeps I.bk
 have c4:aS≠P:=λ q=>by
  obtain⟨o,es,ep,e,d,_⟩:=a0
  rw[q,oP]at e;cases e;cases d
 have hb:s.heap.BuiltinsAt X.mg P:=by
  obtain⟨bm,ob,b1,b2,b3,b4,b5,b6⟩:=hB
  refine⟨bm,ob,b1,b2,λ q=>?_,λ q=>?_,I.bk _ _ b3,b4,b5,b6⟩
  ·obtain⟨o,es,ep,e,d,_⟩:=I.mod.glob
   rw[q,e]at b3;cases b3;rw[d]at b6;cases b6
  ·have e:=I.bk _ _ b3
   rw[q,oP]at e;cases e;cases b4
 cases q:cB pos ps.toList with
 | none =>
  refine PySem.W.kla_makeFunction (mg:=X.mg) hcl I.ok.glob a0 Y hC oP ht q c4 hb λ B G h' tk hx hge hlt a6 a4=>?_
  have a3:P<s.heap.objs.size:=az oP
  have c3:B≠P:=cX (aq a3 hge)
  have c5:h'.objs.size≠P:=cX (cu (aq a3 hge) hlt)
  have d0:B≠h'.objs.size:=av hlt
  have hsz:s.heap.objs.size<=h'.objs.size:=ao hge (cW hlt)
  have nP:∀ b,H b=none->b≠P:=λ b n z=>by rw[z,Z]at n;cases n
  have lt:∀ b o,H b=some o->b≠B/\b≠h'.objs.size:=λ b o e=>⟨av (aq (I.hok.lt e) hge),av (aq (I.hok.lt e) hsz)⟩
  have a5:∀ b o,s.heap.get? b=some o->b≠B/\b≠h'.objs.size:=λ b o e=>⟨av (aq (az e) hge),av (aq (az e) hsz)⟩
  have keep:∀ b o,b≠P->s.heap.get? b=some o->(h'.push (PySem.W.kla_obj "<lambda>" (X.env.qual ++ "<lambda>") params body scope (ad3 X.env.cells scope.names []) ((X.mg "__name__").getD .none) B G)).get? b=some o:=λ b o n e=>ak _ (hx b o n e)
  have J:∀ b,b≠P->b≠B->b≠h'.objs.size->∀ o1 o2 o3,upd (upd (upd H P o1) B o2) h'.objs.size o3 b=H b:=λ b n1 n2 n3 o1 o2 o3=>by rw[za n3,za n2,za n1]
  refine⟨.ref h'.objs.size,upd (upd (upd H P (.tbl (ps++#[cz pos.line,cz pos.col,.ref B]))) B (qj B (X.env.qual ++ "<lambda>"))) h'.objs.size (ap2 h'.objs.size (bM "<lambda>" (X.env.qual ++ "<lambda>") params body scope (ad3 X.env.cells scope.names []) ((X.mg "__name__").getD .none) (.ref B) G)),I.un (t':=tk) ⟨λ b o e n _ _=>keep b o (nP b n) e,λ b o e n _ _=>⟨o.slots,keep b o (nP b n) e⟩,λ b o e n _=>?fr,λ b o e _=>?th,λ b xs e=>?tu,λ b o u e=>?fz,λ b qs e=>?tb⟩ ?ok,rfl,b0 q B h'.objs.size _ G (I.hok.fresh hge) (I.hok.fresh hsz) d0⟩
  case fr=>rw[J b (nP b n) (a5 b o e).1 (a5 b o e).2];exact n
  case th =>
   by_cases z:b=P
   ·subst z;exact⟨_,ak _ a4⟩
   ·exact⟨o,keep b o z e⟩
  case tu=>rw[J b (λ z=>by rw[z,Z]at e;cases e) (lt b _ e).1 (lt b _ e).2];exact e
  case fz=>rw[J b (λ z=>by rw[z,Z]at e;cases e) (lt b _ e).1 (lt b _ e).2];exact e
  case tb =>
   by_cases z:b=P
   ·subst z
    rw[Z]at e;cases e
    exact⟨#[cz pos.line,cz pos.col,.ref B],by rw[za (bO c5),za (bO c3),zb]⟩
   ·exact⟨#[],by rw[J b z (lt b _ e).1 (lt b _ e).2,e];simp⟩
  case ok =>
   intro b o e
   by_cases zf:b=h'.objs.size
   ·subst zf
    rw[zb]at e;cases e
    exact as4 (aR _ rfl)
   ·rw[za zf]at e
    by_cases zc:b=B
    ·subst zc
     rw[zb]at e;cases e
     obtain⟨c2,oc,vs,t,e1,e2,e3⟩:=a6
     exact aG9 ⟨c2,oc,vs,t,e1,ak _ e2,e3⟩
    ·rw[za zc]at e
     by_cases zp:b=P
     ·subst zp
      rw[zb]at e;cases e
      exact ak _ a4
     ·rw[za zp]at e
      have a2:∀ d u,H d=some u->(∀ ps,u≠.tbl ps)->upd (upd (upd H P (.tbl (ps++#[cz pos.line,cz pos.col,.ref B]))) B (qj B (X.env.qual ++ "<lambda>"))) h'.objs.size (ap2 h'.objs.size (bM "<lambda>" (X.env.qual ++ "<lambda>") params body scope (ad3 X.env.cells scope.names []) ((X.mg "__name__").getD .none) (.ref B) G)) d=some u:=λ d u e nt=>by
       rw[J d (λ z=>by rw[z,Z]at e;cases e;exact nt _ rfl) (lt d _ e).1 (lt d _ e).2];exact e
      refine(I.hok b o e).stay (λ d u hd q=>keep d u ?_ q) (λ d q=>a2 d _ q λ _=>by nofun) λ d xs q=>a2 d _ q λ _=>by nofun
      rintro rfl
      rcases hd with hd|hd
      ·exact zp hd.symm
      ·rw[Z]at hd;cases hd
 | some cv =>
  obtain⟨B,rfl,hq⟩:=a1 cv q
  refine PySem.W.kla_makeFunctionHit (mg:=X.mg) hcl I.ok.glob a0 Y hC oP ht q hb λ G h' tk hk hsz=>?_
  refine⟨.ref h'.objs.size,_,I.laid (t':=tk) (λ b o e=>ak _ (hk b o e)) hsz (as4 (aR _ rfl)),rfl,hq h'.objs.size _ G (I.hok.fresh hsz)⟩
structure Caught (cl:List (Str×Addr))(N:List Str)(kd:Str->Option bJ)(σ:St)(H1 H2:Hp):Prop where
 ne:∀ b,isC cl b≠true->H2 b=H1 b
 free:∀ b,isC cl b=true->H1 b=none
 cells:Cells cl H2
 cap:∀(i:Nat) (x:Str) (v:V) (c:Addr),N[i]?=some x->σ[i]?=some (some v)->(kd x=some .cell\/kd x=some .free)->cl.lookup x=some c->∃ o u,H2 c=some (.frz o (.own c))/\o.data=.cell (some u)/\RelV v u
 inj:∀ x y c,cl.lookup x=some c->cl.lookup y=some c->x=y
def bG2 (cl:List (Str×Addr))(N:List Str)(kd:Str->Option bJ)(sp:Sp)(t:TA):TE:=λ σ H Q=>t σ H λ vs H1=>∀ H2,Caught cl N kd σ H1 H2->sp vs H2 (λ v H3=>Q v (ab1 cl H3)) E0
theorem bk9 {X:Cx}{k:Nat}{f:Addr}{fd:bv}{ps:List Str}{sp:Sp}{J:List (Addr×Obj)}{σ:St}{H:Hp}{s:af}{Q:VK}{us:List Value}{vs:List V}(F:FnOk X.prog X.w X.K X.mg X.base CX0 k f fd ps sp)(hr:Room k X.A)(hb:Binds X.K fd ps [])
  (a6:∀ x,X.fn x=true) (I:Inv X J σ H s) (r:Vals vs us) (h:∀ H2,Caught X.env.cells X.N X.env.kindOf σ H H2->sp vs H2 (λ v Y=>Q v (ab1 X.env.cells Y)) E0):wpAny (model X.prog X.w) X.A (call (.ref f) us) (EP X J σ Q) X.xe s:=by
 let H2:Hp:=λ b=>if isC X.env.cells b=true then(s.heap.get? b).map λ o=>.frz o (.own b)else H b
 have B:∀ b,isC X.env.cells b≠true->H2 b=H b:=λ b z=>if_neg z
 have G:∀ b,isC X.env.cells b=true->∃ o v,s.heap.get? b=some o/\o.data=.cell v/\H2 b=some (.frz o (.own b)):=λ b z=>by
  obtain⟨x,e⟩:=ad8.mp z
  obtain⟨v,o,g,d⟩:=I.cell x b e
  exact⟨o,v,g,d,by show(if _ then _ else _)=_;rw[if_pos z,g];rfl⟩
 have fr:∀ b,isC X.env.cells b=true->H b=none:=λ b z=>by
  obtain⟨x,e⟩:=ad8.mp z
  exact I.freeC x b e
 have up:∀ b,isC X.env.cells b=true->X.s₀.heap.objs.size<=b:=λ b z=>by
  obtain⟨x,e⟩:=ad8.mp z
  exact I.ok.cab x b (a6 x) e
 have a0:∀ b o,X.s₀.heap.get? b=some o->isC X.env.cells b≠true:=λ b o e z=>absurd (aq (az e) (up b z)) (bF _)
 have a5:∀ b∈frs X.stack,isC X.env.cells b≠true:=λ b hb z=>by
  rcases ay.mp (I.stkSub b hb)with e|hb
  ·obtain⟨x,e2⟩:=ad8.mp z
   exact I.cne x b e2 e
  ·obtain⟨_,o,ho,_⟩:=I.ok.funs.mem hb
   exact a0 b o ho z
 have b0:HOk X.prog X.w H2 s.heap:=λ b o e=>by
  by_cases z:isC X.env.cells b=true
  ·obtain⟨ob,v,g,d,q⟩:=G b z
   rw[q]at e;cases e
   exact⟨g,ob,g⟩
  ·rw[B b z]at e
   have np:∀ c u,H c=some u->H2 c=some u:=λ c u q=>by rw[B c λ y=>by rw[fr c y]at q;cases q];exact q
   exact(I.hok b o e).stay (λ _ _ _ q=>q) (λ c q=>np c _ q) λ c xs q=>np c _ q
 have nb:∀ b o,X.base.get? b=some o->isC X.env.cells b≠true:=λ b o e=>a0 b o (I.ok.bs b o e).1
 have e0:Env0 X.prog X.w X.K X.mg X.base X.A X.stack s H2:=⟨I.ok.frames,I.ok.mod,λ b o e=>⟨(I.bs b o e).1,by rw[B b (nb b o e)];exact(I.bs b o e).2⟩,ao I.ok.bsz I.sz,I.stack,λ b hb=>by rw[B b (a5 b hb)];exact I.stkFree b hb,b0,I.bare⟩
 have ca:Caught X.env.cells X.N X.env.kindOf σ H H2:=⟨B,fr,λ x c e=>by
   obtain⟨o,v,g,d,q⟩:=G c (ad8.mpr ⟨x,e⟩)
   exact⟨o,v,q,d⟩,λ i x v c e1 e2 e3 e4=>by
   obtain⟨m,hn,hl⟩:=I.loc
   have vis:Vis X.env.scope x:=e3.elim (λ z=>.inr (.inl z)) λ z=>.inr (.inr z)
   obtain⟨u,ru,lk⟩:=hl i x v e1 e2 vis
   rcases lk with⟨z,_⟩|⟨_,c2,z1,z2⟩
   ·rcases e3 with y|y<;>(rw[z]at y;cases y)
   ·rw[e4]at z1;cases z1
    obtain⟨o,w',g,d,q⟩:=G c (ad8.mpr ⟨x,e4⟩)
    obtain⟨o2,g2,d2⟩:=z2
    rw[g]at g2;cases g2
    exact⟨o,u,q,d2,ru⟩,I.ok.inj⟩
 have a1:=h H2 ca
 have hl:=F.len _ _ _ _ a1
 have a4:=hb s us I.kIn (by rw[a7,<-r.length];exact hl)
 rw[a7]at a4
 refine fY (eM (F.run X.A X.stack s H2 ⟨us,[]⟩ us vs _ E0 hr e0 a4 r a1) λ r s' hq=>?_)
 cases r with
 | error e=>exact aZ hq
 | ok fl =>
  cases fl with
  | next=>exact aZ hq
  | brk=>exact aZ hq
  | cont=>exact aZ hq
  | ret u =>
   obtain⟨v,Y,os,bare,un,a3,rv,q⟩:=hq
   have a2:∀ b,isC X.env.cells b=true->∃ o,s.heap.get? b=some o/\s'.heap.get? b=some o/\Y b=some (.frz o (.own b)):=λ b z=>by
    obtain⟨o,v,g,d,q2⟩:=G b z
    have q3:=un.frzs b o _ q2
    exact⟨o,g,(a3 b _ q3).1,q3⟩
   have Z:∀ b u,H b=some u->isC X.env.cells b≠true:=λ b u e y=>by rw[fr b y]at e;cases e
   refine⟨v,_,I.call' (H':=ab1 X.env.cells Y) (ch:=[]) os ⟨λ b o e n hb hx=>?k,λ b o e n hb hx=>?sl,λ b o e n hx=>?fr,λ b o e hx=>un.there b o e hx,λ b xs e=>?tu,λ b o u e=>?fz,λ b ps e=>?tb⟩ (λ b o e=>?hok) bare (λ b z=>absurd z (by simp)),rv,q⟩
   case k =>
    by_cases z:isC X.env.cells b=true
    ·obtain⟨o2,g,g',_⟩:=a2 b z
     rw[e]at g;cases g
     exact g'
    ·exact un.keep b o e (by rw[B b z];exact n) hb hx
   case sl=>exact un.slot b o e (by rw[B b (a5 b hb)];exact n) hb hx
   case fr =>
    by_cases z:isC X.env.cells b=true
    ·exact ab1.cell z
    ·exact ab1.none (un.free b o e (by rw[B b z];exact n) hx)
   case tu =>
    rw[ab1.ne (Z b _ e)]
    exact un.tups b xs (by rw[B b (Z b _ e)];exact e)
   case fz =>
    rw[ab1.ne (Z b _ e)]
    exact un.frzs b o u (by rw[B b (Z b _ e)];exact e)
   case tb =>
    rw[ab1.ne (Z b _ e)]
    exact un.tbls b ps (by rw[B b (Z b _ e)];exact e)
   case hok =>
    obtain⟨z,e3⟩:=ab1.some e
    have np:∀ c u,Y c=some u->(∀ o w',u≠.frz o w')->ab1 X.env.cells Y c=some u:=λ c u q d=>by
     rw[ab1.ne λ y=>by obtain⟨o,_,_,q3⟩:=a2 c y;rw[q]at q3;cases q3;exact d _ _ rfl];exact q
    exact(a3 b o e3).stay (λ _ _ _ q=>q) (λ c q=>np c _ q λ _ _=>by nofun) λ c xs q=>np c _ q λ _ _=>by nofun
theorem aI4 {X:Cx}{k:Nat}{f:Addr}{Z:bv}{ps:List Str}{sp:Sp}{x:Str}{p pos:Pos}{e:Expr}{es:List Expr}{t:TA}(F:FnOk X.prog X.w X.K X.mg X.base CX0 k f Z ps sp)(hr:Room k X.A)(hg:Gl X x)(hm:X.mg x=some (.ref f))(hk:bR X.K (.ref f)=true)(hb:Binds X.K Z ps [])
  (J:∀ x,X.fn x=true) (ha:PA X (e::es) t) (G:(x==("__debug__":Str))=false:=by decide) (he:bo (e::es) X.env=(false,eval e X.env)::bo es X.env:=by rfl) (B:(dC pos (bo es X.env)).any (·.1)=false:=by rfl) :
  PE X (.Call (.Name x p) (e::es) [] pos) (bG2 X.env.cells X.N X.env.kindOf sp t):=by
 intro y s σ H Q I h
 refine b9 (aq3 I hg hm ?_ G)
 refine iD (h₀:=X.base) I.ok.mod.kin hk (thn (ha pos y s σ H _ I h) λ us s1 ⟨vs,H1,Y,r,q⟩=>⟨Y.kIn,?_⟩) he B
 exact bk9 F hr hb J Y r q
def bw3 (K:ac)(H:Hp)(f:Addr):Prop:=(∃ fd,H f=some (ap2 f fd))\/∃ oc od fd sl,K.lookup f=some ⟨oc,od,.func fd,sl⟩
theorem bw3.at {X:Cx}{y:List (Addr×Obj)}{σ:St}{H:Hp}{s:af}{f:Addr}(h:bw3 X.K H f)(I:Inv X y σ H s):PySem.W.FnAt f s.heap:=by
 rcases h with⟨B,h⟩|⟨oc,od,B,sl,h⟩
 ·exact⟨_,_,_,_,ar8 I.hok h⟩
 ·exact⟨_,_,_,_,I.kIn _ _ h⟩
def bH3 (P:aD)(w:World)(K:ac)(mg:Str->Option Value)(base:Heap)(k:Nat)(i:Nat)(t:TA):TE:=λ σ H Q=>∃ f,σ[i]?=some (some (.ref f))/\bw3 K H f/\t σ H λ vs H1=>bw3 K H1 f/\∃ R sp,ClOk P w K mg base k R f sp/\R H1/\sp vs H1 Q E0
theorem bz5 {X:Cx}{k:Nat}{f:Addr}{sp:Sp}{R:Hp->Prop}{y:List (Addr×Obj)}{σ:St}{H:Hp}{s:af}{Q:VK}{us:List Value}{vs:List V}(F:ClOk X.prog X.w X.K X.mg X.base k R f sp)(G:Room k X.A)(I:Inv X y σ H s)(B:R H)(r:Vals vs us)(h:sp vs H Q E0) :
  wpAny (model X.prog X.w) X.A (call (.ref f) us) (EP X y σ Q) X.xe s:=by
 refine fY (eM (F.run X.A X.stack s H us vs Q G I.env0 B r h) λ r s' hq=>?_)
 cases r with
 | error e=>exact aZ hq
 | ok fl =>
  cases fl with
  | ret u=>exact I.after hq
  | next=>exact aZ hq
  | brk=>exact aZ hq
  | cont=>exact aZ hq
theorem be2 {X:Cx}{P:aD}{w:World}{K:ac}{mg:Str->Option Value}{base:Heap}{k i:Nat}{x:Str}{p pos:Pos}{e:Expr}{es:List Expr}{t:TA}(hP:X.prog=P)(hw:X.w=w)(hK:X.K=K)(B:X.mg=mg)(G:X.base=base)(hr:Room k X.A)(hv:PE X (.Name x p) (aX0 i))(ha:PA X (e::es) t)
  (he:bo (e::es) X.env=(false,eval e X.env)::bo es X.env:=by rfl) (J:(dC pos (bo es X.env)).any (·.1)=false:=by rfl) :
  PE X (.Call (.Name x p) (e::es) [] pos) (bH3 P w K mg base k i t):=by
 subst hP hw hK B G
 intro y s σ H Q I h
 obtain⟨f,hσ,hf,ht⟩:=h
 refine b9 (thn (hv y s σ H (λ v H'=>v=.ref f/\H'=H) I ⟨.ref f,hσ,rfl,rfl⟩) λ u s0 ⟨v,H0,Y,r0,ev,eH⟩=>?_)
 subst ev
 subst eH
 cases r0
 exact PySem.W.callWith_F (q:=f) (hf.at Y) (thn (ha pos y s0 σ H0 _ Y ht) λ us s1 ⟨vs,H1,Z,r,hF,R,sp,F,hR,q⟩=>⟨hF.at Z,bz5 F hr Z hR r q⟩) he J
noncomputable def av2 (K:ac)(names:List Str):List (Str×Addr×Addr):=names.filterMap λ x=>(a8 K x).map λ p=>(x,p)
theorem ao2 {K:ac}{names:List Str}{y:Str×Addr×Addr}:y∈av2 K names↔y.1∈names/\a8 K y.1=some y.2:=by
 unfold av2
 rw[eT]
 constructor
 ·rintro⟨x,hx,e⟩
  obtain⟨p,hp,rfl⟩:=gk.mp e
  exact⟨hx,hp⟩
 ·rintro⟨hx,e⟩
  exact⟨y.1,hx,by rw[e];rfl⟩
def bw4 (K:ac)(names:List Str)(base:Heap):Prop:=∀ x∈names,∀ c P,a8 K x=some (c,P)->bw base c P
def bn2 (K:ac)(names:List Str)(H:Hp):Prop:=∀ x∈names,∀ c P,a8 K x=some (c,P)->H P=some (.tbl #[])
noncomputable def bD8 (K:ac)(names:List Str)(ts:List Addr):Bool:=names.all λ x=>match a8 K x with
 | some (c,P)=>jo K c P&&ts.contains P
 | none=>true
theorem ar0 {K:ac}{x:Str}(h:(a8 K x).isSome=true):a8 K x=some (((a8 K x).getD (0,0)).1,((a8 K x).getD (0,0)).2):=by
 obtain⟨p,e⟩:=fC.mp h
 rw[e]
 rfl
def bE5 (H:Hp)(P:Addr)(q:Str):Prop:=∃ ps:Array Value,H P=some (.tbl ps)/\g9 ps.toList/\∀ pos cv,cB pos ps.toList=some cv->∃ c',cv=.ref c'/\H c'=some (qj c' q)
def TabsH (T:List (Addr×Str))(H:Hp):Prop:=∀ y∈T,bE5 H y.1 y.2
def aU5 (H H':Hp):Prop:=∀ b o,(∀ ps,o≠.tbl ps)->H b=some o->H' b=some o
theorem aU5.of {H y:Hp}(a:ad2 H y):aU5 H y:=λ c o _ h=>a c o h
theorem TabsH.keep {T:List (Addr×Str)}{H H':Hp}(h:TabsH T H)(k:∀ b o,(∀ B,o≠.lst B)->H b=some o->H' b=some o):TabsH T H':=λ y hy=>by
 obtain⟨ps,e,t,c⟩:=h y hy
 refine⟨ps,k _ _ (λ _=>by nofun) e,t,λ pos G q=>?_⟩
 obtain⟨J,e1,e2⟩:=c pos G q
 exact⟨J,e1,k _ _ (λ _=>by unfold qj;nofun) e2⟩
theorem TabsH.same {T:List (Addr×Str)}{H H':Hp}(h:TabsH T H)(s:ad2 H H'):TabsH T H':=h.keep λ b o _ e=>s b o e
theorem TabsH.new {T:List (Addr×Str)}{H:Hp}{a:Addr}{o:HO}(h:TabsH T H)(n:H a=none):TabsH T (upd H a o):=h.same ((ad2.refl H).new n)
theorem TabsH.put {T:List (Addr×Str)}{H:Hp}{a:Addr}{o:HO}{y:List V}(h:TabsH T H)(n:H a=some (.lst y)):TabsH T (upd H a o):=h.keep λ b u d e=>by
 rw[za λ z=>by subst z;rw[n]at e;cases e;exact d _ rfl];exact e
theorem TabsH.init {T:List (Addr×Str)}{H:Hp}(h:∀ p∈T.map (·.1),H p=some (.tbl #[])):TabsH T H:=λ y hy =>
 ⟨#[],h _ (bj hy),trivial,λ pos B e=>by simp[cB]at e⟩
theorem codeAmong_add {pos:Pos}{a b:Int}{c B:Value}:∀(l:List Value),g9 l->cB pos (l++[cz a,cz b,c])=some B->cB pos l=some B\/B=c:=by
 intro l
 fun_induction g9 l with
 | case1 =>
  intro _ e
  simp only[eA,cB,cz]at e
  split at e
  ·exact .inr (aC e).symm
  ·cases e
 | case2 x t y u z rest ih =>
  intro h e
  simp only[jn,cB]at e ⊢
  split at e
  ·rename_i q
   left;rw[if_pos q];exact e
  ·rename_i q
   rw[if_neg q];exact ih h e
 | case3 l h1 h2=>intro h;exact h.elim
theorem bc7 {cells:List (Str×Addr)}{N:List Str}{kd:Str->Option bJ}{σ:St}{Z H2:Hp}{f:Addr}{q:Str}{params:a9}{body:Expr}{scope:Scope}{fr:List Str}{cap:List V}(G:Caught cells N kd σ Z H2)
  (hf:∃ pm Y h,Z f=some (ap2 f (bM "<lambda>" q params body scope (ad3 cells scope.names []) pm (.ref Y) h))/\Z Y=some (qj Y q))
  (J:∀ x,scope.names.lookup x=some .free->∃ c,cells.lookup x=some c)
  (B:∀(i:Nat) (x:Str) (v:V),fr[i]?=some x->cap[i]?=some v->scope.names.lookup x=some .free/\(kd x=some .cell\/kd x=some .free)/\∃ j:Nat,N[j]?=some x/\σ[j]?=some (some v)) :
  au1 H2 f q params body scope fr cap (ad3 cells scope.names []):=by
 obtain⟨pm,Y,h,h1,h2⟩:=hf
 have up:∀ b o,Z b=some o->H2 b=some o:=λ b o e=>by
  rw[G.ne b λ z=>by rw[G.free b z]at e;cases e];exact e
 have sub:∀ x c,(ad3 cells scope.names []).lookup x=some c->cells.lookup x=some c:=λ x c e=>by
  rcases clOf_mem (ax e)with z|z
  ·exact z
  ·exact absurd z (by simp)
 refine⟨pm,Y,h,up _ _ h1,up _ _ h2,λ x c e=>G.cells x c (sub x c e),λ x y c e1 e2=>G.inj x y c (sub x c e1) (sub y c e2),λ x k=>?_,λ i x v e1 e2=>?_⟩
 ·obtain⟨c,e⟩:=J x k
  exact⟨c,qo e (ax k)⟩
 ·obtain⟨k,kk,j,e3,e4⟩:=B i x v e1 e2
  obtain⟨c,e⟩:=J x k
  obtain⟨o,u,e5,e6,e7⟩:=G.cap j x v c e3 e4 kk e
  exact⟨c,o,u,qo e (ax k),e5,e6,e7⟩
theorem Caught.same {cells:List (Str×Addr)}{N:List Str}{kd:Str->Option bJ}{σ:St}{y H2:Hp}(h:Caught cells N kd σ y H2):ad2 y H2:=λ b o e=>by
 rw[h.ne b λ z=>by rw[h.free b z]at e;cases e];exact e
theorem Fun.okC {P:aD}{w:World}{K:ac}{mg:Str->Option Value}{base:Heap}{x qual:Str}{st:Stmt}{f c:Addr}{Y:bv}{N ps:List Str}{k:Nat}{sp:Sp}(F:Fun K x qual st f Y)(Z:Y.code=.ref c)(S:FnScope N ps (defScope st))(len:∀ vs H Q E,sp vs H Q E->vs.length=ps.length)
  (B:∀(A:aP) (y:List Env) (s:af) (H:Hp) (vs:List V) (Q:VK) (E:XK),Room k (A.deeper (ef qual (defScope st) s.heap.objs.size f (.ref c)))->sp vs H Q E ->
   ∃ t,PSs (as7 CX0 P w K mg base N qual (defScope st) f (.ref c) A y s H E).nox (zC st) t/\t { nx:=λ _ H'=>Q .non H',rt:=Q } (ae7 N vs) H):FnOk P w K mg base CX0 (k+1) f Y ps sp:=by
 obtain⟨oc,od,kV,a0,pm,an,J,ct,a1,rfl,lk,hc⟩:=F.ex
 have e:J=.ref c:=Z
 subst e
 refine bq7 lk hc S len λ A y s H vs Q E hr G=>?_
 obtain⟨t,h,q⟩:=B A y s H vs Q E hr G
 exact⟨t,h.nox,q⟩
theorem aW1 {X:Cx}{K:ac}(hc:X.calm=true)(hK:X.K=K):ac0 X (.builtin "min") (λ xs H Q=>∃ a ns,xs=[.ref a]/\SqL K H a (ns.map V.int)/\ns≠[]/\∀ m∈ns,(∀ y∈ns,m<=y)->Q (.int m) H):=by
 subst hK
 intro a1 s σ H xs us Q I r h
 obtain⟨a,ns,rfl,hS,Y,q⟩:=h
 obtain⟨u,rfl,ru⟩:=al5 r
 cases ru
 obtain⟨its,rv,Z,hz⟩:=I.list hS
 have hl:=rv.length
 rw[aE]at hl
 have a0:0<ns.length:=ib.mpr Y
 refine call_min_walk (dD Z.isList ?_)
 have B:a<s.heap.objs.size:=by obtain⟨o,_,e,_⟩:=Z;exact az e
 have W:=kn (prog:=X.prog) (w:=X.w) (A:=X.A.in1) (I.ok.hd hc) s.heap.objs.size a (av B) its.toArray
 let val:Nat->Int:=λ i=>ns.getD i 0
 have G:∀ i v,its.toArray[i]?=some v->∃ t,v=Value.int (val i) t:=λ i v e=>by
  obtain⟨z,t,e1,e2⟩:=aT4 rv (i:=i) (v:=v) (by rw[dN]at e;exact e)
  refine⟨t,?_⟩
  rw[e2]
  show Value.int z t=Value.int (ns.getD i 0) t
  rw[aM,e1]
  rfl
 refine⟨_,_,_,_,_,_,_,rfl,W,⟨⟨_,aR _ rfl,rfl,rfl⟩,?_⟩,λ b hb=>?_,by rw[au];omega,CmpOf.ints_lt val G,λ v h' tk hP k=>?_⟩
 ·obtain⟨o,e,r⟩:=Z.isList
  exact⟨o,ak _ e,r⟩
 ·show b<(s.heap.push _).objs.size
  rw[bW]
  rcases ay.mp hb with z|z
  ·rw[z];exact cZ _
  ·have J:b=a:=by simpa using z
   rw[J];exact fu B
 ·obtain⟨z,t,e1,e2⟩:=aT4 rv (i:=jJ (λ i j=>decide (val i<val j)) (its.toArray.size - 1)) (v:=v) (by rw[dN]at hP;exact hP)
  subst e2
  have hv:val (jJ (λ i j=>decide (val i<val j)) (its.toArray.size - 1))=z:=by
   show ns.getD _ 0=z
   rw[aM,e1]
   rfl
  refine⟨.int z,H,I.kept (h':=h') (t':=tk) λ b o q=>k b o ?_ (ak _ q),⟨t,rfl⟩,q z (bp e1) λ y hy=>?_⟩
  ·intro z
   have J:b=s.heap.objs.size:=by simpa using z
   exact absurd (az q) (by rw[J];exact bF _)
  ·obtain⟨j,hj,e3⟩:=gS.mp hy
   have:=am1 val (its.toArray.size - 1) j (by simp only[au];omega)
   rw[hv]at this
   have e4:val j=y:=by
    show ns.getD j 0=y
    rw[aM,am hj]
    exact e3
   omega
noncomputable def mx (a b:Int):Int:=if b > a then b else a
section
variable {X:Cx}
end
noncomputable def mx3 (a b c:Int):Int:=mx (mx a b) c
noncomputable def rnd (x:Int):Int:=if x=0\/x=3 then x else 2
noncomputable def sharp (n:Nat)(s:Nat->Nat->Int)(i j:Nat):Int:=(minO ((aN n).map λ k=>mx3 (s i k) (rnd (s k k)) (s k j))).getD 3
section
variable {n:Nat} {s:Nat->Nat->Int}
end
def bZ5 (cells:List (Str×Addr))(P:Addr)(name q:Str)(params:a9)(body:List Stmt)(scope:Scope)(pos:Pos)(i:Nat):TS:=λ D σ H =>
 ∃ ps:Array Value,H P=some (.tbl ps)/\g9 ps.toList /\
  (cB pos ps.toList=none->∀ c' f doc pm ctv,H c'=none->H f=none->c'≠f ->
   D.nx (σ.set i (some (.ref f))) (upd (upd (upd H P (.tbl (ps++#[cz pos.line,cz pos.col,.ref c']))) c' (qj c' q)) f (ap2 f (b7 name q params body scope (ad3 cells scope.names []) .none .none doc pm none (.ref c') ctv)))) /\
  (∀ cv,cB pos ps.toList=some cv->∃ c',cv=.ref c'/\∀ f doc pm ctv,H f=none->D.nx (σ.set i (some (.ref f))) (upd H f (ap2 f (b7 name q params body scope (ad3 cells scope.names []) .none .none doc pm none (.ref c') ctv))))
theorem by9 {X:Cx}{c P:Addr}{name q:Str}{i:Nat}{params:a9}{body:List Stmt}{scope:Scope}{pos:Pos}(hN:X.N.Nodup)(hi:X.N[i]?=some name)(hx:Loc X.env.scope name)(Z:X.env.code=.ref c)(C:bw X.base c P)(hB:BM X.mg X.base)
  (d0:lamCheck scope X.env.scope=true) (hq:jS X.env name name=q:=by rfl) (d3:params.defaults=[]:=by rfl) (c1:params.kw_defaults=[]:=by rfl) (ha:annTrees params none X.env=[]:=by rfl) (hf:X.fn name=true\/X.env.scope.names.lookup name=some .local:=by first|exact .inl rfl|exact .inr rfl) :
  PS X (.FunctionDef name params body [] none [] scope none name pos) (bZ5 X.env.cells P name q params body scope pos i):=by
 intro a0 s σ H D I h
 have c6:∀ y∈scope.names,y.2=.free->X.env.kindOf y.1=some .cell\/X.env.kindOf y.1=some .free:=λ y hy e=>by
  have z:=aG.mp d0 y hy
  have z':X.env.scope.names.lookup y.1=some .cell\/X.env.scope.names.lookup y.1=some .free:=by simpa [e]using z
  exact z'
 obtain⟨ps,hP,ht,a3,a6⟩:=h
 refine PySem.W.nestDef_K d3 c1 ha ?_
 rw[hq]
 have fin:∀ {H2:Hp} {f:Addr} {s2:af},Inv X a0 σ H2 s2->D.nx (σ.set i (some (.ref f))) H2->wpAny (model X.prog X.w) X.A (fK X.env name (.ref f)) (λ _ s3=>SP X a0 D .next s3) X.xe s2:=λ {H2 f s2} I2 q2=>af1 (v:=.ref f) I2 hN hi hx rfl (λ s3 I3=>⟨_,H2,I3,q2⟩) hf
 have hcl:=qf (scope:=scope) (env:=X.env) λ y hy e=>I.ok.has y.1 (c6 y hy e)
 have oP:s.heap.get? P=some (dH ps):=I.hok P _ hP
 have a1:s.heap.Ns aS X.mg:=I.mod.glob.keeps I.bk
 have hC:bw s.heap c P:=C.keeps I.bk
 have c4:aS≠P:=λ q=>by
  obtain⟨o,es,ep,e,d,_⟩:=a1
  rw[q,oP]at e;cases e;cases d
 have hb:s.heap.BuiltinsAt X.mg P:=by
  obtain⟨bm,ob,b1,b2,b3,b4,b5,b6⟩:=hB
  refine⟨bm,ob,b1,b2,λ q=>?_,λ q=>?_,I.bk _ _ b3,b4,b5,b6⟩
  ·obtain⟨o,es,ep,e,d,_⟩:=I.mod.glob
   rw[q,e]at b3;cases b3;rw[d]at b6;cases b6
  ·have e:=I.bk _ _ b3
   rw[q,oP]at e;cases e;cases b4
 cases qq:cB pos ps.toList with
 | none =>
  refine PySem.W.makeFunction_K (mg:=X.mg) hcl I.ok.glob a1 Z hC oP ht qq c4 hb λ B G J h' tk hx hge hlt b0 a5=>?_
  have c0:P<s.heap.objs.size:=az oP
  have d1:B≠P:=cX (aq c0 hge)
  have c5:h'.objs.size≠P:=cX (cu (aq c0 hge) hlt)
  have c3:B≠h'.objs.size:=av hlt
  have hsz:s.heap.objs.size<=h'.objs.size:=ao hge (cW hlt)
  have nP:∀ b,H b=none->b≠P:=λ b n z=>by rw[z,hP]at n;cases n
  have lt:∀ b o,H b=some o->b≠B/\b≠h'.objs.size:=λ b o e=>⟨av (aq (I.hok.lt e) hge),av (aq (I.hok.lt e) hsz)⟩
  have a2:∀ b o,s.heap.get? b=some o->b≠B/\b≠h'.objs.size:=λ b o e=>⟨av (aq (az e) hge),av (aq (az e) hsz)⟩
  have keep:∀ b o,b≠P->s.heap.get? b=some o->(h'.push (PySem.W.fnMade name q params body scope (ad3 X.env.cells scope.names []) J ((X.mg "__name__").getD .none) B G)).get? b=some o:=λ b o n e=>ak _ (hx b o n e)
  have Y:∀ b,b≠P->b≠B->b≠h'.objs.size->∀ o1 o2 o3,upd (upd (upd H P o1) B o2) h'.objs.size o3 b=H b:=λ b n1 n2 n3 o1 o2 o3=>by rw[za n3,za n2,za n1]
  refine fin (H2:=upd (upd (upd H P (.tbl (ps++#[cz pos.line,cz pos.col,.ref B]))) B (qj B q)) h'.objs.size (ap2 h'.objs.size (b7 name q params body scope (ad3 X.env.cells scope.names []) .none .none J ((X.mg "__name__").getD .none) none (.ref B) G))) (I.un (t':=tk) ⟨λ b o e n _ _=>keep b o (nP b n) e,λ b o e n _ _=>⟨o.slots,keep b o (nP b n) e⟩,λ b o e n _=>?fr,λ b o e _=>?th,λ b xs e=>?tu,λ b o u e=>?fz,λ b qs e=>?tb⟩ ?ok) (a3 qq B h'.objs.size J _ G (I.hok.fresh hge) (I.hok.fresh hsz) c3)
  case fr=>rw[Y b (nP b n) (a2 b o e).1 (a2 b o e).2];exact n
  case th =>
   by_cases z:b=P
   ·subst z;exact⟨_,ak _ a5⟩
   ·exact⟨o,keep b o z e⟩
  case tu=>rw[Y b (λ z=>by rw[z,hP]at e;cases e) (lt b _ e).1 (lt b _ e).2];exact e
  case fz=>rw[Y b (λ z=>by rw[z,hP]at e;cases e) (lt b _ e).1 (lt b _ e).2];exact e
  case tb =>
   by_cases z:b=P
   ·subst z
    rw[hP]at e;cases e
    exact⟨#[cz pos.line,cz pos.col,.ref B],by rw[za (bO c5),za (bO d1),zb]⟩
   ·exact⟨#[],by rw[Y b z (lt b _ e).1 (lt b _ e).2,e];simp⟩
  case ok =>
   intro b o e
   by_cases zf:b=h'.objs.size
   ·subst zf
    rw[zb]at e;cases e
    exact as4 (aR _ rfl)
   ·rw[za zf]at e
    by_cases zc:b=B
    ·subst zc
     rw[zb]at e;cases e
     obtain⟨c2,oc,vs,t,e1,e2,e3⟩:=b0
     exact aG9 ⟨c2,oc,vs,t,e1,ak _ e2,e3⟩
    ·rw[za zc]at e
     by_cases zp:b=P
     ·subst zp
      rw[zb]at e;cases e
      exact ak _ a5
     ·rw[za zp]at e
      have a4:∀ d u,H d=some u->(∀ ps,u≠.tbl ps)->upd (upd (upd H P (.tbl (ps++#[cz pos.line,cz pos.col,.ref B]))) B (qj B q)) h'.objs.size (ap2 h'.objs.size (b7 name q params body scope (ad3 X.env.cells scope.names []) .none .none J ((X.mg "__name__").getD .none) none (.ref B) G)) d=some u:=λ d u e nt=>by
       rw[Y d (λ z=>by rw[z,hP]at e;cases e;exact nt _ rfl) (lt d _ e).1 (lt d _ e).2];exact e
      refine(I.hok b o e).stay (λ d u hd q=>keep d u ?_ q) (λ d q=>a4 d _ q λ _=>by nofun) λ d xs q=>a4 d _ q λ _=>by nofun
      rintro rfl
      rcases hd with hd|hd
      ·exact zp hd.symm
      ·rw[hP]at hd;cases hd
 | some cv =>
  obtain⟨B,rfl,d2⟩:=a6 cv qq
  refine PySem.W.makeFunction_hit (mg:=X.mg) hcl I.ok.glob a1 Z hC oP ht qq hb λ G J h' tk hk hsz=>?_
  exact fin (I.laid (t':=tk) (λ b o e=>ak _ (hk b o e)) hsz (as4 (aR _ rfl))) (d2 h'.objs.size J _ G (I.hok.fresh hsz))
def ak4 (H:Hp)(f:Addr)(name qual:Str)(params:a9)(body:List Stmt)(scope:Scope)(fr:List Str)(cap:List V)(clos:List (Str×Addr)):Prop :=
 ∃ doc pm c' ctv,H f=some (ap2 f (b7 name qual params body scope clos .none .none doc pm none (.ref c') ctv))/\H c'=some (qj c' qual)/\Cells clos H /\
  (∀ x y c,clos.lookup x=some c->clos.lookup y=some c->x=y)/\(∀ x,scope.names.lookup x=some .free->∃ c,clos.lookup x=some c)/\Cap clos H fr cap
theorem bb5 {cells:List (Str×Addr)}{N:List Str}{kd:Str->Option bJ}{σ:St}{H1 H2:Hp}{f:Addr}{q:Str}{name:Str}{params:a9}{body:List Stmt}{scope:Scope}{fr:List Str}{cap:List V}(J:Caught cells N kd σ H1 H2)
  (hf:∃ B pm Z h,H1 f=some (ap2 f (b7 name q params body scope (ad3 cells scope.names []) .none .none B pm none (.ref Z) h))/\H1 Z=some (qj Z q))
  (Y:∀ x,scope.names.lookup x=some .free->∃ c,cells.lookup x=some c)
  (G:∀(i:Nat) (x:Str) (v:V),fr[i]?=some x->cap[i]?=some v->scope.names.lookup x=some .free/\(kd x=some .cell\/kd x=some .free)/\∃ j:Nat,N[j]?=some x/\σ[j]?=some (some v)) :
  ak4 H2 f name q params body scope fr cap (ad3 cells scope.names []):=by
 obtain⟨B,pm,Z,h,h1,h2⟩:=hf
 have up:∀ b o,H1 b=some o->H2 b=some o:=λ b o e=>by
  rw[J.ne b λ z=>by rw[J.free b z]at e;cases e];exact e
 have sub:∀ x c,(ad3 cells scope.names []).lookup x=some c->cells.lookup x=some c:=λ x c e=>by
  rcases clOf_mem (ax e)with z|z
  ·exact z
  ·exact absurd z (by simp)
 refine⟨B,pm,Z,h,up _ _ h1,up _ _ h2,λ x c e=>J.cells x c (sub x c e),λ x y c e1 e2=>J.inj x y c (sub x c e1) (sub y c e2),λ x k=>?_,λ i x v e1 e2=>?_⟩
 ·obtain⟨c,e⟩:=Y x k
  exact⟨c,qo e (ax k)⟩
 ·obtain⟨k,kk,j,e3,e4⟩:=G i x v e1 e2
  obtain⟨c,e⟩:=Y x k
  obtain⟨o,u,e5,e6,e7⟩:=J.cap j x v c e3 e4 kk e
  exact⟨c,o,u,qo e (ax k),e5,e6,e7⟩
theorem ak4.fn {K:ac}{H:Hp}{f:Addr}{name qual:Str}{params:a9}{body:List Stmt}{scope:Scope}{fr:List Str}{cap:List V}{y:List (Str×Addr)}(h:ak4 H f name qual params body scope fr cap y):bw3 K H f:=by
 obtain⟨G,Y,Z,J,B,_⟩:=h
 exact .inl ⟨_,B⟩
end L2
end
noncomputable section
namespace L2
open PySem PySem.Spec PyProof.Rows Builtin
section
variable {P:aD} {w:World} {A:aP} {E:Value->af->Prop} {s:af}
theorem aC7 {it t:Addr}{i:Nat}{l:Array Value}{v:Value}{Q:Value->af->Prop}(y:s.heap.IsTupleIter it t i)(B:s.heap.IsTuple t l)(hv:l[i]?=some v)
  (k:∀ h',h'.IsTupleIter it t (i+1)->dB it s.heap h'->Q v { s with heap:=h' }):wpAny (model P w) A (bK (.ref it)) Q E s:=by
 obtain⟨o,e1,e2,h⟩:=id y
 obtain⟨p,p1,_,n,G⟩:=B
 unfold bK
 refine ah (cA (name:=bB "__next__") y.typeIs cb (cY cb y.typeIs eN ?_ (eD _)))
 show wpAny _ _ (field (.ref it) 0 >>= _) _ _ _
 refine ah (dq e1 h (x:=.ref t) rfl ?_)
 show wpAny _ _ (if(Value.ref t==Value.none)=true then _ else _) _ _ _
 rw[if_neg (show ¬((Value.ref t==Value.none)=true)from λ z=>nomatch z)]
 show wpAny _ _ (field (.ref it) 1 >>= _) _ _ _
 refine ah (dq e1 h (x:=.int i 0) rfl ?_)
 show wpAny _ _ (seqItems? (.ref t) >>= _) _ _ _
 refine ah (wpAny_seqItems p1 G ?_)
 simp only[cR,hv]
 refine ah (wpAny_setField e1 h (by simp) (aA ⟨v,rfl,aA (k _ ⟨_,gC _ e1 (Obj.isFreed_of_fields (iK h _)),(Obj.cls_mapFields ..).trans e2,by rw[iK h];simp[cz]⟩ (ic ..))⟩))
theorem aI8 {it t:Addr}{i:Nat}{l:Array Value}{Q:Value->af->Prop}(B:A.handled=none)(h:s.heap.IsTupleIter it t i)(G:s.heap.IsTuple t l)(hv:l[i]?=none)
  (k:∀ h' e,jv it s.heap h'->(∃ o,h'.get? e=some o/\o.cls=.type "StopIteration")->E (.ref e) { s with heap:=h' }):wpAny (model P w) A (bK (.ref it)) Q E s:=by
 obtain⟨o,e1,e2,y⟩:=id h
 obtain⟨p,p1,_,n,J⟩:=G
 unfold bK
 refine ah (cA (name:=bB "__next__") h.typeIs cb (cY cb h.typeIs eN ?_ (eD _)))
 show wpAny _ _ (field (.ref it) 0 >>= _) _ _ _
 refine ah (dq e1 y (x:=.ref t) rfl ?_)
 show wpAny _ _ (if(Value.ref t==Value.none)=true then _ else _) _ _ _
 rw[if_neg (show ¬((Value.ref t==Value.none)=true)from λ z=>nomatch z)]
 show wpAny _ _ (field (.ref it) 1 >>= _) _ _ _
 refine ah (dq e1 y (x:=.int i 0) rfl ?_)
 show wpAny _ _ (seqItems? (.ref t) >>= _) _ _ _
 refine ah (wpAny_seqItems p1 J ?_)
 simp only[cR,hv]
 refine ah (jQ (ah (wpAny_setField e1 y (by simp) ?_)))
 show wpAny _ _ (newExc (.type "StopIteration") [] >>= _) _ _ (_:af)
 refine ah ?_
 simp only[newExc,newTuple]
 refine ah (bH ?_ (by size_fits))
 refine ah (m:=firstArgMember _ _) (wpAny_of_eq (a:=Value.none) (by first|rfl|(simp only[firstArgMember];rfl)) (bH ?_ (by size_fits)))
 simp only[raiseNew]
 refine ah (wpAny_handled ?_)
 first|rw[show A.in1.handled=none from B]|rw[B]
 exact ah (aA (wpAny_throw (k _ _ (((ic ..).extBut.push _).push _) ⟨_,aR _ rfl,rfl⟩)))
end
structure Dw (P:aD)(w:World)(K:ac)(J:It)(it:Addr)(tn:Nat->Heap->Prop):Prop where
 obj:∀ i h,tn i h->∃ o,h.get? it=some o/\∀ v,o.data≠.cell v
 keep:∀ i h h',tn i h->(∀ o,h.get? it=some o->h'.get? it=some o)->tn i h'
 item:∀(X:Cx),X.prog=P->X.w=w->X.K=K->∀(A:aP) (i:Nat) (pins:List (Addr×Obj)) (s:af) (σ:St) (H:Hp) (Q:Value->af->Prop) (E:Value->af->Prop),Inv X pins σ H s->tn i s.heap->J.go i H ->
  (∀ x u h' tk,RelV x u->J.yld i H x H->tn (i+1) h'->dB it s.heap h'->Q u { s with heap:=h',toks:=tk })->wpAny (model P w) A (bK (.ref it)) Q E s
 done:∀(X:Cx),X.prog=P->X.w=w->X.K=K->∀(A:aP) (i:Nat) (pins:List (Addr×Obj)) (s:af) (σ:St) (H:Hp) (Q:Value->af->Prop) (E:Value->af->Prop),A.handled=none->Inv X pins σ H s->tn i s.heap->J.stop i H ->
  (∀ h' e,jv it s.heap h'->(∃ o,h'.get? e=some o/\o.cls=.type "StopIteration")->E (.ref e) { s with heap:=h' })->wpAny (model P w) A (bK (.ref it)) Q E s
theorem bk6 {P:aD}{w:World}{K:ac}(a it:Addr):Dw P w K (Itl K a) it (λ i h=>h.IsListIter it a i) where
 obj:=λ i h st=>by
  obtain⟨o,e,c,d⟩:=st
  exact⟨o,e,λ v z=>by rw[d]at z;cases z⟩
 keep:=λ i h h' st k=>st.at k
 item:=by
  intro X J hw B A i y s σ H Q E I st Y k
  subst J hw B
  obtain⟨xs,x,hq,hx⟩:=Y
  obtain⟨its,Z,p,hz⟩:=I.list hq
  obtain⟨u,hu,ru⟩:=Z.get hx
  exact wpAny_nextOf_list_item st p.isList (x:=u) (by simpa using hu) λ h' G sb=>k x u h' s.toks ru ⟨rfl,λ ys hy=>by rw[I.list_inj hy hq];exact hx⟩ G sb
 done:=by
  intro X J hw B A i y s σ H Q E hA I st Y k
  subst J hw B
  obtain⟨xs,hq,hx⟩:=Y
  obtain⟨its,Z,p,hz⟩:=I.list hq
  have hl:=Z.length
  exact wpAny_nextOf_list_end hA st p.isList (by simp;omega) k
theorem bG7 {P:aD}{w:World}{K:ac}(a it:Addr):Dw P w K (Itt K a) it (λ i h=>h.IsTupleIter it a i) where
 obj:=λ i h st=>by
  obtain⟨o,e,c,d⟩:=st
  exact⟨o,e,λ v z=>by rw[d]at z;cases z⟩
 keep:=λ i h h' st k=>st.at k
 item:=by
  intro X J hw B A i y s σ H Q E I st Y k
  subst J hw B
  obtain⟨xs,x,hq,hx⟩:=Y
  obtain⟨its,Z,p,hz⟩:=I.tuple hq
  obtain⟨u,hu,ru⟩:=Z.get hx
  exact aC7 st (show s.heap.IsTuple a its.toArray from p) (v:=u) (by simpa using hu) λ h' G sb=>k x u h' s.toks ru ⟨rfl,λ ys hy=>by rw[I.tuple_inj hy hq];exact hx⟩ G sb
 done:=by
  intro X J hw B A i y s σ H Q E hA I st Y k
  subst J hw B
  obtain⟨xs,hq,hx⟩:=Y
  obtain⟨its,Z,p,hz⟩:=I.tuple hq
  have hl:=Z.length
  exact aI8 hA st (show s.heap.IsTuple a its.toArray from p) (by simp;omega) k
theorem bE9 {P:aD}{w:World}{K:ac}(x:Str)(t:Tok)(it:Addr):Dw P w K (Its x) it (λ i h=>h.IsStrIter it (gT x) x t i) where
 obj:=λ i h st=>by
  obtain⟨o,e,c,d⟩:=st
  exact⟨o,e,λ v z=>by rw[d]at z;cases z⟩
 keep:=λ i h h' st k=>by
  obtain⟨o,ho,r⟩:=st
  exact⟨o,k _ ho,r⟩
 item:=by
  intro X Y hw J A i G s σ H Q E I st Z k
  subst Y hw J
  have B:i<x.cps.size:=Z
  have hc:x.cps[i]?=some x.cps[i]:=by simp[B]
  unfold gT at st k
  cases ha:x.cps.all (·<128)
  ·rw[ha]at st k
   exact wpAny_nextOf_wide_item st hc λ h' y sb=>k (.str ⟨#[x.cps[i]]⟩) _ h' (s.toks+1) ⟨_,rfl⟩ ⟨rfl,_,hc,rfl⟩ y sb
  ·rw[ha]at st k
   exact wpAny_nextOf_ascii_item st hc λ h' y sb=>k (.str ⟨#[x.cps[i]]⟩) _ h' (s.toks+1) ⟨_,rfl⟩ ⟨rfl,_,hc,rfl⟩ y sb
 done:=by
  intro X Y hw J A i G s σ H Q E hA I st Z k
  subst Y hw J
  have B:x.cps.size<=i:=Z
  have hc:x.cps[i]?=none:=by simp[B]
  unfold gT at st
  cases ha:x.cps.all (·<128)
  ·rw[ha]at st
   exact wpAny_nextOf_wide_end hA st hc k
  ·rw[ha]at st
   exact wpAny_nextOf_ascii_end hA st hc k
section
variable {X:Cx} {pins:List (Addr×Obj)} {σ:St} {H:Hp} {s:af} {A:aP} {E:Value->af->Prop} {J1 J2:It} {t1 t2:Nat->Heap->Prop} {z ti to i1 i2:Addr} {n:Nat} {a b:Value}
end
def Mkr (v:Value)(o:Obj)(h:Heap):Prop:=∀(P:aD) (w:World) (A:aP) (E:Value->af->Prop) (s:af) (Q:Value->af->Prop),(∀ b u,h.get? b=some u->s.heap.get? b=some u) ->
 Q (.ref s.heap.objs.size) { s with heap:=s.heap.push o }->wpAny (model P w) A (j5 v) Q E s
def Sr (K:ac)(H:Hp)(x:V)(J:It):Prop:=(∃ a,x=.ref a/\(∃ xs,SqL K H a xs)/\J=Itl K a)\/(∃ a,x=.ref a/\(∃ xs,SqT K H a xs)/\J=Itt K a)\/∃ y,x=.str y/\J=Its y
theorem Sr.mk {X:Cx}{B:List (Addr×Obj)}{σ:St}{H:Hp}{s:af}{x:V}{u:Value}{J:It}(I:Inv X B σ H s)(h:Sr X.K H x J)(r:RelV x u) :
  ∃(o:Obj) (G:Addr->Nat->Heap->Prop),o.isFreed=false/\Mkr u o s.heap/\(∀ it,Dw X.prog X.w X.K J it (G it))/\∀ it h',h'.get? it=some o->G it 0 h':=by
 rcases h with⟨a,e,⟨Y,hq⟩,e'⟩|⟨a,e,⟨Y,hq⟩,e'⟩|⟨y,e,e'⟩
 ·subst e e';cases r
  obtain⟨its,Z,p,hz⟩:=I.list hq
  exact⟨_,λ it i h=>h.IsListIter it a i,rfl,λ P w A E s' Q hk q=>dD (p.isList.at λ o e=>hk _ _ e) q,λ it=>bk6 a it,λ it h' e=>⟨_,e,rfl,rfl⟩⟩
 ·subst e e';cases r
  obtain⟨its,Z,p,hz⟩:=I.tuple hq
  exact⟨_,λ it i h=>h.IsTupleIter it a i,rfl,λ P w A E s' Q hk q=>iB (Heap.IsTuple.at (show s.heap.IsTuple a its.toArray from p) λ o e=>hk _ _ e) q,λ it=>bG7 a it,λ it h' e=>⟨_,e,rfl,rfl⟩⟩
 ·subst e e';obtain⟨t,rfl⟩:=r
  exact⟨_,λ it i h=>h.IsStrIter it (gT y) y t i,rfl,λ P w A E s' Q hk q=>wpAny_pyIter_strU q,λ it=>bE9 y t it,λ it h' e=>⟨_,e,rfl,rfl⟩⟩
end L2
end
noncomputable section
namespace L2
open PySem PySem.Spec PyProof.Rows Builtin
open AutoSeq1 (wpAny_loadPart')
section
variable {X:Cx} {pins:List (Addr×Obj)} {σ:St} {H:Hp} {s:af} {A:aP} {E:Value->af->Prop} {J1:It} {t1:Nat->Heap->Prop} {z it:Addr} {n:Nat} {old:Value}
end
end L2
end
noncomputable section
namespace L2
open PySem PySem.Spec PyProof.Rows Builtin
open AutoSeq1 (wpAny_loadPart')
theorem az9:fillsNumberSlot (.type "tuple") "mul"=pure false :=
 PySem.fillsNumberSlot_seq (id := "tuple.__mul__") (r:=some (.builtin "tuple.__rmul__")) dI.lookup (by decide +kernel) fO.lookup (by decide +kernel)
theorem aI5:seqRepeat? (.type "tuple")=pure (some (.builtin "tuple.__mul__")):=by
 unfold seqRepeat?
 rw[jp (T := "tuple") (name := "__mul__") (id := "tuple.__mul__") dI.lookup (by decide +kernel),jp (T := "tuple") (name := "__rmul__") (id := "tuple.__rmul__") fO.lookup (by decide +kernel)]
 rfl
theorem at5 (a:Int)(t:Tok)(l:Addr)(o:Obj)(y:Array Value)(n:Nat)(B:Option Addr)(sl:Array (Option Value)) :
  Meets (Builtin.«int.__rmul__» ⟨[.int a t,.ref l],[]⟩) (λ _ R s=>s.heap.get? l=some { cls:=.type "tuple",dict:=B,data:=.seq y n,slots:=sl }/\R (.ok (.ret Value.notImplemented)) s) :=
 .of_wp λ prog w A R s h=>by obtain⟨hp,g,d,tk,os⟩:=s;obtain⟨hl,h⟩:=h;wp_walk;exact⟨_,rfl,h⟩
noncomputable def am4 {α:Type}:Nat->List α->List α
 | 0,_=>[]
 | n+1,a=>a++am4 n a
theorem aE5 {α:Type}(l:List α):∀(n:Nat) (h:Array α),(ar n l.toArray).foldl (·++·) h=h++(am4 n l).toArray
 | 0,h=>by simp[am4]
 | n+1,h=>by rw[bC,bU,aE5 l n];simp[am4]
theorem ay3 {α:Type}(a:Array α):∀(n:Nat) (h:Array α),((ar n a).foldl (·++·) h).size=h.size+a.size*n
 | 0,h=>by simp
 | n+1,h=>by rw[bC,bU,ay3 a n,Array.size_append,j6];omega
def TmA (items:Array Value)(k:Int)(l:Addr)(R:Value->af->Prop)(s:af):Prop :=
 ((items.isEmpty||k==1)=true->R (.ref l) s)/\((items.isEmpty||k==1)=false->R (.ref s.heap.objs.size) { s with heap:=s.heap.push { cls:=.type "tuple",data:=.seq ((ar k.toNat items).foldl (·++·) #[]) } })
theorem aT3 {P:aD}{w:World}{A:aP}{E:Value->af->Prop}{s:af}{l:Addr}{y:Array Value}{k:Int}{t:Tok}{Q:Value->af->Prop}(h0:0<=k)(Z:k<=1000000)(hz:y.size*k.toNat<=1000000)(hl:IsTup s.heap l y)
  (h:TmA y k l Q s):wpAny (model P w) A (call (.builtin "tuple.__mul__") [.ref l,.int k t]) Q E s:=by
 refine cY dI hl.typeIs PySem.F.entry_tuple_mul ?_ (PySem.F.args_tuple_mul_2 _ _)
 obtain⟨B,q2⟩:=h
 show wpAny _ _ (asIndex (.int k t) >>= _) _ _ _
 refine ah (aA ?_)
 rw[if_neg (by rw[decide_eq_false (by omega),decide_eq_false (by omega)];decide)]
 show wpAny _ _ (cU (.ref l) >>= _) _ _ _
 refine ah (ir hl ?_)
 have G:(y.size:Int)*k<=1000000:=by
  have:((y.size*k.toNat:Nat):Int)<=1000000:=by omega
  rw[gx,ie h0]at this
  exact this
 cases hb:(y.isEmpty||k==1)with
 | true =>
  rw[if_pos rfl]
  unfold jT
  refine ah (ah (f9 hl.typeIs (aA ?_)))
  rw[if_pos (by decide)]
  exact ah (jQ (aA ⟨_,rfl,B hb⟩))
 | false =>
  rw[if_neg aQ]
  have Y:y.isEmpty=false:=by
   rw[d5]at hb;exact hb.1
  have q:=q2 hb
  show wpAny _ _ (if(decide (k<=0)||y.isEmpty)=true then _ else _) _ _ _
  by_cases hk:k<=0
  ·rw[if_pos (by rw[decide_eq_true hk];rfl)]
   have:k.toNat=0:=by omega
   rw[this]at q
   exact ah (bH (aA ⟨_,rfl,q⟩) (by size_fits))
  ·rw[if_neg (by rw[decide_eq_false hk,Y];decide)]
   show wpAny _ _ (if(y.size:Int)*k > (2^63 - 1) / 8 then _ else _) _ _ _
   rw[if_neg (by omega)]
   show wpAny _ _ (if eZ ((y.size:Int)*k)=true then _ else _) _ _ _
   rw[if_neg (by unfold eZ;rw[decide_eq_false (by unfold aH;omega)];decide)]
   refine ah (bH (aA ⟨_,rfl,q⟩) ?_)
   show Array.size _<=aH
   rw[ay3]
   show 0+_<=_
   rw[cw]
   have J:y.size*k.toNat<=aH:=ao hz (by decide)
   exact J
theorem aE9 {α:Type}:∀ n,am4 n ([]:List α)=[]
 | 0=>rfl
 | n+1=>by simp[am4,aE9 n]
theorem be5 {α:Type}(l:List α):am4 1 l=l:=by simp[am4]
theorem aF0 {α:Type}(l:List α):∀ n,(am4 n l).length=l.length*n
 | 0=>by simp[am4]
 | n+1=>by simp[am4,aF0 l n,dw];omega
theorem Vals.repT {h:List V}{us:List Value}(r:Vals h us):∀ n,Vals (am4 n h) (am4 n us)
 | 0=>.nil
 | n+1=>r.append (Vals.repT r n)
def bP0 (K:ac):R2:=λ x y H Q=>∃ a xs n,x=.ref a/\y=.int n/\SqT K H a xs/\(0<=n/\n<=1000000/\xs.length*n.toNat<=1000000)/\∀ p H',ad2 H H'->SqT K H' p (am4 n.toNat xs)->(H' p=some (.tup (am4 n.toNat xs))\/(p=a/\am4 n.toNat xs=xs))->Q (.ref p) H'
theorem br9 {X:Cx}{K:ac}(Z:X.K=K):OpR X (bQ .Mult) (bP0 K):=by
 subst Z
 intro J s σ H x y v u Q I rx ry h
 obtain⟨a,G,n,rfl,rfl,ha,⟨h0,Y,hz⟩,q⟩:=h
 cases rx
 obtain⟨t,rfl⟩:=ry
 obtain⟨its,r1,p1,a0⟩:=I.tuple ha
 have B:=r1.length
 obtain⟨⟨cls,dd,data,sl⟩,ho,hc,n1,hd⟩:=id p1
 simp only at hc hd
 subst hc hd
 refine fc (T := "tuple") (U := "int") (by decide) p1.typeIs (λ s'=>gh s' n t) az9 iI dk aI5 hV.lookup
  (eX dk (gh s n t) hX (gP _ _) (at5 n t a default its.toArray n1 dd sl) ⟨ho,⟨rfl,p1.typeIs,aT3 h0 Y (by rw[au,<-B];exact hz) p1 ⟨λ hb=>?_,λ hb=>?_⟩⟩⟩)
 ·have ex:am4 n.toNat G=G:=by
   rw[bN]at hb
   rcases hb with hb|hb
   ·have hi:its=[]:=by simpa using hb
    have hx:G=[]:=r1.nil_iff.mp hi
    rw[hx,aE9]
   ·have:n=1:=by simpa using hb
    subst this
    exact be5 _
  exact⟨.ref a,H,I,rfl,q a H (ad2.refl H) (by rw[ex];exact ha) (.inr ⟨rfl,ex⟩)⟩
 ·have hp:=I.hok.fresh (aj s.heap.objs.size)
  refine⟨.ref s.heap.objs.size,_,I.laid (t':=s.toks) (o:=.tup (am4 n.toNat G)) (λ b ob q=>ak _ q) (aj _) ?_,rfl,q _ _ ((ad2.refl H).new hp) (SqT.of zb) (.inl zb)⟩
  refine⟨by rw[aF0];exact ao hz (by decide),am4 n.toNat its,r1.repT _,?_⟩
  rw[show(am4 n.toNat its).toArray=(ar n.toNat its.toArray).foldl (·++·) #[]by rw[aE5];simp]
  exact⟨_,aR _ rfl,rfl,_,rfl⟩
end L2
end
noncomputable section
namespace L2
open PySem PySem.Spec PyProof.Rows
noncomputable def by1 (x:List Nat):V:=.str ⟨x.toArray⟩
theorem ax7:∀ {y:List (List Nat)} {its:List Value},Vals (y.map by1) its->∃ l:List (Str×Tok),its=strValues l/\l.map (·.1)=y.map λ x=>(⟨x.toArray⟩:Str)
 | [],its,h=>by
  have:=h.length
  cases its with
  | nil=>exact⟨[],rfl,rfl⟩
  | cons _ _=>cases this
 | x::y,its,h=>by
  cases h with
  | cons r h =>
   obtain⟨t,rfl⟩:=r
   obtain⟨l,rfl,e⟩:=ax7 h
   exact⟨(⟨x.toArray⟩,t)::l,rfl,by rw[aI,aI,e]⟩
theorem aw8:∀(y:List (List Nat)) (h:List Nat),(y.map λ x=>(⟨x.toArray⟩:Str)).foldl (λ a p=>a++(⟨#[]⟩:Str).cps++p.cps) h.toArray=(h++y.flatten).toArray
 | [],h=>by simp
 | x::y,h=>by
  rw[aI,bU]
  have:h.toArray++(⟨#[]⟩:Str).cps++(⟨x.toArray⟩:Str).cps=(h++x).toArray:=by simp
  rw[this,aw8 y (h++x)]
  simp
theorem aL3 (h:List (List Nat)):i4 ⟨#[]⟩ (h.map λ x=>(⟨x.toArray⟩:Str))=⟨h.flatten.toArray⟩:=by
 cases h with
 | nil=>rfl
 | cons x h =>
  unfold i4
  rw[aI,List.drop_one,List.tail_cons,List.headD_cons]
  have:=aw8 h x
  rw[this]
  rfl
theorem aH8:∀(h:List (List Nat)) (n:Nat),(h.map λ x=>(⟨x.toArray⟩:Str)).foldl (λ a (p:Str)=>a+p.length+(⟨#[]⟩:Str).length) n=n+h.flatten.length
 | [],n=>by simp
 | x::h,n=>by
  rw[aI,bU,aH8 h]
  have:(⟨x.toArray⟩:Str).length=x.length:=by show x.toArray.size=_;simp
  have z:(⟨#[]⟩:Str).length=0:=rfl
  rw[this,z,bZ,aL];omega
theorem bn4 {X:Cx}:MtR X "str.join" (λ x vs H Q=>∃(a:Addr) (B:List (List Nat)),x=.str ⟨#[]⟩/\vs=[.ref a]/\H a=some (.lst (B.map by1))/\B.flatten.length<=aH/\Q (by1 B.flatten) H):=by
 intro Y s σ H x vs v us Q I rx rv h
 obtain⟨a,B,rfl,rfl,hH,hz,q⟩:=h
 obtain⟨t,rfl⟩:=rx
 obtain⟨u,rfl,ru⟩:=rv.one
 cases ru
 obtain⟨_,its,n,r,hl,e⟩:=I.lstM hH
 obtain⟨l,rfl,Z⟩:=ax7 r
 have G:dP ((l.map (·.1)).toArray.foldl (·+·.length+(⟨#[]⟩:Str).length) 0)=false:=by
  rw[Z,List.foldl_toArray,aH8 B 0]
  unfold dP
  exact decide_eq_false (by omega)
 refine eX gF (iG s _ t) PySem.F.entry_str_join (PySem.F.args_str_join_2 _ _) (meets_str_join_list ⟨#[]⟩ t a l G) ⟨⟨_,e,rfl,n,rfl⟩,?_⟩
 have J:=aL3 B
 unfold joinMade
 split
 ·rename_i p
  have e1:[p.1]=B.map λ x=>(⟨x.toArray⟩:Str):=Z
  have:p.1=⟨B.flatten.toArray⟩:=by
   cases B with
   | nil=>cases e1
   | cons y B =>
    cases B with
    | nil=>rw[aI,cr]at e1;rw[List.head_eq_of_cons_eq e1];simp
    | cons _ _=>rw[aI,aI]at e1;cases List.tail_eq_of_cons_eq e1
  show EP X Y σ Q (.str p.1 p.2) s
  rw[this]
  exact⟨by1 B.flatten,H,I,⟨_,rfl⟩,q⟩
 ·rw[Z,J]
  refine⟨?_,by1 B.flatten,H,I.tok _,⟨_,rfl⟩,q⟩
  show B.flatten.toArray.size<=_
  simpa using hz
section
variable {κ:Type} [DecidableEq κ]
noncomputable def aE3 (kvs:List (κ×V))(k:κ):Option V:=(kvs.find? λ kv=>decide (kv.1=k)).map (·.2)
noncomputable def ao1 (kvs:List (κ×V))(k:κ)(v:V):List (κ×V) :=
 if(kvs.any λ kv=>decide (kv.1=k))=true then kvs.map (λ kv=>if kv.1=k then(kv.1,v)else kv)else kvs++[(k,v)]
theorem ai0 {p:κ×V}{r:List (κ×V)}{k:κ}(e:p.1=k):aE3 (p::r) k=some p.2:=by simp[aE3,cM,e]
theorem ai2 {p:κ×V}{r:List (κ×V)}{k:κ}(e:¬ p.1=k):aE3 (p::r) k=aE3 r k:=by simp[aE3,cM,e]
theorem ar3 (k:κ):∀ h:List (κ×V),(h.any λ y=>decide (y.1=k))=(aE3 h k).isSome
 | []=>rfl
 | p::r=>by
  rw[dY]
  by_cases e:p.1=k
  ·simp only[ai0 e,decide_eq_true e,Bool.true_or,iJ]
  ·rw[ai2 e,decide_eq_false e,iu];exact ar3 k r
theorem ji (h:List (κ×V))(k:κ)(v:V):(ao1 h k v).length<=h.length+1:=by
 unfold ao1
 split
 ·rw[aE];omega
 ·rw[aL,aV,ci];omega
theorem aK6.isSome_eq {o:Option V}{u:Option Value}(r:aK6 o u):o.isSome=u.isSome:=by
 cases o with
 | none=>cases u with
  | none=>rfl
  | some _=>exact(show False from r).elim
 | some _=>cases u with
  | none=>exact(show False from r).elim
  | some _=>rfl
theorem aK6.getD {o:Option V}{u:Option Value}{d:V}{d':Value}(r:aK6 o u)(h:RelV d d'):RelV (o.getD d) (u.getD d'):=by
 cases o with
 | none=>cases u with
  | none=>exact h
  | some _=>exact(show False from r).elim
 | some _=>cases u with
  | none=>exact(show False from r).elim
  | some _=>exact r
theorem KV.val {y:List (κ×V)}{vs:List (κ×Value)}(r:KV y vs)(k:κ):aK6 (aE3 y k) (hG vs k):=by
 unfold KV at r
 induction r with
 | nil=>exact True.intro
 | @cons p q ps qs h t ih =>
  obtain⟨B,G⟩:=h
  by_cases e:p.1=k
  ·have e':q.1=k:=B.symm.trans e
   have b:hG (q::qs) k=some q.2:=by simp[hG,cM,e']
   rw[ai0 e,b];exact G
  ·have e':¬ q.1=k:=λ z=>e (B.trans z)
   have b:hG (q::qs) k=hG qs k:=by simp[hG,cM,e']
   rw[ai2 e,b];exact ih
theorem KV.any {y:List (κ×V)}{vs:List (κ×Value)}(r:KV y vs)(k:κ):(y.any λ B=>decide (B.1=k))=vs.any λ B=>decide (B.1=k):=by
 unfold KV at r
 induction r with
 | nil=>rfl
 | cons h t ih=>rw[dY,dY,ih,h.1]
theorem KV.repl {G:List (κ×V)}{vs:List (κ×Value)}(r:KV G vs)(k:κ){y:V}{u:Value}(Z:RelV y u) :
  KV (G.map λ B=>if B.1=k then(B.1,y)else B) (vs.map λ B=>if B.1=k then(B.1,u)else B):=by
 unfold KV at r ⊢
 induction r with
 | nil=>exact .nil
 | @cons p q ps qs h t ih =>
  rw[aI,aI]
  refine .cons ?_ ih
  obtain⟨J,Y⟩:=h
  by_cases e:p.1=k
  ·rw[if_pos e,if_pos (J.symm.trans e)];exact⟨J,Z⟩
  ·rw[if_neg e,if_neg (λ z=>e (J.trans z))];exact⟨J,Y⟩
theorem KV.put {h:List (κ×V)}{vs:List (κ×Value)}(r:KV h vs)(k:κ){y:V}{u:Value}(B:RelV y u):KV (ao1 h k y) (stored vs k u):=by
 unfold ao1 stored
 rw[r.any k]
 by_cases e:(vs.any λ G=>decide (G.1=k))=true
 ·rw[if_pos e,if_pos e];exact r.repl k B
 ·rw[if_neg e,if_neg e];exact kj r ⟨rfl,B⟩
theorem KV.length {h:List (κ×V)}{vs:List (κ×Value)}(r:KV h vs):h.length=vs.length:=ii r
end
theorem bc4 {P:aD}{w:World}{k:Key}{u:Value}(r:RelV (kV k) u):(zT P w).is k u=true:=by
 cases k with
 | inl i=>obtain⟨t,e⟩:=(show ∃ t,u=Value.int i t from r);subst e;exact aB8 P w i t
 | inr x=>obtain⟨t,e⟩:=(show ∃ t,u=Value.str x t from r);subst e;exact aB5 P w x t
theorem ax0 {P:aD}{w:World}:∀ {y:List Key} {us:List Value},Vals (y.map kV) us->ItemsAre (zT P w) y us
 | [],_,r=>by rw[cr]at r;cases r;exact .nil
 | k::y,_,r=>by
  rw[aI]at r
  cases r with
  | cons h t=>exact .cons (bc4 h) (ax0 t)
abbrev KT (H:Hp):List (List Key×V)->List (List Key×Addr×Value)->Prop:=fA λ p q=>p.1=q.1/\H q.2.1=some (.tup (p.1.map kV))/\RelV p.2 q.2.2
theorem KT.val {H:Hp}{y:List (List Key×V)}{B:List (List Key×Addr×Value)}(r:KT H y B)(k:List Key):aK6 (aE3 y k) ((atKey B k).map (·.2)):=by
 induction r with
 | nil=>exact True.intro
 | @cons p q ps qs h t ih =>
  obtain⟨G,_,J⟩:=h
  by_cases e:p.1=k
  ·have e':q.1=k:=G.symm.trans e
   have b:atKey (q::qs) k=some q.2:=by simp[atKey,cM,e']
   rw[ai0 e,b];exact J
  ·have e':¬ q.1=k:=λ z=>e (G.trans z)
   have b:atKey (q::qs) k=atKey qs k:=by simp[atKey,cM,e']
   rw[ai2 e,b];exact ih
theorem KT.repl {H:Hp}{B:List (List Key×V)}{Z:List (List Key×Addr×Value)}(r:KT H B Z)(k:List Key){y:V}{u:Value}(ry:RelV y u) :
  KT H (B.map λ J=>if J.1=k then(J.1,y)else J) (Z.map (putAt k u)):=by
 induction r with
 | nil=>exact .nil
 | @cons p q ps qs h t ih =>
  rw[aI,aI]
  refine .cons ?_ ih
  obtain⟨G,Y,h3⟩:=h
  unfold putAt
  by_cases e:p.1=k
  ·rw[if_pos e,if_pos (G.symm.trans e)];exact⟨G,Y,ry⟩
  ·rw[if_neg e,if_neg (λ z=>e (G.trans z))];exact⟨G,Y,h3⟩
theorem KT.put {H:Hp}{h:List (List Key×V)}{B:List (List Key×Addr×Value)}(r:KT H h B)(k:List Key){b:Addr}{y:V}{u:Value}(hb:H b=some (.tup (k.map kV)))(G:RelV y u) :
  KT H (ao1 h k y) (storedH B k b u):=by
 have e:(h.any λ J=>decide (J.1=k))=(atKey B k).isSome:=by
  rw[ar3,(r.val k).isSome_eq,Option.isSome_map]
 unfold ao1 storedH
 rw[e]
 by_cases q:(atKey B k).isSome=true
 ·rw[if_pos q,if_pos q];exact r.repl k G
 ·rw[if_neg q,if_neg q];exact kj r ⟨rfl,hb,G⟩
theorem KT.keeps {H H':Hp}{h:List (List Key×V)}{y:List (List Key×Addr×Value)}(r:KT H h y)(B:∀ b ys,H b=some (.tup ys)->H' b=some (.tup ys)):KT H' h y :=
 fA.mapP r λ _ _ z=>⟨z.1,B _ _ z.2.1,z.2.2⟩
section
variable {P:aD} {w:World} {H:Hp} {h:Heap} {a:Addr}
theorem bF0 {u:HO}(ok:HOk P w H h)(e:Rd H a u):ab6 P w H h a u:=e.ok ok
theorem bl8 {y:List (Key×V)}(ok:HOk P w H h)(e:Rd H a (.dK y)):y.length<=aH/\(a==cS)=false/\∃ vs,KV y vs/\h.DictOf (zT P w) a vs :=
 show ab6 P w H h a (.dK y)from bF0 ok e
theorem by8 {y:List (Key×V)}(ok:HOk P w H h)(e:H a=some (.dK y)):y.length<=aH/\(a==cS)=false/\∃ vs,KV y vs/\h.DictOf (zT P w) a vs:=bl8 ok (.inl e)
theorem aR3 {y:List Key}(ok:HOk P w H h)(e:H a=some (.tup (y.map kV))):(g7 (zT P w)).is h y a:=by
 obtain⟨_,its,r,o,G,B,n,J⟩:=(show ab6 P w H h a (.tup (y.map kV))from ok a _ e)
 exact⟨o,its.toArray,n,G,B,J,by simpa using ax0 r⟩
theorem bm6 {B:List (List Key×V)}(ok:HOk P w H h)(e:Rd H a (.dT B)):B.length<=aH/\(a==cS)=false /\
  ∃ G,KT H B G/\h.DictOfH (g7 (zT P w)) a G:=by
 obtain⟨z,y,G,r,o,es,Y,J,Z,h3,h4,h5⟩:=(show ab6 P w H h a (.dT B)from bF0 ok e)
 refine⟨z,y,G,r,o,es,Y,J,Z,h3,h4,λ x hx=>?_,h5⟩
 have all:∀ {l:List (List Key×V)} {m:List (List Key×Addr×Value)},KT H l m->∀ x∈m,(g7 (zT P w)).is h x.1 x.2.1:=by
  intro l m q
  induction q with
  | nil=>intro x hx;exact nomatch hx
  | @cons p q ps qs hq t ih =>
   intro x hx
   rcases ay.mp hx with e|hx
   ·subst e
    exact aR3 ok (by rw[<-hq.1];exact hq.2.1)
   ·exact ih x hx
 exact all r x hx
theorem bU8 {y:List (List Key×V)}(ok:HOk P w H h)(e:H a=some (.dT y)):y.length<=aH/\(a==cS)=false /\
  ∃ B,KT H y B/\h.DictOfH (g7 (zT P w)) a B:=bm6 ok (.inl e)
end
def aW9 (H:Hp)(a:Addr)(y:V)(r:Option V):Prop :=
 (∃ kvs k,Rd H a (.dK kvs)/\y=kV k/\r=aE3 kvs k)\/∃ kvs k b,Rd H a (.dT kvs)/\y=.ref b/\H b=some (.tup (k.map kV))/\r=aE3 kvs k
def bo8 (H:Hp)(a:Addr)(y v:V)(H':Hp):Prop :=
 (∃ kvs k,H a=some (.dK kvs)/\y=kV k/\kvs.length<aH/\H'=upd H a (.dK (ao1 kvs k v))) \/
 ∃ kvs k b,H a=some (.dT kvs)/\y=.ref b/\H b=some (.tup (k.map kV))/\kvs.length<aH/\H'=upd H a (.dT (ao1 kvs k v))
theorem aW9.k {H:Hp}{a:Addr}{h:List (Key×V)}{k:Key}(e:H a=some (.dK h)):aW9 H a (kV k) (aE3 h k):=.inl ⟨h,k,.inl e,rfl,rfl⟩
theorem aW9.t {H:Hp}{a b:Addr}{h:List (List Key×V)}{k:List Key}(e:H a=some (.dT h))(eb:H b=some (.tup (k.map kV))):aW9 H a (.ref b) (aE3 h k):=.inr ⟨h,k,b,.inl e,rfl,eb,rfl⟩
theorem bo8.k {H:Hp}{a:Addr}{h:List (Key×V)}{k:Key}{v:V}(e:H a=some (.dK h))(hl:h.length<aH):bo8 H a (kV k) v (upd H a (.dK (ao1 h k v))):=.inl ⟨h,k,e,rfl,hl,rfl⟩
theorem bo8.t {H:Hp}{a b:Addr}{h:List (List Key×V)}{k:List Key}{v:V}(e:H a=some (.dT h))(eb:H b=some (.tup (k.map kV)))(hl:h.length<aH) :
  bo8 H a (.ref b) v (upd H a (.dT (ao1 h k v))):=.inr ⟨h,k,b,e,rfl,eb,hl,rfl⟩
section
variable {X:Cx} {pins:List (Addr×Obj)} {σ:St} {H:Hp} {s:af} {a:Addr} {y v:V} {u r:Value} {o:Option V} {A:aP} {E:Value->af->Prop}
theorem Inv.big (I:Inv X pins σ H s):cS<s.heap.objs.size:=by
 have h:aS<s.heap.objs.size:=(I.mod.glob.keeps I.bk).lt
 exact cu (by decide) h
theorem au7 {Q:Value->af->Prop}(hu:A.units+1<cLine)(I:Inv X pins σ H s)(g:aW9 H a y (some v))(ry:RelV y u)(h:∀ J s',Inv X pins σ H s'->RelV v J->Q J s') :
  wpAny (model X.prog X.w) A (f8 (.ref a) u) Q E s:=by
 rcases g with⟨a0,k,e,Y,l⟩|⟨a0,k,b,e,Y,eb,l⟩
 ·subst Y
  obtain⟨z,hd,vs,G,dd⟩:=bl8 I.hok e
  obtain⟨J,hw,B⟩:=aK6.some_of (v:=v) (o:=hG vs k) (by rw[l];exact G.val k)
  exact wpAny_getItem_of (bc4 ry) dd.mapOf hw (h J _ (I.tok _) B)
 ·subst Y
  cases(show u=Value.ref b from ry)
  obtain⟨z,hd,xs,G,dd⟩:=bm6 I.hok e
  obtain⟨J,hw,B⟩:=aK6.some_of (v:=v) (o:=(atKey xs k).map (·.2)) (by rw[l];exact G.val k)
  obtain⟨p,hp,Z⟩:=gk.mp hw
  refine wpAny_getItem_heap (iL hu) (aR3 I.hok eb) dd hp ?_
  rw[Z]
  exact h J _ (I.tok _) B
theorem aD0 {h':Heap}{t':Nat}{ob:HO}(I:Inv X pins σ H s)(mu:Mut (H a))(hs:dB a s.heap h')(h:∃ q,h'.get? a=some q)(new:ab6 X.prog X.w (upd H a ob) h' a ob) :
  Inv X pins σ (upd H a ob) { s with heap:=h',toks:=t' } :=
 I.write (x:=a) (e:=a) mu (.inl rfl) (λ b q hb z=>(hs.2 b hb).trans z) h new
theorem bj3 {P:aD}{w:World}{H':Hp}{h':Heap}{h:List (Key×V)}{vs:List (Key×Value)}(z:h.length<=aH)(hd:(a==cS)=false)(y:KV h vs)(dd:h'.DictOf (zT P w) a vs) :
  ab6 P w H' h' a (.dK h):=⟨z,hd,vs,y,dd⟩
theorem ax3 {H':Hp}{Q:Unit->af->Prop}(hu:A.units+1<cLine)(I:Inv X pins σ H s)(g:bo8 H a y v H')(ry:RelV y u)(rv:RelV v r)(h:∀ s',Inv X pins σ H' s'->Q () s') :
  wpAny (model X.prog X.w) A (setItem (.ref a) u r) Q E s:=by
 rcases g with⟨B,k,e,Y,l,Z⟩|⟨B,k,b,e,Y,eb,l,Z⟩
 ·subst Y Z
  obtain⟨z,hd,vs,G,dd⟩:=by8 I.hok e
  have hz:vs.length<=aH:=by rw[<-G.length];exact z
  have hl:(ao1 B k v).length<=aH:=by have:=ji B k v;omega
  refine wpAny_setItem_pairs (hsz:=hz) (bc4 ry) dd λ h' J hs=>h _ ?_
  have he:∃ q,h'.get? a=some q:=let⟨q,_,_,hq,_⟩:=J;⟨q,hq⟩
  exact aD0 I (by rw[e];exact True.intro) hs he (bj3 hl hd (G.put k rv) J)
 ·subst Y Z
  cases(show u=Value.ref b from ry)
  obtain⟨z,hd,xs,G,dd⟩:=bU8 I.hok e
  have hz:xs.length<=aH:=by rw[<-ii G];exact z
  have hl:(ao1 B k v).length<=aH:=by have:=ji B k v;omega
  refine wpAny_setItem_heap (hsz:=hz) (iL hu) (aR3 I.hok eb) dd λ h' J hs=>h _ ?_
  obtain⟨q,es,ep,hq,h2,h3,h4,_,h5⟩:=J
  refine aD0 I (by rw[e];exact True.intro) hs ⟨q,hq⟩ ⟨hl,hd,_,(G.put k eb rv).keeps λ c ys ec=>?_,q,es,ep,hq,h2,h3,h4,h5⟩
  rw[za (bV5 ec e (λ z=>nomatch z))]
  exact ec
end
section
variable {X:Cx} {pins:List (Addr×Obj)} {σ:St} {H:Hp} {s:af} {a:Addr} {kvs:List (Key×V)} {k:Key} {u:Value} {A:aP} {E:Value->af->Prop}
end
theorem aj1 {X:Cx}{h:List (Addr×Obj)}{σ:St}{H:Hp}{s:af}{a:Addr}{y:V}{o:Option V}(I:Inv X h σ H s)(g:aW9 H a y o):s.TypeIs (.ref a) "dict":=by
 rcases g with⟨B,k,e,_,_⟩|⟨B,k,b,e,_,_,_⟩
 ·obtain⟨_,_,vs,_,dd⟩:=bl8 I.hok e
  exact dd.typeIs
 ·obtain⟨_,_,G,_,dd⟩:=bm6 I.hok e
  exact dd.typeIs
section
variable {X:Cx} {o i e value:Expr} {pos pos' tpos:Pos} {td ty tv:TE}
end
theorem aF9 {P:aD}{w:World}{H:Hp}(h:Heap)(hb:cS<h.objs.size):ab6 P w H (h.push { cls:=.type "dict",data:=.dict #[] }) h.objs.size (.dK []) :=
 ⟨dv _,beq_eq_false_iff_ne.mpr (bO (av hb)),[],.nil,Heap.DictOf.new h⟩
def bh4:TE:=λ _ H Q=>∀ p,H p=none->Q (.ref p) (upd H p (.dK []))
section
variable {X:Cx} {pos:Pos}
theorem bc3:PE X (.Dict [] [] pos) bh4:=λ y s σ H Q I h =>
 wpAny_Dict_empty ⟨.ref s.heap.objs.size,_,I.laid (a:=s.heap.objs.size) (o:=.dK []) (t':=s.toks) (λ _ _ q=>ak _ q) (aj _) (aF9 s.heap I.big),rfl,h _ (I.hok.fresh (aj _))⟩
end
noncomputable def aO2:List (TE×TE)->St->Hp->(List (V×V)->Hp->Prop)->Prop
 | [],_,H,Q=>Q [] H
 | (tk,tv)::r,σ,H,Q=>tk σ H λ x H1=>tv σ H1 λ y H2=>aO2 r σ H2 λ ps H3=>Q ((x,y)::ps) H3
abbrev VV:List (V×V)->List (Value×Value)->Prop:=fA λ p q=>RelV p.1 q.1/\RelV p.2 q.2
def PPs (X:Cx)(pos:Pos)(keys:List (Option Expr))(values:List Expr)(trs:List (TE×TE)):Prop :=
 ∀(pins:List (Addr×Obj)) (s:af) (σ:St) (H:Hp) (Q:List (V×V)->Hp->Prop),Inv X pins σ H s->aO2 trs σ H Q ->
  wpAny (model X.prog X.w) X.A (evalPairs (pairTrees keys values X.env pos)) (λ vs s'=>∃ ps H',Inv X pins σ H' s'/\VV ps vs/\Q ps H') X.xe s
theorem bv4 {X:Cx}{pos:Pos}:PPs X pos [] [] []:=λ y s σ H Q I h=>pairTrees_nil_walk ⟨[],H,I,.nil,h⟩
theorem be6 {X:Cx}{pos:Pos}{k v:Expr}{Y:List (Option Expr)}{vs:List Expr}{tk Z:TE}{G:List (TE×TE)}(hk:PE X k tk)(hv:PE X v Z)(hr:PPs X pos Y vs G) :
  PPs X pos (some k::Y) (v::vs) ((tk,Z)::G):=λ B s σ H Q I h =>
 pairTrees_cons_walk (thn (hk B s σ H _ I h) λ u s1 ⟨x,H1,I1,rx,q1⟩=>thn (hv B s1 σ H1 _ I1 q1) λ w2 s2 ⟨y,H2,I2,ry,q2⟩ =>
  thn (hr B s2 σ H2 _ I2 q2) λ ws s3 ⟨ps,H3,I3,J,q3⟩=>⟨(x,y)::ps,H3,I3,.cons ⟨rx,ry⟩ J,q3⟩)
noncomputable def aw1 (kvs more:List (Key×V)):List (Key×V):=more.foldl (λ acc kv=>ao1 acc kv.1 kv.2) kvs
theorem KV.merge:∀ {y:List (Key×V)} {G:List (Key×Value)} {B:List (Key×V)} {vs:List (Key×Value)},KV y G->KV B vs->KV (aw1 B y) (merged vs G):=by
 intro y G B vs r
 unfold KV at r
 induction r generalizing B vs with
 | nil=>intro q;exact q
 | @cons p q ps qs h t ih =>
  intro r0
  have e:KV (ao1 B p.1 p.2) (stored vs q.1 q.2):=by
   have:=r0.put p.1 h.2
   rw[<-h.1];exact this
  exact ih e
theorem ag2:∀(y h:List (Key×V)),(aw1 h y).length<=h.length+y.length
 | [],h=>by show h.length<=h.length+0;omega
 | p::r,h=>by
  have G:=ag2 r (ao1 h p.1 p.2)
  have B:=ji h p.1 p.2
  show(aw1 (ao1 h p.1 p.2) r).length<=_
  rw[aV];omega
theorem an4 {P:aD}{w:World}:∀ {y:List (Key×V)} {ws:List (Value×Value)},VV (y.map λ G=>(kV G.1,G.2)) ws->∃ B,Carries (zT P w) ws B/\KV y B
 | [],_,r=>by rw[cr]at r;cases r;exact⟨[],True.intro,.nil⟩
 | p::y,_,r=>by
  rw[aI]at r
  cases r with
  | @cons a b as bs h t =>
   obtain⟨B,c,q⟩:=an4 (P:=P) (w:=w) t
   obtain⟨Y,J⟩:=b
   exact⟨(p.1,J)::B,⟨bc4 h.1,rfl,c⟩,.cons ⟨rfl,h.2⟩ q⟩
def bz3 (trs:List (TE×TE)):TE:=λ σ H Q=>∀ p,H p=none->aO2 trs σ (upd H p (.dK [])) λ ps H2=>H2 p=some (.dK [])/\∃ kvs:List (Key×V),ps=kvs.map (λ kv=>(kV kv.1,kv.2))/\kvs.length<=15/\Q (.ref p) (upd H2 p (.dK (aw1 [] kvs)))
theorem bn8 {X:Cx}{pos:Pos}{keys:List (Option Expr)}{y:List Expr}{J:List (TE×TE)}(h:PPs X pos keys y J)(Y:keys.all (·.isSome)=true)(hl:keys.length=y.length)(h0:keys≠[])
  (a0:keys.length<=15):PE X (.Dict keys y pos) (bz3 J):=by
 intro Z s σ H Q I q
 have hn:=I.hok.fresh (aj s.heap.objs.size)
 have I1:=I.laid (a:=s.heap.objs.size) (o:=.dK []) (h':=s.heap.push { cls:=.type "dict",data:=.dict #[] }) (t':=s.toks) (λ _ _ q=>ak _ q) (aj _) (aF9 s.heap I.big)
 refine wpAny_Dict_walk (knd:=zT X.prog X.w) Y hl h0 a0 (thn (h Z _ σ _ _ I1 (q _ hn)) λ ws s2 ⟨ps,H2,I2,a1,e,G,ep,lk,q2⟩=>?_)
 subst ep
 obtain⟨rs,c,rk⟩:=an4 (P:=X.prog) (w:=X.w) a1
 obtain⟨z,hd,a2,r0,dd⟩:=by8 I2.hok e
 cases r0
 refine⟨rs,c,dd,λ h' B hs=>⟨.ref s.heap.objs.size,_,?_,rfl,q2⟩⟩
 have hz:(aw1 [] G).length<=aH:=by
  have h1:=ag2 G []
  rw[ci]at h1
  rw[fj];omega
 have he:∃ q,h'.get? s.heap.objs.size=some q:=let⟨q,_,_,hq,_⟩:=B;⟨q,hq⟩
 exact aD0 I2 (by rw[e];exact True.intro) hs he (bj3 hz hd (rk.merge .nil) B)
section
variable {X:Cx} {pins:List (Addr×Obj)} {σ:St} {H:Hp} {s:af} {a:Addr} {y d:V} {u r:Value} {o:Option V} {A:aP} {E:Value->af->Prop}
end
section
variable {X:Cx} {o e f:Expr} {apos cpos:Pos} {td ty tx:TE}
end
section
variable {P:aD} {w:World} {A:aP} {E:Value->af->Prop} {s:af}
end
section
variable {X:Cx} {pins:List (Addr×Obj)} {σ:St} {H:Hp} {s:af}
end
section
variable {prog:aD} {w:World} {A:aP} {R:jM->af->Prop} {I:Addr} {fp wr:List Addr} {n:Nat} {P:Nat->Value->Prop} {St:Nat->Heap->Prop} {kw:List (Str×Value)}
end
theorem bw5 (i:Int)(h:0<=i):jU i 1=i % 2:=by
 unfold jU
 rw[decide_eq_true h]
 show((i.toNat &&& (1:Int).toNat:Nat):Int)=_
 rw[show(1:Int).toNat=1 from rfl,Nat.and_one_is_mod]
 omega
theorem bw9 {X:Cx}:OpR X (bQ .BitAnd) (rI (λ i j=>0<=i/\j=1) λ i j=>.int (i % 2)):=opI λ i j _ _ _ _ _ hc q=>by
 obtain⟨h0,rfl⟩:=hc
 refine and_int ?_
 rw[bw5 i h0]
 exact q
theorem aK5 {prog : aD} {w : World} {A : aP} {s : af} {K : ac} {x C : Addr}
  {R : jM -> af -> Prop} {tp : Value} (X : K.In s.heap) (L0 : dZ (model prog w) s.heap (jk (Value.ref x)) (Value.ref C))
  (hm : PySem.W.mroIn K C (Value.type "object") = some true) (h : R (Except.ok (Flow.ret (Value.ref C))) s) :
          fX (model prog w) A
            (Code.call (Value.builtin "getset_descriptor.__get__")
              { pos := [Value.builtin "object.__class__", Value.ref x, tp] }) R s := by
  obtain⟨hh, g, dr, t, os⟩ := s
  have L1 := PySem.W.looks_mroIn (M := model prog w) X hm
  refine gU iM.plain PySem.W.KF.entry_gs (iM.check (model prog w) A.in1 _ _ _ _ _ _ PySem.W.KF.type_class (PySem.W.KF.args_gs _ _ _) ?_)
  show wpAny (model prog w) A.in1 (do
                          let __x <- gX { pos := [Value.builtin "object.__class__", Value.ref x, tp] }
                          match __x with
                            | (d, obj, snd) => c7 d obj) _ _ _
  rw[PySem.W.dga_obj]
  refine ah (aA ?_)
  simp only[]
  unfold c7
  show wpAny (model prog w) A.in1 (do
      cC (Value.builtin "object.__class__") (Value.ref x)
      again (Code.builtin "object.__class__" { pos := [Value.ref x] })) _ _ _
  refine ah ?_
  unfold cC
  have e1 : fU (Value.builtin "object.__class__") = pure (bB "__class__", Value.type "object") := by
    show pure (bB (cD "object.__class__").2, Value.type (cD "object.__class__").1) = _
    rw[PySem.W.KF.owner_class]
  rw[e1]
  refine ah (aA ?_)
  refine ah (ah (PySem.W.Looks.at L0 (PySem.W.Looks.at L1 (aA ?_))))
  refine aA ⟨Code.quiet_builtin _ (by decide +kernel), codeAny_builtin PySem.W.KF.entry_class ?_⟩
  refine ah ?_
  unfold shownTypeOf
  exact ah (PySem.W.Looks.at L0 (aA (aA h)))
theorem bT9 {M:Model}{h:Heap}{K:ac}{x D:Addr}{name:Str}{g a:Value}(X:K.In h)
 (y:bI K (Value.ref D) name=some (some a)) (B:dE K a (bB "__get__")=some (some g)) (G:ee K a=some true) :
 dZ M h (dz (Value.ref x) (Value.ref D) name) (Builtin.ObjectAttr.Found.bind g a):=by
 have L1:=d6 (M:=M) X y
 have L2:=PySem.W.looks_specialIn (M:=M) X B
 have L3:=PySem.W.looks_takesIn (M:=M) X G
 unfold dz
 refine cc L1 (cc (a:=some g) L2 ?_)
 refine cc (a:=some (g,a)) (cc L3 fv) (kq fv)
def XAt (h:Heap)(x C:Addr):Prop:=∃ ox,h.get? x=some ox/\ox.cls=Value.ref C
theorem XAt.type {M:Model}{h:Heap}{x C:Addr}(I:XAt h x C):dZ M h (jk (Value.ref x)) (Value.ref C):=by
 obtain⟨G,B,y⟩:=I
 exact y▸cc (kr B) fv
theorem bC6 {prog : aD} {w : World} {A : aP} {E : Value -> af -> Prop} {s : af} {K : ac}
  {x D : Addr} {name : Str} {Q : Option Value -> af -> Prop} {g a : Value}
  (X : K.In s.heap) (L0 : dZ (model prog w) s.heap (jk (Value.ref x)) (Value.ref D))
  (L1 : dZ (model prog w) s.heap (dz (Value.ref x) (Value.ref D) name) (Builtin.ObjectAttr.Found.bind g a))
  (hga : bI K (Value.ref D) (bB "__getattribute__") = some (some (Value.builtin "BaseException.__getattribute__")))
  (hk : bI K (Value.ref D) (bB "__getattr__") = some none)
  {nm q : Str} {N : Addr} {bs bm : List Value} {hdct : Bool} {sn : List Str} {sub : List Value} {ab : Bool} {col : Option Bool} {dd : Option Addr} {k0 k1 k2 k3 k5 : Option Value} {newId : String} {o : Obj}
  (hC : s.heap.get? D = some (excClassObj nm q D N bs bm hdct sn sub ab col dd k0 k1 k2 k3 k5 newId)) (T : OwnTailQ s.heap [.type "ValueError", .type "Exception", .type "BaseException", .type "object"] bm) (hx : s.heap.get? x = some o) (hc : o.cls = .ref D)
  (h : wpAny (model prog w) A.in1 (call g [a, Value.ref x, Value.ref D]) (λ v s' => wpAny (model prog w) A (handedOut v) (λ v s'' => Q (some v) s'') (λ _ _ => False) s') (λ _ _ => False) { heap := s.heap, gens := s.gens, drawn := s.drawn, toks := s.toks + 1, os := s.os }) :
          wpAny (model prog w) A (getAttr? (Value.ref x) name) Q E s := by
  obtain⟨hh, gg, d, t, os⟩ := s
  have Lg := d6 (M := model prog w) X hga
  have L2 := d6 (M := model prog w) X hk
  have f3 := dQ.ga.bind (Value.ref x)
  unfold getAttr?
  refine ah (wpAny_mkText ?_)
  unfold getAttrBy?
  refine ah (wpAny_attempt (cx (ah (PySem.W.Looks.at L0 (ah (PySem.W.Looks.at Lg ?_))))))
  refine wpAny_ite_false rfl ?_
  refine ah (wpAny_ite_true rfl (PySem.W.Looks.at L2 ?_))
  refine ah (wpAny_attempt (cx ?_))
  refine wpAny_ite_false rfl ?_
  refine ah (wpAny_of_eq f3 (fY ?_))
  refine gU dQ.ga.plain F.entry_bexc_ga ?_
  refine wpAny_check_ga_own dQ hC T hx hc ?_
  refine ah (aA ?_)
  refine ah (aA (ah (PySem.W.Looks.at L0 (ah (PySem.W.Looks.at L1 ?_)))))
  refine ah (cx (bz h (λ v s' z => aA ?_) λ _ _ z => z.elim))
  exact bz z (λ v s'' hv => aA hv) λ _ _ z => z.elim
noncomputable def zG (h:Heap)(l:List Addr):Heap:={ h with objs:=h.objs.mapIdx λ i o=>if i∈l then { o with data:=.freed } else o }
theorem zA {h:Heap}{l:List Addr}{b:Addr}(hb:b∈l):(zG h l).get? b=none:=by
 unfold Heap.get? zG
 simp only[gG]
 cases e:h.objs[b]? with
 | none=>rfl
 | some o=>simp only[bh,if_pos hb]
theorem qK {h:Heap}{l:List Addr}{b:Addr}(hb:b ∉ l):(zG h l).get? b=h.get? b:=by
 unfold Heap.get? zG
 simp only[gG]
 cases e:h.objs[b]? with
 | none=>rfl
 | some o=>simp only[bh,if_neg hb]
theorem qe {h:Heap}{l:List Addr}:(zG h l).StaysIn h:=λ b o e=>by
 by_cases hb:b∈l
 ·rw[zA hb]at e;cases e
 ·rwa [qK hb]at e
theorem without_none {h:Heap}{l:List Addr}{b:Addr}(e:(zG h l).get? b=none):b∈l\/h.get? b=none:=by
 by_cases hb:b∈l
 ·exact .inl hb
 ·rw[qK hb]at e;exact .inr e
theorem aj4 {h base y:Heap}:∀ {l:List Env},h.FunFrames base l->(∀ b∈frs l,y.get? b=none)->h.FunFrames y l
 | [],_,_=>True.intro
 | env::l,⟨k,⟨L,o,hf,_,ho,hd⟩,r⟩,hb=>by
  have B:frs (env::l)=L::frs l:=by unfold frs;rw[bT,hf]
  rw[B]at hb
  exact⟨k,⟨L,o,hf,hb L (aw ..),ho,hd⟩,aj4 r λ b z=>hb b (ai _ z)⟩
theorem HOk.part {P:aD}{w:World}{H:Hp}{h h':Heap}(x:HOk P w H h)(k:∀ b u o,H b=some u->h.get? b=some o->h'.get? b=some o):HOk P w H h':=λ a o e =>
 (x a o e).stay (λ b u hb q=>by
  rcases hb with rfl|hb
  ·exact k _ _ _ e q
  ·exact k _ _ _ hb q) (λ _ q=>q) λ _ _ q=>q
theorem ab6.at_ {P:aD}{w:World}{H:Hp}{h:Heap}{a:Addr}{o:HO}(x:ab6 P w H h a o):∃ u,h.get? a=some u:=by
 cases o with
 | lst xs=>obtain⟨_,_,_,_,e⟩:=x;exact⟨_,e⟩
 | tup xs=>obtain⟨_,_,_,ob,e,_⟩:=x;exact⟨_,e⟩
 | dK kvs=>obtain⟨_,_,_,_,o,_,_,e,_⟩:=x;exact⟨_,e⟩
 | dT kvs=>obtain⟨_,_,_,_,o,_,_,e,_⟩:=x;exact⟨_,e⟩
 | set S n=>obtain⟨o,_,_,_,e,_⟩:=x;exact⟨_,e⟩
 | ins C dx fs=>obtain⟨_,_,_,e,_⟩:=x;exact⟨_,e⟩
 | own y=>exact x
 | xd fs=>obtain⟨_,⟨_,_,_,e,_⟩,_⟩:=x;exact⟨_,e⟩
 | rng lo hi=>obtain⟨_,_,_,e⟩:=x;exact⟨_,e⟩
 | frz ob u=>obtain⟨e,_⟩:=x;exact⟨_,e⟩
 | tbl ps=>exact⟨_,(show h.get? a=some _ from x)⟩
 | met f y=>exact⟨_,(show h.get? a=some _ from x)⟩
 | ext φ=>obtain⟨_,e,_⟩:=x;exact e
structure Fly (h0:Heap)(H:Hp)(h:Heap)(a C:Addr):Prop where
 new:h0.get? a=none
 free:H a=none
 at_:∃ a0 oe vs T oT ts,h.get? a=some oe/\(oe.cls=.ref C/\vs[0]?=some a0)/\oe.data=.fields vs/\vs[1]?=some (.ref T)/\h0.get? T=none/\H T=none/\T≠a/\h.get? T=some oT/\oT.data=.fields ts/\ts[3]?=some .none
section
variable {X:Cx} {pins:List (Addr×Obj)} {σ:St} {H:Hp} {s:af} {a C:Addr} {a0:Value}
theorem aV9 (I:Inv X pins σ H s)(G:X.ex=[]){bs:List Addr}(a2:∀ b∈frs X.stack,b∈bs)(hb:∀ b∈bs,b∈frs X.stack\/(X.s₀.heap.get? b=none/\H b=none))(n0:X.s₀.heap.get? a=none)(nH:H a=none)(h:∀ b∈X.fs,b∈frs X.stack)
  {h':Heap} (L:Heap.LeftW (zG s.heap bs) X.stack a (.ref C) a0 s.heap h'):Un X.fs [] X.H₀ H X.s₀.heap h'/\HOk X.prog X.w H h'/\Fly X.s₀.heap H h' a C:=by
 obtain⟨st,ff,tr,sl⟩:=L
 have un:=I.base
 rw[G]at un
 have keep:∀ b o,b ∉ bs->s.heap.get? b=some o->h'.get? b=some o:=λ b o n e=>st b o (by rw[qK n];exact e)
 have slot:∀ b o,b∈frs X.stack->s.heap.get? b=some o->∃ sl,h'.get? b=some { o with slots:=sl }:=λ b o n e=>by
  obtain⟨_,o',e',d⟩:=I.stack.mem n
  rw[e]at e';cases e'
  exact sl b o e d
 have out:∀ b o,X.s₀.heap.get? b=some o->b ∉ frs X.stack->b ∉ bs:=λ b o e n z=>by
  rcases hb b z with q|⟨q,_⟩
  ·exact n q
  ·rw[e]at q;cases q
 have J:∀ b o,X.s₀.heap.get? b=some o->b ∉ X.fs->b ∉ frs X.stack:=λ b o e n z=>by
  rcases ay.mp (I.stkSub b z)with q|q
  ·subst q
   exact absurd (az e) (Nat.not_lt.mpr I.ok.above)
  ·exact n q
 refine⟨⟨λ b o e n B nx=>?_,λ b o e n B nx=>?_,un.free,λ b o e nx=>?_,un.tups,un.frzs,un.tbls⟩,I.hok.part λ b u o e q=>?_,⟨n0,nH,?_⟩⟩
 ·exact keep b o (out b o e (J b o e B)) (un.keep b o e n B nx)
 ·obtain⟨a1,e1⟩:=un.slot b o e n B nx
  obtain⟨Y,e2⟩:=slot b _ (h b B) e1
  exact⟨Y,e2⟩
 ·obtain⟨o1,e1⟩:=un.there b o e nx
  by_cases z:b∈frs X.stack
  ·obtain⟨_,e2⟩:=slot b _ z e1
   exact⟨_,e2⟩
  ·exact⟨_,keep b o1 (out b o e z) e1⟩
 ·refine keep b o (λ z=>?_) q
  rcases hb b z with y|⟨_,y⟩
  ·rw[I.stkFree b y]at e;cases e
  ·rw[y]at e;cases e
 ·obtain⟨oe,vs,T,oT,ts,h1,h2,h3,h4,h5,h6,h7,Z,h9⟩:=tr
  have key:X.s₀.heap.get? T=none/\H T=none:=by
   rcases without_none h5 with z|z
   ·rcases hb T z with y|y
    ·obtain⟨_,o',e',d⟩:=ff.mem y
     rw[h7]at e';cases e'
     exact absurd Z (d _)
    ·exact y
   ·refine⟨?_,?_⟩
    ·cases e:X.s₀.heap.get? T with
     | none=>rfl
     | some o=>obtain⟨o',e'⟩:=un.there T o e (by simp);rw[z]at e';cases e'
    ·cases e:H T with
     | none=>rfl
     | some o=>obtain⟨u,e'⟩:=(I.hok T o e).at_;rw[z]at e';cases e'
  exact⟨a0,oe,vs,T,oT,ts,h1,h2,h3,h4,key.1,key.2,h6,h7,Z,h9⟩
theorem aU9 {oe:Obj}{vs:Array Value}(I:Inv X pins σ H s)(J:X.ex=[])(h:X.stack=X.env::X.outer)(B:X.env.frame=some X.env.locals)(n0:X.s₀.heap.get? a=none)(nH:H a=none)
  (Z:s.heap.get? a=some oe) (h2:oe.cls=.ref C) (h3:oe.data=.fields vs) (h4:vs[1]?=some .none) (h5:vs[0]?=some a0) {Q:Unit->af->Prop} {E:Value->af->Prop}
  (k:∀ h',Un X.fs [] X.H₀ H X.s₀.heap h'->HOk X.prog X.w H h'->Fly X.s₀.heap H h' a C->Q () { s with heap:=h' }):wpAny (model X.prog X.w) X.A (leaving X.env (.ref a)) Q E s:=by
 have Y:s.heap.FunFrames (zG s.heap (a::frs X.stack)) X.stack:=aj4 I.stack λ b hb=>zA (ai _ hb)
 have y:∀ b∈X.fs,b∈frs X.stack:=λ b hb=>by rw[h];unfold frs;rw[bT,B];exact ai _ hb
 have G:=I.ok.frames
 rw[h]at G
 refine wpAny_leaving_firstW (base:=zG s.heap (a::frs X.stack)) G (by rw[<-h];exact Y) B Z qe (zA (aw ..)) h3 h4 h5 λ h' L=>?_
 rw[h2,<-h]at L
 obtain⟨u,o,f⟩:=aV9 I J (λ b hb=>ai _ hb) (λ b hb=>by
  rcases ay.mp hb with q|q
  ·subst q;exact .inr ⟨n0,nH⟩
  ·exact .inl q) n0 nH y L
 exact k h' u o f
theorem aL5 (I:Inv X pins σ H s)(J:X.ex=[])(h:X.stack=X.env::X.outer)(B:X.env.frame=some X.env.locals)(F:Fly X.s₀.heap H s.heap a C){Q:Unit->af->Prop}{E:Value->af->Prop}
  (k:∀ h',Un X.fs [] X.H₀ H X.s₀.heap h'->HOk X.prog X.w H h'->Fly X.s₀.heap H h' a C->Q () { s with heap:=h' }):wpAny (model X.prog X.w) X.A (leaving X.env (.ref a)) Q E s:=by
 obtain⟨n0,nH,a0,oe,vs,T,oT,ts,h1,h2,h3,h4,h5,h6,h7,h8,h9,Y⟩:=F
 have Z:s.heap.FunFrames (zG s.heap (a::T::frs X.stack)) X.stack:=aj4 I.stack λ b hb=>zA (ai _ (ai _ hb))
 have y:∀ b∈X.fs,b∈frs X.stack:=λ b hb=>by rw[h];unfold frs;rw[bT,B];exact ai _ hb
 have G:=I.ok.frames
 rw[h]at G
 refine wpAny_leaving_nextW (base:=zG s.heap (a::T::frs X.stack)) G (by rw[<-h];exact Z) B ⟨oe,vs,T,oT,ts,h1,h2,h3,h4,zA (by simp),h7,h8,h9,Y⟩ qe (zA (aw ..)) λ h' L=>?_
 rw[<-h]at L
 obtain⟨u,o,f⟩:=aV9 I J (λ b hb=>ai _ (ai _ hb)) (λ b hb=>by
  rcases ay.mp hb with q|q
  ·subst q;exact .inr ⟨n0,nH⟩
  ·rcases ay.mp q with q|q
   ·subst q;exact .inr ⟨h5,h6⟩
   ·exact .inl q) n0 nH y L
 exact k h' u o f
end
noncomputable def CX1 (P:aD)(w:World):CXT:=λ outer H s E e s'=>∃ a C H',e=.ref a/\s'.os=s.os/\eJ s'.gens/\Un (frs outer) [] H H' s.heap s'.heap/\HOk P w H' s'.heap/\Fly s.heap H' s'.heap a C/\E e (some C) H'
theorem CX1.inv {X:Cx}{y:List (Addr×Obj)}{σ:St}{H:Hp}{s s':af}{E:XK}{e:Value}(I:Inv X y σ H s)(G:X.ex=[])(h:CX1 X.prog X.w X.stack H s E e s') :
  ∃ a C H',e=.ref a/\Inv X y σ H' s'/\Fly X.s₀.heap H' s'.heap a C/\E e (some C) H':=by
 obtain⟨a,C,H',rfl,os,bare,un,hok,F,q⟩:=h
 have B:∀ b,s.heap.get? b=none->X.s₀.heap.get? b=none:=λ b z=>by
  cases e:X.s₀.heap.get? b with
  | none=>rfl
  | some o=>obtain⟨o',e'⟩:=I.base.there b o e (by rw[G];simp);rw[z]at e';cases e'
 obtain⟨n0,nH,a0,oe,vs,T,Y,ts,J,Z,h3,h4,h5,h6,h7⟩:=F
 exact⟨a,C,H',rfl,I.call' os un hok bare (ch:=[]) (λ b z=>absurd z (by simp)),⟨B _ n0,nH,a0,oe,vs,T,Y,ts,J,Z,h3,h4,B _ h5,h6,h7⟩,q⟩
section
variable {P:aD} {w:World} {K:ac} {mg:Str->Option Value} {base:Heap} {N:List Str} {qual:Str} {scope:Scope} {f:Addr} {cd:Value} {A:aP} {outer:List Env} {s0:af} {H0:Hp} {E:XK}
theorem bS0:af6 (CX1 P w) (as7 (CX1 P w) P w K mg base N qual scope f cd A outer s0 H0 E) E:=by
 intro y σ H s e s' I h
 obtain⟨a,C,H',rfl,J,F,q⟩:=CX1.inv I rfl h
 exact aL5 J rfl rfl rfl F λ h' u o B=>⟨a,C,H',rfl,J.os,J.bare,u,o,B,q⟩
def aJ3 (X:Cx)(E:XK):Prop:=∀(pins:List (Addr×Obj)) (σ:St) (H:Hp) (s:af) (h':Heap) (a C:Addr) (args:List Value),Inv X pins σ H s->Heap.MadeExcOf s.heap h' a (.ref C) args->E (.ref a) (some C) H->X.xe (.ref a) { s with heap:=h' }
theorem bV8:aJ3 (as7 (CX1 P w) P w K mg base N qual scope f cd A outer s0 H0 E) E:=by
 intro h σ H s h' a C args I M q
 have J:Inv (as7 (CX1 P w) P w K mg base N qual scope f cd A outer s0 H0 E) h σ H { s with heap:=h' }:=I.kept (t':=s.toks) M.keeps
 obtain⟨t,y,_⟩:=M.there
 refine aU9 (a0:=.ref t) J rfl rfl rfl ?_ ?_ y rfl rfl rfl rfl λ B u o F=>⟨a,C,H,rfl,J.os,J.bare,u,o,F,q⟩
 ·show s0.heap.get? a=none
  cases e:s0.heap.get? a with
  | none=>rfl
  | some o =>
   obtain⟨G,e'⟩:=I.base.there a o e (by show a ∉ ([]:List Addr);simp)
   rw[M.new]at e';cases e'
 ·cases e:H a with
  | none=>rfl
  | some o =>
   obtain⟨u,e'⟩:=(I.hok a o e).at_
   rw[M.new]at e';cases e'
end
noncomputable def excTail:List Value:=[.type "ValueError",.type "Exception",.type "BaseException",.type "object"]
noncomputable def nsQ (K:ac)(N:Addr):Bool:=match K.lookup N with
 | some ⟨_,_,.dict es _,_⟩=>(es.all λ e=>match e.key with|.str _ _=>true|_=>false)&&jV.all λ n=>(nsFind es n).isNone
 | _=>false
noncomputable def bb1 (K:ac):List Value->Bool
 | .ref A::tl=>(match K.lookup A with|some ⟨_,_,.cls cd,_⟩=>nsQ K cd.ns|_=>false)&&bb1 K tl
 | l=>l==excTail
noncomputable def bP4 (K:ac)(C:Addr):Bool:=match K.lookup C with
 | some ⟨c,_,.cls cd,⟨[_,_,_,_,k4,_]⟩⟩=>c==.type "type"&&(!cd.hasDel&&(nsQ K cd.ns&&((match cd.mro with|m::tl=>m==.ref C&&bb1 K tl|[]=>false)&&k4==some (.builtin "ValueError.__new__"))))
 | _=>false
theorem bg7 {K:ac}{N:Addr}(h:nsQ K N=true):∃ y:Str->Option Value,(∀ n∈jV,y n=none)/\∀ h:Heap,K.In h->h.Ns N y:=by
 unfold nsQ at h
 split at h
 ·rename_i c d es B sl e
  rw[ag]at h
  refine⟨nsFind es,λ n hn=>?_,λ hp G=>⟨_,es,B,G _ _ e,rfl,λ x hx=>?_,λ _=>rfl⟩⟩
  ·have:=aG.mp h.2 n hn
   exact Option.isNone_iff_eq_none.mp this
  ·have:=Array.all_eq_true'.mp h.1 x hx
   split at this
   ·rename_i q;exact⟨_,_,q⟩
   ·cases this
 ·cases h
theorem aE6 {K:ac}:∀ {l:List Value},bb1 K l=true->∀ h:Heap,K.In h->OwnTailQ h excTail l
 | l,h,hp,hK=>by
  unfold bb1 at h
  split at h
  ·rename_i A Y
   rw[ag]at h
   obtain⟨y,B⟩:=h
   split at y
   ·rename_i c d J sl e
    obtain⟨G,q,n⟩:=bg7 y
    exact .own (hK _ _ e) (n hp hK) q (aE6 B hp hK)
   ·cases y
  ·have:=eq_of_beq h
   subst this
   exact .base
structure ExcCls (K:ac)(C:Addr):Prop where
 obj:∃ bm N nm q bs hdct sn sub ab col dd k0 k1 k2 k3 k5 mN,K.lookup C=some (excClassObj nm q C N bs bm hdct sn sub ab col dd k0 k1 k2 k3 k5 "ValueError.__new__")/\(∀ n∈jV,mN n=none)/\∀ h:Heap,K.In h->h.Ns N mN/\OwnTailQ h excTail bm
theorem bo9 {K:ac}{C:Addr}(h:bP4 K C=true):ExcCls K C:=by
 unfold bP4 at h
 split at h
 ·rename_i c dd cd k0 k1 k2 k3 k4 k5 e
  obtain⟨nm,bs,Y,N,q,hdct,sn,sub,ab,col,B⟩:=cd
  simp only[ag,dJ]at h
  obtain⟨h1,G,h3,y,h5⟩:=h
  split at y
  ·rename_i m tl
   rw[ag]at y
   have e1:=eq_of_beq h1
   have e5:=eq_of_beq h5
   have e4:=eq_of_beq y.1
   subst e1 e5 e4
   have G:B=false:=G
   subst G
   obtain⟨Z,q',n⟩:=bg7 h3
   exact⟨tl,N,nm,q,bs,hdct,sn,sub,ab,col,dd,k0,k1,k2,k3,k5,Z,e,q',λ hp J=>⟨n hp J,aE6 y.2 hp J⟩⟩
  ·cases y
 ·cases h
theorem bd8 {K:ac}{x D:Addr}(hc:ExcCls K D)(B:bI K (.ref D) (bB "__getattribute__")=some (some (.builtin "BaseException.__getattribute__")))(hk:bI K (.ref D) (bB "__getattr__")=some none)
  (G:bI K (.ref D) (bB "__class__")=some (some (.builtin "object.__class__")))
  (hs:dE K (.builtin "object.__class__") (bB "__get__")=some (some (.builtin "getset_descriptor.__get__")))
  (J:ee K (.builtin "object.__class__")=some true) (Y:fB K D (.type "object")=some true) :
  dL K (.ref x) (.ref D) (λ h=>XAt h x D):=by
 obtain⟨bm,N,nm,q,bs,hdct,sn,sub,ab,col,dd,k0,k1,k2,k3,k5,mN,hl,hq,hN⟩:=hc.obj
 refine⟨λ M h _ I=>I.type,λ M h X I=>?_,λ h Z dd its n sl X y=>?_,λ {prog w A E Q s} X I h=>?_⟩
 ·intro A' Q' E' s' k q
  exact ah (wpAny_loadPart (k _ _ (X _ _ hl)) (aA q))
 ·cases e:(Value.ref D==Value.ref Z)with
  | false=>rfl
  | true =>
   have e:=eq_of_beq e
   cases e
   rw[X _ _ hl]at y
   cases congrArg (λ o:Option Obj=>o.map Obj.data) y
 ·obtain⟨o,ho,hcl⟩:=I
  have L:=XAt.type (M:=model prog w) ⟨o,ho,hcl⟩
  exact bC6 X L (bT9 X G hs J) B hk (X _ _ hl) (hN _ X).2 ho hcl (fY (aK5 X L Y (PySem.W.handed_on rfl h)))
noncomputable def excI (K:ac)(C:Addr):Bool:=bI K (.ref C) (bB "__getattribute__")==some (some (.builtin "BaseException.__getattribute__"))&&(bI K (.ref C) (bB "__getattr__")==some none&&(bI K (.ref C) (bB "__class__")==some (some (.builtin "object.__class__"))&&(dE K (.builtin "object.__class__") (bB "__get__")==some (some (.builtin "getset_descriptor.__get__"))&&(ee K (.builtin "object.__class__")==some true&&fB K C (.type "object")==some true))))
theorem bp3 {K:ac}{x C:Addr}(hc:ExcCls K C)(h:excI K C=true):dL K (.ref x) (.ref C) (λ h=>XAt h x C):=by
 unfold excI at h
 simp only[ag]at h
 obtain⟨h0,B,y,J,G,Y⟩:=h
 exact bd8 hc (eq_of_beq h0) (eq_of_beq B) (eq_of_beq y) (eq_of_beq J) (eq_of_beq G) (eq_of_beq Y)
section
variable {X:Cx} {E:XK} {C:Addr} {x:Str}
theorem aY1 {np B pos p:Pos}{y:Str}{j:Nat}(T:aJ3 X E)(hc:ExcCls X.K C)(hg:Gl X x)(hm:X.mg x=some (.ref C))(hh:X.A.handled=none)(hd:(x==("__debug__":Str))=false) :
  PS X (.Raise (some (.Call (.Name x np) [.Constant (.str y) j p] [] B)) none pos) (λ D σ H=>∀ a,E (.ref a) (some C) H):=by
 intro h s σ H D I q
 obtain⟨bm,N,nm,q',bs,hdct,sn,sub,ab,col,dd,k0,k1,k2,k3,k5,mN,e,hq,hN⟩:=hc.obj
 have J:=hN _ I.kIn
 refine wpAny_Raise_call_subT (nm:=nm) (q:=q') (C:=C) (N:=N) (bs:=bs) (hdct:=hdct) (sn:=sn) (sub:=sub) (ab:=ab) (col:=col) (dd:=dd) (k0:=k0) (k1:=k1) (k2:=k2) (k3:=k3) (k5:=k5) gY (OwnTail.hasType J.2.tail gY.hasBase) hh rfl (hq _ (aw ..)) ?_
 refine thn (ak0 (v:=.ref C) hg hm rfl hd h s σ H (λ v G=>v=.ref C/\G=H) I ⟨rfl,rfl⟩) λ u s1 ⟨v,G,I1,r,e1,e2⟩=>?_
 subst e1 e2
 refine⟨r,gO ?_⟩
 have Y:PA X [.Constant (.str y) j p] (aq4 (tC (.str y)) aZ8):=zH bh2 ad0
 refine thn (Y B h s1 σ G (λ vs H2=>vs.length=1/\H2=G) I1 ⟨rfl,rfl⟩) λ us s2 ⟨vs,H2,I2,r2,e3,Z⟩=>?_
 subst Z
 have hl:us.length=1:=by rw[<-r2.length];exact e3
 refine⟨rfl,by show us.length<=_;rw[hl];decide,I2.kIn _ _ e,(hN _ I2.kIn).1,(hN _ I2.kIn).2.tail,λ h' a M=>?_⟩
 exact T h σ H2 s2 h' a C us I2 M (q a)
end
structure Tr (X:Cx)(pins:List (Addr×Obj))(σ:St)(H:Hp)(s:af)(a C:Addr)(fl:Value):Prop where
 inv:Inv X pins σ H s
 n0:X.s₀.heap.get? a=none
 nH:H a=none
 np:∀ p∈X.pn++pins,p.1≠a
 tr:∃ a0 oe vs T oT ts,s.heap.get? a=some oe/\(oe.cls=.ref C/\vs[0]?=some a0)/\oe.data=.fields vs/\vs[1]?=some (.ref T)/\X.s₀.heap.get? T=none/\H T=none/\(∀ p∈X.pn++pins,p.1≠T)/\T≠a/\s.heap.get? T=some oT/\oT.data=.fields ts/\ts[3]?=some fl
section
variable {X:Cx} {pins:List (Addr×Obj)} {σ:St} {H:Hp} {s:af} {a C T:Addr} {fl fl' a0:Value} {h':Heap}
theorem Tr.stk (y:X.stack=X.env::X.outer)(h:X.env.frame=some X.env.locals):∀ b∈X.fs,b∈frs X.stack:=λ b hb=>by rw[y];unfold frs;rw[bT,h];exact ai _ hb
theorem Tr.moved (t:Tr X pins σ H s a C fl)(a1:X.ex=[])(c2:X.stack=X.env::X.outer)(b2:X.env.frame=some X.env.locals){oT:Obj}{ts:Array Value}(a2:X.s₀.heap.get? T=none)(J:H T=none)(a4:∀ p∈X.pn++pins,p.1≠T)(b1:s.heap.get? T=some oT)(a6:oT.data=.fields ts)
  (st:(zG s.heap (a::T::frs X.stack)).StaysIn h') (ff:h'.FunFrames (zG s.heap (a::T::frs X.stack)) X.stack) (tr:h'.TracedAtW (zG s.heap (a::T::frs X.stack)) a (.ref C) a0 fl')
  (sl:∀ b o,s.heap.get? b=some o->(∀ vs,o.data≠.fields vs)->∃ sl,h'.get? b=some { o with slots:=sl }):Tr X pins σ H { s with heap:=h' } a C fl':=by
 have I:=t.inv
 have un:=I.base
 rw[a1]at un
 have Y:=Tr.stk c2 b2
 obtain⟨b0,oe,vs,_,_,_,g1,_,g3,_⟩:=t.tr
 have a5:∀ b,b∈a::T::frs X.stack->b=a\/b=T\/b∈frs X.stack:=λ b hb=>by
  rcases ay.mp hb with q|q
  ·exact .inl q
  ·exact .inr (ay.mp q)
 have keep:∀ b o,b≠a->b≠T->b ∉ frs X.stack->s.heap.get? b=some o->h'.get? b=some o:=λ b o n1 n2 n3 e=>st b o (by
  rw[qK λ z=>(a5 b z).elim n1 λ z=>z.elim n2 n3];exact e)
 have slot:∀ b o,b∈frs X.stack->s.heap.get? b=some o->∃ sl,h'.get? b=some { o with slots:=sl }:=λ b o n e=>by
  obtain⟨_,o',e',d⟩:=I.stack.mem n
  rw[e]at e';cases e'
  exact sl b o e d
 have b5:∀ b o,X.s₀.heap.get? b=some o->b ∉ X.fs->b ∉ frs X.stack:=λ b o e n z=>by
  rcases ay.mp (I.stkSub b z)with q|q
  ·subst q
   exact absurd (az e) (Nat.not_lt.mpr I.ok.above)
  ·exact n q
 have h:∀ b o,X.s₀.heap.get? b=some o->b≠a/\b≠T:=λ b o e=>⟨λ z=>(by rw[z,t.n0]at e;cases e),λ z=>(by rw[z,a2]at e;cases e)⟩
 have c3:∀ b o,s.heap.get? b=some o->(∀ vs,o.data≠.fields vs)->b≠a/\b≠T:=λ b o e d=>⟨λ z=>(by rw[z,g1]at e;cases e;exact d _ g3),λ z=>(by rw[z,b1]at e;cases e;exact d _ a6)⟩
 have up:∀ b o,s.heap.get? b=some o->(∀ vs,o.data≠.fields vs)->∃ sl,h'.get? b=some { o with slots:=sl }:=sl
 have a3:Inv X pins σ H { s with heap:=h' }:=by
  refine⟨I.ok,I.os,I.bare,?_,?_,λ x c e=>?_,I.free,I.freeC,λ p hp=>?_,I.hok.part λ b u o e q=>?_,I.len⟩
  ·rw[a1]
   refine⟨λ b o e n Z nx=>?_,λ b o e n Z nx=>?_,un.free,λ b o e nx=>?_,un.tups,un.frzs,un.tbls⟩
   ·exact keep b o (h b o e).1 (h b o e).2 (b5 b o e Z) (un.keep b o e n Z nx)
   ·obtain⟨c1,e1⟩:=un.slot b o e n Z nx
    obtain⟨G,e2⟩:=slot b _ (Y b Z) e1
    exact⟨G,e2⟩
   ·obtain⟨o1,e1⟩:=un.there b o e nx
    by_cases z:b∈frs X.stack
    ·obtain⟨_,e2⟩:=slot b _ z e1
     exact⟨_,e2⟩
    ·exact⟨_,keep b o1 (h b o e).1 (h b o e).2 z e1⟩
  ·obtain⟨m,⟨o,es,ep,ho,hd,hr⟩,hl⟩:=I.loc
   obtain⟨c1,e1⟩:=up _ o ho (λ vs z=>by rw[hd]at z;cases z)
   refine⟨m,⟨_,es,ep,e1,hd,hr⟩,λ i x v h1 h2 h3=>?_⟩
   obtain⟨u,r,lk⟩:=hl i x v h1 h2 h3
   refine⟨u,r,?_⟩
   rcases lk with z|⟨z1,c,z2,oc,z3,z4⟩
   ·exact .inl z
   ·obtain⟨G,e2⟩:=up c oc z3 (λ vs z=>by rw[z4]at z;cases z)
    exact .inr ⟨z1,c,z2,_,e2,z4⟩
  ·obtain⟨v,oc,z3,z4⟩:=I.cell x c e
   obtain⟨G,e2⟩:=up c oc z3 (λ vs z=>by rw[z4]at z;cases z)
   exact⟨v,_,e2,z4⟩
  ·obtain⟨q1,q2,q3,q4,q5⟩:=I.pin p hp
   refine⟨keep _ _ (t.np p hp) (a4 p hp) (λ z=>?_) q1,q2,q3,q4,q5⟩
   rcases ay.mp (I.stkSub _ z)with q|q
   ·exact q3 q
   ·exact q4 q
  ·refine keep b o (λ z=>?_) (λ z=>?_) (λ z=>?_) q
   ·rw[z,t.nH]at e;cases e
   ·rw[z,J]at e;cases e
   ·rw[I.stkFree b z]at e;cases e
 refine⟨a3,t.n0,t.nH,t.np,?_⟩
 obtain⟨b3,b6,B,c0,b4,h1,h2,h3,h4,h5,h6,h7,h8,h9⟩:=tr
 have key:X.s₀.heap.get? B=none/\H B=none/\∀ p∈X.pn++pins,p.1≠B:=by
  rcases without_none h5 with z|z
  ·rcases a5 B z with y|y|y
   ·exact absurd y h6
   ·subst y;exact⟨a2,J,a4⟩
   ·obtain⟨_,o',e',d⟩:=ff.mem y
    rw[h7]at e';cases e'
    exact absurd h8 (d _)
  ·refine⟨?_,?_,λ p hp y=>?_⟩
   ·cases e:X.s₀.heap.get? B with
    | none=>rfl
    | some o=>obtain⟨o',e'⟩:=un.there B o e (by simp);rw[z]at e';cases e'
   ·cases e:H B with
    | none=>rfl
    | some o=>obtain⟨u,e'⟩:=(I.hok B o e).at_;rw[z]at e';cases e'
   ·have:=(I.pin p hp).1
    rw[y,z]at this;cases this
 exact⟨a0,b3,b6,B,c0,b4,h1,h2,h3,h4,key.1,key.2.1,key.2.2,h6,h7,h8,h9⟩
theorem Tr.noted (t:Tr X pins σ H s a C .none)(G:X.ex=[])(h:X.stack=X.env::X.outer)(y:X.env.frame=some X.env.locals){Q:Unit->af->Prop}{E:Value->af->Prop}
  (k:∀ h' fl,Tr X pins σ H { s with heap:=h' } a C fl->Q () { s with heap:=h' }):wpAny (model X.prog X.w) X.A (jm (.ref a) X.env) Q E s:=by
 have I:=t.inv
 obtain⟨a0,oe,vs,T,oT,ts,h1,h2,h3,h4,h5,h6,Y,h7,h8,h9,J⟩:=t.tr
 have Z:s.heap.FunFrames (zG s.heap (a::T::frs X.stack)) X.stack:=aj4 I.stack λ b hb=>zA (ai _ (ai _ hb))
 have B:=I.ok.frames
 rw[h]at B
 refine wpAny_noteFrame_onW (base:=zG s.heap (a::T::frs X.stack)) B (by rw[<-h];exact Z) y ⟨oe,vs,T,oT,ts,h1,h2,h3,h4,zA (by simp),h7,h8,h9,J⟩ qe (zA (aw ..)) λ h' L=>?_
 rw[<-h]at L
 obtain⟨st,ff,tr,sl⟩:=L
 exact k h' _ (t.moved G h y h5 h6 Y h8 h9 st ff tr sl)
theorem Tr.down (t:Tr X pins σ H s a C fl)(h:X.ex=[])(Y:X.stack=X.env::X.outer)(y:X.env.frame=some X.env.locals){A:aP}{Q:Unit->af->Prop}{E:Value->af->Prop}
  (k:∀ h',Tr X pins σ H { s with heap:=h' } a C .none->Q () { s with heap:=h' }):wpAny (model X.prog X.w) A (j2 (.ref a) none) Q E s:=by
 have I:=t.inv
 obtain⟨a0,oe,vs,T,oT,ts,h1,h2,h3,h4,h5,h6,G,h7,Z,h9,B⟩:=t.tr
 have J:s.heap.FunFrames (zG s.heap (a::T::frs X.stack)) X.stack:=aj4 I.stack λ b hb=>zA (ai _ (ai _ hb))
 refine wpAny_setFlight_noneW (base:=zG s.heap (a::T::frs X.stack)) qe J ⟨oe,vs,T,oT,ts,h1,h2,h3,h4,zA (by simp),h7,Z,h9,B⟩ λ h' st ff tr sl=>?_
 exact k h' (t.moved h Y y h5 h6 G Z h9 st ff tr.at λ b o e d=>⟨o.slots,sl b o e d⟩)
theorem CX1.tr {s':af}{E:XK}{e:Value}(I:Inv X pins σ H s)(B:X.ex=[])(h:CX1 X.prog X.w X.stack H s E e s') :
  ∃ a C H',e=.ref a/\Tr X pins σ H' s' a C .none/\E e (some C) H':=by
 have h0:=h
 obtain⟨a,C,H',rfl,os,bare,un,hok,F,q⟩:=h
 obtain⟨a',C',a1,e,J,G,q'⟩:=CX1.inv I B h0
 have Y:∀ b,s.heap.get? b=none->X.s₀.heap.get? b=none:=λ b z=>by
  cases e:X.s₀.heap.get? b with
  | none=>rfl
  | some o=>obtain⟨o',e'⟩:=I.base.there b o e (by rw[B];simp);rw[z]at e';cases e'
 have pn:∀ b,s.heap.get? b=none->∀ p∈X.pn++pins,p.1≠b:=λ b z p hp y=>by
  have:=(I.pin p hp).1
  rw[y,z]at this;cases this
 obtain⟨n0,nH,a0,oe,vs,T,oT,ts,h1,h2,h3,h4,Z,h6,h7⟩:=F
 exact⟨a,C,H',rfl,⟨I.call' os un hok bare (ch:=[]) (λ b z=>absurd z (by simp)),Y _ n0,nH,pn _ n0,a0,oe,vs,T,oT,ts,h1,h2,h3,h4,Y _ Z,h6,pn _ Z,h7⟩,q⟩
end
noncomputable abbrev Cx.hnd (X:Cx)(a:Addr)(oe:Obj):Cx:={ X with A:=X.A.mark (some (.ref a)),calm:=false,pn:=(a,oe)::X.pn,xe:=λ _ _=>False }
section
variable {X:Cx} {pins:List (Addr×Obj)} {σ:St} {H:Hp} {s:af} {a C:Addr} {oe:Obj} {fl:Value}
theorem Cx.Ok.hnd (ok:X.Ok)(a:Addr)(oe:Obj):(X.hnd a oe).Ok:=⟨ok.mod,ok.kind,ok.glob,ok.blt,ok.above,ok.inj,ok.has,ok.cab,(λ z=>by cases z),ok.frames,ok.stk,ok.exf,ok.bs,ok.bsz,ok.noex,ok.exfs,ok.funs,ok.frf⟩
theorem Inv.apart (I:Inv X pins σ H s){b:Addr}{o:Obj}{vs:Array Value}(e:s.heap.get? b=some o)(d:o.data=.fields vs):b≠X.env.locals/\b ∉ X.fs/\∀ v,o.data≠.cell v:=by
 refine⟨λ z=>?_,λ z=>?_,λ v z=>by rw[d]at z;cases z⟩
 ·obtain⟨m,⟨h,es,y,ho,hd,_⟩,_⟩:=I.loc
  rw[<-z,e]at ho;cases ho
  rw[d]at hd;cases hd
 ·obtain⟨_,h,e',d'⟩:=I.funs.mem z
  rw[e]at e';cases e'
  exact d' _ d
theorem Inv.hnd {vs:Array Value}(I:Inv X pins σ H s)(e:s.heap.get? a=some oe)(n:H a=none)(d:oe.data=.fields vs):Inv (X.hnd a oe) pins σ H s :=
 ⟨I.ok.hnd a oe,I.os,I.bare,I.base,I.loc,I.cell,I.free,I.freeC,λ p hp=>by
  rcases ay.mp hp with z|z
  ·subst z;exact⟨e,n,I.apart e d⟩
  ·exact I.pin p z,I.hok,I.len⟩
theorem Inv.unhnd (ok:X.Ok)(I:Inv (X.hnd a oe) pins σ H s):Inv X pins σ H s:=⟨ok,I.os,I.bare,I.base,I.loc,I.cell,I.free,I.freeC,λ p hp=>I.pin p (ai _ hp),I.hok,I.len⟩
theorem aR6 {M:Model}{A:aP}{E:Value->af->Prop}{i:Nat}{x:Str}{v:V}{Q:Unit->af->Prop}(I:Inv X pins σ H s)(hN:X.N.Nodup)(Z:X.N[i]?=some x)(hx:X.env.scope.names.lookup x=some .local)(hv:σ[i]?=some (some v))
  (h:∀ s',Inv X pins (σ.set i none) H s'->Q () s'):wpAny M A (unbindName X.env x) Q E s:=by
 obtain⟨m,hn,hl⟩:=id I.loc
 have G:(X.env.scope.kind==.class||(X.env.scope.kind==.module&&X.env.locals != X.env.globals))=false:=by rw[I.ok.kind];rfl
 obtain⟨u,r,lk⟩:=hl i x v Z hv (.inl hx)
 have hm:m x=some u:=by
  rcases lk with⟨_,e⟩|⟨e,_⟩
  ·exact e
  ·have J:X.env.kindOf x=some .local:=hx
   rw[J]at e
   rcases e with e|e<;>cases e
 have cne:=I.cne
 refine wpAny_unbindName_local hx hn hm G λ h' u' Y hs=>?_
 obtain⟨oL,_,_,a0,_⟩:=id hn
 have B:∀ b o,X.s₀.heap.get? b=some o->b≠X.env.locals:=λ b o e=>av (aq (az e) I.ok.above)
 refine h _ ⟨I.ok,I.os,I.bare,⟨λ b o e n hb hx=>?_,λ b o e n hb hx=>?_,I.base.free,λ b o e hx=>?_,I.base.tups,I.base.frzs,I.base.tbls⟩,⟨_,Y,λ j y v' e1 e2 e3=>?_⟩,λ y c e=>?_,I.free,I.freeC,λ p hp=>?_,I.hok.part λ b w o e q=>?_,by rw[br];exact I.len⟩
 ·exact(hs.2 b (B b o e)).trans (I.base.keep b o e n hb hx)
 ·obtain⟨sl,e1⟩:=I.base.slot b o e n hb hx
  exact⟨sl,(hs.2 b (B b o e)).trans e1⟩
 ·obtain⟨o',e1⟩:=I.base.there b o e hx
  exact⟨o',(hs.2 b (B b o e)).trans e1⟩
 ·have hj:j≠i:=λ z=>by
   subst z
   rw[aU (ae.mp hv).1]at e2
   cases e2
  rw[aY (bO hj)]at e2
  obtain⟨w,r',q⟩:=hl j y v' e1 e2 e3
  refine⟨w,r',?_⟩
  rcases q with⟨k,e⟩|⟨k,c,e,z⟩
  ·refine .inl ⟨k,?_⟩
   have:y≠x:=λ e=>hj (aq1 hN e1 (e▸Z))
   simp[this,e]
  ·exact .inr ⟨k,c,e,z.sameBut hs (cne y c e)⟩
 ·obtain⟨w',z⟩:=I.cell y c e
  exact⟨w',z.sameBut hs (cne y c e)⟩
 ·obtain⟨e,n,ne,nf,d⟩:=I.pin p hp
  exact⟨(hs.2 p.1 ne).trans e,n,ne,nf,d⟩
 ·refine(hs.2 b λ z=>?_).trans q
  rw[z,I.free]at e;cases e
theorem Tr.own (t:Tr X pins σ H s a C fl):∃ oe vs,s.heap.get? a=some oe/\oe.cls=.ref C/\oe.data=.fields vs:=by
 obtain⟨a0,oe,vs,T,G,ts,y,h,B,_⟩:=t.tr
 exact⟨oe,vs,y,h.1,B⟩
theorem Tr.again (t:Tr X pins σ H s a C fl){Q:V->Hp->Prop}{e:Expr}{v:V}(he:∀ oe,PE (X.hnd a oe) e (tC v)){E:Value->af->Prop}{R:Value->af->Prop}
  (k:∀ u s',RelV v u->Tr X pins σ H s' a C fl->R u s'):wpAny (model X.prog X.w) (X.A.mark (some (.ref a))) (eval e X.env) R E s:=by
 obtain⟨a0,oe,vs,T,h,ts,h1,h2,h3,h4,h5,h6,G,h7,Z,h9,B⟩:=t.tr
 have I:=t.inv
 have J:Inv (X.hnd a oe) ((T,h)::pins) σ H s:=(I.hnd h1 t.nH h3).pins_of λ p hp=>by
  rcases ay.mp hp with z|z
  ·subst z;exact⟨Z,h6,I.apart Z h9⟩
  ·exact I.pin p (aO _ z)
 refine bz (he oe ((T,h)::pins) s σ H (λ w Y=>w=v/\Y=H) J ⟨rfl,rfl⟩) (λ u s1 ⟨w,Y,y,r,e1,e2⟩=>?_) (λ _ _ z=>aZ z)
 subst e1 e2
 refine k u s1 r ⟨(y.pins_of λ p hp=>y.pin p (aO _ (ai _ hp))).unhnd I.ok,t.n0,t.nH,t.np,a0,oe,vs,T,h,ts,(y.pin (a,oe) (aw ..)).1,h2,h3,h4,h5,h6,G,h7,(y.pin (T,h) (aO _ (aw ..))).1,h9,B⟩
theorem aS8 {x n:Str}{i:Nat}{np pos:Pos}{b₀:Stmt}{h:List Stmt}{rest:List fH}{th:TS}{D:Ends}(t:Tr X pins σ H s a C .none)(G:X.ex=[])(Y:X.stack=X.env::X.outer)(J:X.env.frame=some X.env.locals)
  (hc:ExcCls X.K C) (hg:Gl X x) (hm:X.mg x=some (.ref C)) (hd:(x==("__debug__":Str))=false) (hN:X.N.Nodup) (hi:X.N[i]?=some n) (hl:X.env.scope.names.lookup n=some .local)
  (hb:∀ oe,oe.cls=.ref C->PSs (X.hnd a oe) (b₀::h) th) (hq:th { nx:=λ _ _=>False,rt:=D.rt } (σ.set i (some (.ref a))) H) :
  wpAny (model X.prog X.w) X.A (jm (.ref a) X.env) (λ _ s₂=>wpAny (model X.prog X.w) X.A (j2 (.ref a) none) (λ _ s₃=>wpAny (model X.prog X.w) X.A (handleBy (.ref a) X.env (.ExceptHandler (some (.Name x np)) (some n) (b₀::h) pos::rest)) (SP X pins D) X.xe s₃) X.xe s₂) X.xe s:=by
 obtain⟨bm,N,nm,q,bs,hdct,sn,sub,ab,col,dd,k0,k1,k2,k3,k5,mN,e,a4,a5⟩:=hc.obj
 refine t.noted G Y J λ h2 fl t2=>t2.down G Y J λ h3 t3=>?_
 refine handleBy_own_as (bmB:=excTail) (newId := "ValueError.__new__") (mg:=X.mg) (x:=x) (C:=C) rfl ?_
 refine t3.again (Q:=λ _ _=>True) (v:=.ref C) (λ oe=>ak0 (X:=X.hnd a oe) hg hm rfl hd) λ u s4 r t4=>?_
 have K4:=a5 _ t4.inv.kIn
 obtain⟨b0,b2,a6,a3,b5⟩:=t4.own
 refine⟨r,⟨hm,bm,N,nm,q,bs,hdct,sn,sub,ab,col,dd,k0,k1,k2,k3,k5,mN,t4.inv.kIn _ _ e,K4.1,a4,K4.2⟩,⟨b0,a6,a3⟩,?_⟩
 refine t4.down G Y J λ h5 B=>?_
 obtain⟨y,b4,Z,a1,a0⟩:=B.own
 have J5:Inv X ((a,y)::pins) σ H { s4 with heap:=h5 }:=B.inv.pins_of λ p hp=>by
  rcases ay.mp hp with z|z
  ·subst z;exact⟨Z,B.nH,B.inv.apart Z a0⟩
  ·exact B.inv.pin p (aO _ z)
 refine af1 J5 hN hi (.inl hl) (v:=.ref a) rfl (λ s6 J6=>?_) (.inr hl)
 have J7:Inv (X.hnd a y) pins (σ.set i (some (.ref a))) H s6:=(J6.pins_of λ p hp=>J6.pin p (aO _ (ai _ hp))).hnd (J6.pin (a,y) (aO _ (aw ..))).1 B.nH a0
 refine bz (hb y a1 pins s6 _ H { nx:=λ _ _=>False,rt:=D.rt } J7 hq) (λ f s8 z=>?_) (λ _ _ z=>aZ z)
 cases f with
 | next=>obtain⟨_,_,_,z⟩:=z;exact aZ z
 | brk=>obtain⟨_,_,_,z⟩:=z;exact aZ z
 | cont=>obtain⟨_,_,_,z⟩:=z;exact aZ z
 | ret u8 =>
  obtain⟨v8,σ8,H8,J8,r8,q8⟩:=z
  have J8:=J8.unhnd B.inv.ok
  refine ah (wpAny_bindName (af1 J8 hN hi (.inl hl) (v:=.non) (u:=.none) rfl (λ s9 J9=>?_) (.inr hl)))
  have b1:i < σ8.length:=by rw[J8.len];exact(ae.mp hi).1
  exact wpAny_onRaise (aR6 J9 hN hi hl (by rw[aU b1]) λ b3 a2=>⟨v8,_,H8,a2,r8,q8⟩)
end
end L2
end
noncomputable section
namespace DV
inductive D where
 | non|bl (b:Bool)|int (i:Int)|str (x:List Nat)|tup (l:List D)|ref (n:Nat)|fn (f:String)|clo (f:String) (cs:List D)
noncomputable instance:DecidableEq D:=λ a b=>fQ (a=b)
noncomputable instance (x:D):Decidable (x=.non):=match x with
 | .non=>.isTrue rfl
 | .bl _=>.isFalse nofun
 | .int _=>.isFalse nofun
 | .str _=>.isFalse nofun
 | .tup _=>.isFalse nofun
 | .ref _=>.isFalse nofun
 | .fn _=>.isFalse nofun
 | .clo _ _=>.isFalse nofun
inductive O where
 | lst (l:List D)|ro (l:List D)|dic (l:List (D×D))|ins (c:String) (fs:List (String×D))|dit (l:List (D×D))
noncomputable instance:DecidableEq O:=λ a b=>fQ (a=b)
noncomputable abbrev Sto:=List O
noncomputable def O.kd:O->Nat
 | .lst _=>0|.ro _=>1|.dic _=>2|.ins _ _=>3|.dit _=>4
inductive R (α:Type) where
 | ok (a:α) (s:Sto)|exc (e:D) (s:Sto)|bad
noncomputable abbrev M (α:Type):=Sto->R α
noncomputable def R.bind {α β:Type}(r:R α)(f:α->Sto->R β):R β:=match r with
 | .ok a s=>f a s
 | .exc e s=>.exc e s
 | .bad=>.bad
@[simp] theorem R.bind_ok {α β:Type} (a:α) (s:Sto) (f:α->Sto->R β):(R.ok a s).bind f=f a s:=rfl
@[simp] theorem R.bind_bad {α β:Type} (f:α->Sto->R β):(R.bad:R α).bind f=.bad:=rfl
@[simp] theorem R.bind_exc {α β:Type} (e:D) (s:Sto) (f:α->Sto->R β):(R.exc e s:R α).bind f=.exc e s:=rfl
theorem R.bind_inv {α β:Type}{r:R α}{f:α->Sto->R β}{b:β}{t:Sto}(h:r.bind f=.ok b t):∃ a s,r=.ok a s/\f a s=.ok b t:=by
 cases r with
 | ok a s=>exact⟨a,s,rfl,h⟩
 | exc e s=>cases h
 | bad=>cases h
@[simp] theorem R.bind_assoc {α β γ:Type} (r:R α) (f:α->Sto->R β) (g:β->Sto->R γ):(r.bind f).bind g=r.bind λ a s=>(f a s).bind g:=by cases r<;>rfl
mutual
noncomputable def D.bnd (n:Nat):D->Bool
 | .tup l=>D.bndL n l
 | .ref k=>decide (k<n)
 | .clo _ l=>D.bndL n l
 | _=>true
noncomputable def D.bndL (n:Nat):List D->Bool
 | []=>true
 | d::l=>D.bnd n d&&D.bndL n l
end
noncomputable def O.bnd (n:Nat):O->Bool
 | .lst l=>D.bndL n l
 | .ro l=>D.bndL n l
 | .dic l=>D.bndL n (l.map (·.1))&&D.bndL n (l.map (·.2))
 | .ins _ fs=>D.bndL n (fs.map (·.2))
 | .dit l=>D.bndL n (l.map (·.1))&&D.bndL n (l.map (·.2))
mutual
noncomputable def D.plain:D->Bool
 | .non=>true|.int _=>true|.str _=>true
 | .tup l=>D.plainL l
 | _=>false
noncomputable def D.plainL:List D->Bool
 | []=>true
 | d::l=>D.plain d&&D.plainL l
end
mutual
noncomputable def D.ncl:D->Bool
 | .tup l=>D.nclL l
 | .clo _ _=>false
 | _=>true
noncomputable def D.nclL:List D->Bool
 | []=>true
 | d::l=>D.ncl d&&D.nclL l
end
noncomputable def O.ncl:O->Bool
 | .lst l=>D.nclL l
 | .ro l=>D.nclL l
 | .dic l=>D.nclL (l.map (·.2))
 | .dit l=>D.nclL (l.map (·.2))
 | _=>false
noncomputable def D.key:D->Bool
 | .int _=>true|.str _=>true|_=>false
noncomputable def D.hdI:List D->Bool
 | .int _::_=>true|_=>false
noncomputable def D.keyS:D->Bool
 | .int _=>true|.str x=>decide (x.length<=1000)|_=>false
noncomputable def D.keyT:D->Bool
 | .tup l=>D.hdI l&&(l.all D.keyS&&decide (l.length<=1000))|_=>false
noncomputable def LIM:Nat:=1000000
@[irreducible] noncomputable def BIG:Nat:=2^60000
@[irreducible] noncomputable def DIVL:Nat:=2^4096
inductive BOp where
 | add|sub|mul|fdiv|mod|pow|shl|shr|band|bor
 deriving DecidableEq
inductive COp where
 | eq|ne|lt|le|gt|ge|isin|notin
 deriving DecidableEq
inductive Cn where
 | non|bl (b:Bool)|int (i:Int)|str (x:List Nat)
 deriving DecidableEq
noncomputable def Cn.d:Cn->D
 | .non=>.non|.bl b=>.bl b|.int i=>.int i|.str x=>.str x
inductive Bi where
 | len|abs|int|str|min2|max2|max3|min3|isInt|isBool|isStr|isTup|isList|ord
 deriving DecidableEq
inductive Mk where
 | tuple|list|all|any|sum|min|max|sorted|lenset
 deriving DecidableEq
inductive Mt where
 | append|pop|index|count|reverse|clear|bitlen|get1|get2|setdefault|update|split|partition
 deriving DecidableEq
inductive Tg where
 | one (i:Nat)|tup (is:List Nat)
 deriving DecidableEq
mutual
inductive E where
 | var (i:Nat)|cst (c:Cn)|glob (x:String)
 | bin (op:BOp) (a b:E)|neg (a:E)|not (a:E)
 | cmp (op:COp) (a b:E)|chain (o p:COp) (a b c:E)
 | isN (a:E)|notN (a:E)|isB (a:E) (b:Bool)|notB (a:E) (b:Bool)
 | and (a b:E)|or (a b:E)|ite (c a b:E)
 | tup (es:Es)|lst (es:Es)|dic (ks vs:Es)|dicT|get2 (o k d:E)|bitl (a:E)|lrng (a:E)
 | ix (a b:E)|slL (a lo:E)|slU (a hi:E)|slLU (a lo hi:E)|rev (a:E)
 | call (f:String) (as:As)|callC (f:String) (as:As)|callV (i:Nat) (es:Es)
 | bi (b:Bi) (es:Es)|mk (k:Mk) (l:L)|mkD (k:Mk) (l:L) (d:E)
 | meth (m:Mt) (o:E) (es:Es)|ext (o:E) (l:L)|extS (o e:E)|join (o e:E)|mks (k:Mk) (e:E)|mkDs (k:Mk) (e d:E)
inductive Es where
 | nil|cons (e:E) (es:Es)
inductive As where
 | nil|ex (e:E) (as:As)|lam (id:String) (caps:List Nat) (as:As)|fn (f:String) (as:As)
inductive I where
 | seq (e:E)|rng1 (a:E)|rng2 (a b:E)|rng3 (a b:E) (c:Int)|enum (it:I)|zip (a b:I)|items (e:E)
inductive L where
 | comp (tg:Tg) (it:I) (e:E) (caps:List (Option Nat))|compIf (tg:Tg) (it:I) (c e:E) (caps:List (Option Nat))|disp (es:Es)|seq (e:E)|itm (e:E)
end
mutual
inductive S where
 | asg (tg:Tg) (e:E)|setIx (o i e:E)|aug (i:Nat) (e:E)|ex (e:E)|ret (e:E)|retN
 | ite (c:E) (a b:Ss)|whl (c:E) (b:Ss)|for_ (tg:Tg) (it:I) (b:Ss)|pass|cont|brk|raise|und (i:Nat)
inductive Ss where
 | nil|cons (s:S) (ss:Ss)
end
noncomputable abbrev Env:=List (Option D)
noncomputable def ac6 (o:O):M D:=λ s=>.ok (.ref s.length) (s++[o])
noncomputable def pur (d:D):M D:=λ s=>.ok d s
noncomputable def bad {α:Type}:M α:=λ _=>.bad
noncomputable def mulOk (a b:Int):Bool:=decide (a.natAbs<2^64)||decide (b.natAbs<2^64)||(decide (a.natAbs<BIG)&&decide (b.natAbs<BIG))
noncomputable def rep:Nat->List Nat->List Nat
 | 0,_=>[]
 | n+1,a=>a++rep n a
noncomputable def aj0:Nat->List D->List D
 | 0,_=>[]
 | n+1,a=>a++aj0 n a
noncomputable def qr:BOp->D->D->M D
 | .add,.int a,.int b=>pur (.int (a+b))
 | .add,.str a,.str b=>if a.length+b.length<=LIM then pur (.str (a++b))else bad
 | .add,.tup a,.tup b=>if a.length+b.length<=LIM then pur (.tup (a++b))else bad
 | .add,.ref a,.ref b=>λ s=>match s[a]?,s[b]? with
  | some (.lst l),some (.lst m)=>if l.length+m.length<=LIM then ac6 (.lst (l++m)) s else .bad
  | _,_=>.bad
 | .sub,.int a,.int b=>pur (.int (a - b))
 | .mul,.int a,.int b=>if mulOk a b then pur (.int (a*b))else bad
 | .mul,.str a,.int n=>if 0<=n/\n<=1000000/\a.length*n.toNat<=LIM then pur (.str (rep n.toNat a))else bad
 | .mul,.tup a,.int n=>if 0<=n/\n<=1000000/\a.length*n.toNat<=LIM then pur (.tup (aj0 n.toNat a))else bad
 | .mul,.ref a,.int n=>λ s=>match s[a]? with
  | some (.lst l)=>if 0<=n/\n<=1000000/\l.length*n.toNat<=LIM then ac6 (.lst (aj0 n.toNat l)) s else .bad
  | _=>.bad
 | .fdiv,.int a,.int b=>if 0<b/\b<(DIVL:Int)then pur (.int (a / b))else bad
 | .mod,.int a,.int b=>if 0<b then pur (.int (a % b))else bad
 | .pow,.int a,.int b=>if 0<=b/\b<=1000000/\a.natAbs<2^64 then pur (.int (a^b.toNat))else bad
 | .shl,.int a,.int b=>if 0<=b/\b<=1000000/\a.natAbs<2^64 then pur (.int (a*2^b.toNat))else bad
 | .shr,.int a,.int b=>if 0<=b then pur (.int (a / 2^b.toNat))else bad
 | .band,.int a,.int b=>if 0<=a/\b=1 then pur (.int (a % 2))else bad
 | _,_,_=>bad
noncomputable def kd (s:Sto):D->Nat
 | .non=>0|.bl _=>1|.int _=>1|.str _=>2|.tup _=>3
 | .ref r=>match s[r]? with|some (.lst _)=>4|_=>9
 | _=>9
noncomputable def ay7 (a b:Nat):Bool:=a==9||b==9||a==b
noncomputable def b2i (b:Bool):Int:=if b then 1 else 0
noncomputable def ax4:D->D->Option Bool
 | .non,.non=>some true
 | .bl a,.bl b=>some (a==b)
 | .int a,.int b=>some (a==b)
 | .bl a,.int b=>some (b2i a==b)
 | .int a,.bl b=>some (a==b2i b)
 | .str a,.str b=>some (a==b)
 | _,_=>none
noncomputable def ac9 (s:Sto)(a b:D):Option Bool:=match ax4 a b with
 | some z=>some z
 | none=>if ay7 (kd s a) (kd s b)then none else some false
noncomputable def eqL (f:D->D->Option Bool):List D->List D->Option Bool
 | [],[]=>some true
 | [],_::_=>some false
 | _::_,[]=>some false
 | a::l,b::m=>match f a b,eqL f l m with
  | some x,some y=>some (x&&y)
  | _,_=>none
noncomputable def eqv (s:Sto):Nat->D->D->Option Bool
 | 0,a,b=>ac9 s a b
 | n+1,a,b=>match a,b with
  | .tup l,.tup m=>eqL (eqv s n) l m
  | .ref x,.ref y=>match s[x]?,s[y]? with
   | some (.lst l),some (.lst m)=>if l.length=m.length then eqL (eqv s n) l m else some false
   | _,_=>none
  | a,b=>ac9 s a b
noncomputable def DEEP:Nat:=30
noncomputable def eqM (a b:D):M D:=λ s=>match eqv s DEEP a b with
 | some r=>.ok (.bl r) s
 | none=>.bad
noncomputable def inL (s:Sto)(x:D):List D->Option Bool
 | []=>some false
 | y::l=>match eqv s DEEP y x,inL s x l with
  | some a,some b=>some (a||b)
  | _,_=>none
noncomputable def look (k:D):List (D×D)->Option D
 | []=>none
 | (a,v)::l=>if a=k then some v else look k l
noncomputable def inM (a b:D):M Bool:=λ s=>match b with
 | .tup l=>match inL s a l with|some r=>.ok r s|none=>.bad
 | .ref r=>match s[r]? with
  | some (.lst l)=>match inL s a l with|some r=>.ok r s|none=>.bad
  | some (.dic l)=>if a.key then .ok (look a l).isSome s else .bad
  | some (.dit l)=>if a.keyT then .ok (look a l).isSome s else .bad
  | _=>.bad
 | .str y=>match a with|.str [c]=>.ok (decide (c∈y)) s|_=>.bad
 | _=>.bad
noncomputable def qD:COp->D->D->M D
 | .eq,a,b=>eqM a b
 | .ne,a,b=>λ s=>match eqv s DEEP a b with|some r=>.ok (.bl (!r)) s|none=>.bad
 | .lt,.int a,.int b=>pur (.bl (decide (a<b)))
 | .le,.int a,.int b=>pur (.bl (decide (a<=b)))
 | .gt,.int a,.int b=>pur (.bl (decide (b<a)))
 | .ge,.int a,.int b=>pur (.bl (decide (b<=a)))
 | _,_,_=>bad
noncomputable def ixn (n:Nat)(i:Int):Option Nat:=if 0<=i then(if i<n then some i.toNat else none)else if -(n:Int)<=i then some (i+n).toNat else none
noncomputable def sbd (n:Nat)(i:Int):Nat:=if 0<=i then min i.toNat n else(i+n).toNat
noncomputable def loB (n:Nat):Option Int->Nat
 | none=>0
 | some i=>sbd n i
noncomputable def hiB (n:Nat):Option Int->Nat
 | none=>n
 | some i=>sbd n i
noncomputable def ay5 {α:Type}(l:List α)(lo hi:Option Int):List α:=(l.drop (loB l.length lo)).take (hiB l.length hi - loB l.length lo)
noncomputable def ixM (a b:D):M D:=λ s=>match a,b with
 | .tup l,.int i=>match(ixn l.length i).bind λ j=>l[j]? with|some d=>.ok d s|none=>.bad
 | .str l,.int i=>match(ixn l.length i).bind λ j=>l[j]? with|some c=>.ok (.str [c]) s|none=>.bad
 | .ref r,b=>match s[r]? with
  | some (.lst l)=>match b with
   | .int i=>match(ixn l.length i).bind λ j=>l[j]? with|some d=>.ok d s|none=>.bad
   | _=>.bad
  | some (.ro l)=>match b with
   | .int i=>match(ixn l.length i).bind λ j=>l[j]? with|some d=>.ok d s|none=>.bad
   | _=>.bad
  | some (.dic l)=>if b.key then match look b l with|some d=>.ok d s|none=>.bad else .bad
  | some (.dit l)=>if b.keyT then match look b l with|some d=>.ok d s|none=>.bad else .bad
  | _=>.bad
 | _,_=>.bad
noncomputable def slM (a:D)(lo hi:Option Int):M D:=λ s=>match a with
 | .tup l=>.ok (.tup (ay5 l lo hi)) s
 | .str l=>.ok (.str (ay5 l lo hi)) s
 | .ref r=>match s[r]? with
  | some (.lst l)=>ac6 (.lst (ay5 l lo hi)) s
  | _=>.bad
 | _=>.bad
noncomputable def bW0 (a:D):M D:=λ s=>match a with
 | .str l=>.ok (.str l.reverse) s
 | .ref r=>match s[r]? with
  | some (.lst l)=>ac6 (.lst l.reverse) s
  | _=>.bad
 | _=>.bad
noncomputable def am6:List D->Option (List Bool)
 | []=>some []
 | .bl b::l=>(am6 l).map (b::·)
 | _=>none
noncomputable def qV:List D->Option (List Int)
 | []=>some []
 | .int i::l=>(qV l).map (i::·)
 | _=>none
noncomputable def ah1:List D->Option (List (List Nat))
 | []=>some []
 | .str i::l=>(ah1 l).map (i::·)
 | _=>none
noncomputable def bx8 (d:D):M D:=λ s=>match d with
 | .tup l=>.ok (.int l.length) s
 | .str l=>.ok (.int l.length) s
 | .ref r=>match s[r]? with
  | some (.lst l)=>.ok (.int l.length) s
  | some (.ro l)=>.ok (.int l.length) s
  | _=>.bad
 | _=>.bad
noncomputable def isK (k:Nat)(d:D):M D:=λ s=>match d with
 | .non=>.ok (.bl false) s
 | .bl _=>.ok (.bl (k==1||k==2)) s
 | .int _=>.ok (.bl (k==1)) s
 | .str _=>.ok (.bl (k==3)) s
 | .tup _=>.ok (.bl (k==4)) s
 | .ref r=>match s[r]? with
  | some (.lst _)=>.ok (.bl (k==5)) s
  | _=>.bad
 | _=>.bad
noncomputable def bi1 (f:D->M D):List D->M D
 | [d]=>f d
 | _=>bad
noncomputable def bi:Bi->List D->M D
 | .len,l=>bi1 bx8 l
 | .abs,l=>λ s=>match qV l with|some [i]=>.ok (.int (if i<0 then -i else i)) s|_=>.bad
 | .int,l=>λ s=>match am6 l with|some [b]=>.ok (.int (if b then 1 else 0)) s|_=>.bad
 | .min2,l=>λ s=>match qV l with|some [a,b]=>.ok (.int (if b<a then b else a)) s|_=>.bad
 | .max2,l=>λ s=>match qV l with|some [a,b]=>.ok (.int (if b > a then b else a)) s|_=>.bad
 | .max3,l=>λ s=>match qV l with|some [a,b,c]=>.ok (.int (max (max a b) c)) s|_=>.bad
 | .isInt,l=>bi1 (isK 1) l
 | .isBool,l=>bi1 (isK 2) l
 | .isStr,l=>bi1 (isK 3) l
 | .isTup,l=>bi1 (isK 4) l
 | .isList,l=>bi1 (isK 5) l
 | _,_=>bad
noncomputable def bz6:List Int->Option Int
 | []=>none
 | a::l=>some (l.foldl min a)
noncomputable def bX8:List Int->Option Int
 | []=>none
 | a::l=>some (l.foldl max a)
noncomputable def ins (a:Int):List Int->List Int
 | []=>[a]
 | b::l=>if a<=b then a::b::l else b::ins a l
noncomputable def bK2:List Int->List Int
 | []=>[]
 | a::l=>ins a (bK2 l)
noncomputable def ca5 (is:List Int):Bool:=is.all (λ i=>decide (-1000000000<=i/\i<=1000000000))&&decide (is.length<=1000000)
noncomputable def mk:Mk->List D->M D
 | .tuple,l=>λ s=>.ok (.tup l) s
 | .list,l=>ac6 (.lst l)
 | .all,l=>λ s=>match am6 l with|some bs=>.ok (.bl (bs.all id)) s|none=>.bad
 | .any,l=>λ s=>match am6 l with|some bs=>.ok (.bl (bs.any id)) s|none=>.bad
 | .sum,l=>λ s=>match qV l with|some is=>if ca5 is then .ok (.int is.sum) s else .bad|none=>.bad
 | .min,l=>λ s=>match(qV l).bind bz6 with|some m=>.ok (.int m) s|none=>.bad
 | .max,l=>λ s=>match(qV l).bind bX8 with|some m=>.ok (.int m) s|none=>.bad
 | .sorted,l=>λ s=>match qV l with|some is=>ac6 (.lst ((bK2 is).map D.int)) s|none=>.bad
 | .lenset,l=>bad
noncomputable def mkD (k:Mk)(l:List D)(d:D):M D:=λ s=>match k with
 | .min=>match qV l with|some is=>(match bz6 is with|some m=>.ok (.int m) s|none=>.ok d s)|none=>.bad
 | .max=>match qV l with|some is=>(match bX8 is with|some m=>.ok (.int m) s|none=>.ok d s)|none=>.bad
 | _=>.bad
noncomputable def aw9 (k v:D)(l:List (D×D)):List (D×D):=if(look k l).isSome then l.map (λ p=>if p.1=k then(p.1,v)else p)else l++[(k,v)]
noncomputable def setIx (o i v:D):Sto->R Unit:=λ s=>match o with
 | .ref r=>match s[r]? with
  | some (.lst l)=>match i with
   | .int i=>match ixn l.length i with|some j=>.ok () (s.set r (.lst (l.set j v)))|none=>.bad
   | _=>.bad
  | some (.dic l)=>if i.key&&decide (l.length<LIM)then .ok () (s.set r (.dic (aw9 i v l)))else .bad
  | some (.dit l)=>if i.keyT&&decide (l.length<LIM)then .ok () (s.set r (.dit (aw9 i v l)))else .bad
  | _=>.bad
 | _=>.bad
noncomputable def bQ1 (o k e:D):M D:=λ s=>match o with
 | .ref r=>match s[r]? with
  | some (.dit l)=>if k.keyT then .ok ((look k l).getD e) s else .bad
  | _=>.bad
 | _=>.bad
noncomputable def idx (s:Sto)(x:D):Nat->List D->Option Nat
 | _,[]=>none
 | n,y::l=>match eqv s DEEP y x with
  | some true=>some n
  | some false=>idx s x (n+1) l
  | none=>none
noncomputable def meth:Mt->D->List D->M D
 | .append,.ref r,[d]=>λ s=>match s[r]? with
  | some (.lst l)=>if l.length<LIM then .ok .non (s.set r (.lst (l++[d])))else .bad
  | _=>.bad
 | .pop,.ref r,[]=>λ s=>match s[r]? with
  | some (.lst l)=>match l.getLast? with|some d=>.ok d (s.set r (.lst l.dropLast))|none=>.bad
  | _=>.bad
 | .reverse,.ref r,[]=>λ s=>match s[r]? with
  | some (.lst l)=>.ok .non (s.set r (.lst l.reverse))
  | _=>.bad
 | .clear,.ref r,[]=>λ s=>match s[r]? with
  | some (.lst l)=>.ok .non (s.set r (.lst []))
  | _=>.bad
 | .index,.ref r,[d]=>λ s=>match s[r]? with
  | some (.lst l)=>match inL s d l,idx s d 0 l with|some true,some n=>.ok (.int n) s|_,_=>.bad
  | _=>.bad
 | _,_,_=>bad
noncomputable def bJ8 (o:D)(l:List D):M D:=λ s=>match o with
 | .ref r=>match s[r]? with
  | some (.lst m)=>if m.length+l.length<=LIM then .ok .non (s.set r (.lst (m++l)))else .bad
  | _=>.bad
 | _=>.bad
noncomputable def aw7 (x y:D):M D:=λ s=>match x with
 | .str []=>match y with
  | .ref r=>match s[r]? with
   | some (.lst l)=>match ah1 l with
    | some ss=>if ss.flatten.length<=LIM then .ok (.str ss.flatten) s else .bad
    | none=>.bad
   | _=>.bad
  | _=>.bad
 | _=>.bad
noncomputable def extS (o d:D):M D:=λ s=>match d with
 | .ref k=>match s[k]? with
  | some (.lst l)=>bJ8 o l s
  | _=>.bad
 | _=>.bad
structure Fns where
 call:String->List D->M D
 lam:String->List D->List D->M D
 con:String->Option D
 xcall:String->List D->Sto->Option (String×Sto)
 xc:String->Bool
 xt:String->Bool
noncomputable def aM1 (ρ:Env)(i:Nat):M D:=λ s=>match ρ[i]? with|some (some d)=>.ok d s|_=>.bad
noncomputable def ae1 (ρ:Env):List Nat->Option (List D)
 | []=>some []
 | i::is=>match ρ[i]?,ae1 ρ is with|some (some d),some l=>some (d::l)|_,_=>none
noncomputable def ad9 (ρ:Env)(caps:List (Option Nat)):Env:=caps.map λ o=>match o with|none=>none|some j=>(ρ[j]?).join
noncomputable def aB1 (ρ:Env)(i:Nat)(d:D):Option Env:=if i < ρ.length then some (ρ.set i (some d))else none
noncomputable def ae2 (ρ:Env)(i:Nat):Option Env:=if i < ρ.length then some (ρ.set i none)else none
noncomputable def ai5 (ρ:Env):List Nat->List D->Option Env
 | [],[]=>some ρ
 | i::is,d::l=>(aB1 ρ i d).bind λ ρ=>ai5 ρ is l
 | _,_=>none
noncomputable def ac8 (ρ:Env):Tg->D->Option Env
 | .one i,d=>aB1 ρ i d
 | .tup is,.tup l=>ai5 ρ is l
 | _,_=>none
structure Sq where
 its:List D
 src:List Nat
noncomputable def aG3 (d:D):M Sq:=λ s=>match d with
 | .tup l=>.ok ⟨l,[]⟩ s
 | .str l=>.ok ⟨l.map λ c=>.str [c],[]⟩ s
 | .ref r=>match s[r]? with
  | some (.lst l)=>.ok ⟨l,[r]⟩ s
  | some (.ro l)=>.ok ⟨l,[]⟩ s
  | _=>.bad
 | _=>.bad
noncomputable def aJ8 (d:D):M Sq:=λ s=>match d with
 | .tup l=>.ok ⟨l,[]⟩ s
 | .str l=>.ok ⟨l.map λ c=>.str [c],[]⟩ s
 | .ref r=>match s[r]? with
  | some (.lst l)=>.ok ⟨l,[r]⟩ s
  | some (.ro l)=>.ok ⟨l,[]⟩ s
  | _=>.bad
 | _=>.bad
noncomputable def bd9 (d:D):M Sq:=λ s=>match d with
 | .tup l=>.ok ⟨l,[]⟩ s
 | .ref r=>match s[r]? with
  | some (.lst l)=>.ok ⟨l,[r]⟩ s
  | some (.ro l)=>.ok ⟨l,[]⟩ s
  | _=>.bad
 | _=>.bad
noncomputable def cc2 (p:D×D):D:=match p.1 with
 | .tup l=>.tup (l++[p.2])
 | _=>.non
noncomputable def bW5 (d:D):Sto->R (List D):=λ s=>match d with
 | .ref r=>match s[r]? with
  | some (.dit l)=>if l.length<=LIM then .ok (l.map cc2) s else .bad
  | _=>.bad
 | _=>.bad
noncomputable def bo2 (d:D):Sto->R (List D):=λ s=>match d with
 | .tup l=>.ok l s
 | .str l=>.ok (l.map λ c=>.str [c]) s
 | .ref r=>match s[r]? with
  | some (.lst l)=>.ok l s
  | some (.ro l)=>.ok l s
  | _=>.bad
 | _=>.bad
noncomputable def bx6 (d:D):Sto->R (List D):=λ s=>match d with
 | .ref r=>match s[r]? with
  | some (.lst l)=>.ok l s
  | _=>.bad
 | _=>.bad
noncomputable def W62:Int:=4611686018427387904
noncomputable def ar7 (a b:Int):List D:=(aN (b - a).toNat).map λ(k:Nat)=>.int (a+k)
noncomputable def bitsN (i:Int):Nat:=if i=0 then 0 else i.natAbs.log2+1
noncomputable def bA2 (x:D):M D:=λ s=>match x with|.int i=>.ok (.int (bitsN i:Nat)) s|_=>.bad
noncomputable def bH7 (x:D):M D:=λ s=>match x with|.int i=>if 0<=i/\i<=1000000 then ac6 (.lst (ar7 0 i)) s else .bad|_=>.bad
noncomputable def ca6 (a b c:Int):List D:=if 0<c then(aN ((b - a+c - 1) / c).toNat).map λ(k:Nat)=>.int (a+c*k)else(aN ((a - b+(-c) - 1) / (-c)).toNat).map λ(k:Nat)=>.int (a+c*k)
noncomputable def bs3 (n:Nat):List D->List D
 | []=>[]
 | d::l=>.tup [.int n,d]::bs3 (n+1) l
noncomputable def bO9:List D->List D->List D
 | a::l,b::m=>.tup [a,b]::bO9 l m
 | _,_=>[]
noncomputable def chk (s0 s:Sto)(src:List Nat):Bool:=src.all λ r=>decide (s[r]?=s0[r]?)
noncomputable def tru {α:Type}(r:R D)(f:Bool->Sto->R α):R α:=r.bind λ d s=>match d with|.bl b=>f b s|_=>.bad
@[simp] theorem zX {α:Type} (b:Bool) (s:Sto) (f:Bool->Sto->R α):tru (.ok (.bl b) s) f=f b s:=rfl
noncomputable def ah5 (ok:Sto->Bool)(g:D->Env->Sto->R (Option D×Env)):List D->Env->Sto->R (List D)
 | [],_,s=>if ok s then .ok [] s else .bad
 | d::l,ρ,s=>if ok s then(g d ρ s).bind λ p s=>(ah5 ok g l p.2 s).bind λ r s=>.ok (match p.1 with|some v=>v::r|none=>r) s else .bad
mutual
noncomputable def ev (F:Fns):E->Env->Sto->R D
 | .var i,ρ,s=>aM1 ρ i s
 | .cst c,_,s=>.ok c.d s
 | .glob x,_,s=>match F.con x with|some d=>.ok d s|none=>.bad
 | .bin op a b,ρ,s=>(ev F a ρ s).bind λ x s=>(ev F b ρ s).bind λ y s=>qr op x y s
 | .neg a,ρ,s=>(ev F a ρ s).bind λ x s=>match x with|.int i=>.ok (.int (-i)) s|_=>.bad
 | .not a,ρ,s=>tru (ev F a ρ s) λ b s=>.ok (.bl (!b)) s
 | .cmp op a b,ρ,s=>(ev F a ρ s).bind λ x s=>(ev F b ρ s).bind λ y s=>qD op x y s
 | .chain o p a b c,ρ,s=>(ev F a ρ s).bind λ x s=>(ev F b ρ s).bind λ y s=>tru (qD o x y s) λ k s=>if k then(ev F c ρ s).bind λ z s=>qD p y z s else .ok (.bl false) s
 | .isN a,ρ,s=>(ev F a ρ s).bind λ x s=>.ok (.bl (decide (x=.non))) s
 | .notN a,ρ,s=>(ev F a ρ s).bind λ x s=>.ok (.bl (!decide (x=.non))) s
 | .isB a b,ρ,s=>(ev F a ρ s).bind λ x s=>match x with|.bl c=>.ok (.bl (c==b)) s|_=>.bad
 | .notB a b,ρ,s=>(ev F a ρ s).bind λ x s=>match x with|.bl c=>.ok (.bl (!(c==b))) s|_=>.bad
 | .and a b,ρ,s=>tru (ev F a ρ s) λ c s=>if c then tru (ev F b ρ s) λ c s=>.ok (.bl c) s else .ok (.bl false) s
 | .or a b,ρ,s=>tru (ev F a ρ s) λ c s=>if c then .ok (.bl true) s else tru (ev F b ρ s) λ c s=>.ok (.bl c) s
 | .ite c a b,ρ,s=>tru (ev F c ρ s) λ k s=>if k then ev F a ρ s else ev F b ρ s
 | .tup es,ρ,s=>(evs F es ρ s).bind λ l s=>.ok (.tup l) s
 | .lst es,ρ,s=>(evs F es ρ s).bind λ l s=>ac6 (.lst l) s
 | .dic .nil .nil,ρ,s=>ac6 (.dic []) s
 | .dic (.cons k .nil) (.cons v .nil),ρ,s=>(ev F k ρ (s++[.dic []])).bind λ kd s1=>(ev F v ρ s1).bind λ vd s2=>if kd.key=true/\s2[s.length]?=some (.dic [])then .ok (.ref s.length) (s2.set s.length (.dic [(kd,vd)]))else .bad
 | .dic _ _,ρ,s=>.bad
 | .dicT,_,s=>ac6 (.dit []) s
 | .get2 o k d,ρ,s=>(ev F o ρ s).bind λ x s=>(ev F k ρ s).bind λ y s=>(ev F d ρ s).bind λ z s=>bQ1 x y z s
 | .bitl a,ρ,s=>(ev F a ρ s).bind λ x s=>bA2 x s
 | .lrng a,ρ,s=>(ev F a ρ s).bind λ x s=>bH7 x s
 | .ix a b,ρ,s=>(ev F a ρ s).bind λ x s=>(ev F b ρ s).bind λ y s=>ixM x y s
 | .slL a lo,ρ,s=>(ev F a ρ s).bind λ x s=>(ev F lo ρ s).bind λ y s=>match y with|.int i=>slM x (some i) none s|_=>.bad
 | .slU a hi,ρ,s=>(ev F a ρ s).bind λ x s=>(ev F hi ρ s).bind λ y s=>match y with|.int i=>slM x none (some i) s|_=>.bad
 | .slLU a lo hi,ρ,s=>(ev F a ρ s).bind λ x s=>(ev F lo ρ s).bind λ y s=>match y with|.int i=>(ev F hi ρ s).bind (λ z s=>match z with|.int j=>slM x (some i) (some j) s|_=>.bad)|_=>.bad
 | .rev a,ρ,s=>(ev F a ρ s).bind λ x s=>bW0 x s
 | .call f as,ρ,s=>(ag3 F as ρ s).bind λ l s=>F.call f l s
 | .callC f as,ρ,s=>(ag3 F as ρ s).bind λ l s=>(F.call f l s).bind λ d s'=>if(d.ncl&&s'.all O.ncl)=true then .ok d s' else .bad
 | .callV i es,ρ,s=>(evs F es ρ s).bind λ l s=>match ρ[i]? with
  | some (some (.fn f))=>F.call f l s
  | some (some (.clo id cs))=>F.lam id cs l s
  | _=>.bad
 | .bi b es,ρ,s=>(evs F es ρ s).bind λ l s=>bi b l s
 | .mk k it,ρ,s=>(evL F it ρ s).bind λ q s=>mk k q s
 | .mkD k it d,ρ,s=>(evL F it ρ s).bind λ q s=>(ev F d ρ s).bind λ d s=>mkD k q d s
 | .meth m o es,ρ,s=>(ev F o ρ s).bind λ x s=>(evs F es ρ s).bind λ l s=>meth m x l s
 | .ext o it,ρ,s=>(ev F o ρ s).bind λ x s=>(evL F it ρ s).bind λ q s=>bJ8 x q s
 | .extS o e,ρ,s=>(ev F o ρ s).bind λ x s=>(ev F e ρ s).bind λ y s=>extS x y s
 | .join o e,ρ,s=>(ev F o ρ s).bind λ x s=>(ev F e ρ s).bind λ y s=>aw7 x y s
 | .mks k e,ρ,s=>(ev F e ρ s).bind λ x s=>(bx6 x s).bind λ q s=>mk k q s
 | .mkDs k e d,ρ,s=>(ev F e ρ s).bind λ x s=>(ev F d ρ s).bind λ z s=>(bx6 x s).bind λ q s=>mkD k q z s
noncomputable def evs (F:Fns):Es->Env->Sto->R (List D)
 | .nil,_,s=>.ok [] s
 | .cons e es,ρ,s=>(ev F e ρ s).bind λ d s=>(evs F es ρ s).bind λ l s=>.ok (d::l) s
noncomputable def ag3 (F:Fns):As->Env->Sto->R (List D)
 | .nil,_,s=>.ok [] s
 | .ex e as,ρ,s=>(ev F e ρ s).bind λ d s=>(ag3 F as ρ s).bind λ l s=>.ok (d::l) s
 | .lam id caps as,ρ,s=>match ae1 ρ caps with
  | some cs=>(ag3 F as ρ s).bind λ l s=>.ok (.clo id cs::l) s
  | none=>.bad
 | .fn f as,ρ,s=>(ag3 F as ρ s).bind λ l s=>.ok (.fn f::l) s
noncomputable def evI (F:Fns):I->Env->Sto->R Sq
 | .seq e,ρ,s=>(ev F e ρ s).bind λ d s=>aG3 d s
 | .rng1 a,ρ,s=>(ev F a ρ s).bind λ x s=>match x with|.int i=>if -W62<=i/\i<W62 then .ok ⟨ar7 0 i,[]⟩ s else .bad|_=>.bad
 | .rng2 a b,ρ,s=>(ev F a ρ s).bind λ x s=>(ev F b ρ s).bind λ y s=>match x,y with|.int i,.int j=>if(-W62<=i/\i<W62)/\-W62<=j/\j<W62 then .ok ⟨ar7 i j,[]⟩ s else .bad|_,_=>.bad
 | .rng3 a b c,ρ,s=>(ev F a ρ s).bind λ x s=>(ev F b ρ s).bind λ y s=>match x,y with|.int i,.int j=>if c=2/\(0<=i/\i<1048576)/\0<=j/\j<1048576 then .ok ⟨ca6 i j c,[]⟩ s else .bad|_,_=>.bad
 | .enum (.seq e),ρ,s=>(ev F e ρ s).bind λ d s=>(bd9 d s).bind λ q s=>.ok ⟨bs3 0 q.its,q.src⟩ s
 | .zip (.seq a) (.seq b),ρ,s=>(ev F a ρ s).bind λ x s=>(ev F b ρ s).bind λ y s=>(aJ8 x s).bind λ p s=>(aJ8 y s).bind λ q s=>.ok ⟨bO9 p.its q.its,p.src++q.src⟩ s
 | .enum _,_,_=>.bad
 | .zip _ _,_,_=>.bad
 | .items e,ρ,s=>.bad
noncomputable def evL (F:Fns):L->Env->Sto->R (List D)
 | .comp tg it e caps,ρ,s=>(evI F it ρ s).bind λ q s0=>if q.its.length<=LIM then ah5 (λ s=>chk s0 s q.src) (λ d ρ s=>match ac8 ρ tg d with
   | some ρ=>(ev F e ρ s).bind λ v s=>.ok (some v,ρ) s
   | none=>.bad) q.its (ad9 ρ caps) s0 else .bad
 | .compIf tg it c e caps,ρ,s=>(evI F it ρ s).bind λ q s0=>if q.its.length<=LIM then ah5 (λ s=>chk s0 s q.src) (λ d ρ s=>match ac8 ρ tg d with
   | some ρ=>tru (ev F c ρ s) λ k s=>if k then(ev F e ρ s).bind λ v s=>.ok (some v,ρ) s else .ok (none,ρ) s
   | none=>.bad) q.its (ad9 ρ caps) s0 else .bad
 | .disp es,ρ,s=>evs F es ρ s
 | .seq e,ρ,s=>(ev F e ρ s).bind λ d s=>bo2 d s
 | .itm e,ρ,s=>(ev F e ρ s).bind λ d s=>bW5 d s
end
inductive Ct where
 | next (ρ:Env)|ret (d:D)|cont (ρ:Env)|brk (ρ:Env)
noncomputable def aM2 (ok:Sto->Bool)(g:D->Env->Sto->R Ct):List D->Env->Sto->R Ct
 | [],ρ,s=>if ok s then .ok (.next ρ) s else .bad
 | d::l,ρ,s=>if ok s then(g d ρ s).bind λ c s=>match c with
   | .next ρ=>aM2 ok g l ρ s
   | .cont ρ=>aM2 ok g l ρ s
   | .brk ρ=>.ok (.next ρ) s
   | .ret d=>.ok (.ret d) s
  else .bad
noncomputable def ag8 (c:Env->Sto->R D)(g:Env->Sto->R Ct):Nat->Env->Sto->R Ct
 | 0,_,_=>.bad
 | n+1,ρ,s=>tru (c ρ s) λ b s=>if b then(g ρ s).bind λ c' s=>match c' with
   | .next ρ=>ag8 c g n ρ s
   | .cont ρ=>ag8 c g n ρ s
   | .brk ρ=>.ok (.next ρ) s
   | .ret d=>.ok (.ret d) s
  else .ok (.next ρ) s
open Classical in
noncomputable def whl (c:Env->Sto->R D)(g:Env->Sto->R Ct)(ρ:Env)(s:Sto):R Ct :=
 if h:∃ n,ag8 c g n ρ s≠.bad then ag8 c g h.choose ρ s else .bad
mutual
noncomputable def ex (F:Fns):S->Env->Sto->R Ct
 | .asg tg e,ρ,s=>(ev F e ρ s).bind λ d s=>match ac8 ρ tg d with|some ρ=>.ok (.next ρ) s|none=>.bad
 | .setIx o i e,ρ,s=>(ev F e ρ s).bind λ d s=>(ev F o ρ s).bind λ x s=>(ev F i ρ s).bind λ y s=>(setIx x y d s).bind λ _ s=>.ok (.next ρ) s
 | .aug i e,ρ,s=>(aM1 ρ i s).bind λ x s=>(ev F e ρ s).bind λ y s=>match x,y with
  | .int a,.int b=>match aB1 ρ i (.int (a+b))with|some ρ=>.ok (.next ρ) s|none=>.bad
  | _,_=>.bad
 | .ex e,ρ,s=>(ev F e ρ s).bind λ _ s=>.ok (.next ρ) s
 | .ret e,ρ,s=>(ev F e ρ s).bind λ d s=>.ok (.ret d) s
 | .retN,_,s=>.ok (.ret .non) s
 | .ite c a b,ρ,s=>tru (ev F c ρ s) λ k s=>if k then exs F a ρ s else exs F b ρ s
 | .whl c b,ρ,s=>whl (ev F c) (exs F b) ρ s
 | .for_ tg it b,ρ,s=>(evI F it ρ s).bind λ q s0=>aM2 (λ s=>chk s0 s q.src) (λ d ρ s=>match ac8 ρ tg d with
   | some ρ=>exs F b ρ s
   | none=>.bad) q.its ρ s0
 | .pass,ρ,s=>.ok (.next ρ) s
 | .cont,ρ,s=>.ok (.cont ρ) s
 | .brk,ρ,s=>.ok (.brk ρ) s
 | .raise,_,_=>.bad
 | .und i,ρ,s=>match ae2 ρ i with|some ρ=>.ok (.next ρ) s|none=>.bad
noncomputable def exs (F:Fns):Ss->Env->Sto->R Ct
 | .nil,ρ,s=>.ok (.next ρ) s
 | .cons st ss,ρ,s=>(ex F st ρ s).bind λ c s=>match c with|.next ρ=>exs F ss ρ s|c=>.ok c s
end
structure Df where
 name:String
 ps:Nat
 vs:Nat
 body:Ss
structure Lm where
 id:String
 ps:Nat
 cs:Nat
 body:E
inductive HT where
 | isi (cs:List String)|one (c:String)|not (t:HT)|or (a b:HT)
inductive Hd where
 | ret (t:HT)|iff (t:HT) (b:Bool) (h:Hd)
noncomputable def subC (c d:String):Bool:=c==d||(d == "TollError"||d == "ValueError")
noncomputable def HT.val (c:String):HT->Bool
 | .isi cs=>cs.any (subC c)
 | .one d=>subC c d
 | .not t=>!t.val c
 | .or a b=>if a.val c then true else b.val c
noncomputable def HT.ok (p:String->Bool):HT->Bool
 | .isi cs=>cs.all p
 | .one d=>p d
 | .not t=>t.ok p
 | .or a b=>a.ok p&&b.ok p
noncomputable def Hd.val (c:String):Hd->Bool
 | .ret t=>t.val c
 | .iff t b h=>if t.val c then b else h.val c
noncomputable def Hd.ok (p:String->Bool):Hd->Bool
 | .ret t=>t.ok p
 | .iff t _ h=>t.ok p&&h.ok p
inductive XB where
 | no|rais (c:String)|call (f:String) (as:As)|iteT (c:E) (a r:XB)|seq (s:S) (b:XB)
noncomputable def xB (F:Fns):XB->Env->Sto->Option (String×Sto)
 | .no,_,_=>none
 | .rais c,_,s=>if F.xc c=true then some (c,s)else none
 | .call f as,ρ,s=>match ag3 F as ρ s with|.ok l s1=>F.xcall f l s1|_=>none
 | .iteT c a r,ρ,s=>match ev F c ρ s with|.ok (.bl b) s1=>if b then xB F a ρ s1 else xB F r ρ s1|_=>none
 | .seq st b,ρ,s=>match ex F st ρ s with|.ok (.next ρ1) s1=>xB F b ρ1 s1|_=>none
structure Xf where
 ps:Nat
 vs:Nat
 body:XB
structure Tf where
 ps:Nat
 vs:Nat
 body:Ss
 xb:XB
 c:String
 i:Nat
 h:Hd
 tl:Ss
structure Pr where
 df:String->Option Df
 lm:String->Option Lm
 con:String->Option D
 xf:String->Option Xf
 tf:String->Option Tf
 xc:String->Bool
 xt:String->Bool
noncomputable def ao9 (st st':Sto):Bool:=(aN st.length).all λ i=>decide (st'[i]?=st[i]?)||(match st'[i]? with|some o=>o.bnd st.length|none=>false)
noncomputable def ab3 (st:Sto)(d:D)(st':Sto):R D :=
 if ao9 st st' then
  match d with
  | .ref r=>if r<st.length then .ok d (st'.take st.length)else match st'[r]? with
   | some o=>if o.bnd st.length then .ok (.ref st.length) (st'.take st.length++[o])else .ok d st'
   | none=>.bad
  | d=>if d.bnd st.length then .ok d (st'.take st.length)else .ok d st'
 else .ok d st'
noncomputable def bj9 (F:Fns)(d:Tf)(l:List D)(s:Sto):R D:=match xB F d.xb (l.map some++ar d.vs none) s with
 | some (c,s')=>if c=d.c/\F.xc c=true/\d.h.ok F.xt=true then ab3 s (.bl (d.h.val c)) s' else .bad
 | none=>(exs F d.body (l.map some++ar d.vs none) s).bind λ c s1=>match c with
  | .ret v=>ab3 s v s1
  | .next ρ=>(exs F d.tl ρ s1).bind λ c s2=>match c with
   | .ret v=>ab3 s v s2
   | .next _=>ab3 s .non s2
   | _=>.bad
  | _=>.bad
noncomputable def aa1 (P:Pr):Nat->Fns
 | 0=>⟨λ _ _ _=>.bad,λ _ _ _ _=>.bad,P.con,λ _ _ _=>none,P.xc,P.xt⟩
 | n+1=>⟨λ f l s=>match P.df f with
   | some d=>if l.length=d.ps then(exs (aa1 P n) d.body (l.map some++ar d.vs none) s).bind λ c s'=>match c with
     | .ret v=>ab3 s v s'
     | .next _=>ab3 s .non s'
     | _=>.bad else .bad
   | none=>match P.tf f with
    | some d=>if l.length=d.ps then bj9 (aa1 P n) d l s else .bad
    | none=>.bad,
  λ id cs l s=>match P.lm id with
   | some d=>if l.length=d.ps/\cs.length=d.cs/\(D.nclL l&&D.nclL cs&&s.all O.ncl)=true then(ev (aa1 P n) d.body (l.map some++cs.map some) s).bind λ v s'=>ab3 s v s' else .bad
   | none=>.bad,P.con,
  λ f l s=>match P.xf f with
   | some d=>if l.length=d.ps then xB (aa1 P n) d.body (l.map some++ar d.vs none) s else none
   | none=>none,P.xc,P.xt⟩
def KP (s s':Sto):Prop:=∀(i:Nat) (o:O),s[i]?=some o->∃ o',s'[i]?=some o'/\o'.kd=o.kd
theorem KP.refl (s:Sto):KP s s:=λ i o h=>⟨o,h,rfl⟩
theorem KP.trans {a b c:Sto}(h:KP a b)(g:KP b c):KP a c:=λ i o e=>by
 obtain⟨y,e1,k1⟩:=h i o e
 obtain⟨B,e2,k2⟩:=g i y e1
 exact⟨B,e2,k2.trans k1⟩
theorem KP.app (s t:Sto):KP s (s++t):=λ i o e=>⟨o,by rw[aB (ae.mp e).1];exact e,rfl⟩
theorem KP.set {s:Sto}{r:Nat}{o y:O}(h:s[r]?=some y)(k:o.kd=y.kd):KP s (s.set r o):=λ i u e=>by
 by_cases z:r=i
 ·subst z
  rw[h]at e;cases e
  exact⟨o,aU (ae.mp h).1,k⟩
 ·exact⟨u,by rw[aY z];exact e,rfl⟩
def KR {α:Type}(s:Sto)(r:R α):Prop:=∀ a s',r=.ok a s'->KP s s'
theorem KR.bad {α:Type}{s:Sto}:KR s (.bad:R α):=λ _ _ h=>by cases h
theorem KR.ok {α:Type}{s:Sto}{a:α}:KR s (.ok a s):=λ _ _ h=>by cases h;exact KP.refl _
theorem KR.bind {α β:Type}{s:Sto}{r:R α}{f:α->Sto->R β}(h:KR s r)(g:∀ a s1,KR s1 (f a s1)):KR s (r.bind f):=λ b s' e=>by
 obtain⟨a,s1,e1,e2⟩:=R.bind_inv e
 exact(h a s1 e1).trans (g a s1 b s' e2)
theorem KR.tru {α:Type}{s:Sto}{r:R D}{f:Bool->Sto->R α}(h:KR s r)(g:∀ a s1,KR s1 (f a s1)):KR s (tru r f):=KR.bind h λ a s1=>by
 cases a with
 | bl b=>exact g b s1
 | _=>exact KR.bad
theorem KR.if {α:Type}{s:Sto}{c:Prop}[Decidable c]{a b:R α}(h:KR s a)(g:KR s b):KR s (if c then a else b):=by split;exact h;exact g
theorem KR.al {s:Sto}{o:O}:KR s (ac6 o s):=λ _ _ h=>by cases h;exact KP.app _ _
theorem KR.pu {s:Sto}{d:D}:KR s (pur d s):=λ _ _ h=>by cases h;exact KP.refl _
theorem KR.bd {s:Sto}:KR s ((DV.bad:M D) s):=λ _ _ h=>by cases h
theorem KR.im {s:Sto}{c:Prop}{_:Decidable c}{d:D}:KR s ((if c then pur d else DV.bad:M D) s):=by split;exact KR.pu;exact KR.bd
theorem KR.ia {s:Sto}{c:Prop}{_:Decidable c}{o:O}:KR s (if c then ac6 o s else .bad):=KR.if KR.al KR.bd
theorem bf4 (op:BOp)(x y:D)(s:Sto):KR s (qr op x y s):=by
 cases op with
 | add=>cases x with
  | int a=>cases y with
   | int b=>exact KR.pu
   | _=>exact KR.bd
  | str a=>cases y with
   | str b=>exact KR.im
   | _=>exact KR.bd
  | tup a=>cases y with
   | tup b=>exact KR.im
   | _=>exact KR.bd
  | ref a=>cases y with
   | ref b =>
    show KR s (match s[a]?,s[b]? with|some (.lst l),some (.lst m)=>if l.length+m.length<=LIM then ac6 (.lst (l++m)) s else .bad|_,_=>.bad)
    split
    ·exact KR.ia
    ·exact KR.bd
   | _=>exact KR.bd
  | _=>exact KR.bd
 | sub=>cases x with
  | int a=>cases y with
   | int b=>exact KR.pu
   | _=>exact KR.bd
  | _=>exact KR.bd
 | mul=>cases x with
  | int a=>cases y with
   | int b=>exact KR.im
   | _=>exact KR.bd
  | str a=>cases y with
   | int b=>exact KR.im
   | _=>exact KR.bd
  | tup a=>cases y with
   | int b=>exact KR.im
   | _=>exact KR.bd
  | ref a=>cases y with
   | int n =>
    show KR s (match s[a]? with|some (.lst l)=>if 0<=n/\n<=1000000/\l.length*n.toNat<=LIM then ac6 (.lst (aj0 n.toNat l)) s else .bad|_=>.bad)
    split
    ·exact KR.ia
    ·exact KR.bd
   | _=>exact KR.bd
  | _=>exact KR.bd
 | fdiv=>cases x with
  | int a=>cases y with
   | int b=>exact KR.im
   | _=>exact KR.bd
  | _=>exact KR.bd
 | mod=>cases x with
  | int a=>cases y with
   | int b=>exact KR.im
   | _=>exact KR.bd
  | _=>exact KR.bd
 | pow=>cases x with
  | int a=>cases y with
   | int b=>exact KR.im
   | _=>exact KR.bd
  | _=>exact KR.bd
 | shl=>cases x with
  | int a=>cases y with
   | int b=>exact KR.im
   | _=>exact KR.bd
  | _=>exact KR.bd
 | shr=>cases x with
  | int a=>cases y with
   | int b=>exact KR.im
   | _=>exact KR.bd
  | _=>exact KR.bd
 | band=>cases x with
  | int a=>cases y with
   | int b=>exact KR.im
   | _=>exact KR.bd
  | _=>exact KR.bd
 | _=>exact KR.bd
theorem aS5 (op:COp)(x y:D)(s:Sto):KR s (qD op x y s):=by
 have B:∀ a b:D,KR s (inM a b s):=λ a b=>by
  intro r s' h
  unfold inM at h
  split at h
  ·split at h<;>cases h;exact KP.refl _
  ·split at h
   ·split at h<;>cases h;exact KP.refl _
   ·split at h<;>cases h;exact KP.refl _
   ·split at h<;>cases h;exact KP.refl _
   ·cases h
  ·split at h<;>cases h;exact KP.refl _
  ·cases h
 cases op with
 | isin=>intro a s' h;exact absurd h (by nofun)
 | notin=>intro a s' h;exact absurd h (by nofun)
 | eq=>intro a s' h;change eqM x y s=_ at h;unfold eqM at h;split at h<;>cases h;exact KP.refl _
 | ne =>
  intro a s' h
  change(match eqv s DEEP x y with|some r=>R.ok (D.bl (!r)) s|none=>.bad)=_ at h
  split at h<;>cases h;exact KP.refl _
 | _ =>
  intro a s' h
  cases x with
  | int i=>(cases y with
   | int j=>cases h;exact KP.refl _
   | _=>cases h)
  | _=>cases h
theorem bW4 (x y:D)(s:Sto):KR s (ixM x y s):=by
 intro a s' h
 unfold ixM at h
 repeat' split at h
 all_goals first|(cases h;exact KP.refl _;done)|(cases h;done)
theorem bs1 (x:D)(y B:Option Int)(s:Sto):KR s (slM x y B s):=by
 intro a s' h
 unfold slM at h
 repeat' split at h
 all_goals first|(cases h;exact KP.refl _;done)|(cases h;exact KP.app _ _;done)|(cases h;done)
theorem br6 (x:D)(s:Sto):KR s (bo2 x s):=by
 intro a s' h
 unfold bo2 at h
 repeat' split at h
 all_goals first|(cases h;exact KP.refl _;done)|(cases h;done)
theorem aN0 (x:D)(s:Sto):KR s (bx6 x s):=by
 intro a s' h
 unfold bx6 at h
 repeat' split at h
 all_goals first|(cases h;exact KP.refl _;done)|(cases h;done)
theorem bu2 (x:D)(s:Sto):KR s (aG3 x s):=by
 intro a s' h
 unfold aG3 at h
 repeat' split at h
 all_goals first|(cases h;exact KP.refl _;done)|(cases h;done)
theorem aH0 (x:D)(s:Sto):KR s (aJ8 x s):=by
 intro a s' h
 unfold aJ8 at h
 repeat' split at h
 all_goals first|(cases h;exact KP.refl _;done)|(cases h;done)
theorem aX1 (x:D)(s:Sto):KR s (bd9 x s):=by
 intro a s' h
 unfold bd9 at h
 repeat' split at h
 all_goals first|(cases h;exact KP.refl _;done)|(cases h;done)
theorem bs8 (x y:D)(s:Sto):KR s (aw7 x y s):=by
 intro a s' h
 unfold aw7 at h
 repeat' split at h
 all_goals first|(cases h;exact KP.refl _;done)|(cases h;done)
theorem bP7 (b:Bi)(l:List D)(s:Sto):KR s (bi b l s):=by
 have k1:∀ f:D->M D,(∀ d,KR s (f d s))->KR s (bi1 f l s):=λ f y=>by
  cases l with
  | nil=>exact KR.bad
  | cons d t=>(cases t with
   | nil=>exact y d
   | cons _ _=>exact KR.bad)
 have k2:∀ k d,KR s (isK k d s):=λ k d=>by
  intro a s' h
  unfold isK at h
  repeat' split at h
  all_goals first|(cases h;exact KP.refl _;done)|(cases h;done)
 have k3:∀ d,KR s (bx8 d s):=λ d=>by
  intro a s' h
  unfold bx8 at h
  repeat' split at h
  all_goals first|(cases h;exact KP.refl _;done)|(cases h;done)
 cases b with
 | len=>exact k1 _ k3
 | isInt=>exact k1 _ (k2 1)
 | isBool=>exact k1 _ (k2 2)
 | isStr=>exact k1 _ (k2 3)
 | isTup=>exact k1 _ (k2 4)
 | isList=>exact k1 _ (k2 5)
 | _ =>
  intro a s' h
  unfold bi at h
  first|(cases h;done)|(simp only at h;split at h<;>first|(cases h;exact KP.refl _;done)|(cases h;done))
theorem bC1 (k:Mk)(l:List D)(s:Sto):KR s (mk k l s):=by
 cases k with
 | tuple=>exact KR.ok
 | list=>exact KR.al
 | lenset=>exact KR.bad
 | _ =>
  intro a s' h
  unfold mk at h
  simp only at h
  repeat' split at h
  all_goals first|(cases h;exact KP.refl _;done)|(cases h;exact KP.app _ _;done)|(cases h;done)
theorem bi5 (k:Mk)(l:List D)(d:D)(s:Sto):KR s (mkD k l d s):=by
 intro a s' h
 unfold mkD at h
 repeat' split at h
 all_goals first|(cases h;exact KP.refl _;done)|(cases h;done)
theorem bl5 (m:Mt)(o:D)(l:List D)(s:Sto):KR s (meth m o l s):=by
 intro a s' h
 unfold meth at h
 repeat' split at h
 all_goals first|(cases h;done)|(cases h;exact KP.refl _;done)|(rename_i e _;cases h;exact KP.set e rfl;done)|(rename_i e _ _ _;cases h;exact KP.set e rfl;done)|(rename_i e;cases h;exact KP.set e rfl;done)|(rename_i e _ _;cases h;exact KP.set e rfl;done)
theorem aM6 (o:D)(l:List D)(s:Sto):KR s (bJ8 o l s):=by
 intro a s' h
 unfold bJ8 at h
 repeat' split at h
 all_goals first|(cases h;done)|(rename_i e _;cases h;exact KP.set e rfl;done)
theorem aY3 (o i v:D)(s:Sto):KR s (setIx o i v s):=by
 intro a s' h
 unfold setIx at h
 cases o with
 | ref r =>
  simp only at h
  cases e:s[r]? with
  | none=>rw[e]at h;cases h
  | some ob =>
   rw[e]at h
   cases ob with
   | lst l =>
    cases i with
    | int k=>simp only at h;split at h<;>cases h;exact KP.set e rfl
    | _=>cases h
   | dic l=>simp only at h;split at h<;>cases h;exact KP.set e rfl
   | dit l=>simp only at h;split at h<;>cases h;exact KP.set e rfl
   | _=>cases h
 | _=>cases h
theorem bp2 (o k e:D)(s:Sto):KR s (bQ1 o k e s):=by
 intro a s' h
 unfold bQ1 at h
 repeat' split at h
 all_goals first|(cases h;exact KP.refl _;done)|(cases h;done)
theorem bm2 (d:D)(s:Sto):KR s (bW5 d s):=by
 intro a s' h
 unfold bW5 at h
 repeat' split at h
 all_goals first|(cases h;exact KP.refl _;done)|(cases h;done)
structure FK (F:Fns):Prop where
 call:∀ f l s,KR s (F.call f l s)
 lam:∀ id cs l s,KR s (F.lam id cs l s)
 xcall:∀ f l s c s',F.xcall f l s=some (c,s')->KP s s'
theorem ap8 {ok:Sto->Bool}{g:D->Env->Sto->R (Option D×Env)}(h:∀ d ρ s,KR s (g d ρ s)):∀(l:List D) (ρ:Env) (s:Sto),KR s (ah5 ok g l ρ s)
 | [],ρ,s=>KR.if KR.ok KR.bad
 | d::l,ρ,s=>KR.if (KR.bind (h d ρ s) λ p s1=>KR.bind (ap8 h l p.2 s1) λ r s2=>KR.ok) KR.bad
section
variable {F:Fns} (hF:FK F)
theorem aP0 (ρ:Env)(i:Nat)(s:Sto):KR s (aM1 ρ i s):=by
 intro a s' h
 unfold aM1 at h
 split at h<;>cases h;exact KP.refl _
include hF
mutual
theorem ze:∀(e:E) (ρ:Env) (s:Sto),KR s (ev F e ρ s)
 | .var i,ρ,s=>aP0 ρ i s
 | .cst c,ρ,s=>KR.ok
 | .glob x,ρ,s=>by
  intro a s' h
  change(match F.con x with|some d=>R.ok d s|none=>.bad)=_ at h
  split at h<;>cases h;exact KP.refl _
 | .bin op a b,ρ,s=>KR.bind (ze a ρ s) λ x s=>KR.bind (ze b ρ s) λ y s=>bf4 op x y s
 | .neg a,ρ,s=>KR.bind (ze a ρ s) λ x s=>by
  cases x with
  | int i=>exact KR.ok
  | _=>exact KR.bad
 | .not a,ρ,s=>KR.tru (ze a ρ s) λ b s=>KR.ok
 | .cmp op a b,ρ,s=>KR.bind (ze a ρ s) λ x s=>KR.bind (ze b ρ s) λ y s=>aS5 op x y s
 | .chain o p a b c,ρ,s=>KR.bind (ze a ρ s) λ x s=>KR.bind (ze b ρ s) λ y s=>KR.tru (aS5 o x y s) λ k s=>KR.if (KR.bind (ze c ρ s) λ z s=>aS5 p y z s) KR.ok
 | .isN a,ρ,s=>KR.bind (ze a ρ s) λ x s=>KR.ok
 | .notN a,ρ,s=>KR.bind (ze a ρ s) λ x s=>KR.ok
 | .isB a b,ρ,s=>KR.bind (ze a ρ s) λ x s=>by
  cases x with
  | bl i=>exact KR.ok
  | _=>exact KR.bad
 | .notB a b,ρ,s=>KR.bind (ze a ρ s) λ x s=>by
  cases x with
  | bl i=>exact KR.ok
  | _=>exact KR.bad
 | .and a b,ρ,s=>KR.tru (ze a ρ s) λ c s=>KR.if (KR.tru (ze b ρ s) λ c s=>KR.ok) KR.ok
 | .or a b,ρ,s=>KR.tru (ze a ρ s) λ c s=>KR.if KR.ok (KR.tru (ze b ρ s) λ c s=>KR.ok)
 | .ite c a b,ρ,s=>KR.tru (ze c ρ s) λ k s=>KR.if (ze a ρ s) (ze b ρ s)
 | .tup es,ρ,s=>KR.bind (af0 es ρ s) λ l s=>KR.ok
 | .lst es,ρ,s=>KR.bind (af0 es ρ s) λ l s=>KR.al
 | .dic .nil .nil,ρ,s=>KR.al
 | .dic (.cons k .nil) (.cons v .nil),ρ,s=>by
  intro a s' h
  obtain⟨kd,s1,e1,h⟩:=R.bind_inv (show(ev F k ρ (s++[.dic []])).bind _=_ from h)
  obtain⟨B,s2,e2,h⟩:=R.bind_inv h
  split at h
  case isFalse=>cases h
  rename_i hc
  cases h
  exact((KP.app _ _).trans ((ze k ρ _ _ _ e1).trans (ze v ρ _ _ _ e2))).trans (KP.set hc.2 rfl)
 | .dic .nil (.cons _ _),ρ,s=>KR.bad
 | .dic (.cons _ .nil) .nil,ρ,s=>KR.bad
 | .dic (.cons _ .nil) (.cons _ (.cons _ _)),ρ,s=>KR.bad
 | .dic (.cons _ (.cons _ _)) _,ρ,s=>KR.bad
 | .dicT,ρ,s=>KR.al
 | .bitl a,ρ,s=>KR.bind (ze a ρ s) λ x s=>by
  intro a s' h
  unfold bA2 at h
  repeat' split at h
  all_goals first|(cases h;exact KP.refl _;done)|(cases h;done)
 | .lrng a,ρ,s=>KR.bind (ze a ρ s) λ x s=>by
  intro a s' h
  unfold bH7 at h
  repeat' split at h
  all_goals first|(cases h;exact KP.app _ _;done)|(cases h;done)
 | .get2 o k d,ρ,s=>KR.bind (ze o ρ s) λ x s=>KR.bind (ze k ρ s) λ y s=>KR.bind (ze d ρ s) λ z s=>bp2 x y z s
 | .ix a b,ρ,s=>KR.bind (ze a ρ s) λ x s=>KR.bind (ze b ρ s) λ y s=>bW4 x y s
 | .slL a lo,ρ,s=>KR.bind (ze a ρ s) λ x s=>KR.bind (ze lo ρ s) λ y s=>by
  cases y with
  | int i=>exact bs1 _ _ _ _
  | _=>exact KR.bad
 | .slU a hi,ρ,s=>KR.bind (ze a ρ s) λ x s=>KR.bind (ze hi ρ s) λ y s=>by
  cases y with
  | int i=>exact bs1 _ _ _ _
  | _=>exact KR.bad
 | .slLU a lo hi,ρ,s=>KR.bind (ze a ρ s) λ x s=>KR.bind (ze lo ρ s) λ y s=>by
  cases y with
  | int i =>
   refine KR.bind (ze hi ρ s) λ z s=>?_
   cases z with
   | int j=>exact bs1 _ _ _ _
   | _=>exact KR.bad
  | _=>exact KR.bad
 | .rev a,ρ,s=>KR.bind (ze a ρ s) λ x s=>by
  cases x with
  | str l=>exact KR.ok
  | ref r =>
   intro a s' h
   unfold bW0 at h
   repeat' split at h
   all_goals first|(cases h;exact KP.refl _;done)|(cases h;exact KP.app _ _;done)|(cases h;done)
  | _=>exact KR.bad
 | .call f as,ρ,s=>KR.bind (ag7 as ρ s) λ l s=>hF.call f l s
 | .callC f as,ρ,s=>KR.bind (ag7 as ρ s) λ l s=>KR.bind (hF.call f l s) λ d s'=>KR.if KR.ok KR.bad
 | .callV i es,ρ,s=>KR.bind (af0 es ρ s) λ l s=>by
  intro a s' h
  split at h
  ·exact hF.call _ _ _ _ _ h
  ·exact hF.lam _ _ _ _ _ _ h
  ·cases h
 | .bi b es,ρ,s=>KR.bind (af0 es ρ s) λ l s=>bP7 b l s
 | .mk k it,ρ,s=>KR.bind (aM9 it ρ s) λ q s=>bC1 k q s
 | .mkD k it d,ρ,s=>KR.bind (aM9 it ρ s) λ q s=>KR.bind (ze d ρ s) λ d s=>bi5 k q d s
 | .meth m o es,ρ,s=>KR.bind (ze o ρ s) λ x s=>KR.bind (af0 es ρ s) λ l s=>bl5 m x l s
 | .ext o it,ρ,s=>KR.bind (ze o ρ s) λ x s=>KR.bind (aM9 it ρ s) λ q s=>aM6 x q s
 | .extS o e,ρ,s=>KR.bind (ze o ρ s) λ x s=>KR.bind (ze e ρ s) λ y s=>by
  intro a s' h
  unfold extS at h
  repeat' split at h
  all_goals first|(cases h;done)|exact aM6 _ _ _ _ _ h
 | .join o e,ρ,s=>KR.bind (ze o ρ s) λ x s=>KR.bind (ze e ρ s) λ y s=>bs8 x y s
 | .mks k e,ρ,s=>KR.bind (ze e ρ s) λ x s=>KR.bind (aN0 x s) λ q s=>bC1 k q s
 | .mkDs k e d,ρ,s=>KR.bind (ze e ρ s) λ x s=>KR.bind (ze d ρ s) λ z s=>KR.bind (aN0 x s) λ q s=>bi5 k q z s
theorem af0:∀(es:Es) (ρ:Env) (s:Sto),KR s (evs F es ρ s)
 | .nil,ρ,s=>KR.ok
 | .cons e es,ρ,s=>KR.bind (ze e ρ s) λ d s=>KR.bind (af0 es ρ s) λ l s=>KR.ok
theorem ag7:∀(y:As) (ρ:Env) (s:Sto),KR s (ag3 F y ρ s)
 | .nil,ρ,s=>KR.ok
 | .ex e y,ρ,s=>KR.bind (ze e ρ s) λ d s=>KR.bind (ag7 y ρ s) λ l s=>KR.ok
 | .lam id caps y,ρ,s=>by
  intro a s' h
  change(match ae1 ρ caps with|some cs=>(ag3 F y ρ s).bind λ l s=>R.ok (D.clo id cs::l) s|none=>.bad)=_ at h
  split at h
  ·exact KR.bind (ag7 y ρ s) (λ l s=>KR.ok) _ _ h
  ·cases h
 | .fn f y,ρ,s=>KR.bind (ag7 y ρ s) λ l s=>KR.ok
theorem aU4:∀(it:I) (ρ:Env) (s:Sto),KR s (evI F it ρ s)
 | .seq e,ρ,s=>KR.bind (ze e ρ s) λ d s=>bu2 d s
 | .rng1 a,ρ,s=>KR.bind (ze a ρ s) λ x s=>by
  cases x with
  | int i=>exact KR.if KR.ok KR.bad
  | _=>exact KR.bad
 | .rng2 a b,ρ,s=>KR.bind (ze a ρ s) λ x s=>KR.bind (ze b ρ s) λ y s=>by
  cases x with
  | int i=>(cases y with
   | int j=>exact KR.if KR.ok KR.bad
   | _=>exact KR.bad)
  | _=>exact KR.bad
 | .rng3 a b c,ρ,s=>KR.bind (ze a ρ s) λ x s=>KR.bind (ze b ρ s) λ y s=>by
  cases x with
  | int i=>(cases y with
   | int j=>exact KR.if KR.ok KR.bad
   | _=>exact KR.bad)
  | _=>exact KR.bad
 | .enum (.seq e),ρ,s=>KR.bind (ze e ρ s) λ d s=>KR.bind (aX1 d s) λ q s=>KR.ok
 | .zip (.seq a) (.seq b),ρ,s=>KR.bind (ze a ρ s) λ x s=>KR.bind (ze b ρ s) λ y s=>KR.bind (aH0 x s) λ p s=>KR.bind (aH0 y s) λ q s=>KR.ok
 | .enum (.rng1 _),ρ,s=>KR.bad
 | .enum (.rng2 _ _),ρ,s=>KR.bad
 | .enum (.rng3 _ _ _),ρ,s=>KR.bad
 | .enum (.enum _),ρ,s=>KR.bad
 | .enum (.zip _ _),ρ,s=>KR.bad
 | .enum (.items _),ρ,s=>KR.bad
 | .zip (.rng1 _) _,ρ,s=>KR.bad
 | .zip (.rng2 _ _) _,ρ,s=>KR.bad
 | .zip (.rng3 _ _ _) _,ρ,s=>KR.bad
 | .zip (.enum _) _,ρ,s=>KR.bad
 | .zip (.zip _ _) _,ρ,s=>KR.bad
 | .zip (.items _) _,ρ,s=>KR.bad
 | .zip (.seq _) (.rng1 _),ρ,s=>KR.bad
 | .zip (.seq _) (.rng2 _ _),ρ,s=>KR.bad
 | .zip (.seq _) (.rng3 _ _ _),ρ,s=>KR.bad
 | .zip (.seq _) (.enum _),ρ,s=>KR.bad
 | .zip (.seq _) (.zip _ _),ρ,s=>KR.bad
 | .zip (.seq _) (.items _),ρ,s=>KR.bad
 | .items e,ρ,s=>KR.bad
theorem aM9:∀(it:L) (ρ:Env) (s:Sto),KR s (evL F it ρ s)
 | .comp tg it e caps,ρ,s=>KR.bind (aU4 it ρ s) λ q s0=>KR.if (ap8 (λ d ρ s=>by
   intro a s' h
   split at h
   ·exact KR.bind (ze e _ s) (λ v s=>KR.ok) _ _ h
   ·cases h) _ _ _) KR.bad
 | .compIf tg it c e caps,ρ,s=>KR.bind (aU4 it ρ s) λ q s0=>KR.if (ap8 (λ d ρ s=>by
   intro a s' h
   split at h
   ·exact KR.tru (ze c _ s) (λ k s=>KR.if (KR.bind (ze e _ s) λ v s=>KR.ok) KR.ok) _ _ h
   ·cases h) _ _ _) KR.bad
 | .disp es,ρ,s=>af0 es ρ s
 | .seq e,ρ,s=>KR.bind (ze e ρ s) λ d s=>br6 d s
 | .itm e,ρ,s=>KR.bind (ze e ρ s) λ d s=>bm2 d s
end
theorem az0 {ok:Sto->Bool}{g:D->Env->Sto->R Ct}(h:∀ d ρ s,KR s (g d ρ s)):∀(l:List D) (ρ:Env) (s:Sto),KR s (aM2 ok g l ρ s)
 | [],ρ,s=>KR.if KR.ok KR.bad
 | d::l,ρ,s=>KR.if (KR.bind (h d ρ s) λ c s=>by
   cases c with
   | next ρ=>exact az0 h l ρ s
   | cont ρ=>exact az0 h l ρ s
   | brk ρ=>exact KR.ok
   | ret d=>exact KR.ok) KR.bad
theorem az8 {c:Env->Sto->R D}{g:Env->Sto->R Ct}(hc:∀ ρ s,KR s (c ρ s))(h:∀ ρ s,KR s (g ρ s)):∀(n:Nat) (ρ:Env) (s:Sto),KR s (ag8 c g n ρ s)
 | 0,ρ,s=>KR.bad
 | n+1,ρ,s=>KR.tru (hc ρ s) λ b s=>KR.if (KR.bind (h ρ s) λ y s=>by
   cases y with
   | next ρ=>exact az8 hc h n ρ s
   | cont ρ=>exact az8 hc h n ρ s
   | brk ρ=>exact KR.ok
   | ret d=>exact KR.ok) KR.ok
mutual
theorem bI4:∀(st:S) (ρ:Env) (s:Sto),KR s (ex F st ρ s)
 | .asg tg e,ρ,s=>KR.bind (ze hF e ρ s) λ d s=>by
  intro a s' h
  split at h<;>cases h;exact KP.refl _
 | .setIx o i e,ρ,s=>KR.bind (ze hF e ρ s) λ d s=>KR.bind (ze hF o ρ s) λ x s=>KR.bind (ze hF i ρ s) λ y s=>KR.bind (aY3 x y d s) λ _ s=>KR.ok
 | .aug i e,ρ,s=>KR.bind (aP0 ρ i s) λ x s=>KR.bind (ze hF e ρ s) λ y s=>by
  intro a s' h
  repeat' split at h
  all_goals first|(cases h;exact KP.refl _;done)|(cases h;done)
 | .ex e,ρ,s=>KR.bind (ze hF e ρ s) λ d s=>KR.ok
 | .ret e,ρ,s=>KR.bind (ze hF e ρ s) λ d s=>KR.ok
 | .retN,ρ,s=>KR.ok
 | .ite c a b,ρ,s=>KR.tru (ze hF c ρ s) λ k s=>KR.if (ah3 a ρ s) (ah3 b ρ s)
 | .whl c b,ρ,s=>by
  intro r s' h
  change whl (ev F c) (exs F b) ρ s=_ at h
  unfold whl at h
  split at h
  ·exact az8 hF (λ ρ s=>ze hF c ρ s) (λ ρ s=>ah3 b ρ s) _ ρ s _ _ h
  ·cases h
 | .for_ tg it b,ρ,s=>KR.bind (aU4 hF it ρ s) λ q s0=>az0 hF (λ d ρ s=>by
   intro a s' h
   split at h
   ·exact ah3 b _ _ _ _ h
   ·cases h) _ _ _
 | .pass,ρ,s=>KR.ok
 | .cont,ρ,s=>KR.ok
 | .brk,ρ,s=>KR.ok
 | .raise,ρ,s=>KR.bad
 | .und i,ρ,s=>by
  intro a s' h
  change(match ae2 ρ i with|some ρ=>R.ok (Ct.next ρ) s|none=>.bad)=_ at h
  split at h<;>cases h;exact KP.refl _
theorem ah3:∀(h:Ss) (ρ:Env) (s:Sto),KR s (exs F h ρ s)
 | .nil,ρ,s=>KR.ok
 | .cons st h,ρ,s=>KR.bind (bI4 st ρ s) λ c s=>by
  cases c with
  | next ρ=>exact ah3 h ρ s
  | _=>exact KR.ok
end
end
theorem qJ {s st:Sto}{d:D}(h:KP s st):KR s (ab3 s d st):=by
 have tk:∀ t,KP s (st.take s.length++t):=λ t i o e=>by
  obtain⟨J,e',k⟩:=h i o e
  have G:=(ae.mp e).1
  have B:=(ae.mp e').1
  refine⟨J,?_,k⟩
  rw[aB (by rw[bq];omega),e8,if_pos G];exact e'
 have y:KP s (st.take s.length):=by have:=tk [];rwa [a7]at this
 intro a s' e
 unfold ab3 at e
 repeat' split at e
 all_goals first|(cases e;exact y;done)|(cases e;exact tk _;done)|(cases e;exact h;done)|(cases e;done)
theorem aN4 {F:Fns}(y:FK F):∀(b:XB) (ρ:Env) (s:Sto) (c:String) (s':Sto),xB F b ρ s=some (c,s')->KP s s'
 | .no,ρ,s,c,s',h=>by cases h
 | .rais d,ρ,s,c,s',h=>by
  change(if F.xc d=true then some (d,s)else none)=_ at h
  split at h
  ·cases h;exact KP.refl _
  ·cases h
 | .call f as,ρ,s,c,s',h=>by
  change(match ag3 F as ρ s with|.ok l s1=>F.xcall f l s1|_=>none)=_ at h
  split at h
  ·rename_i l s1 e;exact(ag7 y as ρ s _ _ e).trans (y.xcall _ _ _ _ _ h)
  ·cases h
 | .iteT d a r,ρ,s,c,s',h=>by
  change(match ev F d ρ s with|.ok (.bl b) s1=>if b then xB F a ρ s1 else xB F r ρ s1|_=>none)=_ at h
  split at h
  ·rename_i b s1 e
   have k:=ze y d ρ s _ _ e
   split at h
   ·exact k.trans (aN4 y a _ _ _ _ h)
   ·exact k.trans (aN4 y r _ _ _ _ h)
  ·cases h
 | .seq st b,ρ,s,c,s',h=>by
  change(match ex F st ρ s with|.ok (.next ρ1) s1=>xB F b ρ1 s1|_=>none)=_ at h
  split at h
  ·rename_i ρ1 s1 e;exact(bI4 y st ρ s _ _ e).trans (aN4 y b _ _ _ _ h)
  ·cases h
theorem bm5 {F:Fns}(y:FK F)(d:Tf)(l:List D)(s:Sto):KR s (bj9 F d l s):=by
 intro a s' h
 unfold bj9 at h
 split at h
 ·rename_i c s1 e
  have k:=aN4 y _ _ _ _ _ e
  split at h
  ·exact qJ k _ _ h
  ·cases h
 ·obtain⟨c,s1,e1,h⟩:=R.bind_inv h
  have k1:=ah3 y _ _ _ _ _ e1
  cases c with
  | ret v=>exact qJ k1 _ _ h
  | next ρ =>
   obtain⟨c,s2,e2,h⟩:=R.bind_inv h
   have k2:=k1.trans (ah3 y _ _ _ _ _ e2)
   cases c with
   | ret v=>exact qJ k2 _ _ h
   | next ρ=>exact qJ k2 _ _ h
   | _=>cases h
  | _=>cases h
theorem ae0 (P:Pr):∀ n,FK (aa1 P n)
 | 0=>⟨λ _ _ _=>KR.bad,λ _ _ _ _=>KR.bad,λ _ _ _ _ _ h=>by cases h⟩
 | n+1=>by
  refine⟨λ f l s=>?_,λ id cs l s=>?_,λ f l s c s' h=>?_⟩
  ·intro a s' h
   unfold aa1 at h
   simp only at h
   split at h
   case h_2 =>
    split at h
    case h_2=>cases h
    split at h
    case isFalse=>cases h
    exact bm5 (ae0 P n) _ _ _ _ _ h
   split at h
   case isFalse=>cases h
   obtain⟨c,s1,e1,h⟩:=R.bind_inv h
   have k1:=ah3 (ae0 P n) _ _ _ _ _ e1
   cases c with
   | ret v=>exact qJ k1 _ _ h
   | next ρ=>exact qJ k1 _ _ h
   | _=>cases h
  ·intro a s' h
   unfold aa1 at h
   simp only at h
   split at h
   case h_2=>cases h
   split at h
   case isFalse=>cases h
   obtain⟨v,s1,e1,h⟩:=R.bind_inv h
   exact qJ (ze (ae0 P n) _ _ _ _ _ e1) _ _ h
  ·unfold aa1 at h
   simp only at h
   split at h
   case h_2=>cases h
   split at h
   case isFalse=>cases h
   exact aN4 (ae0 P n) _ _ _ _ _ h
end DV
end
open DV renaming Sto->kt,D->ku,Env->kz,R->kA,ev->kC,aa1->kE,LIM->kF,tru->kH,Pr->kI,aw9->kJ,Fns->kK,rep->kL,DEEP->kM,ac8->kO,Es->kP,ay5->kQ,O->kR,eqv->kS,evs->kT,ae1->kU,kd->kW,eqL->kX,subC->kY,ag3->kZ,Bi->k6,Tg->k7,Ct->k8,aj0->k9,sbd->la,chk->lb,look->lc,As->lf,loB->lh,ac6->li,ixn->lj,ad9->lp,meth->lq,ac9->lr,ay7->lu,M->lv,qV->lw,am6->lx,ar7->ly,aB1->lz,ah5->lA,E->lB,Sq->lC,mk->lD,Lm->lE,Df->lF,hiB->lG,slM->lH,ai5->lI,Mk->lJ,Mt->lK,Ss->lL,xB->lM,ax4->lN,COp->lO,pur->lP,bi1->lQ,aM2->lR,ah1->lS,bi->lT,BOp->lU,isK->lV,W62->lY,S->lZ,bz6->l6,evI->l7,exs->l8,ae2->l9,ao9->ma
open DV.D renaming bndL->ky,bnd->kB,hdI->kG,keyS->kN,nclL->ln,ncl->lW
open DV.O renaming bnd->kD,ncl->lX
noncomputable section
namespace L2
theorem fb {α:Type}{d:α}{s:kt}{p:Prop}(h:(DV.R.bad:kA α)=.ok d s):p:=nomatch h
open PySem PySem.Spec PyProof.Rows
structure LamI where
 qual:Str
 params:a9
 body:Expr
 scope:Scope
 ps:List Str
 fr:List Str
 nm:Option (Str×Pos)
def CloAt (H:Hp)(f:Addr)(J:LamI)(cap:List V)(clos:List (Str×Addr)):Prop:=match J.nm with
 | none=>au1 H f J.qual J.params J.body J.scope J.fr cap clos
 | some p=>ak4 H f p.1 J.qual J.params [.Return (some J.body) p.2] J.scope J.fr cap clos
def ae5 (H:Hp)(f:Addr)(J:LamI)(clos:List (Str×Addr)):Prop:=match J.nm with
 | none=>∃ pm c' ctv,H f=some (ap2 f (bM "<lambda>" J.qual J.params J.body J.scope clos pm (.ref c') ctv))/\H c'=some (qj c' J.qual)
 | some p=>∃ doc pm c' ctv,H f=some (ap2 f (b7 p.1 J.qual J.params [.Return (some J.body) p.2] J.scope clos .none .none doc pm none (.ref c') ctv))/\H c'=some (qj c' J.qual)
structure Gm where
 K:ac
 fa:String->Option Addr
 lg:String->LamI->Prop
 T:List (Addr×Str)
variable (Γ:Gm)
mutual
noncomputable def RV (φ:Nat->Addr)(H:Hp):ku->V->Prop
 | .non,v=>v=.non
 | .bl b,v=>v=.bl b
 | .int i,v=>v=.int i
 | .str x,v=>v=.str ⟨x.toArray⟩/\x.length<=kF
 | .tup l,v=>∃ a xs,v=.ref a/\(SqT Γ.K H a xs/\(kG l=true->H a=some (.tup xs)))/\RVL φ H l xs
 | .ref n,v=>v=.ref (φ n)
 | .fn f,v=>∃ a,Γ.fa f=some a/\v=.ref a
 | .clo id cs,v=>∃ f cap J clos,v=.ref f/\Γ.lg id J/\CloAt H f J cap clos/\cap.length=J.fr.length/\RVL φ H cs cap
noncomputable def RVL (φ:Nat->Addr)(H:Hp):List ku->List V->Prop
 | [],xs=>xs=[]
 | d::l,xs=>∃ x r,xs=x::r/\RV φ H d x/\RVL φ H l r
end
noncomputable def bN5:HO->Bool
 | .tup _=>true
 | .frz _ _=>true
 | .ext _=>true
 | _=>false
def Kp (H H':Hp):Prop:=∀ b o,H b=some o->bN5 o=true->H' b=some o
theorem Kp.refl (H:Hp):Kp H H:=λ _ _ h _=>h
theorem Kp.trans {H y H2:Hp}(a:Kp H y)(b:Kp y H2):Kp H H2:=λ c o h f=>b c o (a c o h f) f
theorem Kp.new {H y:Hp}{p:Addr}{o:HO}(a:Kp H y)(h:y p=none):Kp H (upd y p o):=λ c u e f=>by
 have e1:=a c u e f
 rw[za (zq e1 h)];exact e1
theorem Kp.put {H y:Hp}{p:Addr}{o u:HO}(a:Kp H y)(h:y p=some u)(B:bN5 u=false):Kp H (upd y p o):=λ c v e f=>by
 have e1:=a c v e f
 rw[za (λ z=>by subst z;rw[h]at e1;cases e1;rw[B]at f;cases f)];exact e1
theorem Kp.sqT {K:ac}{H H':Hp}{a:Addr}{y:List V}(e:Kp H H')(h:SqT K H a y):SqT K H' a y:=by
 rcases h with(h|⟨o,h⟩)|h
 ·exact .inl (.inl (e _ _ h rfl))
 ·exact .inl (.inr ⟨o,e _ _ h rfl⟩)
 ·exact .inr h
theorem au1.kp {H H':Hp}{f:Addr}{qual:Str}{params:a9}{body:Expr}{scope:Scope}{fr:List Str}{cap:List V}{y:List (Str×Addr)}(h:au1 H f qual params body scope fr cap y)(e:Kp H H'):au1 H' f qual params body scope fr cap y:=by
 obtain⟨Z,c',B,G,J,h3,h4,h5,h6⟩:=h
 refine⟨Z,c',B,e _ _ G rfl,e _ _ J rfl,λ x c q=>?_,h4,h5,λ i x v a b=>?_⟩
 ·obtain⟨o,v,z,d⟩:=h3 x c q
  exact⟨o,v,e _ _ z rfl,d⟩
 ·obtain⟨c,o,u,z1,z2,Y⟩:=h6 i x v a b
  exact⟨c,o,u,z1,e _ _ z2 rfl,Y⟩
theorem ak4.kp {H H':Hp}{f:Addr}{name qual:Str}{params:a9}{body:List Stmt}{scope:Scope}{fr:List Str}{cap:List V}{y:List (Str×Addr)}(h:ak4 H f name qual params body scope fr cap y)(e:Kp H H'):ak4 H' f name qual params body scope fr cap y:=by
 obtain⟨G,pm,c',B,J,Y,h3,h4,h5,h6⟩:=h
 refine⟨G,pm,c',B,e _ _ J rfl,e _ _ Y rfl,λ x c q=>?_,h4,h5,λ i x v a b=>?_⟩
 ·obtain⟨o,v,z,d⟩:=h3 x c q
  exact⟨o,v,e _ _ z rfl,d⟩
 ·obtain⟨c,o,u,z1,z2,Z⟩:=h6 i x v a b
  exact⟨c,o,u,z1,e _ _ z2 rfl,Z⟩
theorem CloAt.kp {H H':Hp}{f:Addr}{J:LamI}{cap:List V}{y:List (Str×Addr)}(h:CloAt H f J cap y)(e:Kp H H'):CloAt H' f J cap y:=by
 unfold CloAt at h ⊢
 cases q:J.nm with
 | none=>rw[q]at h;exact au1.kp h e
 | some p=>rw[q]at h;exact ak4.kp h e
theorem ae5.kp {H H':Hp}{f:Addr}{J:LamI}{y:List (Str×Addr)}(h:ae5 H f J y)(e:Kp H H'):ae5 H' f J y:=by
 unfold ae5 at h ⊢
 cases q:J.nm with
 | none =>
  rw[q]at h
  obtain⟨Z,c',B,Y,G⟩:=h
  exact⟨Z,c',B,e _ _ Y rfl,e _ _ G rfl⟩
 | some p =>
  rw[q]at h
  obtain⟨a0,Z,c',B,Y,G⟩:=h
  exact⟨a0,Z,c',B,e _ _ Y rfl,e _ _ G rfl⟩
theorem CloAt.fn {K:ac}{H:Hp}{f:Addr}{J:LamI}{cap:List V}{y:List (Str×Addr)}(h:CloAt H f J cap y):bw3 K H f:=by
 unfold CloAt at h
 cases q:J.nm with
 | none=>rw[q]at h;obtain⟨Y,Z,G,B,_⟩:=h;exact .inl ⟨_,B⟩
 | some p=>rw[q]at h;exact ak4.fn h
structure Gw (φ:Nat->Addr)(n:Nat)(H:Hp)(φ':Nat->Addr)(H':Hp):Prop where
 map:∀ i,i<n->φ' i=φ i
 kp:Kp H H'
variable {Γ:Gm}
mutual
theorem RV.monoW {φ φ':Nat->Addr}{n:Nat}{H H':Hp}(g:Gw φ n H φ' H'):∀(d:ku) (v:V),d.bnd n=true->RV Γ φ H d v->RV Γ φ' H' d v
 | .non,_,_,h=>by unfold RV at h ⊢;exact h
 | .bl _,_,_,h=>by unfold RV at h ⊢;exact h
 | .int _,_,_,h=>by unfold RV at h ⊢;exact h
 | .str _,_,_,h=>by unfold RV at h ⊢;exact h
 | .tup l,_,b,h=>by
  unfold RV at h ⊢
  unfold kB at b
  obtain⟨a,B,e,q,r⟩:=h
  exact⟨a,B,e,⟨g.kp.sqT q.1,λ z=>g.kp _ _ (q.2 z) rfl⟩,RVL.monoW g l B b r⟩
 | .ref k,_,b,h=>by
  unfold RV at h ⊢
  unfold kB at b
  rw[g.map k (of_decide_eq_true b)];exact h
 | .fn _,_,_,h=>by unfold RV at h ⊢;exact h
 | .clo id cs,_,b,h=>by
  unfold RV at h ⊢
  unfold kB at b
  obtain⟨f,cap,J,y,e,G,Y,Z,h4⟩:=h
  exact⟨f,cap,J,y,e,G,Y.kp g.kp,Z,RVL.monoW g cs cap b h4⟩
theorem RVL.monoW {φ φ':Nat->Addr}{n:Nat}{H H':Hp}(g:Gw φ n H φ' H'):∀(l:List ku) (y:List V),ky n l=true->RVL Γ φ H l y->RVL Γ φ' H' l y
 | [],_,_,h=>by unfold RVL at h ⊢;exact h
 | d::l,_,b,h=>by
  unfold RVL at h ⊢
  unfold ky at b
  rw[ag]at b
  obtain⟨x,r,e,q,t⟩:=h
  exact⟨x,r,e,RV.monoW g d x b.1 q,RVL.monoW g l r b.2 t⟩
end
mutual
theorem zn {n m:Nat}(h:n<=m):∀ d:ku,d.bnd n=true->d.bnd m=true
 | .non,_=>rfl
 | .bl _,_=>rfl
 | .int _,_=>rfl
 | .str _,_=>rfl
 | .tup l,b=>by unfold kB at b ⊢;exact aa2 h l b
 | .ref k,b=>by unfold kB at b ⊢;exact decide_eq_true (aq (of_decide_eq_true b) h)
 | .fn _,_=>rfl
 | .clo _ l,b=>by unfold kB at b ⊢;exact aa2 h l b
theorem aa2 {n m:Nat}(h:n<=m):∀ l:List ku,ky n l=true->ky m l=true
 | [],_=>rfl
 | d::l,b=>by
  unfold ky at b ⊢
  rw[ag]at b ⊢
  exact⟨zn h d b.1,aa2 h l b.2⟩
end
theorem aa5 {n:Nat}:∀ {l:List ku},ky n l=true↔∀ d∈l,d.bnd n=true
 | []=>by unfold ky;simp
 | d::l=>by
  unfold ky
  rw[ag,aa5 (l:=l)]
  simp
theorem zY {n:Nat}{l m:List ku}(h:ky n l=true)(h':ky n m=true):ky n (l++m)=true :=
 aa5.mpr λ d hd=>(dh.mp hd).elim (aa5.mp h d) (aa5.mp h' d)
theorem ar6 {n:Nat}{l m:List ku}(h:ky n l=true)(s:∀ d∈m,d∈l):ky n m=true:=aa5.mpr λ d hd=>aa5.mp h d (s d hd)
theorem af5 {n:Nat}{l:List ku}{i:Nat}{d:ku}(h:ky n l=true)(e:l[i]?=some d):d.bnd n=true:=aa5.mp h d (bp e)
section
variable {φ:Nat->Addr} {H:Hp}
theorem RVL.nil:RVL Γ φ H [] []:=by unfold RVL;rfl
theorem RVL.cons {d:ku}{l:List ku}{x:V}{h:List V}(a:RV Γ φ H d x)(b:RVL Γ φ H l h):RVL Γ φ H (d::l) (x::h):=by unfold RVL;exact⟨x,h,rfl,a,b⟩
theorem RVL.unnil {y:List V}(h:RVL Γ φ H [] y):y=[]:=by unfold RVL at h;exact h
theorem RVL.uncons {d:ku}{l:List ku}{y:List V}(h:RVL Γ φ H (d::l) y):∃ x r,y=x::r/\RV Γ φ H d x/\RVL Γ φ H l r:=by unfold RVL at h;exact h
theorem RVL.length:∀ {l:List ku} {y:List V},RVL Γ φ H l y->y.length=l.length
 | [],_,h=>by rw[h.unnil];rfl
 | d::l,_,h=>by
  obtain⟨x,r,rfl,_,t⟩:=h.uncons
  rw[aV,aV,RVL.length t]
theorem RVL.get:∀ {l:List ku} {B:List V} {i:Nat} {d:ku},RVL Γ φ H l B->l[i]?=some d->∃ x,B[i]?=some x/\RV Γ φ H d x
 | [],_,_,_,_,e=>by simp at e
 | d::l,_,0,d',h,e=>by
  obtain⟨x,r,rfl,q,t⟩:=h.uncons
  have e':d=d':=by simpa using e
  subst e'
  exact⟨x,rfl,q⟩
 | d::l,_,i+1,_,h,e=>by
  obtain⟨x,r,rfl,q,t⟩:=h.uncons
  obtain⟨y,e1,e2⟩:=RVL.get (i:=i) t (by simpa using e)
  exact⟨y,by simpa using e1,e2⟩
theorem RVL.append:∀ {l m:List ku} {y ys:List V},RVL Γ φ H l y->RVL Γ φ H m ys->RVL Γ φ H (l++m) (y++ys)
 | [],_,_,_,h,h'=>by rw[h.unnil];exact h'
 | d::l,_,_,_,h,h'=>by
  obtain⟨x,r,rfl,q,t⟩:=h.uncons
  exact .cons q (RVL.append t h')
theorem RVL.drop:∀ {l:List ku} {y:List V} (n:Nat),RVL Γ φ H l y->RVL Γ φ H (l.drop n) (y.drop n)
 | _,_,0,h=>h
 | [],_,n+1,h=>by rw[h.unnil];exact .nil
 | d::l,_,n+1,h=>by
  obtain⟨x,r,rfl,q,t⟩:=h.uncons
  exact RVL.drop n t
theorem RVL.take:∀ {l:List ku} {y:List V} (n:Nat),RVL Γ φ H l y->RVL Γ φ H (l.take n) (y.take n)
 | _,_,0,h=>.nil
 | [],_,n+1,h=>by rw[h.unnil];exact .nil
 | d::l,_,n+1,h=>by
  obtain⟨x,r,rfl,q,t⟩:=h.uncons
  exact .cons q (RVL.take n t)
theorem RVL.set:∀ {l:List ku} {y:List V} {d:ku} {x:V} (i:Nat),RVL Γ φ H l y->RV Γ φ H d x->RVL Γ φ H (l.set i d) (y.set i x)
 | [],_,_,_,_,h,_=>by rw[h.unnil];exact .nil
 | d::l,_,_,_,0,h,q=>by
  obtain⟨x,r,rfl,_,t⟩:=h.uncons
  exact .cons q t
 | d::l,_,_,_,i+1,h,q=>by
  obtain⟨x,r,rfl,B,t⟩:=h.uncons
  exact .cons B (RVL.set i t q)
theorem RVL.reverse:∀ {l:List ku} {y:List V},RVL Γ φ H l y->RVL Γ φ H l.reverse y.reverse
 | [],_,h=>by rw[h.unnil];exact .nil
 | d::l,_,h=>by
  obtain⟨x,r,rfl,q,t⟩:=h.uncons
  rw[dG,dG]
  exact(RVL.reverse t).append (.cons q .nil)
theorem RV.intE {i:Int}{v:V}(h:RV Γ φ H (.int i) v):v=.int i:=by unfold RV at h;exact h
theorem RV.blE {i:Bool}{v:V}(h:RV Γ φ H (.bl i) v):v=.bl i:=by unfold RV at h;exact h
theorem RV.nonE {v:V}(h:RV Γ φ H .non v):v=.non:=by unfold RV at h;exact h
theorem RV.strE {x:List Nat}{v:V}(h:RV Γ φ H (.str x) v):v=.str ⟨x.toArray⟩:=by unfold RV at h;exact h.1
theorem RV.strL {x:List Nat}{v:V}(h:RV Γ φ H (.str x) v):x.length<=kF:=by unfold RV at h;exact h.2
theorem RV.tupE {l:List ku}{v:V}(h:RV Γ φ H (.tup l) v):∃ a y,v=.ref a/\SqT Γ.K H a y/\RVL Γ φ H l y:=by unfold RV at h;obtain⟨a,y,e,q,r⟩:=h;exact⟨a,y,e,q.1,r⟩
theorem RV.tupZ {l:List ku}{v:V}(h:RV Γ φ H (.tup l) v):∃ a y,(v=.ref a/\(kG l=true->H a=some (.tup y)))/\SqT Γ.K H a y/\RVL Γ φ H l y:=by unfold RV at h;obtain⟨a,y,e,q,r⟩:=h;exact⟨a,y,⟨e,q.2⟩,q.1,r⟩
theorem RVL.tonil {l:List ku}(h:RVL Γ φ H l []):l=[]:=dA.mp h.length.symm
theorem RV.tupK {l:List ku}{v:V}(h:RV Γ φ H (.tup l) v)(z:kG l=true):∃ a y,v=.ref a/\H a=some (.tup y)/\RVL Γ φ H l y:=by unfold RV at h;obtain⟨a,y,e,q,r⟩:=h;exact⟨a,y,e,q.2 z,r⟩
theorem RV.refE {n:Nat}{v:V}(h:RV Γ φ H (.ref n) v):v=.ref (φ n):=by unfold RV at h;exact h
theorem RV.intI {i:Int}:RV Γ φ H (.int i) (.int i):=by unfold RV;rfl
theorem RV.blI {i:Bool}:RV Γ φ H (.bl i) (.bl i):=by unfold RV;rfl
theorem RV.nonI:RV Γ φ H .non .non:=by unfold RV;rfl
theorem RV.strI {x:List Nat}(h:x.length<=kF):RV Γ φ H (.str x) (.str ⟨x.toArray⟩):=by unfold RV;exact⟨rfl,h⟩
theorem RV.tupI {l:List ku}{a:Addr}{y:List V}(h:H a=some (.tup y))(q:RVL Γ φ H l y):RV Γ φ H (.tup l) (.ref a):=by unfold RV;exact⟨a,y,rfl,⟨SqT.of h,λ _=>h⟩,q⟩
theorem RV.tupC {l:List ku}{a:Addr}{y:List V}(h:SqT Γ.K H a y)(z:kG l=true->H a=some (.tup y))(q:RVL Γ φ H l y):RV Γ φ H (.tup l) (.ref a):=by unfold RV;exact⟨a,y,rfl,⟨h,z⟩,q⟩
theorem RV.refI {n:Nat}:RV Γ φ H (.ref n) (.ref (φ n)):=by unfold RV;rfl
end
theorem bp6 {n:Nat}{l:List ku}(h:kG (k9 n l)=true):kG l=true:=by
 cases n with
 | zero=>cases h
 | succ n =>
  cases l with
  | nil => 
   have:∀ k,k9 k ([]:List ku)=[]:=λ k=>by
    induction k with
    | zero=>rfl
    | succ k ih=>show[]++k9 k []=[];rw[ih];rfl
   rw[this]at h;cases h
  | cons a l =>
   have e:k9 (n+1) (a::l)=a::(l++k9 n (a::l)):=rfl
   rw[e]at h
   cases a with
   | int _=>rfl
   | _=>cases h
theorem aP9 {α:Type}{l:List α}{y B:Option Int}(h:(kQ l y B).length=l.length):kQ l y B=l:=by
 unfold kQ at h ⊢
 rw[bq,dU]at h
 by_cases z:l=[]
 ·subst z;simp
 ·have hp:=ib.mpr z
  have e1:lh l.length y=0:=by omega
  rw[e1]at h ⊢
  rw[e9]
  exact bS (by omega)
def SqF (K:ac)(H:Hp)(a:Addr)(xs:List V):Prop:=SqL K H a xs/\∀ H',Kp H H'->SqL K H' a xs
noncomputable def aB7:ku->Option Key
 | .int i=>some (.inl i)
 | .str x=>some (.inr ⟨x.toArray⟩)
 | _=>none
noncomputable def qw:List ku->Option (List Key)
 | []=>some []
 | d::l=>match aB7 d,qw l with
  | some k,some r=>some (k::r)
  | _,_=>none
noncomputable def bI1:ku->Option (List Key)
 | .tup l=>if(kG l&&(l.all kN&&decide (l.length<=1000)))=true then qw l else none
 | _=>none
noncomputable def RVD {κ:Type}(kf:ku->Option κ)(Γ:Gm)(φ:Nat->Addr)(H:Hp):List (ku×ku)->List (κ×V)->Prop
 | [],kvs=>kvs=[]
 | (d,e)::l,kvs=>∃ k v r,kvs=(k,v)::r/\kf d=some k/\RV Γ φ H e v/\RVD kf Γ φ H l r
variable (Γ)
noncomputable def RO (φ:Nat->Addr)(H:Hp)(a:Addr):kR->Prop
 | .lst l=>∃ xs,H a=some (.lst xs)/\RVL Γ φ H l xs
 | .ro l=>∃ xs,SqF Γ.K H a xs/\RVL Γ φ H l xs
 | .dic l=>∃ kvs,H a=some (.dK kvs)/\RVD aB7 Γ φ H l kvs
 | .dit l=>∃ kvs,H a=some (.dT kvs)/\RVD bI1 Γ φ H l kvs
 | .ins _ _=>False
noncomputable abbrev okd:kR->Nat:=DV.O.kd
noncomputable def isMut:kR->Bool
 | .ro _=>false
 | _=>true
structure Rp (φ:Nat->Addr)(H:Hp)(s:kt):Prop where
 inj:∀(i j:Nat) (o o':kR),s[i]?=some o->s[j]?=some o'->isMut o=true->isMut o'=true->φ i=φ j->i=j
 obj:∀(i:Nat) (o:kR),s[i]?=some o->RO Γ φ H (φ i) o
 wf:∀(i:Nat) (o:kR),s[i]?=some o->o.bnd s.length=true
 tab:TabsH Γ.T H
structure RE (φ:Nat->Addr)(H:Hp)(n:Nat)(ρ:kz)(σ:St):Prop where
 len:ρ.length=σ.length
 val:∀(i:Nat) (d:ku),ρ[i]?=some (some d)->d.bnd n=true/\∃ v,σ[i]?=some (some v)/\RV Γ φ H d v
structure Gr (φ:Nat->Addr)(s:kt)(H:Hp)(φ':Nat->Addr)(s':kt)(H':Hp):Prop where
 w:Gw φ s.length H φ' H'
 le:s.length<=s'.length
 new:∀ i:Nat,s.length<=i->i<s'.length->H (φ' i)=none
 kd:∀(i:Nat) (o o':kR),s[i]?=some o->s'[i]?=some o'->okd o'=okd o
 st:∀ b,H b≠none->H' b≠none
 fr:∀ b o,H b=some o->(∀ ps,o≠.tbl ps)->(∀(i:Nat) (ob:kR),s[i]?=some ob->isMut ob=true->φ i≠b)->H' b=some o
variable {Γ}
theorem bs0 {o y:kR}(h:okd y=okd o)(m:isMut y=true):isMut o=true:=by
 cases o with
 | ro _=>cases y with
  | ro _=>cases m
  | _=>cases h
 | _=>rfl
theorem Gr.mu {φ φ':Nat->Addr}{s s':kt}{H H':Hp}(g:Gr φ s H φ' s' H')(i:Nat)(o h:kR)(e:s[i]?=some o)(e':s'[i]?=some h)(m:isMut h=true):isMut o=true:=bs0 (g.kd i o h e e') m
theorem Gr.refl (φ:Nat->Addr)(s:kt)(H:Hp):Gr φ s H φ s H:=⟨⟨λ _ _=>rfl,Kp.refl H⟩,aj _,λ i B y=>absurd y (by omega),λ i o G e e'=>by rw[e]at e';cases e';rfl,λ _ h=>h,λ _ _ h _ _=>h⟩
theorem Gr.trans {φ φ1 φ2:Nat->Addr}{s s1 s2:kt}{H J H2:Hp}(a:Gr φ s H φ1 s1 J)(b:Gr φ1 s1 J φ2 s2 H2)(_h:s.length<=s1.length):Gr φ s H φ2 s2 H2:=by
 refine⟨⟨λ i y=>(b.w.map i (aq y a.le)).trans (a.w.map i y),a.w.kp.trans b.w.kp⟩,ao a.le b.le,λ i h1 h2=>?_,λ i o o' e e'=>?_,λ c h=>b.st c (a.st c h),λ c o h Z ne=>?_⟩
 ·by_cases y:i<s1.length
  ·rw[b.w.map i y];exact a.new i h1 y
  ·have e:=b.new i (by omega) h2
   cases q:H (φ2 i)with
   | none=>rfl
   | some o=>exact absurd e (a.st _ (by rw[q];simp))
 ·have hl:i<s1.length:=aq (ae.mp e).1 a.le
  obtain⟨G,e1⟩:∃ G,s1[i]?=some G:=⟨s1[i],am hl⟩
  exact(b.kd i G o' e1 e').trans (a.kd i o G e e1)
 ·refine b.fr c o (a.fr c o h Z ne) Z λ i ob e m z=>?_
  by_cases y:i<s.length
  ·obtain⟨B,Y⟩:∃ B,s[i]?=some B:=⟨s[i],am y⟩
   exact ne i B Y (a.mu i B ob Y e m) (by rw[<-a.w.map i y];exact z)
  ·have:=a.new i (by omega) (ae.mp e).1
   rw[z,h]at this;cases this
theorem RV.mono {φ φ':Nat->Addr}{s s':kt}{H H':Hp}(g:Gr φ s H φ' s' H')(d:ku)(v:V)(b:d.bnd s.length=true)(h:RV Γ φ H d v):RV Γ φ' H' d v:=RV.monoW g.w d v b h
theorem RVL.mono {φ φ':Nat->Addr}{s s':kt}{H H':Hp}(g:Gr φ s H φ' s' H')(d:List ku)(v:List V)(b:ky s.length d=true)(h:RVL Γ φ H d v):RVL Γ φ' H' d v:=RVL.monoW g.w d v b h
theorem RE.mono {φ φ':Nat->Addr}{s s':kt}{H H':Hp}{ρ:kz}{σ:St}(h:RE Γ φ H s.length ρ σ)(g:Gr φ s H φ' s' H')(hn:s.length<=s'.length):RE Γ φ' H' s'.length ρ σ :=
 ⟨h.len,λ i d e=>by
  obtain⟨b,v,e1,e2⟩:=h.val i d e
  exact⟨zn hn d b,v,e1,RV.mono g d v b e2⟩⟩
def ad4 (Γ:Gm)(φ:Nat->Addr)(s:kt)(H:Hp)(d:ku)(s':kt)(Q:VK):Prop :=
 ∀ v φ' H',Gr φ s H φ' s' H'->s.length<=s'.length->d.bnd s'.length=true->RV Γ φ' H' d v->Rp Γ φ' H' s'->Q v H'
theorem ad4.trans {φ φ1:Nat->Addr}{s s1 s':kt}{H y:Hp}{d:ku}{Q:VK}(h:ad4 Γ φ s H d s' Q)(g:Gr φ s H φ1 s1 y)(l:s.length<=s1.length):ad4 Γ φ1 s1 y d s' Q :=
 λ v φ' H' g' B b r p=>h v φ' H' (g.trans g' l) (ao l B) b r p
theorem ad4.here {φ:Nat->Addr}{s:kt}{H:Hp}{d:ku}{Q:VK}{v:V}(h:ad4 Γ φ s H d s Q)(p:Rp Γ φ H s)(b:d.bnd s.length=true)(r:RV Γ φ H d v):Q v H :=
 h v φ H (Gr.refl φ s H) (aj _) b r p
theorem RVD.monoW {κ:Type}{B:ku->Option κ}{φ φ':Nat->Addr}{n:Nat}{H H':Hp}(g:Gw φ n H φ' H'):∀(l:List (ku×ku)) (y:List (κ×V)),ky n (l.map (·.2))=true->RVD B Γ φ H l y->RVD B Γ φ' H' l y
 | [],_,_,h=>h
 | (d,e)::l,_,b,h=>by
  obtain⟨k,v,r,e1,e2,G,J⟩:=h
  rw[aI]at b
  unfold ky at b
  rw[ag]at b
  exact⟨k,v,r,e1,e2,RV.monoW g e v b.1 G,RVD.monoW g l r b.2 J⟩
theorem RO.mono {φ φ':Nat->Addr}{n:Nat}{H H':Hp}{a:Addr}{o:kR}(h:RO Γ φ H a o)(g:Gw φ n H φ' H')(b:o.bnd n=true)(hl:isMut o=true->∀ u,H a=some u->H' a=some u):RO Γ φ' H' a o:=by
 cases o with
 | lst l =>
  unfold kD at b
  obtain⟨B,e,r⟩:=h
  exact⟨B,hl rfl _ e,RVL.monoW g l B b r⟩
 | ro l =>
  unfold kD at b
  obtain⟨B,e,r⟩:=h
  exact⟨B,⟨e.2 _ g.kp,λ H2 k=>e.2 _ (g.kp.trans k)⟩,RVL.monoW g l B b r⟩
 | dic l =>
  unfold kD at b
  rw[ag]at b
  obtain⟨y,e,r⟩:=h
  exact⟨y,hl rfl _ e,RVD.monoW g l y b.2 r⟩
 | dit l =>
  unfold kD at b
  rw[ag]at b
  obtain⟨y,e,r⟩:=h
  exact⟨y,hl rfl _ e,RVD.monoW g l y b.2 r⟩
 | ins _ _=>exact h.elim
theorem RO.there {φ:Nat->Addr}{H:Hp}{a:Addr}{o:kR}(h:RO Γ φ H a o)(m:isMut o=true):∃ u,H a=some u/\bN5 u=false/\∀ ps,u≠.tbl ps:=by
 cases o with
 | lst l=>obtain⟨y,e,_⟩:=h;exact⟨_,e,rfl,by nofun⟩
 | ro l=>cases m
 | dic l=>obtain⟨y,e,_⟩:=h;exact⟨_,e,rfl,by nofun⟩
 | dit l=>obtain⟨y,e,_⟩:=h;exact⟨_,e,rfl,by nofun⟩
 | ins _ _=>exact h.elim
theorem Rp.addr {φ:Nat->Addr}{H:Hp}{s:kt}(p:Rp Γ φ H s){i:Nat}{l:List ku}(e:s[i]?=some (.lst l)):∃ h,H (φ i)=some (.lst h)/\RVL Γ φ H l h:=p.obj i _ e
theorem qg {n m:Nat}(h:n<=m)(o:kR)(b:o.bnd n=true):o.bnd m=true:=by
 cases o with
 | lst l=>unfold kD at b ⊢;exact aa2 h l b
 | ro l=>unfold kD at b ⊢;exact aa2 h l b
 | dic l =>
  unfold kD at b ⊢
  rw[ag]at b ⊢
  exact⟨aa2 h _ b.1,aa2 h _ b.2⟩
 | dit l =>
  unfold kD at b ⊢
  rw[ag]at b ⊢
  exact⟨aa2 h _ b.1,aa2 h _ b.2⟩
 | ins c l=>unfold kD at b ⊢;exact aa2 h _ b
theorem TabsH.keepF {T:List (Addr×Str)}{H H':Hp}(h:TabsH T H)(k:∀ b o,(bN5 o=true\/∃ ps,o=.tbl ps)->H b=some o->H' b=some o):TabsH T H':=λ y hy=>by
 obtain⟨ps,e,t,c⟩:=h y hy
 refine⟨ps,k _ _ (.inr ⟨_,rfl⟩) e,t,λ pos B q=>?_⟩
 obtain⟨G,e1,e2⟩:=c pos B q
 exact⟨G,e1,k _ _ (.inl rfl) e2⟩
theorem Rp.new {φ:Nat->Addr}{H:Hp}{s:kt}{p:Addr}{u:HO}{o:kR}(r:Rp Γ φ H s)(hp:H p=none)(hb:o.bnd s.length=true)
  (ho:∀ φ' H',Gw φ s.length H φ' H'->H' p=some u->RO Γ φ' H' p o):Gr φ s H (λ i=>if i=s.length then p else φ i) (s++[o]) (upd H p u)/\Rp Γ (λ i=>if i=s.length then p else φ i) (upd H p u) (s++[o]):=by
 have g:Gw φ s.length H (λ i=>if i=s.length then p else φ i) (upd H p u):=⟨λ i y=>if_neg (av y),(Kp.refl H).new hp⟩
 have key:∀ i B,(s++[o])[i]?=some B->(i<s.length/\s[i]?=some B)\/(i=s.length/\B=o):=λ i B e=>by
  rcases fw i s.length with h|h|h
  ·rw[aB h]at e;exact .inl ⟨h,e⟩
  ·subst h;simp at e;exact .inr ⟨rfl,e.symm⟩
  ·rw[dR (by simp;omega)]at e;cases e
 refine⟨⟨g,by simp,λ i h1 h2=>?_,λ i o1 o2 e1 e2=>?_,λ b hb=>?_,λ b ob hb _ _=>by rw[za (zq hb hp)];exact hb⟩,λ i j Z Y J ej mi mj e=>?_,λ i B e=>?_,λ i B e=>?_,r.tab.new hp⟩
 ·rw[aL,cN]at h2
  rw[if_pos (by omega)];exact hp
 ·rcases key i o2 e2 with⟨_,e⟩|⟨y,_⟩
  ·rw[e1]at e;cases e;rfl
  ·have:=(ae.mp e1).1;omega
 ·unfold upd;split
  ·simp
  ·exact hb
 ·rcases key i Z J with⟨y,J⟩|⟨y,rfl⟩<;>rcases key j Y ej with⟨hj,ej⟩|⟨hj,ej'⟩
  ·rw[if_neg (av y),if_neg (av hj)]at e
   exact r.inj i j Z Y J ej mi mj e
  ·rw[if_neg (av y),if_pos hj]at e
   obtain⟨u,G,_,_⟩:=(r.obj i Z J).there mi
   rw[e,hp]at G;cases G
  ·rw[if_neg (av hj),if_pos y]at e
   obtain⟨u,G,_,_⟩:=(r.obj j Y ej).there mj
   rw[<-e,hp]at G;cases G
  ·rw[y,hj]
 ·rcases key i B e with⟨y,e⟩|⟨y,rfl⟩
  ·show RO Γ _ _ (if i=s.length then p else φ i) B
   rw[if_neg (av y)]
   exact(r.obj i B e).mono g (r.wf i B e) λ _ v hv=>by rw[za (zq hv hp)];exact hv
  ·show RO Γ _ _ (if i=s.length then p else φ i) B
   rw[if_pos y]
   exact ho _ _ g zb
 ·rw[aL,cN]
  rcases key i B e with⟨y,e⟩|⟨y,rfl⟩
  ·exact qg (d7 _) _ (r.wf i B e)
  ·exact qg (d7 _) _ hb
theorem Rp.set {φ:Nat->Addr}{H:Hp}{s:kt}{k:Nat}{u:HO}{o B:kR}(r:Rp Γ φ H s)(hk:s[k]?=some B)(Y:isMut B=true)(hb:o.bnd s.length=true)
  (ho:∀ H',Gw φ s.length H φ H'->H' (φ k)=some u->RO Γ φ H' (φ k) o) (a2:okd o=okd B:=by rfl):Gr φ s H φ (s.set k o) (upd H (φ k) u)/\Rp Γ φ (upd H (φ k) u) (s.set k o):=by
 obtain⟨v0,G,f0,a1⟩:=(r.obj k B hk).there Y
 have a0:k<s.length:=(ae.mp hk).1
 have g:Gw φ s.length H φ (upd H (φ k) u):=⟨λ _ _=>rfl,(Kp.refl H).put G f0⟩
 have key:∀ i y,(s.set k o)[i]?=some y->(i≠k/\s[i]?=some y)\/(i=k/\y=o):=λ i y e=>by
  by_cases h:i=k
  ·subst h;rw[aU a0]at e;exact .inr ⟨rfl,(aC e).symm⟩
  ·rw[aY (bO h)]at e;exact .inl ⟨h,e⟩
 have mm:∀ i y,(s.set k o)[i]?=some y->isMut y=true->∃ J,s[i]?=some J/\isMut J=true:=λ i y e m=>by
  rcases key i y e with⟨_,e⟩|⟨h,_⟩
  ·exact⟨y,e,m⟩
  ·exact⟨B,by rw[h];exact hk,Y⟩
 refine⟨⟨g,by simp,λ i h1 h2=>by rw[br]at h2;omega,λ i o1 Z e1 e2=>?_,λ b hb=>?_,λ b ob hb nt ne=>by rw[za (bO (ne k B hk Y))];exact hb⟩,λ i j oi oj ei ej mi mj e=>?_,λ i y e=>?_,λ i y e=>?_,r.tab.keepF λ b v hv q=>?_⟩
 ·rcases key i Z e2 with⟨_,e⟩|⟨h,rfl⟩
  ·rw[e1]at e;cases e;rfl
  ·subst h;rw[hk]at e1;cases e1;exact a2
 ·unfold upd;split
  ·simp
  ·exact hb
 ·obtain⟨o1,e1,m1⟩:=mm i oi ei mi
  obtain⟨Z,e2,m2⟩:=mm j oj ej mj
  exact r.inj i j o1 Z e1 e2 m1 m2 e
 ·rcases key i y e with⟨h,e⟩|⟨h,rfl⟩
  ·refine(r.obj i y e).mono g (r.wf i y e) λ m v hv=>?_
   rw[za λ z=>h (r.inj i k y B e hk m Y z)];exact hv
  ·subst h
   exact ho _ g zb
 ·rw[br]
  rcases key i y e with⟨_,e⟩|⟨_,rfl⟩
  ·exact r.wf i y e
  ·exact hb
 ·rw[za λ z=>by
   subst z;rw[G]at q;cases q
   rcases hv with h|⟨ps,h⟩
   ·rw[f0]at h;cases h
   ·exact a1 _ h]
  exact q
theorem Rp.same {φ:Nat->Addr}{H H':Hp}{s:kt}(r:Rp Γ φ H s)(e:ad2 H H'):Gr φ s H φ s H'/\Rp Γ φ H' s:=by
 have g:Gw φ s.length H φ H':=⟨λ _ _=>rfl,λ b o h _=>e b o h⟩
 exact⟨⟨g,aj _,λ i G y=>absurd y (by omega),λ i o J e e'=>by rw[e]at e';cases e';rfl,λ b hb=>by
  cases q:H b with
  | none=>exact absurd q hb
  | some o=>rw[e b o q];simp,λ b o h _ _=>e b o h⟩,r.inj,λ i o h=>(r.obj i o h).mono g (r.wf i o h) λ _ u B=>e _ u B,r.wf,r.tab.same e⟩
section
variable {φ:Nat->Addr} {H:Hp} {s:kt} {Q:VK}
theorem ad4.alloc {l:List ku}{y:List V}(h:ad4 Γ φ s H (.ref s.length) (s++[.lst l]) Q)(r:Rp Γ φ H s)(hl:RVL Γ φ H l y)(hb:ky s.length l=true){p:Addr}(hp:H p=none):Q (.ref p) (upd H p (.lst y)):=by
 obtain⟨g,B⟩:=r.new (o:=.lst l) (u:=.lst y) hp hb λ φ' H' g e=>⟨y,e,RVL.monoW g l y hb hl⟩
 have:=h (.ref p) _ _ g (by simp) (by unfold kB;simp) (by unfold RV;simp) B
 exact this
theorem ad4.tup {l:List ku}{y:List V}(h:ad4 Γ φ s H (.tup l) s Q)(r:Rp Γ φ H s)(hl:RVL Γ φ H l y)(hb:ky s.length l=true){p:Addr}(hp:H p=none):Q (.ref p) (upd H p (.tup y)):=by
 obtain⟨g,B⟩:=r.same (H':=upd H p (.tup y)) ((ad2.refl H).new hp)
 exact h _ _ _ g (aj _) (by unfold kB;exact hb) (RV.tupI zb (RVL.mono g l y hb hl)) B
theorem ad4.put {k:Nat}{l l0:List ku}{y:List V}{d:ku}{v:V}(h:ad4 Γ φ s H d (s.set k (.lst l)) Q)(r:Rp Γ φ H s)(hk:s[k]?=some (.lst l0))(hl:RVL Γ φ H l y)(hb:ky s.length l=true)
  (hd:d.bnd s.length=true) (hv:RV Γ φ H d v):Q v (upd H (φ k) (.lst y)):=by
 obtain⟨g,B⟩:=r.set (o:=.lst l) (u:=.lst y) hk rfl hb λ H' g e=>⟨y,e,RVL.monoW g l y hb hl⟩
 exact h _ _ _ g (by simp) (by rw[br];exact hd) (RV.mono g d v hd hv) B
end
variable {Γ:Gm}
theorem keyOf_inj {a b:ku}{k:Key}(ha:aB7 a=some k)(hb:aB7 b=some k):a=b:=by
 cases a with
 | int i =>
  cases ha
  cases b with
  | int j=>cases hb;rfl
  | str y=>cases hb
  | _=>cases hb
 | str x =>
  cases ha
  cases b with
  | int j=>cases hb
  | str y =>
   have h:=aC hb
   injection h with h
   injection h with h
   have B:y=x:=by simpa using h
   rw[B]
  | _=>cases hb
 | _=>cases ha
theorem ar9 {d:ku}(h:d.key=true):∃ k,aB7 d=some k:=by
 cases d with
 | int i=>exact⟨_,rfl⟩
 | str x=>exact⟨_,rfl⟩
 | _=>cases h
theorem aI2 {φ:Nat->Addr}{H:Hp}{d:ku}{k:Key}{v:V}(h:aB7 d=some k)(r:RV Γ φ H d v):v=kV k:=by
 cases d with
 | int i=>cases h;exact r.intE
 | str x=>cases h;exact r.strE
 | _=>cases h
def bK6 {κ:Type}(kf:ku->Option κ):Prop:=∀ {a b:ku} {k:κ},kf a=some k->kf b=some k->a=b
theorem ao0:∀ {a b:List ku} {k:List Key},qw a=some k->qw b=some k->a=b
 | [],[],k,_,_=>rfl
 | [],y::b,k,ha,hb=>by
  cases ha
  unfold qw at hb
  split at hb<;>cases hb
 | x::a,[],k,ha,hb=>by
  cases hb
  unfold qw at ha
  split at ha<;>cases ha
 | x::a,y::b,k,ha,hb=>by
  unfold qw at ha hb
  split at ha
  ·rename_i k1 r1 e1 e2
   cases ha
   split at hb
   ·rename_i k2 G B h
    cases hb
    rw[keyOf_inj e1 B,ao0 e2 h]
   ·cases hb
  ·cases ha
theorem as5 {d:ku}{k:List Key}(h:bI1 d=some k):∃ l,d=.tup l/\(kG l=true/\l.all kN=true/\l.length<=1000)/\qw l=some k:=by
 cases d with
 | tup l =>
  have h:(if(kG l&&(l.all kN&&decide (l.length<=1000)))=true then qw l else none)=some k:=h
  by_cases z:(kG l&&(l.all kN&&decide (l.length<=1000)))=true
  ·rw[if_pos z]at h;rw[ag,ag]at z;exact⟨l,rfl,⟨z.1,z.2.1,of_decide_eq_true z.2.2⟩,h⟩
  ·rw[if_neg z]at h;cases h
 | _=>cases h
theorem keyT_inj:bK6 bI1:=λ ha hb=>by
 obtain⟨l,rfl,_,h⟩:=as5 ha
 obtain⟨m,rfl,_,y⟩:=as5 hb
 rw[ao0 h y]
theorem aV6 {d:ku}(h:d.keyS=true):∃ k,aB7 d=some k:=by
 cases d with
 | int i=>exact⟨_,rfl⟩
 | str x=>exact⟨_,rfl⟩
 | _=>cases h
theorem al0:∀ {l:List ku},l.all kN=true->∃ k,qw l=some k
 | [],_=>⟨[],rfl⟩
 | d::l,h=>by
  rw[dg,ag]at h
  obtain⟨k,hk⟩:=aV6 h.1
  obtain⟨r,y⟩:=al0 h.2
  exact⟨k::r,by unfold qw;rw[hk,y]⟩
theorem ax8 {d:ku}(h:d.keyT=true):∃ k,bI1 d=some k:=by
 cases d with
 | tup l =>
  have h:(kG l&&(l.all kN&&decide (l.length<=1000)))=true:=h
  have h':=h
  rw[ag,ag]at h'
  obtain⟨k,hk⟩:=al0 h'.2.1
  exact⟨k,by show(if(kG l&&(l.all kN&&decide (l.length<=1000)))=true then qw l else none)=some k;rw[if_pos h];exact hk⟩
 | _=>cases h
theorem aT7 {φ:Nat->Addr}{H:Hp}:∀ {l:List ku} {k:List Key} {y:List V},qw l=some k->RVL Γ φ H l y->y=k.map kV
 | [],k,y,h,r=>by cases h;exact r.unnil
 | d::l,k,y,h,r=>by
  unfold qw at h
  split at h
  ·rename_i k1 r1 e1 e2
   cases h
   obtain⟨x,ys,rfl,G,B⟩:=r.uncons
   rw[aI2 e1 G,aT7 e2 B,aI]
  ·cases h
theorem aV7 {φ:Nat->Addr}{H:Hp}{d:ku}{k:List Key}{v:V}(h:bI1 d=some k)(r:RV Γ φ H d v):∃ b,v=.ref b/\H b=some (.tup (k.map kV)):=by
 obtain⟨l,rfl,z,hk⟩:=as5 h
 obtain⟨a,G,e,y,B⟩:=r.tupK z.1
 rw[aT7 hk B]at y
 exact⟨a,e,y⟩
section
variable {κ:Type} [DecidableEq κ] {kf:ku->Option κ}
theorem RVD.val {φ:Nat->Addr}{H:Hp}{d:ku}{k:κ}(G:bK6 kf)(hk:kf d=some k):∀ {l:List (ku×ku)} {y:List (κ×V)},RVD kf Γ φ H l y->(lc d l=none/\aE3 y k=none)\/∃ e v,lc d l=some e/\aE3 y k=some v/\RV Γ φ H e v/\e∈l.map (·.2)
 | [],y,h=>by
  have h:y=[]:=h
  subst h
  exact .inl ⟨rfl,rfl⟩
 | (a,e)::l,y,h=>by
  obtain⟨B,v,r,rfl,e2,J,e4⟩:=h
  by_cases z:a=d
  ·subst z
   rw[hk]at e2;cases e2
   exact .inr ⟨e,v,by unfold lc;rw[if_pos rfl],ai0 rfl,J,by simp⟩
  ·have Y:¬ B=k:=λ q=>z (G e2 (by rw[q];exact hk))
   have Z:lc d ((a,e)::l)=lc d l:=by
    conv=>lhs;unfold lc
    rw[if_neg z]
   rw[Z,ai2 (show ¬(B,v).1=k from Y)]
   rcases RVD.val G hk e4 with q|⟨e',v',q1,q2,q3,q4⟩
   ·exact .inl q
   ·exact .inr ⟨e',v',q1,q2,q3,by simp at q4 ⊢;exact .inr q4⟩
theorem RVD.repl {φ:Nat->Addr}{H:Hp}{d e:ku}{k:κ}{v:V}(B:bK6 kf)(hk:kf d=some k)(hv:RV Γ φ H e v):∀ {l:List (ku×ku)} {y:List (κ×V)},RVD kf Γ φ H l y->RVD kf Γ φ H (l.map λ p=>if p.1=d then(p.1,e)else p) (y.map λ G=>if G.1=k then(G.1,v)else G)
 | [],y,h=>by
  have h:y=[]:=h
  subst h;exact(rfl:([]:List (κ×V))=[])
 | (a,e0)::l,y,h=>by
  obtain⟨J,v0,r,rfl,e2,e3,Y⟩:=h
  rw[aI,aI]
  by_cases z:a=d
  ·subst z
   rw[hk]at e2;cases e2
   rw[if_pos rfl,if_pos rfl]
   exact⟨k,v,_,rfl,hk,hv,RVD.repl B hk hv Y⟩
  ·have Z:¬ J=k:=λ q=>z (B e2 (by rw[q];exact hk))
   rw[if_neg z,if_neg Z]
   exact⟨J,v0,_,rfl,e2,e3,RVD.repl B hk hv Y⟩
theorem RVD.snoc {φ:Nat->Addr}{H:Hp}{d e:ku}{k:κ}{v:V}(J:bK6 kf)(hk:kf d=some k)(hv:RV Γ φ H e v):∀ {l:List (ku×ku)} {y:List (κ×V)},RVD kf Γ φ H l y->RVD kf Γ φ H (l++[(d,e)]) (y++[(k,v)])
 | [],y,h=>by
  have h:y=[]:=h
  subst h;exact⟨k,v,[],rfl,hk,hv,rfl⟩
 | (a,e0)::l,y,h=>by
  obtain⟨G,v0,r,rfl,e2,B,Y⟩:=h
  exact⟨G,v0,_,rfl,e2,B,RVD.snoc J hk hv Y⟩
theorem RVD.put {φ:Nat->Addr}{H:Hp}{d e:ku}{k:κ}{v:V}{l:List (ku×ku)}{y:List (κ×V)}(B:bK6 kf)(hk:kf d=some k)(hv:RV Γ φ H e v)(h:RVD kf Γ φ H l y):RVD kf Γ φ H (kJ d e l) (ao1 y k v):=by
 unfold kJ ao1
 rw[ar3]
 rcases h.val B hk with⟨G,q2⟩|⟨e',v',G,q2,_⟩
 ·rw[G,q2];exact h.snoc B hk hv
 ·rw[G,q2];exact h.repl B hk hv
theorem RVD.get {φ:Nat->Addr}{H:Hp}:∀ {l:List (ku×ku)} {y:List (κ×V)} {i:Nat} {d e:ku},RVD kf Γ φ H l y->l[i]?=some (d,e)->∃ k v,y[i]?=some (k,v)/\kf d=some k/\RV Γ φ H e v
 | [],_,_,_,_,_,h=>by cases h
 | (a,b)::l,y,0,d,e,h,q=>by
  obtain⟨k,v,r,rfl,e2,B,G⟩:=h
  cases q
  exact⟨k,v,rfl,e2,B⟩
 | (a,b)::l,y,i+1,d,e,h,q=>by
  obtain⟨k,v,r,rfl,e2,B,G⟩:=h
  exact RVD.get (i:=i) G (show l[i]?=some (d,e)from q)
theorem RVD.keys {φ:Nat->Addr}{H:Hp}:∀ {l:List (ku×ku)} {y:List (κ×V)},RVD kf Γ φ H l y->∀ kv∈y,∃ d,kf d=some kv.1
 | [],y,h,kv,hk=>by
  have h:y=[]:=h
  subst h;cases hk
 | (a,b)::l,y,h,kv,hk=>by
  obtain⟨k,v,r,rfl,e2,G,B⟩:=h
  rcases ay.mp hk with z|z
  ·subst z;exact⟨a,e2⟩
  ·exact RVD.keys B kv z
theorem RVD.length {φ:Nat->Addr}{H:Hp}:∀ {l:List (ku×ku)} {y:List (κ×V)},RVD kf Γ φ H l y->y.length=l.length
 | [],y,h=>by
  have h:y=[]:=h
  subst h;rfl
 | (a,e)::l,y,h=>by
  obtain⟨J,v,r,rfl,e2,G,B⟩:=h
  rw[aV,aV,RVD.length B]
end
theorem aH6 {n:Nat}{d e:ku}{l:List (ku×ku)}(h:(DV.O.dic l).bnd n=true)(hd:d.bnd n=true)(y:e.bnd n=true):(DV.O.dic (kJ d e l)).bnd n=true:=by
 unfold kD at h ⊢
 rw[ag]at h ⊢
 obtain⟨J,G⟩:=h
 have g1:=aa5.mp J
 have B:=aa5.mp G
 unfold kJ
 refine⟨aa5.mpr λ x hx=>?_,aa5.mpr λ x hx=>?_⟩
 ·obtain⟨p,hp,rfl⟩:=aW.mp hx
  split at hp
  ·obtain⟨q,hq,rfl⟩:=aW.mp hp
   split
   ·exact g1 _ (bj (f:=(·.1)) hq)
   ·exact g1 _ (bj (f:=(·.1)) hq)
  ·rcases dh.mp hp with q|q
   ·exact g1 _ (bj (f:=(·.1)) q)
   ·rw[cH.mp q];exact hd
 ·obtain⟨p,hp,rfl⟩:=aW.mp hx
  split at hp
  ·obtain⟨q,hq,rfl⟩:=aW.mp hp
   split
   ·exact y
   ·exact B _ (bj (f:=(·.2)) hq)
  ·rcases dh.mp hp with q|q
   ·exact B _ (bj (f:=(·.2)) q)
   ·rw[cH.mp q];exact y
theorem bf1 {n:Nat}{d e:ku}{l:List (ku×ku)}(h:(DV.O.dit l).bnd n=true)(hd:d.bnd n=true)(y:e.bnd n=true):(DV.O.dit (kJ d e l)).bnd n=true:=aH6 h hd y
theorem aE1 {f:ku->ku->Option Bool}{a b:ku}{l m:List ku}{z:Bool}(h:kX f (a::l) (b::m)=some z):∃ x y,f a b=some x/\kX f l m=some y/\z=(x&&y):=by
 unfold kX at h
 cases e1:f a b with
 | none=>rw[e1]at h;cases h
 | some x =>
  cases e2:kX f l m with
  | none=>rw[e1,e2]at h;cases h
  | some y=>rw[e1,e2]at h;exact⟨x,y,rfl,rfl,(aC h).symm⟩
theorem aN1 {f:ku->ku->Option Bool}:∀ {l m:List ku} {z:Bool},kX f l m=some z->∃ e:Nat->Bool,(∀ j d d',l[j]?=some d->m[j]?=some d'->f d d'=some (e j))/\((l.length==m.length)&&(aN (min l.length m.length)).all e)=z
 | [],[],z,h=>by
  unfold kX at h
  cases h
  exact⟨λ _=>true,λ j d d' h=>by simp at h,by simp⟩
 | [],b::m,z,h=>by
  unfold kX at h
  cases h
  exact⟨λ _=>true,λ j d d' h=>by simp at h,by simp⟩
 | a::l,[],z,h=>by
  unfold kX at h
  cases h
  exact⟨λ _=>true,λ j d d' J B=>by simp at B,by simp⟩
 | a::l,b::m,z,h=>by
  obtain⟨x,y,e1,e2,Y⟩:=aE1 h
  obtain⟨e,J,B⟩:=aN1 e2
  refine⟨λ j=>match j with|0=>x|j+1=>e j,λ j d d' g1 G=>?_,?_⟩
  ·cases j with
   | zero=>simp at g1 G;subst g1;subst G;exact e1
   | succ j=>exact J j d d' (by simpa using g1) (by simpa using G)
  ·rw[aV,aV,show min (l.length+1) (m.length+1)=min l.length m.length+1 by omega,List.range_succ_eq_map,dg,List.all_map,Y,<-B]
   have:((l.length+1==m.length+1)=(l.length==m.length)):=by
    by_cases q:l.length=m.length
    ·simp[q]
    ·have:¬ l.length+1=m.length+1:=by omega
     simp[q]
   rw[this]
   show((l.length==m.length)&&(x&&(aN _).all e))=_
   cases x<;>cases(l.length==m.length)<;>simp
section
variable {X:Cx} {pins:List (Addr×Obj)} {σ:St} {H:Hp} {sh:af} {φ:Nat->Addr} {s:kt}
theorem aj5 (I:Inv X pins σ H sh){a:Addr}{y ys:List V}(h:H a=some (.lst y))(h':SqT X.K H a ys):False:=by
 rcases h' with(z|⟨o,z⟩)|⟨o,its,n,hk,_⟩
 ·rw[h]at z;cases z
 ·rw[h]at z;cases z
 ·have:=(I.bs a o (I.mod.kin a o hk)).2
  rw[h]at this;cases this
theorem rv_two (I:Inv X pins σ H sh)(hK:X.K=Γ.K)(R:Rp Γ φ H s){a b:ku}{x:V}(J:RV Γ φ H a x)(y:RV Γ φ H b x)(n1:kW s a≠9)(B:kW s b≠9):a=b\/∃ l m p Y,a=.tup l/\b=.tup m/\x=.ref p/\RVL Γ φ H l Y/\RVL Γ φ H m Y:=by
 have G:∀ {r:Nat},kW s (.ref r)≠9->∃ l,s[r]?=some (.lst l):=λ {r} h=>by
  have h:(match s[r]? with|some (DV.O.lst l)=>4|_=>9:Nat)≠9:=h
  cases hs:s[r]? with
  | none=>rw[hs]at h;exact absurd rfl h
  | some o =>
   rw[hs]at h
   cases o with
   | lst l=>exact⟨l,rfl⟩
   | _=>exact absurd rfl h
 cases a with
 | non=>have e:=J.nonE;subst e;cases b with
  | non=>exact .inl rfl
  | bl _=>cases y.blE
  | int _=>cases y.intE
  | str _=>cases y.strE
  | tup _=>obtain⟨_,_,e,_⟩:=y.tupE;cases e
  | ref _=>cases y.refE
  | fn _=>exact absurd rfl B
  | clo _ _=>exact absurd rfl B
 | bl p=>have e:=J.blE;subst e;cases b with
  | non=>cases y.nonE
  | bl _=>cases y.blE;exact .inl rfl
  | int _=>cases y.intE
  | str _=>cases y.strE
  | tup _=>obtain⟨_,_,e,_⟩:=y.tupE;cases e
  | ref _=>cases y.refE
  | fn _=>exact absurd rfl B
  | clo _ _=>exact absurd rfl B
 | int p=>have e:=J.intE;subst e;cases b with
  | non=>cases y.nonE
  | bl _=>cases y.blE
  | int _=>cases y.intE;exact .inl rfl
  | str _=>cases y.strE
  | tup _=>obtain⟨_,_,e,_⟩:=y.tupE;cases e
  | ref _=>cases y.refE
  | fn _=>exact absurd rfl B
  | clo _ _=>exact absurd rfl B
 | str p=>have e:=J.strE;subst e;cases b with
  | non=>cases y.nonE
  | bl _=>cases y.blE
  | int _=>cases y.intE
  | str q =>
   have e':p.toArray=q.toArray:=Str.mk.inj (V.str.inj y.strE)
   have a0:p=q:=by simpa using congrArg iR e'
   subst a0;exact .inl rfl
  | tup _=>obtain⟨_,_,e,_⟩:=y.tupE;cases e
  | ref _=>cases y.refE
  | fn _=>exact absurd rfl B
  | clo _ _=>exact absurd rfl B
 | tup l =>
  obtain⟨p,Y,e,Z,d1⟩:=J.tupE;subst e;cases b with
  | non=>cases y.nonE
  | bl _=>cases y.blE
  | int _=>cases y.intE
  | str _=>cases y.strE
  | tup m =>
   obtain⟨p',ys,e,q2,d2⟩:=y.tupE
   cases e
   rw[<-hK]at Z q2
   rw[I.tuple_inj q2 Z]at d2
   exact .inr ⟨l,m,p,Y,rfl,rfl,rfl,d1,d2⟩
  | ref r =>
   cases y.refE
   obtain⟨m,hm⟩:=G B
   obtain⟨ys,hy,_⟩:=R.addr hm
   rw[<-hK]at Z
   exact(aj5 I hy Z).elim
  | fn _=>exact absurd rfl B
  | clo _ _=>exact absurd rfl B
 | ref r =>
  have e:=J.refE;subst e
  obtain⟨l,hl⟩:=G n1
  obtain⟨Y,hx,_⟩:=R.addr hl
  cases b with
  | non=>cases y.nonE
  | bl _=>cases y.blE
  | int _=>cases y.intE
  | str _=>cases y.strE
  | tup m =>
   obtain⟨p',ys,e,q2,d2⟩:=y.tupE
   cases e
   rw[<-hK]at q2
   exact(aj5 I hx q2).elim
  | ref r' =>
   obtain⟨m,hm⟩:=G B
   have e:φ r=φ r':=V.ref.inj y.refE
   rw[R.inj r r' _ _ hl hm rfl rfl e]
   exact .inl rfl
  | fn _=>exact absurd rfl B
  | clo _ _=>exact absurd rfl B
 | fn _=>exact absurd rfl n1
 | clo _ _=>exact absurd rfl n1
theorem ja {a b:ku}{z:Bool}(h:lr s a b=some z):lN a b=some z\/(lN a b=none/\lu (kW s a) (kW s b)=false/\z=false):=by
 unfold lr at h
 cases e:lN a b with
 | some w=>rw[e]at h;exact .inl h
 | none =>
  rw[e]at h
  cases q:lu (kW s a) (kW s b)with
  | true=>rw[q]at h;cases h
  | false=>rw[q]at h;exact .inr ⟨rfl,rfl,(aC h).symm⟩
theorem aZ4 {a b:ku}{z:Bool}(h:lN a b=some z):kW s a≠9/\kW s b≠9:=by
 cases a<;>cases b<;>first|(cases h;done)|(constructor<;>(intro z;cases z))
theorem au2 {a b:ku}{z:Bool}(h:lr s a b=some z):kW s a≠9/\kW s b≠9:=by
 rcases ja h with h|⟨_,h,_⟩
 ·exact aZ4 h
 ·unfold lu at h
  simp only[d5,beq_eq_false_iff_ne]at h
  exact⟨h.1.1,h.1.2⟩
theorem aA8 {a:ku}{z:Bool}(h:lr s a a=some z):z=true:=by
 rcases ja h with h|⟨_,h,_⟩
 ·cases a<;>cases h<;>first|rfl|exact beq_self_eq_true _
 ·unfold lu at h;simp at h
theorem aG2 (I:Inv X pins σ H sh)(hK:X.K=Γ.K)(R:Rp Γ φ H s):∀(n:Nat) (a b:ku) (x:V) (z:Bool),kS s n a b=some z->RV Γ φ H a x->RV Γ φ H b x->z=true:=by
 have G:∀(a b:ku) (x:V) (z:Bool),lr s a b=some z->RV Γ φ H a x->RV Γ φ H b x->z=true:=by
  intro a b x z h y B
  rcases rv_two I hK R y B (au2 h).1 (au2 h).2 with e|⟨l,m,_,_,rfl,rfl,_⟩
  ·subst e;exact aA8 h
  ·rcases ja h with h|⟨_,h,_⟩
   ·cases h
   ·unfold lu at h;simp[kW]at h
 intro n
 induction n with
 | zero=>intro a b x z h;unfold kS at h;exact G a b x z h
 | succ n ih =>
  have Z:∀(l m:List ku) (J:List V) (z:Bool),kX (kS s n) l m=some z->RVL Γ φ H l J->RVL Γ φ H m J->z=true:=by
   intro l
   induction l with
   | nil =>
    intro m J z h y B
    cases m with
    | nil=>unfold kX at h;exact(aC h).symm
    | cons b m=>obtain⟨x,r,e,_⟩:=B.uncons;rw[y.unnil]at e;cases e
   | cons a l ihl =>
    intro m J z h y B
    cases m with
    | nil=>obtain⟨x,r,e,_⟩:=y.uncons;rw[B.unnil]at e;cases e
    | cons b m =>
     obtain⟨p,q,e1,e2,ez⟩:=aE1 h
     obtain⟨v,r,rfl,g1,g2⟩:=y.uncons
     obtain⟨v',r',e,g3,g4⟩:=B.uncons
     cases e
     rw[ez,ih a b v p e1 g1 g3,ihl m r q e2 g2 g4];rfl
  intro a b x z h y B
  unfold kS at h
  split at h
  ·rename_i l m
   obtain⟨a,J,rfl,q1,d1⟩:=y.tupE
   obtain⟨b,ys,e,q2,Y⟩:=B.tupE
   cases e
   rw[<-hK]at q1 q2
   rw[I.tuple_inj q2 q1]at Y
   exact Z l m J z h d1 Y
  ·rename_i p q
   split at h
   ·rename_i l m hl hm
    obtain⟨J,e1,d1⟩:=R.addr hl
    obtain⟨ys,e2,Y⟩:=R.addr hm
    have e:=y.refE.symm.trans B.refE
    have e':φ p=φ q:=V.ref.inj e
    rw[e',e2]at e1
    have e3:ys=J:=by injection (aC e1)
    subst e3
    split at h
    ·exact Z l m ys z h d1 Y
    ·rename_i a0;exact absurd (d1.length.symm.trans Y.length) a0
   ·cases h
  ·exact G a b x z h y B
end
variable {Γ:Gm}
inductive Vw (sh:af):Nat->Value->Prop where
 | non:Vw sh 0 .none
 | bl (b:Bool):Vw sh 1 (.bool b)
 | int (i:Int) (t:Tok):Vw sh 1 (.int i t)
 | str (x:Str) (t:Tok):Vw sh 2 (.str x t)
 | tup {l:Addr} {items:Array Value} (h:sh.heap.IsTuple l items):Vw sh 3 (.ref l)
 | lst {l:Addr} {items:Array Value} (h:sh.heap.IsList l items):Vw sh 4 (.ref l)
theorem Vw.eq {A:aP}{sh:af}{k G:Nat}{u v:Value}(a:Vw sh k u)(b:Vw sh G v)(B:k≠G)(y:A.units<cLine):iO A sh u v false:=by
 cases a with
 | non=>cases b with
  | non=>exact absurd rfl B
  | bl b=>exact SeqAt.EqAt.none_bool b
  | int i t=>exact SeqAt.EqAt.none_int i t
  | str x t=>exact SeqAt.EqAt.none_str x t
  | tup h=>exact SeqAt.EqAt.none_tuple h y
  | lst h=>exact SeqAt.EqAt.none_list h y
 | bl a=>cases b with
  | non=>exact SeqAt.EqAt.bool_none a
  | bl b=>exact absurd rfl B
  | int i t=>exact absurd rfl B
  | str x t=>exact SeqAt.EqAt.bool_str a x t
  | tup h=>exact SeqAt.EqAt.bool_tuple a h y
  | lst h=>exact SeqAt.EqAt.bool_list a h y
 | int a q=>cases b with
  | non=>exact SeqAt.EqAt.int_none a q
  | bl b=>exact absurd rfl B
  | int i t=>exact absurd rfl B
  | str x t=>exact iy a q x t
  | tup h=>exact SeqAt.EqAt.int_tuple a q h y
  | lst h=>exact SeqAt.EqAt.int_list a q h y
 | str a q=>cases b with
  | non=>exact SeqAt.EqAt.str_none a q
  | bl b=>exact SeqAt.EqAt.str_bool a q b
  | int i t=>exact iz a q i t
  | str x t=>exact absurd rfl B
  | tup h=>exact SeqAt.EqAt.str_tuple a q h y
  | lst h=>exact SeqAt.EqAt.str_list a q h y
 | tup g=>cases b with
  | non=>exact SeqAt.EqAt.tuple_none g y
  | bl b=>exact SeqAt.EqAt.tuple_bool b g y
  | int i t=>exact SeqAt.EqAt.tuple_int i t g y
  | str x t=>exact SeqAt.EqAt.tuple_str x t g y
  | tup h=>exact absurd rfl B
  | lst h=>exact SeqAt.EqAt.tuple_list g h y
 | lst g=>cases b with
  | non=>exact SeqAt.EqAt.list_none g y
  | bl b=>exact SeqAt.EqAt.list_bool b g y
  | int i t=>exact SeqAt.EqAt.list_int i t g y
  | str x t=>exact SeqAt.EqAt.list_str x t g y
  | tup h=>exact SeqAt.EqAt.list_tuple g h y
  | lst h=>exact absurd rfl B
theorem Vw.rc {A:aP}{sh:af}{k G:Nat}{u v:Value}(a:Vw sh k u)(b:Vw sh G v)(B:k≠G)(y:A.units<cLine):ko A sh u v false:=by
 cases a with
 | non=>cases b with
  | non=>exact absurd rfl B
  | bl b=>exact SeqAt.RcAt.none_bool b
  | int i t=>exact SeqAt.RcAt.none_int i t
  | str x t=>exact SeqAt.RcAt.none_str x t
  | tup h=>exact SeqAt.RcAt.none_tuple h y
  | lst h=>exact SeqAt.RcAt.none_list h y
 | bl a=>cases b with
  | non=>exact SeqAt.RcAt.bool_none a
  | bl b=>exact absurd rfl B
  | int i t=>exact absurd rfl B
  | str x t=>exact SeqAt.RcAt.bool_str a x t
  | tup h=>exact SeqAt.RcAt.bool_tuple a h y
  | lst h=>exact SeqAt.RcAt.bool_list a h y
 | int a q=>cases b with
  | non=>exact SeqAt.RcAt.int_none a q
  | bl b=>exact absurd rfl B
  | int i t=>exact absurd rfl B
  | str x t=>exact SeqAt.RcAt.int_str a q x t
  | tup h=>exact SeqAt.RcAt.int_tuple a q h y
  | lst h=>exact SeqAt.RcAt.int_list a q h y
 | str a q=>cases b with
  | non=>exact SeqAt.RcAt.str_none a q
  | bl b=>exact SeqAt.RcAt.str_bool a q b
  | int i t=>exact SeqAt.RcAt.str_int a q i t
  | str x t=>exact absurd rfl B
  | tup h=>exact SeqAt.RcAt.str_tuple a q h y
  | lst h=>exact SeqAt.RcAt.str_list a q h y
 | tup g=>cases b with
  | non=>exact SeqAt.RcAt.tuple_none g y
  | bl b=>exact SeqAt.RcAt.tuple_bool b g y
  | int i t=>exact SeqAt.RcAt.tuple_int i t g y
  | str x t=>exact SeqAt.RcAt.tuple_str x t g y
  | tup h=>exact absurd rfl B
  | lst h=>exact SeqAt.RcAt.tuple_list g h y
 | lst g=>cases b with
  | non=>exact SeqAt.RcAt.list_none g y
  | bl b=>exact SeqAt.RcAt.list_bool b g y
  | int i t=>exact SeqAt.RcAt.list_int i t g y
  | str x t=>exact SeqAt.RcAt.list_str x t g y
  | tup h=>exact SeqAt.RcAt.list_tuple g h y
  | lst h=>exact absurd rfl B
theorem Vw.ne {A:aP}{sh:af}{k G:Nat}{u v:Value}(a:Vw sh k u)(b:Vw sh G v)(B:k≠G)(y:A.units<cLine):j7 A sh u v true:=by
 cases a with
 | non=>cases b with
  | non=>exact absurd rfl B
  | bl b=>exact SeqAt.RcNeAt.none_bool b
  | int i t=>exact SeqAt.RcNeAt.none_int i t
  | str x t=>exact SeqAt.RcNeAt.none_str x t
  | tup h=>exact SeqAt.RcNeAt.none_tuple h y
  | lst h=>exact SeqAt.RcNeAt.none_list h y
 | bl a=>cases b with
  | non=>exact SeqAt.RcNeAt.bool_none a
  | bl b=>exact absurd rfl B
  | int i t=>exact absurd rfl B
  | str x t=>exact SeqAt.RcNeAt.bool_str a x t
  | tup h=>exact SeqAt.RcNeAt.bool_tuple a h y
  | lst h=>exact SeqAt.RcNeAt.bool_list a h y
 | int a q=>cases b with
  | non=>exact SeqAt.RcNeAt.int_none a q
  | bl b=>exact absurd rfl B
  | int i t=>exact absurd rfl B
  | str x t=>exact SeqAt.RcNeAt.int_str a q x t
  | tup h=>exact SeqAt.RcNeAt.int_tuple a q h y
  | lst h=>exact SeqAt.RcNeAt.int_list a q h y
 | str a q=>cases b with
  | non=>exact SeqAt.RcNeAt.str_none a q
  | bl b=>exact SeqAt.RcNeAt.str_bool a q b
  | int i t=>exact SeqAt.RcNeAt.str_int a q i t
  | str x t=>exact absurd rfl B
  | tup h=>exact SeqAt.RcNeAt.str_tuple a q h y
  | lst h=>exact SeqAt.RcNeAt.str_list a q h y
 | tup g=>cases b with
  | non=>exact SeqAt.RcNeAt.tuple_none g y
  | bl b=>exact SeqAt.RcNeAt.tuple_bool b g y
  | int i t=>exact SeqAt.RcNeAt.tuple_int i t g y
  | str x t=>exact SeqAt.RcNeAt.tuple_str x t g y
  | tup h=>exact absurd rfl B
  | lst h=>exact SeqAt.RcNeAt.tuple_list g h y
 | lst g=>cases b with
  | non=>exact SeqAt.RcNeAt.list_none g y
  | bl b=>exact SeqAt.RcNeAt.list_bool b g y
  | int i t=>exact SeqAt.RcNeAt.list_int i t g y
  | str x t=>exact SeqAt.RcNeAt.list_str x t g y
  | tup h=>exact SeqAt.RcNeAt.list_tuple g h y
  | lst h=>exact absurd rfl B
theorem bB6 (a b:List Nat):((⟨a.toArray⟩:Str)==⟨b.toArray⟩)=(a==b):=by
 by_cases e:a=b
 ·subst e;simp
 ·have:(⟨a.toArray⟩:Str)≠⟨b.toArray⟩:=λ q=>e (by simpa using congrArg (λ z=>z.cps.toList) q)
  rw[beq_eq_false_iff_ne.mpr this,beq_eq_false_iff_ne.mpr e]
structure Cmp (A:aP)(sh:af)(u v:Value)(z:Bool):Prop where
 rc:ko A sh u v z
 ne:j7 A sh u v (!z)
section
variable {X:Cx} {pins:List (Addr×Obj)} {σ:St} {H:Hp} {sh:af} {φ:Nat->Addr} {s:kt}
theorem bB7 (I:Inv X pins σ H sh)(G:X.K=Γ.K)(R:Rp Γ φ H s){d:ku}{x:V}{u:Value}(h:RV Γ φ H d x)(r:RelV x u)(hk:kW s d≠9):Vw sh (kW s d) u:=by
 cases d with
 | non=>have e:=h.nonE;subst e;cases r;exact .non
 | bl b=>have e:=h.blE;subst e;cases r;exact .bl b
 | int i=>have e:=h.intE;subst e;obtain⟨t,rfl⟩:=r;exact .int i t
 | str y=>have e:=h.strE;subst e;obtain⟨t,rfl⟩:=r;exact .str _ t
 | tup l =>
  obtain⟨a,B,e,q,_⟩:=h.tupE
  subst e;cases r
  rw[<-G]at q
  obtain⟨its,_,t,_⟩:=I.tuple q
  exact .tup t
 | ref n =>
  have e:=h.refE;subst e;cases r
  have hk:(match s[n]? with|some (DV.O.lst l)=>4|_=>9:Nat)≠9:=hk
  show Vw sh (match s[n]? with|some (DV.O.lst l)=>4|_=>9:Nat) _
  cases hs:s[n]? with
  | none=>rw[hs]at hk;exact absurd rfl hk
  | some o =>
   rw[hs]at hk
   cases o with
   | lst l =>
    obtain⟨B,e,_⟩:=R.addr hs
    obtain⟨its,_,t,_⟩:=I.list (SqL.of e)
    exact .lst t.isList
   | _=>exact absurd rfl hk
 | fn _=>exact absurd rfl hk
 | clo _ _=>exact absurd rfl hk
theorem av5 (I:Inv X pins σ H sh)(hK:X.K=Γ.K)(R:Rp Γ φ H s){a b:ku}{x y:V}{u v:Value}{A:aP}{z:Bool}(h:lr s a b=some z)(G:RV Γ φ H a x)(B:RV Γ φ H b y)(r1:RelV x u)(J:RelV y v)(Z:A.units<cLine) :
  iO A sh u v z/\Cmp A sh u v z:=by
 rcases ja h with h|⟨_,hn,hz⟩
 ·cases a<;>cases b<;>try cases h
  ·cases G.nonE;cases B.nonE;cases r1;cases J
   exact⟨gy _,SeqAt.RcAt.none_none,SeqAt.RcNeAt.none_none⟩
  ·cases G.blE;cases B.blE;cases r1;cases J
   exact⟨SeqAt.EqAt.bool_bool _ _,SeqAt.RcAt.bool_bool _ _,SeqAt.RcNeAt.bool_bool _ _⟩
  ·cases G.blE;cases B.intE;cases r1;obtain⟨t',rfl⟩:=J
   exact⟨SeqAt.EqAt.bool_int _ _ _,SeqAt.RcAt.bool_int _ _ _,SeqAt.RcNeAt.bool_int _ _ _⟩
  ·cases G.intE;cases B.blE;obtain⟨t,rfl⟩:=r1;cases J
   exact⟨SeqAt.EqAt.int_bool _ _ _,SeqAt.RcAt.int_bool _ _ _,SeqAt.RcNeAt.int_bool _ _ _⟩
  ·cases G.intE;cases B.intE;obtain⟨t,rfl⟩:=r1;obtain⟨t',rfl⟩:=J
   exact⟨SeqAt.EqAt.int_int _ _ _ _,SeqAt.RcAt.int_int _ _ _ _,SeqAt.RcNeAt.int_int _ _ _ _⟩
  ·cases G.strE;cases B.strE;obtain⟨t,rfl⟩:=r1;obtain⟨t',rfl⟩:=J
   rw[<-bB6]
   exact⟨SeqAt.EqAt.str_str _ _ _ _,SeqAt.RcAt.str_str _ _ _ _,SeqAt.RcNeAt.str_str _ _ _ _⟩
 ·subst hz
  unfold lu at hn
  simp only[d5,beq_eq_false_iff_ne]at hn
  have Y:=bB7 I hK R G r1 hn.1.1
  have w2:=bB7 I hK R B J hn.1.2
  exact⟨Y.eq w2 hn.2 Z,Y.rc w2 hn.2 Z,Y.ne w2 hn.2 Z⟩
theorem bj5 (I:Inv X pins σ H sh)(hK:X.K=Γ.K)(R:Rp Γ φ H s):∀(n:Nat) (a b:ku) (x y:V) (u v:Value) (A:aP) (z:Bool),kS s n a b=some z->RV Γ φ H a x->RV Γ φ H b y->RelV x u->RelV y v->Room n A ->
  iO A sh u v z/\Cmp A sh u v z:=by
 intro n
 induction n with
 | zero=>intro a b x y u v A z h h1 h2 r1 r2 G;unfold kS at h;exact av5 I hK R h h1 h2 r1 r2 G.units0
 | succ n ih =>
  have B:∀ {l m:List ku} {xs ys:List V} {its its':List Value} {A:aP} {e:Nat->Bool},RVL Γ φ H l xs->RVL Γ φ H m ys->Vals xs its->Vals ys its'->Room n A->(∀ j d d',l[j]?=some d->m[j]?=some d'->kS s n d d'=some (e j)) ->
    ∀ j (h1:j<its.toArray.size) (h2:j<its'.toArray.size),iO A sh its.toArray[j] its'.toArray[j] (e j):=by
   intro l m xs ys its its' A e d1 Z v1 v2 G he j h1 h2
   have l1:=v1.length
   have l2:=v2.length
   have e1:=d1.length
   have e2:=Z.length
   have a4:j<its.length:=by simpa using h1
   have a3:j<its'.length:=by simpa using h2
   have hj:j<l.length:=by omega
   have a1:j<m.length:=by omega
   obtain⟨x,ex,dx⟩:=d1.get (am hj)
   obtain⟨y,ey,dy⟩:=Z.get (am a1)
   obtain⟨u,eu,ru⟩:=v1.get ex
   obtain⟨w,ew,a2⟩:=v2.get ey
   have g1:its.toArray[j]=u:=by
    have:=am a4
    rw[eu]at this
    simpa using(aC this).symm
   have g2:its'.toArray[j]=w:=by
    have:=am a3
    rw[ew]at this
    simpa using(aC this).symm
   rw[g1,g2]
   exact(ih _ _ x y u w A (e j) (he j _ _ (am hj) (am a1)) dx dy ru a2 G).1
  intro a b x y u v A z h h1 h2 r1 r2 G
  have hz:=h
  unfold kS at h
  split at h
  ·rename_i l m
   obtain⟨p,xs,ex,q1,d1⟩:=id h1.tupE
   obtain⟨q,ys,ey,q2,Z⟩:=id h2.tupE
   subst ex;subst ey
   cases r1;cases r2
   rw[<-hK]at q1 q2
   obtain⟨its,v1,t1,_⟩:=I.tuple q1
   obtain⟨its',v2,t2,_⟩:=I.tuple q2
   obtain⟨e,he,J⟩:=aN1 h
   have l1:=v1.length
   have l2:=v2.length
   have e1:=d1.length
   have e2:=Z.length
   have sz:((aN (min its.toArray.size its'.toArray.size)).all e&&its.toArray.size==its'.toArray.size)=z:=by
    rw[<-J,Bool.and_comm,show its.toArray.size=l.length by simp;omega,show its'.toArray.size=m.length by simp;omega]
   have key:=SeqAt.RcAt.tuples (A:=A) (s:=sh) (e:=e) t1 t2 G.units0 (B d1 Z v1 v2 G.in1 he)
   have Y:=SeqAt.RcNeAt.tuples (A:=A) (s:=sh) (e:=e) t1 t2 G.units0 (B d1 Z v1 v2 G.in1 he)
   rw[sz]at key Y
   refine⟨?_,key,Y⟩
   by_cases hab:p=q
   ·subst hab
    rw[aG2 I hK R _ _ _ _ _ hz h1 h2]
    exact gy _
   ·exact iP hab key
  ·rename_i p q
   split at h
   ·rename_i l m hl hm
    obtain⟨xs,e1,d1⟩:=R.addr hl
    obtain⟨ys,e2,Z⟩:=R.addr hm
    have ex:=h1.refE
    have ey:=h2.refE
    subst ex;subst ey
    cases r1;cases r2
    obtain⟨its,v1,t1,_⟩:=I.list (SqL.of e1)
    obtain⟨its',v2,t2,_⟩:=I.list (SqL.of e2)
    have l1:=v1.length
    have l2:=v2.length
    have c1:=d1.length
    have c2:=Z.length
    have fin:Cmp A sh (.ref (φ p)) (.ref (φ q)) z:=by
     split at h
     ·rename_i a0
      obtain⟨e,he,J⟩:=aN1 h
      have sz:(aN its.toArray.size).all e=z:=by
       rw[<-J,show its.toArray.size=l.length by simp;omega,a0]
       simp
      have key:=SeqAt.RcAt.lists (A:=A) (s:=sh) (e:=e) t1.isList t2.isList (by simp;omega) G.units0 (B d1 Z v1 v2 G.in1 he)
      have Y:=SeqAt.RcNeAt.lists (A:=A) (s:=sh) (e:=e) t1.isList t2.isList (by simp;omega) G.units0 (B d1 Z v1 v2 G.in1 he)
      rw[sz]at key Y
      exact⟨key,Y⟩
     ·rename_i a0
      cases h
      have hs:(its.toArray.size != its'.toArray.size)=true:=by simp;omega
      exact⟨SeqAt.RcAt.lists_lengths t1.isList t2.isList hs G.units0,SeqAt.RcNeAt.lists_lengths t1.isList t2.isList hs G.units0⟩
    refine⟨?_,fin⟩
    by_cases hab:φ p=φ q
    ·rw[aG2 I hK R _ _ _ _ _ hz RV.refI (by rw[hab];exact RV.refI),hab]
     exact gy _
    ·exact iP hab fin.rc
   ·cases h
  ·exact av5 I hK R h h1 h2 r1 r2 G.units0
end
variable {Γ:Gm} {X:Cx}
noncomputable def bO7:lU->Operator
 | .add=>.Add|.sub=>.Sub|.mul=>.Mult|.fdiv=>.FloorDiv|.mod=>.Mod|.pow=>.Pow|.shl=>.LShift|.shr=>.RShift|.band=>.BitAnd|.bor=>.BitOr
noncomputable def bt6:lO->CmpOp
 | .eq=>.Eq|.ne=>.NotEq|.lt=>.Lt|.le=>.LtE|.gt=>.Gt|.ge=>.GtE|.isin=>.In|.notin=>.NotIn
def rOp (Γ:Gm)(f:ku->ku->kt->kA ku):R2:=λ x y H Q=>∃ φ s a b d s',Rp Γ φ H s/\RV Γ φ H a x/\RV Γ φ H b y/\a.bnd s.length=true/\b.bnd s.length=true/\f a b s=.ok d s'/\ad4 Γ φ s H d s' Q
theorem z0 {d e:ku}{s t:kt}(h:lP d s=.ok e t):d=e/\s=t:=by
 unfold lP at h
 cases h
 exact⟨rfl,rfl⟩
theorem qk {o:kR}{e:ku}{s t:kt}(h:li o s=.ok e t):e=.ref s.length/\t=s++[o]:=by
 unfold li at h
 cases h
 exact⟨rfl,rfl⟩
theorem bq2 (a b:List Nat):(⟨a.toArray⟩:Str)++⟨b.toArray⟩=⟨(a++b).toArray⟩:=by
 show Str.append _ _=_
 unfold Str.append
 simp
theorem qc:kF<=aH:=by rw[fj];decide
theorem bt9:OpR X (bQ .Mult) (rI (λ i j=>DV.mulOk i j=true) λ i j=>.int (i*j)):=opI λ i j _ _ _ _ _ hc q=>mul_int q (by
 unfold DV.mulOk at hc
 simp only[bN,ag,decide_eq_true_eq]at hc
 rcases hc with(h|h)|⟨B,y⟩
 ·exact bN2.ok (.inl (by omega))
 ·exact bN2.ok (.inr (by omega))
 ·unfold DV.BIG at B y
  exact IntMulOk.of_le (m:=60000) (n:=60000) (intBits_le_iff.mpr B) (intBits_le_iff.mpr y) (by decide))
theorem aD3 (l:List Nat):∀(n:Nat) (h:Array Nat),(ar n l.toArray).foldl (·++·) h=h++(kL n l).toArray
 | 0,h=>by simp[kL]
 | n+1,h=>by
  rw[bC,bU,aD3 l n]
  simp[kL,iA]
theorem bv0 (l:List Nat):kL 1 l=l:=by simp[kL]
theorem aU7:∀ n,kL n []=[]
 | 0=>rfl
 | n+1=>by simp[kL,aU7 n]
theorem rep_len (l:List Nat):∀ n,(kL n l).length=l.length*n
 | 0=>by simp[kL]
 | n+1=>by simp[kL,rep_len l n,dw];omega
theorem bl9:OpR X (bQ .Mult) (λ x y H Q=>∃(l:List Nat) (n:Int),x=.str ⟨l.toArray⟩/\y=.int n/\(0<=n/\n<=1000000/\l.length*n.toNat<=kF)/\Q (.str ⟨(kL n.toNat l).toArray⟩) H):=by
 intro J s σ H x y v u Q I rx ry h
 obtain⟨l,n,rfl,rfl,⟨h0,Y,h2⟩,q⟩:=h
 obtain⟨t,rfl⟩:=rx
 obtain⟨t',rfl⟩:=ry
 have B:(⟨l.toArray⟩:Str).length=l.length:=by show l.toArray.size=_;simp
 have hL:=qc
 have a0:=am3
 refine SB.mul ⟨?_,λ hn _=>?_,λ hn _=>?_⟩ λ t2 k=>?_
 ·rw[decide_eq_false (by omega),decide_eq_false (by omega)];rfl
 ·rw[B]
  have G:1<=n:=by omega
  intro Z
  have h3:(l.length:Int)*n<=1000000:=by
   have:((l.length*n.toNat:Nat):Int)<=(kF:Nat):=Int.ofNat_le.mpr h2
   rw[gx,ie h0]at this
   have e:((kF:Nat):Int)=1000000:=by unfold kF;rfl
   omega
  have h4:(l.length:Int)<=1000000:=by
   have:(l.length:Int)*1<=(l.length:Int)*n:=d8 G (by omega)
   omega
  have h5:(1000000:Int)<=(2^63 - 1) / n:=by
   rw[Int.le_ediv_iff_mul_le (by omega)]
   have:(1000000:Int)*n<=1000000*1000000:=d8 Y (by omega)
   omega
  omega
 ·rw[B]
  unfold dP
  exact decide_eq_false (by omega)
 ·have e:Txt.mul ⟨l.toArray⟩ n=⟨(kL n.toNat l).toArray⟩:=by
   unfold Txt.mul
   split
   ·have:n.toNat=0:=by omega
    rw[this];rfl
   ·split
    ·rename_i hc
     rw[bN]at hc
     rcases hc with hc|hc
     ·have:n=1:=by simpa using hc
      subst this
      show(⟨l.toArray⟩:Str)=⟨(kL 1 l).toArray⟩
      rw[bv0]
     ·have:l=[]:=by
       have:=eq_of_beq hc
       rw[B]at this
       exact dA.mp this
      subst this
      rw[aU7]
    ·show(⟨(ar n.toNat l.toArray).foldl (·++·) #[]⟩:Str)=_
     rw[aD3];simp
  rw[e]
  exact⟨.str _,H,I.tok _,⟨_,rfl⟩,q⟩
theorem ai7 {n:Nat}{l:List ku}(h:ky n l=true):∀ k,ky n (k9 k l)=true
 | 0=>rfl
 | k+1=>zY h (ai7 h k)
theorem RVL.repD {φ:Nat->Addr}{H:Hp}{l:List ku}{y:List V}(h:RVL Γ φ H l y):∀ k,RVL Γ φ H (k9 k l) (am4 k y)
 | 0=>RVL.nil
 | k+1=>h.append (RVL.repD h k)
theorem as8 {α:Type}(h:List α):∀ k,am4 k h=(ar k h).flatten
 | 0=>rfl
 | k+1=>by rw[bC,bZ,<-as8 h k];rfl
theorem bJ6 (hK:X.K=Γ.K)(op:lU):OpR X (bQ (bO7 op)) (rOp Γ (DV.qr op)):=by
 intro G s σ H x y v u Q I Z Y h
 obtain⟨φ,st,a,b,d,a0,R,ha,hb,na,nb,B,q⟩:=h
 cases op with
 | add =>
  cases a with
  | int a =>
   cases b with
   | int b =>
    change(lP _) st=_ at B
    obtain⟨rfl,rfl⟩:=z0 B
    have ex:=ha.intE;have J:=hb.intE;subst ex;subst J
    exact bJ5 G s σ H _ _ v u Q I Z Y ⟨_,_,rfl,rfl,q.here R rfl RV.intI⟩
   | _=>exact fb B
  | str a =>
   cases b with
   | str b =>
    change(if _ then _ else _:lv ku) st=_ at B
    split at B
    ·rename_i hl
     obtain⟨rfl,rfl⟩:=z0 B
     have ex:=ha.strE;have J:=hb.strE;subst ex;subst J
     refine aJ0 G s σ H _ _ v u Q I Z Y ⟨_,_,rfl,rfl,?_,?_⟩
     ·show a.toArray.size+b.toArray.size<=_
      simp only[au]
      exact ao hl qc
     ·rw[bq2];exact q.here R rfl (RV.strI (by rw[aL];exact hl))
    ·exact fb B
   | _=>exact fb B
  | tup a =>
   cases b with
   | tup b =>
    change(if _ then _ else _:lv ku) st=_ at B
    split at B
    ·rename_i hl
     obtain⟨rfl,rfl⟩:=z0 B
     obtain⟨p,xs,⟨rfl,z1⟩,h1,d1⟩:=ha.tupZ
     obtain⟨p',ys,⟨rfl,z2⟩,h2,d2⟩:=hb.tupZ
     refine bn9 hK G s σ H _ _ v u Q I Z Y ⟨p,p',xs,ys,rfl,rfl,h1,h2,?_,λ t H' e ht hn=>?_⟩
     ·rw[d1.length,d2.length];exact ao hl qc
     ·obtain⟨g,r'⟩:=R.same e
      unfold kB at na nb
      refine q _ _ _ g (aj _) (by unfold kB;exact zY na nb) (RV.tupC ht (λ z=>?_) ((RVL.mono g _ _ na d1).append (RVL.mono g _ _ nb d2))) r'
      rcases hn with hn|⟨rfl,rfl⟩|⟨rfl,rfl⟩
      ·exact hn
      ·rw[d2.tonil,a7]at z;rw[a7];exact e _ _ (z1 z)
      ·rw[d1.tonil]at z;exact e _ _ (z2 z)
    ·exact fb B
   | _=>exact fb B
  | ref a =>
   cases b with
   | ref b =>
    change(match st[a]?,st[b]? with|some (DV.O.lst l),some (DV.O.lst m)=>if l.length+m.length<=kF then li (.lst (l++m)) st else .bad|_,_=>.bad:kA ku)=_ at B
    split at B
    ·rename_i l m h1 h2
     split at B
     ·rename_i hl
      obtain⟨rfl,rfl⟩:=qk B
      obtain⟨xs,e1,d1⟩:=R.addr h1
      obtain⟨ys,e2,d2⟩:=R.addr h2
      have ex:=ha.refE;have J:=hb.refE;subst ex;subst J
      have b1:=R.wf _ _ h1
      have b2:=R.wf _ _ h2
      unfold kD at b1 b2
      refine bE4 G s σ H _ _ v u Q I Z Y ⟨φ a,φ b,xs,ys,rfl,rfl,e1,e2,?_,λ p hp=>?_⟩
      ·rw[d1.length,d2.length];exact ao hl qc
      ·exact q.alloc R (d1.append d2) (zY b1 b2) hp
     ·exact fb B
    ·exact fb B
   | _=>exact fb B
  | _=>exact fb B
 | sub =>
  cases a with
  | int a =>
   cases b with
   | int b =>
    change(lP _) st=_ at B
    obtain⟨rfl,rfl⟩:=z0 B
    have ex:=ha.intE;have J:=hb.intE;subst ex;subst J
    exact bF5 G s σ H _ _ v u Q I Z Y ⟨_,_,rfl,rfl,q.here R rfl RV.intI⟩
   | _=>exact fb B
  | _=>exact fb B
 | mul =>
  cases a with
  | int a =>
   cases b with
   | int b =>
    change(if _ then _ else _:lv ku) st=_ at B
    split at B
    ·rename_i hc
     obtain⟨rfl,rfl⟩:=z0 B
     have ex:=ha.intE;have J:=hb.intE;subst ex;subst J
     exact bt9 G s σ H _ _ v u Q I Z Y ⟨_,_,rfl,rfl,hc,q.here R rfl RV.intI⟩
    ·exact fb B
   | _=>exact fb B
  | str a =>
   cases b with
   | int b =>
    change(if _ then _ else _:lv ku) st=_ at B
    split at B
    ·rename_i hc
     obtain⟨rfl,rfl⟩:=z0 B
     have ex:=ha.strE;have J:=hb.intE;subst ex;subst J
     exact bl9 G s σ H _ _ v u Q I Z Y ⟨_,_,rfl,rfl,hc,q.here R rfl (RV.strI (by rw[rep_len];exact hc.2.2))⟩
    ·exact fb B
   | _=>exact fb B
  | tup a =>
   cases b with
   | int b =>
    change(if _ then _ else _:lv ku) st=_ at B
    split at B
    ·rename_i hc
     obtain⟨rfl,rfl⟩:=z0 B
     obtain⟨p,xs,⟨rfl,z1⟩,h1,d1⟩:=ha.tupZ
     have J:=hb.intE;subst J
     refine br9 hK G s σ H _ _ v u Q I Z Y ⟨p,xs,_,rfl,rfl,h1,⟨hc.1,hc.2.1,by rw[d1.length];exact hc.2.2⟩,λ t H' e ht hn=>?_⟩
     obtain⟨g,r'⟩:=R.same e
     unfold kB at na
     refine q _ _ _ g (aj _) (by unfold kB;exact ai7 na _) (RV.tupC ht (λ z=>?_) (RVL.repD (RVL.mono g _ _ na d1) _)) r'
     rcases hn with hn|⟨rfl,ex⟩
     ·exact hn
     ·rw[ex];exact e _ _ (z1 (bp6 z))
    ·exact fb B
   | _=>exact fb B
  | ref a =>
   cases b with
   | int b =>
    change(match st[a]? with|some (DV.O.lst l)=>if 0<=b/\b<=1000000/\l.length*b.toNat<=kF then li (.lst (k9 b.toNat l)) st else .bad|_=>.bad:kA ku)=_ at B
    split at B
    ·rename_i l h1
     split at B
     ·rename_i hc
      obtain⟨rfl,rfl⟩:=qk B
      obtain⟨xs,e1,d1⟩:=R.addr h1
      have ex:=ha.refE;have J:=hb.intE;subst ex;subst J
      have b1:=R.wf _ _ h1
      unfold kD at b1
      refine bL5 G s σ H _ _ v u Q I Z Y ⟨φ a,b,xs,rfl,rfl,e1,by omega,by omega,?_,λ p hp=>?_⟩
      ·rw[d1.length];exact ao hc.2.2 qc
      ·rw[<-as8];exact q.alloc R (RVL.repD d1 _) (ai7 b1 _) hp
     ·exact fb B
    ·exact fb B
   | _=>exact fb B
  | _=>exact fb B
 | fdiv =>
  cases a with
  | int a =>
   cases b with
   | int b =>
    change(if _ then _ else _:lv ku) st=_ at B
    split at B
    ·rename_i hc
     obtain⟨rfl,rfl⟩:=z0 B
     have ex:=ha.intE;have J:=hb.intE;subst ex;subst J
     refine bb6 G s σ H _ _ v u Q I Z Y ⟨_,_,rfl,rfl,⟨hc.1,?_⟩,q.here R rfl RV.intI⟩
     have:=hc.2
     unfold DV.DIVL at this
     simpa using this
    ·exact fb B
   | _=>exact fb B
  | _=>exact fb B
 | mod =>
  cases a with
  | int a =>
   cases b with
   | int b =>
    change(if _ then _ else _:lv ku) st=_ at B
    split at B
    ·rename_i hc
     obtain⟨rfl,rfl⟩:=z0 B
     have ex:=ha.intE;have J:=hb.intE;subst ex;subst J
     exact by5 G s σ H _ _ v u Q I Z Y ⟨_,_,rfl,rfl,hc,q.here R rfl RV.intI⟩
    ·exact fb B
   | _=>exact fb B
  | _=>exact fb B
 | pow =>
  cases a with
  | int a =>
   cases b with
   | int b =>
    change(if _ then _ else _:lv ku) st=_ at B
    split at B
    ·rename_i hc
     obtain⟨rfl,rfl⟩:=z0 B
     have ex:=ha.intE;have J:=hb.intE;subst ex;subst J
     exact bH0 G s σ H _ _ v u Q I Z Y ⟨_,_,rfl,rfl,hc,q.here R rfl RV.intI⟩
    ·exact fb B
   | _=>exact fb B
  | _=>exact fb B
 | shl =>
  cases a with
  | int a =>
   cases b with
   | int b =>
    change(if _ then _ else _:lv ku) st=_ at B
    split at B
    ·rename_i hc
     obtain⟨rfl,rfl⟩:=z0 B
     have ex:=ha.intE;have J:=hb.intE;subst ex;subst J
     exact bA8 G s σ H _ _ v u Q I Z Y ⟨_,_,rfl,rfl,hc,q.here R rfl RV.intI⟩
    ·exact fb B
   | _=>exact fb B
  | _=>exact fb B
 | shr =>
  cases a with
  | int a =>
   cases b with
   | int b =>
    change(if _ then _ else _:lv ku) st=_ at B
    split at B
    ·rename_i hc
     obtain⟨rfl,rfl⟩:=z0 B
     have ex:=ha.intE;have J:=hb.intE;subst ex;subst J
     exact bI7 G s σ H _ _ v u Q I Z Y ⟨_,_,rfl,rfl,hc,q.here R rfl RV.intI⟩
    ·exact fb B
   | _=>exact fb B
  | _=>exact fb B
 | band =>
  cases a with
  | int a =>
   cases b with
   | int b =>
    change(if _ then _ else _:lv ku) st=_ at B
    split at B
    ·rename_i hc
     obtain⟨rfl,rfl⟩:=z0 B
     have ex:=ha.intE;have J:=hb.intE;subst ex;subst J
     exact bw9 G s σ H _ _ v u Q I Z Y ⟨_,_,rfl,rfl,hc,q.here R rfl RV.intI⟩
    ·exact fb B
   | _=>exact fb B
  | _=>exact fb B
 | bor=>exact fb B
variable {Γ:Gm} {X:Cx} {pins:List (Addr×Obj)} {σ:St} {H:Hp} {sh:af} {φ:Nat->Addr} {s:kt}
variable {Γ:Gm} {X:Cx}
theorem aa0 {α β:Type}{r:kA α}{f:α->kt->kA β}{b:β}{t:kt}(h:r.bind f=.ok b t):∃ a s,r=.ok a s/\f a s=.ok b t:=DV.R.bind_inv h
theorem ao8 {op:lO}{a b d:ku}{st y:kt}(ho:op=.lt\/op=.le\/op=.gt\/op=.ge)(h:DV.qD op a b st=.ok d y):∃ i j,a=.int i/\b=.int j:=by
 rcases ho with rfl|rfl|rfl|rfl <;>
 (cases a with
 | int i =>
  (cases b with
  | int j=>exact⟨i,j,rfl,rfl⟩
  | _=>cases h)
 | _=>cases h)
theorem bH8 (hK:X.K=Γ.K)(hr:Room (kM+1) X.A)(op:lO):OpR X (eQ (bt6 op)) (rOp Γ (DV.qD op)):=by
 intro G s σ H x y v u Q I Z Y h
 obtain⟨φ,st,a,b,d,a0,R,ha,hb,na,nb,B,q⟩:=h
 cases op with
 | eq =>
  have B:DV.eqM a b st=.ok d a0:=B
  unfold DV.eqM at B
  cases e:kS st kM a b with
  | none=>rw[e]at B;cases B
  | some z =>
   rw[e]at B;cases B
   exact(bj5 I hK R _ a b x y v u X.A z e ha hb Z Y (hr.mono (by omega))).2.rc X.prog X.w X.xe _ ⟨.bl z,H,I,rfl,q.here R rfl RV.blI⟩
 | ne =>
  have B:(match kS st kM a b with|some r=>.ok (.bl (!r)) st|none=>.bad:kA ku)=.ok d a0:=B
  cases e:kS st kM a b with
  | none=>rw[e]at B;cases B
  | some z =>
   rw[e]at B;cases B
   exact(bj5 I hK R _ a b x y v u X.A z e ha hb Z Y (hr.mono (by omega))).2.ne X.prog X.w X.xe _ ⟨.bl (!z),H,I,rfl,q.here R rfl RV.blI⟩
 | lt =>
  obtain⟨i,j,rfl,rfl⟩:=ao8 (.inl rfl) B
  cases B
  have ex:=ha.intE;have J:=hb.intE;subst ex;subst J
  exact bR6 G s σ H _ _ v u Q I Z Y ⟨_,_,rfl,rfl,q.here R rfl RV.blI⟩
 | le =>
  obtain⟨i,j,rfl,rfl⟩:=ao8 (.inr (.inl rfl)) B
  cases B
  have ex:=ha.intE;have J:=hb.intE;subst ex;subst J
  exact bT6 G s σ H _ _ v u Q I Z Y ⟨_,_,rfl,rfl,q.here R rfl RV.blI⟩
 | gt =>
  obtain⟨i,j,rfl,rfl⟩:=ao8 (.inr (.inr (.inl rfl))) B
  cases B
  have ex:=ha.intE;have J:=hb.intE;subst ex;subst J
  exact bW1 G s σ H _ _ v u Q I Z Y ⟨_,_,rfl,rfl,q.here R rfl RV.blI⟩
 | ge =>
  obtain⟨i,j,rfl,rfl⟩:=ao8 (.inr (.inr (.inr rfl))) B
  cases B
  have ex:=ha.intE;have J:=hb.intE;subst ex;subst J
  exact bV1 G s σ H _ _ v u Q I Z Y ⟨_,_,rfl,rfl,q.here R rfl RV.blI⟩
 | isin=>cases B
 | notin=>cases B
theorem aS9 {φ:Nat->Addr}{H:Hp}{l:List ku}{y:List V}{i:Int}{d:ku}(h:RVL Γ φ H l y)(e:((lj l.length i).bind λ j=>l[j]?)=some d):∃ v,atI y i=some v/\RV Γ φ H d v:=by
 cases hj:lj l.length i with
 | none=>rw[hj]at e;cases e
 | some j =>
  rw[hj]at e
  obtain⟨v,e1,e2⟩:=h.get (show l[j]?=some d from e)
  refine⟨v,?_,e2⟩
  unfold atI
  have:ixN y.length i=some j:=by rw[h.length];exact hj
  rw[this];exact e1
theorem az5 {l:List ku}{i:Int}{d:ku}(e:((lj l.length i).bind λ j=>l[j]?)=some d):d∈l:=by
 cases hj:lj l.length i with
 | none=>rw[hj]at e;cases e
 | some j=>rw[hj]at e;exact bp (show l[j]?=some d from e)
theorem bQ8 (hK:X.K=Γ.K)(hu:X.A.units+1<cLine):IxR X (rOp Γ DV.ixM):=by
 intro J G Y s σ H x y v u Q I rx ry h hs
 obtain⟨φ,st,a,b,d,a4,R,ha,hb,na,nb,B,q⟩:=h
 unfold DV.ixM at B
 cases a with
 | tup l =>
  cases b with
  | int i =>
   simp only at B
   split at B
   ·rename_i d' e
    cases B
    obtain⟨p,xs,rfl,h1,d1⟩:=ha.tupE
    have Z:=hb.intE;subst Z
    obtain⟨w,e1,e2⟩:=aS9 d1 e
    unfold kB at na
    exact bt5 hK J G Y s σ H _ _ v u Q I rx ry ⟨p,xs,i,w,rfl,rfl,h1,e1,q.here R (aa5.mp na _ (az5 e)) e2⟩ hs
   ·exact fb B
  | _=>exact fb B
 | str l =>
  cases b with
  | int i =>
   simp only at B
   split at B
   ·rename_i c e
    cases B
    have hl:=ha.strL
    have ex:=ha.strE;have Z:=hb.intE;subst ex;subst Z
    exact ix_str J G Y s σ H _ _ v u Q I rx ry ⟨⟨l.toArray⟩,i,c,rfl,rfl,by show l.toArray.size<=_;rw[au];exact ao hl qc,e,q.here R rfl (RV.strI (by simp;decide))⟩ hs
   ·exact fb B
  | _=>exact fb B
 | ref r =>
  have ex:=ha.refE;subst ex
  simp only at B
  cases hsr:st[r]? with
  | none=>rw[hsr]at B;cases B
  | some o =>
   rw[hsr]at B
   cases o with
   | lst l =>
    cases b with
    | int i =>
     simp only at B
     split at B
     ·rename_i d' e
      cases B
      have Z:=hb.intE;subst Z
      obtain⟨xs,e1,d1⟩:=R.addr hsr
      obtain⟨w,e2,e3⟩:=aS9 d1 e
      have wf:=R.wf _ _ hsr
      unfold kD at wf
      exact aD9 hK J G Y s σ H _ _ v u Q I rx ry ⟨φ r,xs,i,w,rfl,rfl,SqL.of e1,e2,q.here R (aa5.mp wf _ (az5 e)) e3⟩ hs
     ·exact fb B
    | _=>exact fb B
   | ro l =>
    cases b with
    | int i =>
     simp only at B
     split at B
     ·rename_i d' e
      cases B
      have Z:=hb.intE;subst Z
      obtain⟨xs,e1,d1⟩:=R.obj _ _ hsr
      obtain⟨w,e2,e3⟩:=aS9 d1 e
      have wf:=R.wf _ _ hsr
      unfold kD at wf
      exact aD9 hK J G Y s σ H _ _ v u Q I rx ry ⟨φ r,xs,i,w,rfl,rfl,e1.1,e2,q.here R (aa5.mp wf _ (az5 e)) e3⟩ hs
     ·exact fb B
    | _=>exact fb B
   | dic l =>
    simp only at B
    split at B
    case isFalse=>exact fb B
    rename_i a0
    obtain⟨k,hk⟩:=ar9 a0
    obtain⟨a2,e1,d1⟩:=R.obj r _ hsr
    have Z:=aI2 hk hb;subst Z
    cases rx
    rcases d1.val keyOf_inj hk with⟨q1,_⟩|⟨e,v',q1,q2,q3,q4⟩
    ·rw[q1]at B;cases B
    ·rw[q1]at B
     cases B
     have wf:=R.wf _ _ hsr
     unfold kD at wf
     rw[ag]at wf
     have g:aW9 H (φ r) (kV k) (some v'):=by rw[<-q2];exact aW9.k e1
     exact jN (aj1 I g) fe.lookup (au7 hu I g ry λ w' s' I' a1=>⟨v',H,I',a1,q.here R (aa5.mp wf.2 _ q4) q3⟩) hs
   | dit l =>
    simp only at B
    split at B
    case isFalse=>exact fb B
    rename_i a0
    obtain⟨k,hk⟩:=ax8 a0
    obtain⟨a2,e1,d1⟩:=R.obj r _ hsr
    obtain⟨kb,Z,a3⟩:=aV7 hk hb;subst Z
    cases rx
    rcases d1.val keyT_inj hk with⟨q1,_⟩|⟨e,v',q1,q2,q3,q4⟩
    ·rw[q1]at B;cases B
    ·rw[q1]at B
     cases B
     have wf:=R.wf _ _ hsr
     unfold kD at wf
     rw[ag]at wf
     have g:aW9 H (φ r) (.ref kb) (some v'):=by rw[<-q2];exact aW9.t e1 a3
     exact jN (aj1 I g) fe.lookup (au7 hu I g ry λ w' s' I' a1=>⟨v',H,I',a1,q.here R (aa5.mp wf.2 _ q4) q3⟩) hs
   | ins c l=>cases b<;>cases B
 | _=>cases b<;>cases B
theorem aV2 (n d:Nat)(i:Int):HT.sIx n d (some i)=la n i:=by
 show(if i<0 then(i+(n:Int)).toNat else min i.toNat n)=_
 unfold la
 by_cases h:i<0
 ·rw[if_pos h,if_neg (by omega)]
 ·rw[if_neg h,if_pos (by omega)]
theorem bk0 {φ:Nat->Addr}{H:Hp}{l:List ku}{y:List V}(h:RVL Γ φ H l y)(B G:Option Int):RVL Γ φ H (kQ l B G) (aL1 y B G):=by
 unfold kQ aL1
 have e1:HT.sIx y.length 0 B=lh l.length B:=by
  cases B with
  | none=>rfl
  | some i=>rw[aV2,h.length];rfl
 have e2:HT.sIx y.length y.length G=lG l.length G:=by
  cases G with
  | none=>exact h.length
  | some i=>rw[aV2,h.length];rfl
 rw[e1,e2]
 exact(h.drop _).take _
theorem aF4 {α:Type}{l:List α}{h y:Option Int}:∀ d∈kQ l h y,d∈l:=λ d hd=>List.mem_of_mem_drop (List.mem_of_mem_take hd)
theorem bc5 {α:Type}(l:List α)(h y:Option Int):(kQ l h y).length<=l.length:=by
 unfold kQ
 rw[bq,dU]
 omega
theorem bU3 (y B:Option Int)(n:Nat):bA y B 1 n=(aN (lG n B - lh n y)).map (lh n y+·):=by
 rw[<-sliceRange_one]
 unfold bA
 have cl:∀ i:Int,max 0 (min (if i<0 then i+(n:Int)else i) (n:Int))=((la n i:Nat):Int):=λ i=>by
  unfold la
  by_cases h:i<0
  ·rw[if_pos h,if_neg (by omega)];omega
  ·rw[if_neg h,if_pos (by omega)];omega
 simp only[show((1:Int) > 0)=True by simp,if_true]
 cases y<;>cases B<;>simp only[cl,lh,lG]<;>rfl
theorem aD8 {l:List Nat}:∀(a k:Nat),a+k<=l.length->((aN k).map (a+·)).filterMap (λ x=>l.toArray[x]?)=(l.drop a).take k
 | a,0,_=>by simp
 | a,k+1,h=>by
  rw[jz,bt,List.filterMap_append,aD8 a k (by omega)]
  have hk:a+k<l.length:=by omega
  rw[List.take_add_one,List.getElem?_drop]
  simp[hk]
theorem aQ3 (l:List Nat)(h y:Option Int):eB ⟨l.toArray⟩ h y=⟨(kQ l h y).toArray⟩:=by
 unfold eB
 have hn:(⟨l.toArray⟩:Str).length=l.length:=by show l.toArray.size=_;simp
 rw[hn,bU3]
 have hb:lG l.length y<=l.length:=by
  cases y with
  | none=>exact aj _
  | some i=>show la l.length i<=_;unfold la;split<;>omega
 have ha:lh l.length h<=l.length:=by
  cases h with
  | none=>exact dv _
  | some i=>show la l.length i<=_;unfold la;split<;>omega
 unfold kQ
 generalize lG l.length y=b at *
 generalize lh l.length h=a at *
 by_cases hc:((1:Int)==1&&((aN (b - a)).map (a+·)).length==l.length)=true
 ·rw[if_pos hc]
  have:b - a=l.length:=by simpa using hc
  have h0:a=0\/l.length=0:=by omega
  rcases h0 with h0|h0
  ·subst h0
   rw[this];simp
  ·have:l=[]:=dA.mp h0
   subst this;simp
 ·rw[if_neg hc]
  by_cases hab:a<=b
  ·have e:=aD8 (l:=l) a (b - a) (by omega)
   show(⟨(gR (λ x=>l.toArray[x]?) _).toArray⟩:Str)=_
   rw[e]
  ·rw[show b - a=0 by omega];simp
def rSl (Γ:Gm):V->Option Int->Option Int->Hp->VK->Prop:=λ x lo hi H Q=>∃ φ s a d s',Rp Γ φ H s/\RV Γ φ H a x/\a.bnd s.length=true/\lH a lo hi s=.ok d s'/\ad4 Γ φ s H d s' Q
theorem bS7 (hK:X.K=Γ.K):SlR X (rSl Γ):=by
 intro y s σ H x v vl vu J G sl Q I Z hs pl pu h
 obtain⟨φ,st,a,d,a0,R,ha,na,B,q⟩:=h
 unfold lH at B
 cases a with
 | tup l =>
  cases B
  obtain⟨p,Y,⟨rfl,z1⟩,h1,d1⟩:=ha.tupZ
  unfold kB at na
  refine bn3 hK y s σ H _ v vl vu J G sl Q I Z hs pl pu ⟨p,Y,rfl,h1,λ t H' e ht hn=>?_⟩
  obtain⟨g,r'⟩:=R.same e
  have d2:=bk0 (RVL.mono g _ _ na d1) J G
  refine q _ _ _ g (aj _) (by unfold kB;exact ar6 na aF4) (RV.tupC ht (λ z=>?_) d2) r'
  rcases hn with hn|⟨rfl,ex⟩
  ·exact hn
  ·rw[ex]
   refine e _ _ (z1 ?_)
   have hl:(kQ l J G).length=l.length:=by rw[<-d2.length,ex,d1.length]
   rwa [aP9 hl]at z
 | str l =>
  cases B
  have hl:=ha.strL
  have ex:=ha.strE;subst ex
  refine bK8 y s σ H _ v vl vu J G sl Q I Z hs pl pu ⟨_,rfl,by show l.toArray.size<=_;rw[au];exact ao hl qc,?_⟩
  rw[aQ3]
  exact q.here R rfl (RV.strI (ao (bc5 l J G) hl))
 | ref r =>
  have ex:=ha.refE;subst ex
  simp only at B
  cases hsr:st[r]? with
  | none=>rw[hsr]at B;cases B
  | some o =>
   rw[hsr]at B
   cases o with
   | lst l =>
    obtain⟨rfl,rfl⟩:=qk B
    obtain⟨Y,e1,d1⟩:=R.addr hsr
    have wf:=R.wf _ _ hsr
    unfold kD at wf
    exact aY2 hK y s σ H _ v vl vu J G sl Q I Z hs pl pu ⟨φ r,Y,rfl,SqL.of e1,λ p hp=>q.alloc R (bk0 d1 J G) (ar6 wf aF4) hp⟩
   | _=>exact fb B
 | _=>exact fb B
variable {Γ:Gm} {X:Cx}
def rCl (Γ:Gm)(f:List ku->kt->kA ku):List V->Hp->VK->Prop:=λ xs H Q=>∃ φ s l d s',Rp Γ φ H s/\RVL Γ φ H l xs/\ky s.length l=true/\f l s=.ok d s'/\ad4 Γ φ s H d s' Q
theorem RVL.one {φ:Nat->Addr}{H:Hp}{d:ku}{y:List V}(h:RVL Γ φ H [d] y):∃ x,y=[x]/\RV Γ φ H d x:=by
 obtain⟨x,r,rfl,G,B⟩:=h.uncons
 rw[B.unnil];exact⟨x,rfl,G⟩
noncomputable def biN:k6->Option (String×Nat)
 | .len=>some ("len",1)|.abs=>some ("abs",1)|.min2=>some ("min",2)|.max2=>some ("max",2)|_=>none
theorem qE:∀ {l:List ku} {is:List Int},lw l=some is->l=is.map DV.D.int
 | [],is,h=>by unfold lw at h;cases h;rfl
 | d::l,is,h=>by
  cases d with
  | int i =>
   have h:(lw l).map (i::·)=some is:=h
   cases e:lw l with
   | none=>rw[e]at h;cases h
   | some m=>rw[e]at h;cases h;rw[qE e];rfl
  | _=>cases h
theorem ak8:∀ {l:List ku} {is:List Bool},lx l=some is->l=is.map DV.D.bl
 | [],is,h=>by unfold lx at h;cases h;rfl
 | d::l,is,h=>by
  cases d with
  | bl i =>
   have h:(lx l).map (i::·)=some is:=h
   cases e:lx l with
   | none=>rw[e]at h;cases h
   | some m=>rw[e]at h;cases h;rw[ak8 e];rfl
  | _=>cases h
theorem RVL.ints {φ:Nat->Addr}{H:Hp}:∀ {is:List Int} {y:List V},RVL Γ φ H (is.map DV.D.int) y->y=is.map V.int
 | [],_,h=>h.unnil
 | i::is,_,h=>by
  obtain⟨x,r,rfl,G,B⟩:=RVL.uncons h
  rw[G.intE,RVL.ints B];rfl
theorem RVL.bls {φ:Nat->Addr}{H:Hp}:∀ {is:List Bool} {y:List V},RVL Γ φ H (is.map DV.D.bl) y->y=is.map V.bl
 | [],_,h=>h.unnil
 | i::is,_,h=>by
  obtain⟨x,r,rfl,G,B⟩:=RVL.uncons h
  rw[G.blE,RVL.bls B];rfl
theorem aT1 {f:ku->lv ku}{l:List ku}{s s':kt}{d:ku}(h:lQ f l s=.ok d s'):∃ a,l=[a]/\f a s=.ok d s':=by
 match l,h with
 | [a],h=>exact⟨a,rfl,h⟩
 | [],h=>exact fb h
 | _::_::_,h=>exact fb h
theorem ba7 (Y:X.K=Γ.K)(hc:X.calm=true){b:k6}{nm:String}{k:Nat}(hn:biN b=some (nm,k)):ac0 X (.builtin nm) (rCl Γ (lT b)):=by
 intro y s σ H xs us Q I r h
 obtain⟨φ,st,l,d,J,R,hl,nl,B,q⟩:=h
 cases b with
 | len =>
  cases hn
  have B:lQ DV.bx8 l st=.ok d J:=B
  obtain⟨a,rfl,G⟩:=aT1 B
  clear B
  obtain⟨x,rfl,hx⟩:=hl.one
  unfold DV.bx8 at G
  cases a with
  | tup l =>
   cases G
   obtain⟨p,ys,rfl,Z,d1⟩:=hx.tupE
   refine aj7 Y y s σ H _ us Q I r ⟨p,ys,rfl,.inr Z,?_⟩
   rw[d1.length];exact q.here R rfl RV.intI
  | str l =>
   cases G
   have hL:=hx.strL
   have e:=hx.strE;subst e
   refine av4 y s σ H _ us Q I r ⟨_,rfl,by show l.toArray.size<=_;rw[au];exact ao hL qc,?_⟩
   show Q (.int ((l.toArray.size:Nat):Int)) H
   rw[au]
   exact q.here R rfl RV.intI
  | ref n =>
   have e:=hx.refE;subst e
   simp only at G
   cases hs:st[n]? with
   | none=>rw[hs]at G;cases G
   | some o =>
    rw[hs]at G
    cases o with
    | lst l =>
     cases G
     obtain⟨ys,e1,d1⟩:=R.addr hs
     refine aj7 Y y s σ H _ us Q I r ⟨φ n,ys,rfl,.inl (SqL.of e1),?_⟩
     rw[d1.length];exact q.here R rfl RV.intI
    | ro l =>
     cases G
     obtain⟨ys,e1,d1⟩:=R.obj _ _ hs
     refine aj7 Y y s σ H _ us Q I r ⟨φ n,ys,rfl,.inl e1.1,?_⟩
     rw[d1.length];exact q.here R rfl RV.intI
    | dic l=>exact fb G
    | dit l=>exact fb G
    | ins c l=>exact fb G
  | _=>exact fb G
 | abs =>
  cases hn
  have B:(match lw l with|some [i]=>.ok (.int (if i<0 then -i else i)) st|_=>.bad:kA ku)=.ok d J:=B
  split at B
  ·rename_i i e
   cases B
   have:=qE e;subst this
   have:=RVL.ints hl;subst this
   exact bf5 y s σ H _ us Q I r ⟨i,rfl,q.here R rfl RV.intI⟩
  ·exact fb B
 | min2 =>
  cases hn
  have B:(match lw l with|some [a,b]=>.ok (.int (if b<a then b else a)) st|_=>.bad:kA ku)=.ok d J:=B
  split at B
  ·rename_i a b e
   cases B
   have:=qE e;subst this
   have:=RVL.ints hl;subst this
   exact aQ0 hc y s σ H _ us Q I r ⟨_,_,rfl,q.here R rfl RV.intI⟩
  ·exact fb B
 | max2 =>
  cases hn
  have B:(match lw l with|some [a,b]=>.ok (.int (if b > a then b else a)) st|_=>.bad:kA ku)=.ok d J:=B
  split at B
  ·rename_i a b e
   cases B
   have:=qE e;subst this
   have:=RVL.ints hl;subst this
   exact aP5 hc y s σ H _ us Q I r ⟨_,_,rfl,q.here R rfl RV.intI⟩
  ·exact fb B
 | _=>cases hn
theorem bK4:ac0 X (.type "int") (rCl Γ (lT .int)):=by
 intro y s σ H J us Q I r h
 obtain⟨φ,st,l,d,G,R,hl,Y,B,q⟩:=h
 have B:(match lx l with|some [b]=>.ok (.int (if b then 1 else 0)) st|_=>.bad:kA ku)=.ok d G:=B
 split at B
 ·rename_i b e
  cases B
  have:=ak8 e;subst this
  have:=RVL.bls hl;subst this
  exact aV1 y s σ H _ us Q I r (.inr ⟨b,rfl,q.here R rfl RV.intI⟩)
 ·exact fb B
noncomputable def am9:Nat->String
 | 1 => "int" | 2 => "bool" | 3 => "str" | 4 => "tuple" | _ => "list"
theorem bu4 {K:ac}(k:Nat)(hk:1<=k/\k<=5):bE K (.type "NoneType") (.type (am9 k))=some false/\bE K (.type "bool") (.type (am9 k))=some (k==1||k==2) /\
  bE K (.type "int") (.type (am9 k))=some (k==1)/\bE K (.type "str") (.type (am9 k))=some (k==3)/\bE K (.type "tuple") (.type (am9 k))=some (k==4)/\bE K (.type "list") (.type (am9 k))=some (k==5):=by
 obtain⟨y,B⟩:=hk
 rcases(by omega:k=1\/k=2\/k=3\/k=4\/k=5)with h|h|h|h|h<;>subst h<;>refine⟨?_,?_,?_,?_,?_,?_⟩<;>with_unfolding_all rfl
theorem aI6 {y:List (Addr×Obj)}{σ:St}{H:Hp}{s:af}{A:aP}{E:Value->af->Prop}{Q:Value->af->Prop}{c:Value}{b:Bool}{a:Addr}{B:List V}(I:Inv X y σ H s)(G:SqT X.K H a B)(e:bE X.K (.type "tuple") c=some b)
  (h:∀ tk,Q (.bool b) { s with toks:=tk }):wpAny (model X.prog X.w) A (call (.builtin "isinstance") [.ref a,c]) Q E s:=by
 obtain⟨its,_,⟨o,g1,J,_⟩,_⟩:=I.tuple G
 exact bD iC I.kIn ⟨o,g1,J⟩ e (λ z=>nomatch z) h
theorem bE6 (hK:X.K=Γ.K){k:Nat}(hk:1<=k/\k<=5):ac0 X (.builtin "isinstance") (λ G H Q=>∃ x,G=[x,.ty (am9 k)]/\rCl Γ (lQ (lV k)) [x] H Q):=by
 intro Z s σ H G us Q I r h
 obtain⟨x,rfl,φ,st,l,d,B,R,hl,nl,Y,q⟩:=h
 obtain⟨a,rfl,y⟩:=aT1 Y
 clear Y
 obtain⟨u,w',rfl,r1,r2⟩:=bf3 r
 cases r2
 obtain⟨x',e',hx⟩:=hl.one
 cases e'
 obtain⟨k0,k1,k2,k3,k4,k5⟩:=bu4 (K:=X.K) k hk
 unfold lV at y
 cases a with
 | non=>cases y;have e:=hx.nonE;subst e;exact qS I r1 .non k0 λ tk=>⟨.bl _,H,I.tok _,rfl,q.here R rfl RV.blI⟩
 | bl b=>cases y;have e:=hx.blE;subst e;exact qS I r1 (.bl b) k1 λ tk=>⟨.bl _,H,I.tok _,rfl,q.here R rfl RV.blI⟩
 | int b=>cases y;have e:=hx.intE;subst e;exact qS I r1 (.int b) k2 λ tk=>⟨.bl _,H,I.tok _,rfl,q.here R rfl RV.blI⟩
 | str b=>cases y;have e:=hx.strE;subst e;exact qS I r1 (.str _) k3 λ tk=>⟨.bl _,H,I.tok _,rfl,q.here R rfl RV.blI⟩
 | tup l =>
  cases y
  obtain⟨p,ys,rfl,J,d1⟩:=hx.tupE
  cases r1
  rw[<-hK]at J
  exact aI6 I J k4 λ tk=>⟨.bl _,H,I.tok _,rfl,q.here R rfl RV.blI⟩
 | ref n =>
  have e:=hx.refE;subst e
  have y:(match st[n]? with|some (.lst _)=>.ok (.bl (k==5)) st|_=>.bad:kA ku)=.ok d B:=y
  cases hs:st[n]? with
  | none=>rw[hs]at y;cases y
  | some o =>
   rw[hs]at y
   cases o with
   | lst l =>
    cases y
    obtain⟨ys,e1,d1⟩:=R.addr hs
    exact qS I r1 (.lst e1) k5 λ tk=>⟨.bl _,H,I.tok _,rfl,q.here R rfl RV.blI⟩
   | _=>exact fb y
 | _=>exact fb y
variable {X:Cx}
theorem bl7 {bs:List Bool}{its:List Value}(r:Vals (bs.map V.bl) its){i:Nat}{v:Value}(h:its[i]?=some v):∃ z,bs[i]?=some z/\v=Value.bool z:=by
 induction bs generalizing its i with
 | nil=>rw[cr]at r;cases r;simp at h
 | cons b bs ih =>
  rw[aI]at r
  cases r with
  | cons r1 r2 =>
   cases i with
   | zero =>
    cases r1
    have:_=v:=aC h
    exact⟨b,rfl,this.symm⟩
   | succ i=>exact ih r2 h
theorem aR4 {bs:List Bool}:(aN bs.length).all (λ i=>bs.getD i false)=bs.all id:=by
 rw[eF,aG,aG]
 constructor
 ·intro h b hb
  obtain⟨i,y,e⟩:=gS.mp hb
  have:=h i (cT.mpr y)
  rw[aM,am y]at this
  rw[<-e];exact this
 ·intro h i y
  have y:=cT.mp y
  rw[aM,am y]
  exact h _ (List.getElem_mem y)
theorem aP1 {K:ac}(hc:X.calm=true)(hK:X.K=K):ac0 X (.builtin "all") (λ J H Q=>∃(a:Addr) (bs:List Bool),J=[.ref a]/\SqL K H a (bs.map V.bl)/\Q (.bl (bs.all id)) H):=by
 subst hK
 intro Y s σ H J us Q I r h
 obtain⟨a,bs,rfl,hS,q⟩:=h
 obtain⟨u,rfl,ru⟩:=al5 r
 cases ru
 obtain⟨its,Z,G,hz⟩:=I.list hS
 have hl:=Z.length
 rw[aE]at hl
 refine call_all_walk (dD G.isList ?_)
 have B:a<s.heap.objs.size:=by obtain⟨o,_,e,_⟩:=G;exact az e
 have W:=kn (prog:=X.prog) (w:=X.w) (A:=X.A.in1) (I.ok.hd hc) s.heap.objs.size a (av B) its.toArray
 refine⟨_,_,_,_,_,_,λ i=>bs.getD i false,rfl,W,⟨⟨_,aR _ rfl,rfl,rfl⟩,?_⟩,λ i v s' Q' E' y hQ=>?_,λ h' tk k=>?_⟩
 ·obtain⟨o,e,r⟩:=G.isList
  exact⟨o,ak _ e,r⟩
 ·obtain⟨z,e1,e2⟩:=bl7 Z (i:=i) (v:=v) (by have y:its.toArray[i]?=some v:=y;rw[dN]at y;exact y)
  subst e2
  refine cq ?_
  have:bs.getD i false=z:=by rw[aM,e1];rfl
  rw[<-this];exact hQ
 ·have es:its.toArray.size=bs.length:=by rw[au];omega
  rw[es,aR4]
  refine⟨.bl (bs.all id),H,I.kept (h':=h') (t':=tk) λ b o q=>k b o ?_ (ak _ q),rfl,q⟩
  intro z
  have z':b=s.heap.objs.size:=by simpa using z
  exact absurd (az q) (by rw[z'];exact bF _)
noncomputable def sgV (x:List Nat):List V:=x.map λ c=>.str ⟨#[c]⟩
theorem bp7 {vs:List V}{y:List Value}(hl:vs.length=y.length)(h:∀(i:Nat) (x:V) (u:Value),vs[i]?=some x->y[i]?=some u->RelV x u):Vals vs y:=by
 induction vs generalizing y with
 | nil=>cases y with
  | nil=>exact .nil
  | cons _ _=>cases hl
 | cons v vs ih=>cases y with
  | nil=>cases hl
  | cons a y=>exact .cons (h 0 v a rfl rfl) (ih (by simpa using hl) λ i x u e1 e2=>h (i+1) x u e1 e2)
theorem an8 {x:List Nat}{y:Array Value}(h:ItemsOf (SignAt ⟨x.toArray⟩) y x.length):Vals (sgV x) y.toList:=by
 have hl:(sgV x).length=y.toList.length:=by unfold sgV;rw[aE];simpa using h.1.symm
 refine bp7 hl λ i v u e1 e2=>?_
 obtain⟨c,t,B,G⟩:=h.2 i u (by rw[<-gE];exact e2)
 unfold sgV at e1
 rw[aJ]at e1
 have B:x[i]?=some c:=by simpa using B
 rw[B]at e1
 cases e1
 exact⟨t,G⟩
theorem aC9 (hc:X.calm=true):ac0 X (.type "tuple") (λ J H Q=>∃ x:List Nat,J=[.str ⟨x.toArray⟩]/\x.length<=kF/\∀ l,H l=none->Q (.ref l) (upd H l (.tup (sgV x)))):=by
 intro y s σ H J us Q I r h
 obtain⟨x,rfl,hl,q⟩:=h
 obtain⟨u,rfl,Z⟩:=al5 r
 obtain⟨t,rfl⟩:=Z
 have hz:(sgV x).length<=aH:=by unfold sgV;rw[aE];exact ao hl qc
 refine call_tuple_str (I.ok.hd hc) _ t (λ h' tk B kp G=>?_) (by show x.toArray.size<=_;rw[au];exact ao hl qc)
 have G:ItemsOf (SignAt ⟨x.toArray⟩) B x.length:=by simpa using G
 have rv:=an8 G
 have Y:Inv X y σ H { s with heap:=h',toks:=tk }:=I.kept (t':=tk) kp
 have I2:Inv X y σ (upd H h'.objs.size (.tup (sgV x))) { s with heap:=h'.push { cls:=.type "tuple",data:=.seq B },toks:=tk } :=
  Y.laid (t':=tk) (λ b o e=>ak _ e) (aj _) (show ab6 X.prog X.w _ _ _ (.tup (sgV x))from⟨hz,B.toList,rv,i8 _ _⟩)
 exact⟨.ref h'.objs.size,_,I2,rfl,q _ (Y.hok.fresh (aj _))⟩
theorem aL0 (hc:X.calm=true):ac0 X (.type "list") (λ G H Q=>∃ x:List Nat,G=[.str ⟨x.toArray⟩]/\x.length<=kF/\∀ l,H l=none->Q (.ref l) (upd H l (.lst (sgV x)))):=by
 intro J s σ H G us Q I r h
 obtain⟨x,rfl,hl,q⟩:=h
 obtain⟨u,rfl,Y⟩:=al5 r
 obtain⟨t,rfl⟩:=Y
 have hz:(sgV x).length<=aH:=by unfold sgV;rw[aE];exact ao hl qc
 refine call_list_str (I.ok.hd hc) _ t (λ h' tk y Z kp e B=>?_) (by show x.toArray.size<=_;rw[au];exact ao hl qc)
 have B:ItemsOf (SignAt ⟨x.toArray⟩) y x.length:=by simpa using B
 have rv:=an8 B
 exact⟨.ref s.heap.objs.size,_,I.laid (t':=tk) kp (aj _) (show ab6 X.prog X.w _ h' _ (.lst (sgV x))from⟨hz,y.toList,Z,rv,e⟩),rfl,q _ (I.hok.fresh (aj _))⟩
section
variable {Γ:Gm} {φ φ':Nat->Addr} {H H' H1 H2 H3:Hp} {clos:List (Str×Addr)} {s s':kt}
theorem zW (hc:Cells clos H){a:Addr}{u:HO}(e:H a=some u)(h:∀ o,u≠.frz o (.own a)):isC clos a≠true:=λ z=>by
 obtain⟨o,v,q,_⟩:=hc.at z
 rw[e]at q;cases q;exact h o rfl
theorem SqT.dropC {K:ac}{a:Addr}{y:List V}(hc:Cells clos H)(h:SqT K H a y):SqT K (ab1 clos H) a y:=by
 rcases h with(h|⟨o,h⟩)|h
 ·exact .inl (.inl (by rw[ab1.ne (zW hc h (λ _ z=>by cases z))];exact h))
 ·exact .inl (.inr ⟨o,by rw[ab1.ne (zW hc h (λ _ z=>by cases z))];exact h⟩)
 ·exact .inr h
theorem SqL.dropC {K:ac}{a:Addr}{y:List V}(hc:Cells clos H)(h:SqL K H a y):SqL K (ab1 clos H) a y:=by
 rcases h with(h|⟨o,h⟩)|h
 ·exact .inl (.inl (by rw[ab1.ne (zW hc h (λ _ z=>by cases z))];exact h))
 ·exact .inl (.inr ⟨o,by rw[ab1.ne (zW hc h (λ _ z=>by cases z))];exact h⟩)
 ·exact .inr h
theorem SqF.dropC {K:ac}{a:Addr}{y:List V}(hc:Cells clos H)(h:SqF K H a y):SqF K (ab1 clos H) a y:=by
 refine⟨SqL.dropC hc h.1,λ H2 k=>?_⟩
 have hk:Kp H (λ b=>if isC clos b=true then H b else H2 b):=λ b o e f=>by
  by_cases z:isC clos b=true
  ·show(if isC clos b=true then H b else H2 b)=_;rw[if_pos z];exact e
  ·show(if isC clos b=true then H b else H2 b)=_
   rw[if_neg z]
   exact k b o (by rw[ab1.ne z];exact e) f
 have q:=h.2 _ hk
 have at_:∀ u,(if isC clos a=true then H a else H2 a)=some u->(∀ o,u≠.frz o (.own a))->H2 a=some u:=λ u e B=>by
  by_cases z:isC clos a=true
  ·rw[if_pos z]at e
   exact absurd z (zW hc e B)
  ·rw[if_neg z]at e;exact e
 rcases q with(q|⟨o,q⟩)|q
 ·exact .inl (.inl (at_ _ q (λ _ z=>by cases z)))
 ·exact .inl (.inr ⟨o,at_ _ q (λ _ z=>by cases z)⟩)
 ·exact .inr q
mutual
theorem RV.dropC (hc:Cells clos H):∀(d:ku) (v:V),d.ncl=true->RV Γ φ H d v->RV Γ φ (ab1 clos H) d v
 | .non,_,_,h=>by unfold RV at h ⊢;exact h
 | .bl _,_,_,h=>by unfold RV at h ⊢;exact h
 | .int _,_,_,h=>by unfold RV at h ⊢;exact h
 | .str _,_,_,h=>by unfold RV at h ⊢;exact h
 | .tup l,_,n,h=>by
  unfold RV at h ⊢
  unfold lW at n
  obtain⟨a,y,e,q,r⟩:=h
  exact⟨a,y,e,⟨SqT.dropC hc q.1,λ z=>by rw[ab1.ne (zW hc (q.2 z) (λ _ z=>by cases z))];exact q.2 z⟩,RVL.dropC hc l y n r⟩
 | .ref k,_,_,h=>by unfold RV at h ⊢;exact h
 | .fn _,_,_,h=>by unfold RV at h ⊢;exact h
 | .clo id cs,_,n,h=>by unfold lW at n;cases n
theorem RVL.dropC (hc:Cells clos H):∀(l:List ku) (y:List V),ln l=true->RVL Γ φ H l y->RVL Γ φ (ab1 clos H) l y
 | [],_,_,h=>by unfold RVL at h ⊢;exact h
 | d::l,_,n,h=>by
  unfold ln at n
  rw[ag]at n
  obtain⟨x,r,e,G,B⟩:=h.uncons
  subst e
  exact .cons (RV.dropC hc d x n.1 G) (RVL.dropC hc l r n.2 B)
end
theorem RVD.dropC {κ:Type}{B:ku->Option κ}(hc:Cells clos H):∀(l:List (ku×ku)) (y:List (κ×V)),ln (l.map (·.2))=true->RVD B Γ φ H l y->RVD B Γ φ (ab1 clos H) l y
 | [],_,_,h=>h
 | (d,e)::l,_,n,h=>by
  obtain⟨k,v,r,e1,e2,G,J⟩:=h
  rw[aI]at n
  unfold ln at n
  rw[ag]at n
  exact⟨k,v,r,e1,e2,RV.dropC hc e v n.1 G,RVD.dropC hc l r n.2 J⟩
theorem RO.dropC {a:Addr}{o:kR}(hc:Cells clos H)(h:RO Γ φ H a o)(n:o.ncl=true):RO Γ φ (ab1 clos H) a o:=by
 cases o with
 | lst l =>
  obtain⟨y,e,r⟩:=h
  exact⟨y,by rw[ab1.ne (zW hc e (λ _ z=>by cases z))];exact e,RVL.dropC hc l y n r⟩
 | ro l =>
  obtain⟨y,e,r⟩:=h
  exact⟨y,SqF.dropC hc e,RVL.dropC hc l y n r⟩
 | dic l =>
  obtain⟨y,e,r⟩:=h
  exact⟨y,by rw[ab1.ne (zW hc e (λ _ z=>by cases z))];exact e,RVD.dropC hc l y n r⟩
 | dit l =>
  obtain⟨y,e,r⟩:=h
  exact⟨y,by rw[ab1.ne (zW hc e (λ _ z=>by cases z))];exact e,RVD.dropC hc l y n r⟩
 | ins _ _=>exact h.elim
theorem TabsH.dropC {T:List (Addr×Str)}(hc:Cells clos H)(h:TabsH T H):TabsH T (ab1 clos H):=λ y hy=>by
 obtain⟨ps,e,t,c⟩:=h y hy
 refine⟨ps,by rw[ab1.ne (zW hc e (λ _ z=>by cases z))];exact e,t,λ pos B q=>?_⟩
 obtain⟨G,e1,e2⟩:=c pos B q
 exact⟨G,e1,by rw[ab1.ne (zW hc e2 (λ _ z=>by unfold qj at z;cases z))];exact e2⟩
theorem Rp.dropC (hc:Cells clos H)(r:Rp Γ φ H s)(n:s.all lX=true):Rp Γ φ (ab1 clos H) s :=
 ⟨r.inj,λ i o e=>RO.dropC hc (r.obj i o e) (aG.mp n o (bp e)),r.wf,TabsH.dropC hc r.tab⟩
theorem Gr.caught {N:List Str}{kd:Str->Option bJ}{σ:St}(h:Caught clos N kd σ H1 H2)(g:Gr φ s H2 φ' s' H3):Gr φ s H1 φ' s' (ab1 clos H3):=by
 have y:∀ b o,H1 b=some o->isC clos b≠true:=λ b o e z=>by rw[h.free b z]at e;cases e
 have up:∀ b o,H1 b=some o->H2 b=some o:=λ b o e=>by rw[h.ne b (y b o e)];exact e
 refine⟨⟨g.w.map,λ b o e f=>?_⟩,g.le,λ i G B=>?_,g.kd,λ b e=>?_,λ b o e J Y=>?_⟩
 ·rw[ab1.ne (y b o e)];exact g.w.kp b o (up b o e) f
 ·have:=g.new i G B
  by_cases z:isC clos (φ' i)=true
  ·exact h.free _ z
  ·rw[<-h.ne _ z];exact this
 ·cases q:H1 b with
  | none=>exact absurd q e
  | some o =>
   rw[ab1.ne (y b o q)]
   exact g.st b (by rw[up b o q];simp)
 ·rw[ab1.ne (y b o e)];exact g.fr b o (up b o e) J Y
theorem aN2 (h:∀ b,isC clos b=true->H' b=none):ad2 H' (Put clos H H'):=λ b o e=>by
 rw[Put.ne (λ z=>by rw[h b z]at e;cases e)];exact e
theorem Gr.put (hc:Cells clos H)(B:∀ b,isC clos b=true->H' b=none)(hK:∀ b o,Γ.K.lookup b=some o->H b=none)(R':Rp Γ φ' H' s')(g:Gr φ s (ab1 clos H) φ' s' H'):Gr φ s H φ' s' (Put clos H H'):=by
 refine⟨⟨g.w.map,λ b o e f=>?_⟩,g.le,λ i Y J=>?_,g.kd,λ b e=>?_,λ b o e nt no=>?_⟩
 ·by_cases z:isC clos b=true
  ·rw[Put.cell z];exact e
  ·rw[Put.ne z];exact g.w.kp b o (by rw[ab1.ne z];exact e) f
 ·have hd:=g.new i Y J
  by_cases z:isC clos (φ' i)=true
  ·have y:=B _ z
   obtain⟨o,Z⟩:∃ o,s'[i]?=some o:=⟨s'[i],am J⟩
   have h:=R'.obj i o Z
   cases o with
   | lst l=>obtain⟨G,e,_⟩:=h;rw[y]at e;cases e
   | ro l =>
    obtain⟨G,e,_⟩:=h
    rcases e.1 with(e|⟨_,e⟩)|⟨ob,its,n,e,_⟩
    ·rw[y]at e;cases e
    ·rw[y]at e;cases e
    ·exact hK _ _ e
   | dic l=>obtain⟨G,e,_⟩:=h;rw[y]at e;cases e
   | dit l=>obtain⟨G,e,_⟩:=h;rw[y]at e;cases e
   | ins _ _=>exact h.elim
  ·rw[ab1.ne z]at hd;exact hd
 ·by_cases z:isC clos b=true
  ·rw[Put.cell z];exact e
  ·rw[Put.ne z];exact g.st b (by rw[ab1.ne z];exact e)
 ·by_cases z:isC clos b=true
  ·rw[Put.cell z];exact e
  ·rw[Put.ne z];exact g.fr b o (by rw[ab1.ne z];exact e) nt no
theorem bb2 {T:List (Addr×Str)}{cells:List (Str×Addr)}{P:Addr}{q:Str}{params:a9}{body:Expr}{scope:Scope}{pos:Pos}{σ:St}{H:Hp}{Q:VK}(hT:TabsH T H)(nd:(T.map (·.1)).Nodup)(hm:(P,q)∈T)
  (go:∀(f:Addr) (H':Hp),aU5 H H'->(∀ b,H b≠none->H' b≠none)->TabsH T H'->H f=none->(∃ pm J B,H' f=some (ap2 f (bM "<lambda>" q params body scope (ad3 cells scope.names []) pm (.ref J) B))/\H' J=some (qj J q))->Q (.ref f) H') :
  bW8 cells P q params body scope pos σ H Q:=by
 obtain⟨ps,Z,ht,hc⟩:=hT _ hm
 refine⟨ps,Z,ht,λ hn J f pm B n1 n2 ne=>?_,λ cv e=>?_⟩
 ·have cP:J≠P:=λ z=>by rw[z,Z]at n1;cases n1
  have fP:f≠P:=λ z=>by rw[z,Z]at n2;cases n2
  have G:∀ b,b≠P->H b≠none->∀ o1 o2 o3,upd (upd (upd H P o1) J o2) f o3 b=H b:=λ b z1 z2 o1 o2 o3=>by
   rw[za λ z=>by subst z;exact z2 n2,za λ z=>by subst z;exact z2 n1,za z1]
  refine go f _ (λ b o d e=>?_) (λ b hb=>?_) (λ y hy=>?_) n2 ⟨pm,J,B,zb,by rw[za ne,zb]⟩
  ·rw[G b (λ z=>by subst z;rw[Z]at e;cases e;exact d _ rfl) (by rw[e];simp)];exact e
  ·by_cases z:b=P
   ·subst z;rw[za (bO fP),za (bO cP),zb];simp
   ·rw[G b z hb];exact hb
  ·by_cases z:y.1=P
   ·have ey:y=(P,q):=by
     have:∀(l:List (Addr×Str)),(l.map (·.1)).Nodup->y∈l->(P,q)∈l->y=(P,q):=by
      intro l
      induction l with
      | nil=>intro _ h;simp at h
      | cons a l ih =>
       intro hn h1 h2
       rw[aI,cK]at hn
       rcases ay.mp h1 with e1|h1<;>rcases ay.mp h2 with e2|h2
       ·rw[e1,e2]
       ·exact absurd (by rw[<-e1,z];exact bj (f:=(·.1)) h2) hn.1
       ·exact absurd (by rw[<-e2,<-z];exact bj (f:=(·.1)) h1) hn.1
       ·exact ih hn.2 h1 h2
     exact this T nd hy hm
    subst ey
    refine⟨_,by rw[za (bO fP),za (bO cP),zb],?_,λ Y cv e=>?_⟩
    ·rw[c9];exact TriplesOk_snoc _ _ _ _ ht
    ·rw[c9]at e
     rcases codeAmong_add _ ht e with e'|e'
     ·obtain⟨c2,e1,e2⟩:=hc Y cv e'
      exact⟨c2,e1,by rw[G c2 (λ z=>by subst z;rw[Z]at e2;unfold qj at e2;cases e2) (by rw[e2];simp)];exact e2⟩
     ·exact⟨J,e',by rw[za ne,zb]⟩
   ·obtain⟨qs,e1,e2,e3⟩:=hT y hy
    refine⟨qs,by rw[G y.1 z (by rw[e1];simp)];exact e1,e2,λ Y cv e=>?_⟩
    obtain⟨c2,e4,e5⟩:=e3 Y cv e
    exact⟨c2,e4,by rw[G c2 (λ z=>by subst z;rw[Z]at e5;unfold qj at e5;cases e5) (by rw[e5];simp)];exact e5⟩
 ·obtain⟨J,e1,e2⟩:=hc pos cv e
  refine⟨J,e1,λ f pm B n=>go f _ (.of ((ad2.refl H).new n)) (λ b hb=>by
   by_cases z:b=f
   ·subst z;rw[zb];simp
   ·rw[za z];exact hb) (hT.new n) n ⟨pm,J,B,zb,?_⟩⟩
  rw[za (zq e2 n)];exact e2
theorem bn6 {P:aD}{w:World}{K:ac}{mg:Str->Option Value}{base:Heap}{k:Nat}{f:Addr}{N ps fr:List Str}{name qual:Str}{params:a9}{body:List Stmt}{scope:Scope}{h:List (Str×Addr)}{cap:List V}{sp:Sp}
  (S:LamScope N ps fr scope) (len:∀ vs H Q E,sp vs H Q E->vs.length=ps.length) (a5:cap.length=fr.length)
  (a1:∀(a0 pm:Value) (c':Addr) (Y:Value) (us:List Value),us.length=ps.length->d4 (b7 name qual params body scope h .none .none a0 pm none (.ref c') Y) ⟨us,[]⟩=pure (ps.zip us))
  (Z:∀(A:aP) (B:List Env) (s:af) (H:Hp) (cd:Value) (vs:List V) (Q:VK),Room k (A.deeper (cG qual scope s.heap.objs.size f cd (aK (s.heap.objs.size+1) scope.names h)))->ak4 H f name qual params body scope fr cap h->(∀ b o,K.lookup b=some o->H b=none)->sp vs H Q E0 ->
   ∃ t,PSs (az2 P w K mg base N qual scope f cd h A B s H) body t/\t { nx:=λ _ H'=>(∀ b,isC h b=true->H' b=none)->Q .non (Put h H H'),rt:=λ v H'=>(∀ b,isC h b=true->H' b=none)->Q v (Put h H H') } (vs.map some++cap.map some) (ab1 h H)) :
  ClOk P w K mg base (k+1) (λ H=>ak4 H f name qual params body scope fr cap h) f sp:=by
 refine⟨λ A B s H us vs Q hr G hR r a2=>?_⟩
 have hl:=len _ _ _ _ a2
 obtain⟨a0,pm,c',Y,h1,h2,h3,h4,h5,h6⟩:=id hR
 have a6:s.heap.NoLimit:=G.mod.nolimit.keeps λ b o e=>(G.bs b o e).1
 refine gB hr.depth (ar8 G.hok h1) rfl S.co S.gen rfl (au8 G.hok h2) ?_
 rw[a1 a0 pm c' Y us (by rw[<-r.length];exact hl)]
 refine aA (an5 S.kind (λ y hy=>?_) λ env he s1 x=>?_)
 ·rcases S.par y.1 (di (show(y.1,y.2)∈ps.zip us from hy)).1 with q|q
  ·exact .inl q
  ·exact .inr ⟨q,z6 q⟩
 ·subst he
  refine⟨a6.keeps x.toInCall.keep,codeAny_func ?_⟩
  obtain⟨t,ht,hq⟩:=Z A B s H (.ref c') vs Q (hr.deeper _) hR (λ b o e=>(G.bs b o (G.mod.kin b o e)).2) a2
  have I:=aN7 S hr.hd G hl a5 r h3 h4 h5 h6 x
  refine bz (ht [] s1 _ _ _ I hq) (λ fl s' hs=>?_) λ e s' hs=>hs.elim
  have fin:∀ {σ':St} {H':Hp} {v:V} {u:Value},Inv (az2 P w K mg base N qual scope f (.ref c') h A B s H) [] σ' H' s'->RelV v u->((∀ b,isC h b=true->H' b=none)->Q v (Put h H H'))->CE B P w H s Q u s':=λ {σ' H' v u} J rv q=>by
   obtain⟨un,a4⟩:=aW4 G.hok h3 G.frf J.base J.hok
   have a3:∀ b,isC h b=true->H' b=none:=λ b y=>by
    obtain⟨o,v,z,_⟩:=h3.at y
    exact(show Un (frs B) [] (ab1 h H) H' s.heap s'.heap from J.base).free b o (G.hok b _ z).1 (ab1.cell y) (by simp)
   exact⟨v,_,J.os,J.bare,un,a4,rv,q a3⟩
  cases fl with
  | ret u =>
   obtain⟨v,σ',H',J,rv,q⟩:=hs
   exact fin J rv q
  | next =>
   obtain⟨σ',H',J,q⟩:=hs
   exact fin (v:=V.non) (u:=Value.none) J rfl q
  | brk =>
   obtain⟨_,_,_,q⟩:=hs
   exact aZ q
  | cont =>
   obtain⟨_,_,_,q⟩:=hs
   exact aZ q
theorem bx1 {P:aD}{w:World}{K:ac}{mg:Str->Option Value}{base:Heap}{k:Nat}{f:Addr}{N ps fr:List Str}{qual:Str}{params:a9}{body:Expr}{scope:Scope}{h:List (Str×Addr)}{cap:List V}{sp:Sp}
  (S:LamScope N ps fr scope) (len:∀ vs H Q E,sp vs H Q E->vs.length=ps.length) (a4:cap.length=fr.length)
  (a0:∀(pm:Value) (c':Addr) (Y:Value) (us:List Value),us.length=ps.length->d4 (bM "<lambda>" qual params body scope h pm (.ref c') Y) ⟨us,[]⟩=pure (ps.zip us))
  (Z:∀(A:aP) (B:List Env) (s:af) (H:Hp) (cd:Value) (vs:List V) (Q:VK),Room k (A.deeper (cG qual scope s.heap.objs.size f cd (aK (s.heap.objs.size+1) scope.names h)))->au1 H f qual params body scope fr cap h->(∀ b o,K.lookup b=some o->H b=none)->sp vs H Q E0 ->
   ∃ t,PE (az2 P w K mg base N qual scope f cd h A B s H) body t/\t (vs.map some++cap.map some) (ab1 h H) λ v H'=>(∀ b,isC h b=true->H' b=none)->Q v (Put h H H')) :
  ClOk P w K mg base (k+1) (λ H=>au1 H f qual params body scope fr cap h) f sp:=by
 refine⟨λ A B s H us vs Q hr G hR r a1=>?_⟩
 have hl:=len _ _ _ _ a1
 obtain⟨pm,c',Y,h1,h2,h3,h4,h5,h6⟩:=id hR
 have a5:s.heap.NoLimit:=G.mod.nolimit.keeps λ b o e=>(G.bs b o e).1
 refine PySem.W.kla_callFunE hr.depth (ar8 G.hok h1) rfl S.co S.gen rfl (au8 G.hok h2) ?_
 rw[a0 pm c' Y us (by rw[<-r.length];exact hl)]
 refine aA (an5 S.kind (λ y hy=>?_) λ env he s1 x=>?_)
 ·rcases S.par y.1 (di (show(y.1,y.2)∈ps.zip us from hy)).1 with q|q
  ·exact .inl q
  ·exact .inr ⟨q,z6 q⟩
 ·subst he
  refine⟨a5.keeps x.toInCall.keep,PySem.W.kla_codeExpr ?_⟩
  obtain⟨t,ht,hq⟩:=Z A B s H (.ref c') vs Q (hr.deeper _) hR (λ b o e=>(G.bs b o (G.mod.kin b o e)).2) a1
  have I:=aN7 S hr.hd G hl a4 r h3 h4 h5 h6 x
  refine bz (ht [] s1 _ _ _ I hq) (λ u s' hs=>?_) λ e s' hs=>hs.elim
  obtain⟨v,H',J,rv,q⟩:=hs
  obtain⟨un,a3⟩:=aW4 G.hok h3 G.frf J.base J.hok
  have a2:∀ b,isC h b=true->H' b=none:=λ b y=>by
   obtain⟨o,v,z,_⟩:=h3.at y
   exact(show Un (frs B) [] (ab1 h H) H' s.heap s'.heap from J.base).free b o (G.hok b _ z).1 (ab1.cell y) (by simp)
  exact⟨v,_,J.os,J.bare,un,a3,rv,q a2⟩
theorem Rp.sameT {φ:Nat->Addr}{H H':Hp}{s:kt}(r:Rp Γ φ H s)(e:aU5 H H')(st:∀ b,H b≠none->H' b≠none)(tb:TabsH Γ.T H'):Gr φ s H φ s H'/\Rp Γ φ H' s:=by
 have kp:Kp H H':=λ b o h f=>e b o (λ ps z=>by subst z;cases f) h
 have Y:Gw φ s.length H φ H':=⟨λ _ _=>rfl,kp⟩
 refine⟨⟨Y,aj _,λ i h1 Z=>absurd Z (by omega),λ i o o' e e'=>by rw[e]at e';cases e';rfl,st,λ b o h G _=>e b o G h⟩,r.inj,λ i o B=>?_,r.wf,tb⟩
 exact(r.obj i o B).mono Y (r.wf i o B) λ m u J=>by
  obtain⟨u',y,_,G⟩:=(r.obj i o B).there m
  rw[J]at y;cases y
  exact e _ _ G J
theorem Cells.kp {H H':Hp}(h:Cells clos H)(k:Kp H H'):Cells clos H':=λ x c e=>by
 obtain⟨o,v,q,d⟩:=h x c e
 exact⟨o,v,k _ _ q rfl,d⟩
noncomputable def PVp (Γ : Gm) (cells : List (Str × Addr)) (N : List Str) (σ : St) (φ : Nat -> Addr) (H : Hp) (d : DV.D) (v : V) : Prop := RV Γ φ H d v \/ ∃ id cs, d = .clo id cs /\ ∃ f J, v = .ref f /\ Γ.lg id J /\ ae5 H f J (ad3 cells J.scope.names []) /\
      cs.length = J.fr.length /\ (∀ x, J.scope.names.lookup x = some .free -> ∃ c, cells.lookup x = some c) /\
      ∃ cap, RVL Γ φ H cs cap /\ ∀(i : Nat) (x : Str) (v : V), J.fr[i]? = some x -> cap[i]? = some v -> J.scope.names.lookup x = some .free /\ ∃ j : Nat, N[j]? = some x /\ σ[j]? = some (some v)
inductive PVL (Γ:Gm)(cells:List (Str×Addr))(N:List Str)(σ:St)(φ:Nat->Addr)(H:Hp):List ku->List V->Prop where
 | nil:PVL Γ cells N σ φ H [] []
 | cons {d v l vs} (a:PVp Γ cells N σ φ H d v) (b:PVL Γ cells N σ φ H l vs):PVL Γ cells N σ φ H (d::l) (v::vs)
theorem PVp.mono {cells:List (Str×Addr)}{N:List Str}{σ:St}{φ φ':Nat->Addr}{s s':kt}{H H':Hp}(g:Gr φ s H φ' s' H'){d:ku}{v:V}(b:d.bnd s.length=true)(h:PVp Γ cells N σ φ H d v):PVp Γ cells N σ φ' H' d v:=by
 rcases h with h|⟨id,cs,rfl,h⟩
 ·exact .inl (RV.mono g _ _ b h)
 ·obtain⟨f,J,e,y,B,Y,h5,cap,Z,G⟩:=h
  unfold kB at b
  exact .inr ⟨id,cs,rfl,f,J,e,y,B.kp g.w.kp,Y,h5,cap,RVL.mono g cs cap b Z,G⟩
theorem PVp.caught {cells:List (Str×Addr)}{N:List Str}{kd:Str->Option bJ}{σ:St}{φ:Nat->Addr}{n:Nat}{G H2:Hp}(Z:Caught cells N kd σ G H2)(a0:∀ x c,cells.lookup x=some c->kd x=some .cell\/kd x=some .free){d:ku}{v:V}(b:d.bnd n=true)(h:PVp Γ cells N σ φ G d v):RV Γ φ H2 d v:=by
 have gw:Gw φ n G φ H2:=⟨λ _ _=>rfl,λ b o e _=>Z.same b o e⟩
 rcases h with h|⟨id,cs,rfl,h⟩
 ·exact RV.monoW gw _ _ b h
 ·obtain⟨f,J,e,h1,B,h4,h5,cap,h6,h7⟩:=h
  unfold kB at b
  unfold RV
  have y:∀(i:Nat) (x:Str) (v:V),J.fr[i]?=some x->cap[i]?=some v->J.scope.names.lookup x=some .free/\(kd x=some .cell\/kd x=some .free)/\∃ j:Nat,N[j]?=some x/\σ[j]?=some (some v):=λ i x v e1 e2=>by
   obtain⟨q1,q2⟩:=h7 i x v e1 e2
   obtain⟨c,q3⟩:=h5 x q1
   exact⟨q1,a0 x c q3,q2⟩
  have Y:CloAt H2 f J cap (ad3 cells J.scope.names []):=by
   unfold CloAt
   unfold ae5 at B
   cases q:J.nm with
   | none=>rw[q]at B;exact bc7 Z B h5 y
   | some p=>rw[q]at B;exact bb5 Z B h5 y
  exact⟨f,cap,J,_,e,h1,Y,by rw[h6.length,h4],RVL.monoW gw cs cap b h6⟩
theorem PVL.caught {cells:List (Str×Addr)}{N:List Str}{kd:Str->Option bJ}{σ:St}{φ:Nat->Addr}{n:Nat}{B H2:Hp}(G:Caught cells N kd σ B H2)(y:∀ x c,cells.lookup x=some c->kd x=some .cell\/kd x=some .free){l:List ku}{vs:List V}(h:PVL Γ cells N σ φ B l vs)(b:ky n l=true):RVL Γ φ H2 l vs:=by
 induction h with
 | nil=>exact .nil
 | cons a _ ih =>
  unfold ky at b
  rw[ag]at b
  exact .cons (a.caught G y b.1) (ih b.2)
end
variable {Γ:Gm} {X:Cx}
def TEv (Γ:Gm)(m:kz->kt->kA ku):TE:=λ σ H Q=>∃ φ ρ s d s',RE Γ φ H s.length ρ σ/\Rp Γ φ H s/\m ρ s=.ok d s'/\ad4 Γ φ s H d s' Q
def bL2 (Γ:Gm)(φ:Nat->Addr)(s:kt)(H:Hp)(l:List ku)(s':kt)(Q:List V->Hp->Prop):Prop :=
 ∀ vs φ' H',Gr φ s H φ' s' H'->s.length<=s'.length->ky s'.length l=true->RVL Γ φ' H' l vs->Rp Γ φ' H' s'->Q vs H'
def TAv (Γ:Gm)(m:kz->kt->kA (List ku)):TA:=λ σ H Q=>∃ φ ρ s l s',RE Γ φ H s.length ρ σ/\Rp Γ φ H s/\m ρ s=.ok l s'/\bL2 Γ φ s H l s' Q
def aH5 (Γ:Gm)(φ:Nat->Addr)(s:kt)(H:Hp)(b:Bool)(s':kt)(Q:Bool->Hp->Prop):Prop :=
 ∀ φ' H',Gr φ s H φ' s' H'->s.length<=s'.length->Rp Γ φ' H' s'->Q b H'
def TTv (Γ:Gm)(m:kz->kt->kA ku):TT:=λ σ H Q=>∃ φ ρ s b s',RE Γ φ H s.length ρ σ/\Rp Γ φ H s/\m ρ s=.ok (.bl b) s'/\aH5 Γ φ s H b s' Q
theorem PE.imp {e:Expr}{t t':TE}(h:PE X e t)(i:∀ σ H Q,t' σ H Q->t σ H Q):PE X e t':=λ y s σ H Q I q=>h y s σ H Q I (i σ H Q q)
theorem PT.imp {e:Expr}{t t':TT}(h:PT X e t)(i:∀ σ H Q,t' σ H Q->t σ H Q):PT X e t':=λ y s σ H Q I q=>h y s σ H Q I (i σ H Q q)
theorem PA.imp {e:List Expr}{t t':TA}(h:PA X e t)(i:∀ σ H Q,t' σ H Q->t σ H Q):PA X e t':=λ pos y s σ H Q I q=>h pos y s σ H Q I (i σ H Q q)
theorem aH5.trans {φ φ1:Nat->Addr}{s s1 s':kt}{H y:Hp}{b:Bool}{Q:Bool->Hp->Prop}(h:aH5 Γ φ s H b s' Q)(g:Gr φ s H φ1 s1 y)(l:s.length<=s1.length):aH5 Γ φ1 s1 y b s' Q :=
 λ φ' H' g' B p=>h φ' H' (g.trans g' l) (ao l B) p
theorem bA3 (i:Nat){σ:St}{H:Hp}{Q:VK}(h:TEv Γ (λ ρ s=>DV.aM1 ρ i s) σ H Q):aX0 i σ H Q:=by
 obtain⟨φ,ρ,s,d,s',E,R,y,q⟩:=h
 simp only[DV.aM1]at y
 split at y
 ·rename_i d' e
  cases y
  obtain⟨b,v,e1,e2⟩:=E.val i _ e
  exact⟨v,e1,q.here R b e2⟩
 ·exact fb y
theorem ay2 {c:ku}{v:V}(hb:∀ n,c.bnd n=true)(hv:∀ φ H,RV Γ φ H c v){σ:St}{H:Hp}{Q:VK}(h:TEv Γ (λ ρ s=>.ok c s) σ H Q):tC v σ H Q:=by
 obtain⟨φ,ρ,s,d,s',E,R,y,q⟩:=h
 cases y
 exact q.here R (hb _) (hv _ _)
theorem bf8 {m1 G:kz->kt->kA ku}{f:ku->ku->kt->kA ku}{σ:St}{H:Hp}{Q:VK}(h:TEv Γ (λ ρ s=>(m1 ρ s).bind λ x s=>(G ρ s).bind λ y s=>f x y s) σ H Q):tOp (rOp Γ f) (TEv Γ m1) (TEv Γ G) σ H Q:=by
 obtain⟨φ,ρ,s,d,s',E,R,B,q⟩:=h
 obtain⟨x,s1,e1,B⟩:=aa0 B
 obtain⟨y,s2,e2,B⟩:=aa0 B
 refine⟨φ,ρ,s,x,s1,E,R,e1,λ v1 φ1 H1 g1 l1 Z r1 R1=>?_⟩
 refine⟨φ1,ρ,s1,y,s2,E.mono g1 l1,R1,e2,λ v2 φ2 H2 Y J b2 r2 R2=>?_⟩
 exact⟨φ2,s2,x,y,d,s',R2,RV.mono Y x v1 Z r1,r2,zn J x Z,b2,B,q.trans (g1.trans Y l1) (ao l1 J)⟩
theorem bT3 {m:kz->kt->kA ku}{f:ku->kt->kA ku}{r:V->Hp->VK->Prop}{σ:St}{H:Hp}{Q:VK}(h:TEv Γ (λ ρ s=>(m ρ s).bind λ x s=>f x s) σ H Q)
  (Y:∀ φ s x d s' v H',Rp Γ φ H' s->RV Γ φ H' x v->x.bnd s.length=true->f x s=.ok d s'->ad4 Γ φ s H' d s' Q->r v H' Q):tUn r (TEv Γ m) σ H Q:=by
 obtain⟨φ,ρ,s,d,s',E,R,y,q⟩:=h
 obtain⟨x,s1,e1,y⟩:=aa0 y
 exact⟨φ,ρ,s,x,s1,E,R,e1,λ G φ1 B g1 l1 J r1 R1=>Y φ1 s1 x d s' G B R1 r1 J y (q.trans g1 l1)⟩
theorem zU {α:Type}{r:kA ku}{f:Bool->kt->kA α}{a:α}{t:kt}(h:kH r f=.ok a t):∃ b s,r=.ok (.bl b) s/\f b s=.ok a t:=by
 unfold kH at h
 obtain⟨d,s,e,h⟩:=aa0 h
 cases d with
 | bl b=>exact⟨b,s,e,h⟩
 | _=>exact fb h
theorem bi0 {m:kz->kt->kA ku}{σ:St}{H:Hp}{Q:Bool->Hp->Prop}(h:TTv Γ m σ H Q):tB (TEv Γ m) σ H Q:=by
 obtain⟨φ,ρ,s,b,s',E,R,B,q⟩:=h
 refine⟨φ,ρ,s,.bl b,s',E,R,B,λ v φ' H' g l G r y=>?_⟩
 exact⟨b,r.blE,q φ' H' g l y⟩
theorem bl4 {m:kz->kt->kA ku}{σ:St}{H:Hp}{Q:Bool->Hp->Prop}(h:TTv Γ m σ H Q):bJ7 (TEv Γ m) σ H Q:=bi0 h
theorem bH4 {m:kz->kt->kA ku}{σ:St}{H:Hp}{Q:Bool->Hp->Prop}(h:TTv Γ (λ ρ s=>kH (m ρ s) λ b s=>.ok (.bl (!b)) s) σ H Q):bY7 (TTv Γ m) σ H Q:=by
 obtain⟨φ,ρ,s,b,s',E,R,y,q⟩:=h
 obtain⟨c,s1,e1,y⟩:=zU y
 cases y
 exact⟨φ,ρ,s,c,_,E,R,e1,q⟩
theorem bg4 {G B:kz->kt->kA ku}{σ:St}{H:Hp}{Q:Bool->Hp->Prop}(h:TTv Γ (λ ρ s=>kH (G ρ s) λ c s=>if c then kH (B ρ s) λ c s=>.ok (.bl c) s else .ok (.bl false) s) σ H Q):bW9 (TTv Γ G) (TTv Γ B) σ H Q:=by
 obtain⟨φ,ρ,s,b,s',E,R,y,q⟩:=h
 obtain⟨c,s1,e1,y⟩:=zU y
 refine⟨φ,ρ,s,c,s1,E,R,e1,λ φ1 J g1 l1 R1=>?_⟩
 cases c with
 | true =>
  rw[if_pos rfl]at y ⊢
  obtain⟨Y,s2,e2,y⟩:=zU y
  cases y
  exact⟨φ1,ρ,s1,_,_,E.mono g1 l1,R1,e2,q.trans g1 l1⟩
 | false =>
  rw[if_neg aQ]at y ⊢
  cases y
  exact q φ1 J g1 l1 R1
theorem bG9 {G B:kz->kt->kA ku}{σ:St}{H:Hp}{Q:Bool->Hp->Prop}(h:TTv Γ (λ ρ s=>kH (G ρ s) λ c s=>if c then .ok (.bl true) s else kH (B ρ s) λ c s=>.ok (.bl c) s) σ H Q):tOr (TTv Γ G) (TTv Γ B) σ H Q:=by
 obtain⟨φ,ρ,s,b,s',E,R,y,q⟩:=h
 obtain⟨c,s1,e1,y⟩:=zU y
 refine⟨φ,ρ,s,c,s1,E,R,e1,λ φ1 J g1 l1 R1=>?_⟩
 cases c with
 | true =>
  rw[if_pos rfl]at y ⊢
  cases y
  exact q φ1 J g1 l1 R1
 | false =>
  rw[if_neg aQ]at y ⊢
  obtain⟨Y,s2,e2,y⟩:=zU y
  cases y
  exact⟨φ1,ρ,s1,_,_,E.mono g1 l1,R1,e2,q.trans g1 l1⟩
theorem bB0 {m:kz->kt->kA ku}{σ:St}{H:Hp}{Q:VK}(h:TEv Γ (λ ρ s=>kH (m ρ s) λ b s=>.ok (.bl (!b)) s) σ H Q):bz7 (TEv Γ m) σ H Q:=by
 obtain⟨φ,ρ,s,d,s',E,R,y,q⟩:=h
 obtain⟨c,s1,e1,y⟩:=zU y
 cases y
 exact⟨φ,ρ,s,.bl c,_,E,R,e1,λ v φ1 B g l b r R1=>⟨c,r.blE,q _ φ1 B g l rfl RV.blI R1⟩⟩
theorem bg1 {G B:kz->kt->kA ku}{σ:St}{H:Hp}{Q:VK}(h:TEv Γ (λ ρ s=>kH (G ρ s) λ c s=>if c then kH (B ρ s) λ c s=>.ok (.bl c) s else .ok (.bl false) s) σ H Q):bL1 (TEv Γ G) (TEv Γ B) σ H Q:=by
 obtain⟨φ,ρ,s,d,s',E,R,y,q⟩:=h
 obtain⟨c,s1,e1,y⟩:=zU y
 refine⟨φ,ρ,s,.bl c,s1,E,R,e1,λ v φ1 J g1 l1 Y r1 R1=>⟨c,r1.blE,?_⟩⟩
 cases c with
 | true =>
  rw[if_pos rfl]at y ⊢
  obtain⟨c,s2,e2,y⟩:=zU y
  cases y
  exact⟨φ1,ρ,s1,.bl c,_,E.mono g1 l1,R1,e2,q.trans g1 l1⟩
 | false =>
  rw[if_neg aQ]at y ⊢
  cases y
  exact q _ φ1 J g1 l1 rfl RV.blI R1
theorem bE1 {G B:kz->kt->kA ku}{σ:St}{H:Hp}{Q:VK}(h:TEv Γ (λ ρ s=>kH (G ρ s) λ c s=>if c then .ok (.bl true) s else kH (B ρ s) λ c s=>.ok (.bl c) s) σ H Q):bZ0 (TEv Γ G) (TEv Γ B) σ H Q:=by
 obtain⟨φ,ρ,s,d,s',E,R,y,q⟩:=h
 obtain⟨c,s1,e1,y⟩:=zU y
 refine⟨φ,ρ,s,.bl c,s1,E,R,e1,λ v φ1 J g1 l1 Y r1 R1=>⟨c,r1.blE,?_⟩⟩
 cases c with
 | true =>
  rw[if_pos rfl]at y ⊢
  cases y
  exact q _ φ1 J g1 l1 rfl RV.blI R1
 | false =>
  rw[if_neg aQ]at y ⊢
  obtain⟨c,s2,e2,y⟩:=zU y
  cases y
  exact⟨φ1,ρ,s1,.bl c,_,E.mono g1 l1,R1,e2,q.trans g1 l1⟩
theorem bF1 {mc G B:kz->kt->kA ku}{σ:St}{H:Hp}{Q:VK}(h:TEv Γ (λ ρ s=>kH (mc ρ s) λ k s=>if k then G ρ s else B ρ s) σ H Q):tIf (TTv Γ mc) (TEv Γ G) (TEv Γ B) σ H Q:=by
 obtain⟨φ,ρ,s,d,s',E,R,y,q⟩:=h
 obtain⟨c,s1,e1,y⟩:=zU y
 refine⟨φ,ρ,s,c,s1,E,R,e1,λ φ1 J g1 l1 R1=>?_⟩
 cases c with
 | true =>
  rw[if_pos rfl]at y ⊢
  exact⟨φ1,ρ,s1,d,s',E.mono g1 l1,R1,y,q.trans g1 l1⟩
 | false =>
  rw[if_neg aQ]at y ⊢
  exact⟨φ1,ρ,s1,d,s',E.mono g1 l1,R1,y,q.trans g1 l1⟩
theorem aE7 {σ:St}{H:Hp}{Q:List V->Hp->Prop}(h:TAv Γ (λ ρ s=>.ok [] s) σ H Q):aZ8 σ H Q:=by
 obtain⟨φ,ρ,s,d,s',E,R,y,q⟩:=h
 cases y
 exact q [] φ H (Gr.refl _ _ _) (aj _) rfl .nil R
theorem bw6 {m:kz->kt->kA ku}{J:kz->kt->kA (List ku)}{σ:St}{H:Hp}{Q:List V->Hp->Prop}(h:TAv Γ (λ ρ s=>(m ρ s).bind λ d s=>(J ρ s).bind λ l s=>.ok (d::l) s) σ H Q):aq4 (TEv Γ m) (TAv Γ J) σ H Q:=by
 obtain⟨φ,ρ,s,l,s',E,R,B,q⟩:=h
 obtain⟨x,s1,e1,B⟩:=aa0 B
 obtain⟨y,s2,e2,B⟩:=aa0 B
 cases B
 refine⟨φ,ρ,s,x,s1,E,R,e1,λ Y φ1 H1 g1 l1 Z r1 R1=>?_⟩
 refine⟨φ1,ρ,s1,y,_,E.mono g1 l1,R1,e2,λ v2 φ2 H2 g2 G b2 r2 R2=>?_⟩
 refine q (Y::v2) φ2 H2 (g1.trans g2 l1) (ao l1 G) ?_ (.cons (RV.mono g2 x Y Z r1) r2) R2
 unfold ky
 rw[zn G x Z,b2];rfl
theorem aC2 {B:kz->kt->kA (List ku)}{f:List ku->kt->kA ku}{σ:St}{H:Hp}{Q:VK}(h:TEv Γ (λ ρ s=>(B ρ s).bind λ l s=>f l s) σ H Q):tCB (rCl Γ f) (TAv Γ B) σ H Q:=by
 obtain⟨φ,ρ,s,d,s',E,R,y,q⟩:=h
 obtain⟨l,s1,e1,y⟩:=aa0 y
 exact⟨φ,ρ,s,l,s1,E,R,e1,λ vs φ1 J g1 l1 G r1 R1=>⟨φ1,s1,l,d,s',R1,r1,G,y,q.trans g1 l1⟩⟩
theorem bR0 {m:kz->kt->kA ku}{ml mh:kz->kt->kA ku}{σ:St}{H:Hp}{Q:VK} :
  (TEv Γ (λ ρ s=>(m ρ s).bind λ x s=>(ml ρ s).bind λ y s=>match y with|.int i=>lH x (some i) none s|_=>.bad) σ H Q->tSl (rSl Γ) (TEv Γ m) (aQ2 (TEv Γ ml)) aC0 σ H Q) /\
  (TEv Γ (λ ρ s=>(m ρ s).bind λ x s=>(mh ρ s).bind λ y s=>match y with|.int i=>lH x none (some i) s|_=>.bad) σ H Q->tSl (rSl Γ) (TEv Γ m) aC0 (aQ2 (TEv Γ mh)) σ H Q) /\
  (TEv Γ (λ ρ s=>(m ρ s).bind λ x s=>(ml ρ s).bind λ y s=>match y with|.int i=>(mh ρ s).bind (λ z s=>match z with|.int j=>lH x (some i) (some j) s|_=>.bad)|_=>.bad) σ H Q->tSl (rSl Γ) (TEv Γ m) (aQ2 (TEv Γ ml)) (aQ2 (TEv Γ mh)) σ H Q):=by
 refine⟨λ h=>?_,λ h=>?_,λ h=>?_⟩
 ·obtain⟨φ,ρ,s,d,s',E,R,B,q⟩:=h
  obtain⟨x,s1,e1,B⟩:=aa0 B
  obtain⟨y,s2,e2,B⟩:=aa0 B
  refine⟨φ,ρ,s,x,s1,E,R,e1,λ v1 φ1 H1 g1 l1 Y r1 R1=>?_⟩
  refine⟨φ1,ρ,s1,y,s2,E.mono g1 l1,R1,e2,λ v2 φ2 H2 J G b2 Z R2=>?_⟩
  cases y with
  | int i=>exact⟨i,Z.intE,φ2,s2,x,d,s',R2,RV.mono J x v1 Y r1,zn G x Y,B,q.trans (g1.trans J l1) (ao l1 G)⟩
  | _=>exact fb B
 ·obtain⟨φ,ρ,s,d,s',E,R,B,q⟩:=h
  obtain⟨x,s1,e1,B⟩:=aa0 B
  obtain⟨y,s2,e2,B⟩:=aa0 B
  refine⟨φ,ρ,s,x,s1,E,R,e1,λ v1 φ1 H1 g1 l1 Y r1 R1=>?_⟩
  refine⟨φ1,ρ,s1,y,s2,E.mono g1 l1,R1,e2,λ v2 φ2 H2 J G b2 Z R2=>?_⟩
  cases y with
  | int i=>exact⟨i,Z.intE,φ2,s2,x,d,s',R2,RV.mono J x v1 Y r1,zn G x Y,B,q.trans (g1.trans J l1) (ao l1 G)⟩
  | _=>exact fb B
 ·obtain⟨φ,ρ,s,d,s',E,R,B,q⟩:=h
  obtain⟨x,s1,e1,B⟩:=aa0 B
  obtain⟨y,s2,e2,B⟩:=aa0 B
  refine⟨φ,ρ,s,x,s1,E,R,e1,λ v1 φ1 H1 g1 l1 Y r1 R1=>?_⟩
  refine⟨φ1,ρ,s1,y,s2,E.mono g1 l1,R1,e2,λ v2 φ2 H2 J G b2 Z R2=>?_⟩
  cases y with
  | int i =>
   obtain⟨z,s3,e3,B⟩:=aa0 B
   refine⟨i,Z.intE,φ2,ρ,s2,z,s3,E.mono (g1.trans J l1) (ao l1 G),R2,e3,λ v3 φ3 H3 g3 l3 b3 r3 R3=>?_⟩
   cases z with
   | int j=>exact⟨j,r3.intE,φ3,s3,x,d,s',R3,RV.mono (J.trans g3 G) x v1 Y r1,zn (ao G l3) x Y,B,q.trans ((g1.trans J l1).trans g3 (ao l1 G)) (ao (ao l1 G) l3)⟩
   | _=>exact fb B
  | _=>exact fb B
variable {Γ:Gm} {X:Cx}
def an3 (Γ:Gm)(J:It)(φ0:Nat->Addr)(H0:Hp)(s0:kt)(q:lC):Prop :=
 ∀ φ H s,Gr φ0 s0 H0 φ s H->s0.length<=s.length->Rp Γ φ H s->lb s0 s q.src=true->∀ i:Nat,
  (i<q.its.length->J.go i H/\∀ x H',J.yld i H x H'->ad2 H H'/\∀ d,q.its[i]?=some d->RV Γ φ H' d x)/\(q.its.length<=i->J.stop i H)
def TIv (Γ:Gm)(m:kz->kt->kA lC):TI:=λ σ H R=>∃ φ ρ s q s',RE Γ φ H s.length ρ σ/\Rp Γ φ H s/\m ρ s=.ok q s' /\
 ∀ J φ' H',Gr φ s H φ' s' H'->s.length<=s'.length->ky s'.length q.its=true->Rp Γ φ' H' s'->an3 Γ J φ' H' s' q->R J H'
theorem PI.imp {tg e:Expr}{t t':TI}(h:PI X tg e t)(i:∀ σ H R,t' σ H R->t σ H R):PI X tg e t':=λ y s σ H R I q=>h y s σ H R I (i σ H R q)
theorem PI.or {tg e:Expr}{t t':TI}(h:PI X tg e t)(h':PI X tg e t'):PI X tg e (λ σ H R=>t σ H R\/t' σ H R):=λ y s σ H R I q=>q.elim (h y s σ H R I) (h' y s σ H R I)
theorem be9 {φ0:Nat->Addr}{H0:Hp}{s0:kt}{a:Addr}{G:List V}{l:List ku}(h:SqT Γ.K H0 a G)(hl:RVL Γ φ0 H0 l G)(hb:ky s0.length l=true):an3 Γ (Itt Γ.K a) φ0 H0 s0 ⟨l,[]⟩:=by
 intro φ H s g _ R _ i
 have h':=g.w.kp.sqT h
 have B:=RVL.mono g l G hb hl
 refine⟨λ hlt=>⟨⟨G,G[i]'(by rw[B.length];exact hlt),h',am _⟩,λ x H' y=>?_⟩,λ J=>⟨G,h',by rw[B.length];exact J⟩⟩
 obtain⟨e,y⟩:=y
 subst e
 refine⟨ad2.refl _,λ d hd=>?_⟩
 obtain⟨v,e1,e2⟩:=B.get hd
 rw[y G h']at e1;cases e1
 exact e2
theorem bk5 {φ0:Nat->Addr}{H0:Hp}{s0:kt}{a:Addr}{G:List V}{l:List ku}(h:SqF Γ.K H0 a G)(hl:RVL Γ φ0 H0 l G)(hb:ky s0.length l=true):an3 Γ (Itl Γ.K a) φ0 H0 s0 ⟨l,[]⟩:=by
 intro φ H s g _ R _ i
 have h':=h.2 _ g.w.kp
 have B:=RVL.mono g l G hb hl
 refine⟨λ hlt=>⟨⟨G,G[i]'(by rw[B.length];exact hlt),h',am _⟩,λ x H' y=>?_⟩,λ J=>⟨G,h',by rw[B.length];exact J⟩⟩
 obtain⟨e,y⟩:=y
 subst e
 refine⟨ad2.refl _,λ d hd=>?_⟩
 obtain⟨v,e1,e2⟩:=B.get hd
 rw[y G h']at e1;cases e1
 exact e2
theorem aY9 {φ0:Nat->Addr}{H0:Hp}{s0:kt}{r:Nat}{l:List ku}(Z:s0[r]?=some (.lst l)):an3 Γ (Itl Γ.K (φ0 r)) φ0 H0 s0 ⟨l,[r]⟩:=by
 intro φ H s g _ R J i
 have G:r<s0.length:=(ae.mp Z).1
 have hs:s[r]?=some (.lst l):=by
  unfold lb at J
  simp only[dg,j8,fI,decide_eq_true_eq]at J
  rw[J];exact Z
 obtain⟨B,e,h⟩:=R.addr hs
 rw[g.w.map r G]at e
 have h':SqL Γ.K H (φ0 r) B:=SqL.of e
 refine⟨λ hlt=>⟨⟨B,B[i]'(by rw[h.length];exact hlt),h',am _⟩,λ x H' y=>?_⟩,λ Y=>⟨B,h',by rw[h.length];exact Y⟩⟩
 obtain⟨e,y⟩:=y
 subst e
 refine⟨ad2.refl _,λ d hd=>?_⟩
 obtain⟨v,e1,e2⟩:=h.get hd
 rw[y B h']at e1;cases e1
 exact e2
theorem bf2 {φ0:Nat->Addr}{H0:Hp}{s0:kt}{l:List Nat}:an3 Γ (Its ⟨l.toArray⟩) φ0 H0 s0 ⟨l.map λ c=>.str [c],[]⟩:=by
 intro φ H s g _ R _ i
 have hsz:(⟨l.toArray⟩:Str).cps.size=l.length:=by simp
 refine⟨λ hlt=>?_,λ h=>?_⟩
 ·simp only[aE]at hlt
  refine⟨show i<(⟨l.toArray⟩:Str).cps.size by rw[hsz];exact hlt,λ x H' y=>?_⟩
  obtain⟨e,c,hc,rfl⟩:=y
  subst e
  refine⟨ad2.refl _,λ d hd=>?_⟩
  have B:l[i]?=some c:=by simpa using hc
  rw[aJ,B]at hd
  cases hd
  exact RV.strI (by simp;decide)
 ·simp only[aE]at h
  show(⟨l.toArray⟩:Str).cps.size<=i
  rw[hsz];exact h
theorem aX6 {φ0:Nat->Addr}{H0:Hp}{s0:kt}{a b:Int}:an3 Γ (Itr a (b - a).toNat) φ0 H0 s0 ⟨ly a b,[]⟩:=by
 intro φ H s g _ R _ i
 have hn:(ly a b).length=(b - a).toNat:=by simp[ly]
 refine⟨λ hlt=>⟨show i<(b - a).toNat by rw[<-hn];exact hlt,λ x H' y=>?_⟩,λ h=>show(b - a).toNat<=i by rw[<-hn];exact h⟩
 obtain⟨e,rfl⟩:=y
 subst e
 refine⟨ad2.refl _,λ d hd=>?_⟩
 simp only[ly]at hd hlt
 rw[aJ,da (by simpa using hlt)]at hd
 cases hd
 exact RV.intI
theorem bv2 {m:kz->kt->kA ku}{σ:St}{H:Hp}{R:It->Hp->Prop}(h:TIv Γ (λ ρ s=>(m ρ s).bind λ x s=>match x with|.int i=>if -lY<=i/\i<lY then .ok ⟨ly 0 i,[]⟩ s else .bad|_=>.bad) σ H R) :
  bF9 (aq4 (TEv Γ m) aZ8) σ H R:=by
 obtain⟨φ,ρ,s,q,s',E,P,y,k⟩:=h
 obtain⟨x,s1,e1,y⟩:=aa0 y
 refine⟨φ,ρ,s,x,s1,E,P,e1,λ v φ1 G g l b r J=>?_⟩
 cases x with
 | int i =>
  simp only at y
  split at y
  ·rename_i B
   cases y
   have hw:lY=2^62:=by decide
   rw[hw]at B
   refine⟨i,by rw[r.intE],B.1,B.2,k _ φ1 G g l ?_ J ?_⟩
   ·refine aa5.mpr λ d hd=>?_
    simp only[ly,aW]at hd
    obtain⟨_,_,rfl⟩:=hd
    rfl
   ·have:=aX6 (Γ:=Γ) (φ0:=φ1) (H0:=G) (s0:=s') (a:=0) (b:=i)
    rwa [Int.sub_zero]at this
  ·exact fb y
 | _=>exact fb y
theorem bM3 {m:kz->kt->kA ku}{σ:St}{H:Hp}{R:It->Hp->Prop}(h:TIv Γ (λ ρ s=>(m ρ s).bind λ d s=>DV.aG3 d s) σ H R) :
  bR5 Γ.K (TEv Γ m) σ H R\/bt3 Γ.K (TEv Γ m) σ H R\/ca2 (TEv Γ m) σ H R:=by
 obtain⟨φ,ρ,s,q,s',E,P,y,k⟩:=h
 obtain⟨x,s1,e1,y⟩:=aa0 y
 unfold DV.aG3 at y
 cases x with
 | tup l =>
  cases y
  refine .inl ⟨φ,ρ,s,_,_,E,P,e1,λ v φ1 G g l b r B=>?_⟩
  obtain⟨a,J,rfl,h1,d1⟩:=r.tupE
  unfold kB at b
  exact⟨a,rfl,⟨J,h1⟩,k _ φ1 G g l b B (be9 h1 d1 b)⟩
 | str l =>
  cases y
  refine .inr (.inr ⟨φ,ρ,s,_,_,E,P,e1,λ v φ1 G g Y b r B=>?_⟩)
  refine⟨_,r.strE,k _ φ1 G g Y ?_ B bf2⟩
  refine aa5.mpr λ d hd=>?_
  simp only[aW]at hd
  obtain⟨_,_,rfl⟩:=hd
  rfl
 | ref r =>
  simp only at y
  cases hs:s1[r]? with
  | none=>rw[hs]at y;cases y
  | some o =>
   rw[hs]at y
   cases o with
   | lst l =>
    cases y
    refine .inr (.inl ⟨φ,ρ,s,_,_,E,P,e1,λ v φ1 G g Y b Z B=>?_⟩)
    have e:=Z.refE;subst e
    obtain⟨J,e2,d1⟩:=B.addr hs
    have wf:=B.wf _ _ hs
    unfold kD at wf
    exact⟨φ1 r,rfl,⟨J,SqL.of e2⟩,k _ φ1 G g Y wf B (aY9 hs)⟩
   | ro l =>
    cases y
    refine .inr (.inl ⟨φ,ρ,s,_,_,E,P,e1,λ v φ1 G g Y b Z B=>?_⟩)
    have e:=Z.refE;subst e
    obtain⟨J,e2,d1⟩:=B.obj _ _ hs
    have wf:=B.wf _ _ hs
    unfold kD at wf
    exact⟨φ1 r,rfl,⟨J,e2.1⟩,k _ φ1 G g Y wf B (bk5 e2 d1 wf)⟩
   | dic l=>exact fb y
   | dit l=>exact fb y
   | ins c l=>exact fb y
 | _=>exact fb y
variable {Γ:Gm} {X:Cx}
noncomputable def bO2:List Nat->TGs
 | []=>bZ6
 | i::is=>bJ3 (au9 i) (bO2 is)
noncomputable def gOf (K:ac):k7->TG
 | .one i=>au9 i
 | .tup is=>bS1 K is.length (bO2 is)
theorem bg0 {φ:Nat->Addr}{H:Hp}{n:Nat}{ρ ρ':kz}{σ:St}{i:Nat}{d:ku}{v:V}(E:RE Γ φ H n ρ σ)(r:RV Γ φ H d v)(b:d.bnd n=true)(h:lz ρ i d=some ρ'):RE Γ φ H n ρ' (σ.set i (some v)):=by
 unfold lz at h
 split at h
 ·rename_i y
  cases h
  refine⟨by rw[br,br];exact E.len,λ j e hj=>?_⟩
  by_cases hij:j=i
  ·subst hij
   rw[aU y]at hj
   cases hj
   exact⟨b,v,by rw[aU (by rw[<-E.len];exact y)],r⟩
  ·rw[aY (bO hij)]at hj
   obtain⟨B,w,G,J⟩:=E.val j e hj
   exact⟨B,w,by rw[aY (bO hij)];exact G,J⟩
 ·cases h
theorem bA9 {φ:Nat->Addr}{H:Hp}{n:Nat}{Q:St->Hp->Prop}:∀(is:List Nat) (l:List ku) (y:List V) (ρ ρ':kz) (σ:St),RE Γ φ H n ρ σ->RVL Γ φ H l y->ky n l=true->lI ρ is l=some ρ'->(∀ σ',RE Γ φ H n ρ' σ'->Q σ' H)->bO2 is y σ H Q
 | [],[],y,ρ,ρ',σ,E,r,_,h,k=>by
  cases h
  exact⟨r.unnil,k σ E⟩
 | [],d::l,_,_,_,_,_,_,_,h,_=>by cases h
 | i::is,[],_,_,_,_,_,_,_,h,_=>by cases h
 | i::is,d::l,y,ρ,ρ',σ,E,r,b,h,k=>by
  have h:(lz ρ i d).bind (λ ρ=>lI ρ is l)=some ρ':=h
  obtain⟨x,B,rfl,J,G⟩:=r.uncons
  unfold ky at b
  rw[ag]at b
  cases e:lz ρ i d with
  | none=>rw[e]at h;cases h
  | some ρ1 =>
   rw[e]at h
   exact⟨x,B,rfl,bA9 is l B ρ1 ρ' _ (bg0 E J b.1 e) G b.2 h k⟩
theorem aR1 {l:List ku}:∀ {is:List Nat} {ρ ρ':kz},lI ρ is l=some ρ'->is.length=l.length:=by
 induction l with
 | nil=>intro is ρ ρ' h;cases is with
  | nil=>rfl
  | cons i is=>cases h
 | cons d l ih=>intro is ρ ρ' h;cases is with
  | nil=>cases h
  | cons i is =>
   have h:(lz ρ i d).bind (λ ρ=>lI ρ is l)=some ρ':=h
   cases e:lz ρ i d with
   | none=>rw[e]at h;cases h
   | some ρ1=>rw[e]at h;rw[aV,aV,ih h]
theorem br4 {φ:Nat->Addr}{H:Hp}{n:Nat}{Q:St->Hp->Prop}{tg:k7}{d:ku}{v:V}{ρ ρ':kz}{σ:St}(E:RE Γ φ H n ρ σ)(r:RV Γ φ H d v)(b:d.bnd n=true)(h:kO ρ tg d=some ρ')(k:∀ σ',RE Γ φ H n ρ' σ'->Q σ' H):gOf Γ.K tg v σ H Q:=by
 cases tg with
 | one i=>exact k _ (bg0 E r b h)
 | tup is =>
  cases d with
  | tup l =>
   have h:lI ρ is l=some ρ':=h
   obtain⟨a,y,rfl,B,d1⟩:=r.tupE
   unfold kB at b
   exact⟨a,y,rfl,B,by rw[d1.length,aR1 h],bA9 is l y ρ ρ' σ E d1 b h k⟩
  | _=>cases h
def Off (φ:Nat->Addr)(s:kt)(b:Addr):Prop:=∀(i:Nat) (ob:kR),s[i]?=some ob->isMut ob=true->φ i≠b
theorem Off.mono {φ φ':Nat->Addr}{s s':kt}{H H':Hp}{b:Addr}{o:HO}(h:Off φ s b)(g:Gr φ s H φ' s' H')(hb:H b=some o):Off φ' s' b:=λ i ob e m z=>by
 by_cases G:i<s.length
 ·obtain⟨y,B⟩:∃ y,s[i]?=some y:=⟨s[i],am G⟩
  exact h i y B (g.mu i y ob B e m) (by rw[<-g.w.map i G];exact z)
 ·have:=g.new i (by omega) (ae.mp e).1
  rw[z,hb]at this;cases this
theorem Off.new {φ:Nat->Addr}{s:kt}{H:Hp}{b:Addr}(r:Rp Γ φ H s)(h:H b=none):Off φ s b:=λ i ob e m z=>by
 obtain⟨u,y,_⟩:=(r.obj i ob e).there m
 rw[z,h]at y;cases y
theorem Rp.foreign {φ:Nat->Addr}{s:kt}{H:Hp}{b:Addr}{ys h:List V}(r:Rp Γ φ H s)(hb:H b=some (.lst ys))(ho:Off φ s b):Rp Γ φ (upd H b (.lst h)) s:=by
 have g:Gw φ s.length H φ (upd H b (.lst h)):=⟨λ _ _=>rfl,(Kp.refl H).put hb rfl⟩
 exact⟨r.inj,λ i o e=>(r.obj i o e).mono g (r.wf i o e) λ m u y=>by rw[za (ho i o e m)];exact y,r.wf,r.tab.put hb⟩
theorem Gr.foreign {φ φ':Nat->Addr}{s s':kt}{H H':Hp}{b:Addr}{ys h:List V}(g:Gr φ s H φ' s' H')(h0:H b=none)(hb:H' b=some (.lst ys)):Gr φ s H φ' s' (upd H' b (.lst h)):=by
 have ne:∀ c o,H c=some o->c≠b:=λ c o e=>zq e h0
 refine⟨⟨g.w.map,λ c o e f=>?_⟩,g.le,g.new,g.kd,λ c hc=>?_,λ c o e y B=>?_⟩
 ·rw[za (ne c o e)];exact g.w.kp c o e f
 ·unfold upd;split
  ·simp
  ·exact g.st c hc
 ·rw[za (ne c o e)];exact g.fr c o e y B
def bJ1 (Γ:Gm)(φ:Nat->Addr)(s:kt)(H:Hp)(l:List ku)(s':kt)(Q:VK):Prop :=
 ∀ p ys φ' H',Gr φ s H φ' s' H'->s.length<=s'.length->ky s'.length l=true->H' p=some (.lst ys)->H p=none->Off φ' s' p->RVL Γ φ' H' l ys->Rp Γ φ' H' s'->Q (.ref p) H'
def TFv (Γ:Gm)(m:kz->kt->kA (List ku)):TE:=λ σ H Q=>∃ φ ρ s l s',RE Γ φ H s.length ρ σ/\Rp Γ φ H s/\m ρ s=.ok l s'/\bJ1 Γ φ s H l s' Q
theorem aO7 {m:kz->kt->kA (List ku)}{σ:St}{H:Hp}{Q:VK}(h:TEv Γ (λ ρ s=>(m ρ s).bind λ l s=>li (.lst l) s) σ H Q):TFv Γ m σ H Q:=by
 obtain⟨φ,ρ,s,d,s',E,R,hm,q⟩:=h
 obtain⟨l,s1,e1,hm⟩:=aa0 hm
 obtain⟨rfl,rfl⟩:=qk hm
 refine⟨φ,ρ,s,l,s1,E,R,e1,λ p ys φ' H' g hl hb hp h0 ho r J=>?_⟩
 have gw:Gw φ' s1.length H' (λ i=>if i=s1.length then p else φ' i) H':=⟨λ i y=>if_neg (av y),Kp.refl _⟩
 have key:∀(i:Nat) (B:kR),(s1++[DV.O.lst l])[i]?=some B->(i<s1.length/\s1[i]?=some B)\/(i=s1.length/\B=.lst l):=λ i B e=>by
  rcases fw i s1.length with h|h|h
  ·rw[aB h]at e;exact .inl ⟨h,e⟩
  ·subst h;simp at e;exact .inr ⟨rfl,e.symm⟩
  ·rw[dR (by simp;omega)]at e;cases e
 have G:Gr φ s H (λ i=>if i=s1.length then p else φ' i) (s1++[.lst l]) H':=by
  refine⟨⟨λ i y=>by show(if i=s1.length then p else φ' i)=_;rw[if_neg (by omega)];exact g.w.map i y,g.w.kp⟩,by simp;omega,λ i h1 h2=>?_,λ i o B e e'=>?_,g.st,g.fr⟩
  ·by_cases y:i=s1.length
   ·show H (if i=s1.length then p else φ' i)=none
    rw[if_pos y];exact h0
   ·show H (if i=s1.length then p else φ' i)=none
    rw[if_neg y];exact g.new i h1 (by simp at h2;omega)
  ·rcases key i B e' with⟨_,e2⟩|⟨y,_⟩
   ·exact g.kd i o B e e2
   ·have:=(ae.mp e).1;omega
 have P:Rp Γ (λ i=>if i=s1.length then p else φ' i) H' (s1++[.lst l]):=by
  refine⟨λ i j oi Z Y ej mi mj e=>?_,λ i o e=>?_,λ i o e=>?_,J.tab⟩
  ·rcases key i oi Y with⟨y,Y⟩|⟨y,_⟩<;>rcases key j Z ej with⟨hj,ej⟩|⟨hj,_⟩
   ·rw[if_neg (av y),if_neg (av hj)]at e
    exact J.inj i j oi Z Y ej mi mj e
   ·rw[if_neg (av y),if_pos hj]at e
    exact absurd e (ho i oi Y mi)
   ·rw[if_neg (av hj),if_pos y]at e
    exact absurd e.symm (ho j Z ej mj)
   ·rw[y,hj]
  ·rcases key i o e with⟨y,e⟩|⟨y,rfl⟩
   ·show RO Γ _ _ (if i=s1.length then p else φ' i) o
    rw[if_neg (av y)]
    exact(J.obj i o e).mono gw (J.wf i o e) λ _ u hu=>hu
   ·show RO Γ _ _ (if i=s1.length then p else φ' i) _
    rw[if_pos y]
    exact⟨ys,hp,RVL.monoW gw l ys hb r⟩
  ·rw[aL,cN]
   rcases key i o e with⟨_,e⟩|⟨_,rfl⟩
   ·exact qg (d7 _) _ (J.wf i o e)
   ·exact qg (d7 _) _ (by unfold kD;exact hb)
 exact q (.ref p) _ H' G (by simp;omega) (by unfold kB;simp) (by unfold RV;simp) P
theorem by6 {φ:Nat->Addr}{H:Hp}{n:Nat}{ρ:kz}{σ:St}(E:RE Γ φ H n ρ σ)(h:List (Option Nat)):RE Γ φ H n (lp ρ h) (au3 h σ):=by
 refine⟨by unfold lp au3;simp,λ i d e=>?_⟩
 unfold lp at e
 rw[aJ]at e
 cases q:h[i]? with
 | none=>rw[q]at e;cases e
 | some o =>
  rw[q]at e
  cases o with
  | none=>cases e
  | some j =>
   have e':(ρ[j]?).join=some d:=aC e
   have ej:ρ[j]?=some (some d):=by
    cases q2:ρ[j]? with
    | none=>rw[q2]at e';cases e'
    | some o2=>rw[q2]at e';exact congrArg some e'
   obtain⟨b,v,B,y⟩:=E.val j d ej
   refine⟨b,v,?_,y⟩
   unfold au3
   rw[aJ,q]
   show some ((σ[j]?).join)=_
   rw[B];rfl
theorem aP2 {mI:kz->kt->kA lC}{mc me:kz->kt->kA ku}{tg:k7}{G:List (Option Nat)}{σ:St}{H:Hp}{Q:VK}
  (h:TFv Γ (λ ρ s=>(mI ρ s).bind λ q s0=>if q.its.length<=kF then lA (λ s=>lb s0 s q.src) (λ d ρ s=>match kO ρ tg d with
   | some ρ=>kH (mc ρ s) λ k s=>if k then(me ρ s).bind λ v s=>.ok (some v,ρ) s else .ok (none,ρ) s
   | none=>.bad) q.its (lp ρ G) s0 else .bad) σ H Q):tComp G (TIv Γ mI) (gOf Γ.K tg) (TTv Γ mc) (TEv Γ me) σ H Q:=by
 obtain⟨φ,ρ,s,l,s',E,R,hm,k⟩:=h
 obtain⟨q,s0,e1,hm⟩:=aa0 hm
 split at hm
 case isFalse=>exact fb hm
 rename_i hlim
 refine⟨φ,ρ,s,q,s0,E,R,e1,λ J φ1 H1 g1 l1 b1 R1 wk D hD=>?_⟩
 have h0:H D=none:=by
  cases e:H D with
  | none=>rfl
  | some o=>exact absurd hD (g1.st D (by rw[e];simp))
 refine⟨λ i m σ' H'=>∃ φ' ρ' t y ys rest,Gr φ1 s0 H1 φ' t H'/\Rp Γ φ' H' t/\RE Γ φ' H' t.length ρ' σ'/\H' D=some (.lst ys)/\Off φ' t D/\RVL Γ φ' H' y ys/\ky t.length y=true/\y.length<=i/\i<=q.its.length/\m=q.its.length - i /\
  lA (λ s=>lb s0 s q.src) (λ d ρ s=>match kO ρ tg d with
   | some ρ=>kH (mc ρ s) λ k s=>if k then(me ρ s).bind λ v s=>.ok (some v,ρ) s else .ok (none,ρ) s
   | none=>.bad) (q.its.drop i) ρ' t=.ok rest s'/\l=y++rest,⟨q.its.length,?_⟩,?_⟩
 ·obtain⟨g2,R2⟩:=R1.same (H':=upd H1 D (.lst [])) ((ad2.refl H1).new hD)
  exact⟨φ1,lp ρ G,s0,[],[],l,g2,R2,by6 ((E.mono g1 l1).mono g2 (aj _)) G,zb,Off.new R1 hD,.nil,rfl,aj _,dv _,by simp,by rw[e9];exact hm,rfl⟩
 ·rintro i m σ' H' ⟨φ',ρ',t,y,ys,rest,g,R',E',hy,a1,ra,ba,b4,hil,rfl,hc,hl⟩
  have B:=g.le
  rcases j9 i q.its.length with hlt|hge
  ·have hd:q.its[i]?=some q.its[i]:=am hlt
   rw[fg hlt]at hc
   unfold lA at hc
   split at hc
   case isFalse=>exact fb hc
   rename_i a2
   obtain⟨b2,a6⟩:=(wk φ' H' t g B R' a2 i).1 hlt
   refine .inr ⟨b2,_,λ σ2 H2 n=>⟨q.its.length - (i+1),by omega,n⟩,λ x H2 b0=>?_⟩
   obtain⟨sm,rv⟩:=a6 x H2 b0
   obtain⟨g2,R2⟩:=R'.same sm
   have rd:=rv _ hd
   have bd:(q.its[i]).bnd t.length=true:=zn B _ (af5 b1 hd)
   obtain⟨p,t3,hs,hc⟩:=aa0 hc
   obtain⟨r2,t4,a4,hc⟩:=aa0 hc
   cases hb:kO ρ' tg q.its[i]with
   | none=>rw[hb]at hs;cases hs
   | some ρ3 =>
    rw[hb]at hs
    refine br4 (E'.mono g2 (aj _)) rd bd hb λ σ3 E3=>?_
    obtain⟨c,t1,ec,hs⟩:=zU hs
    refine⟨φ',ρ3,t,c,t1,E3,R2,ec,λ φ2 H4 g4 l4 R4=>?_⟩
    have a5:H2 D=some (.lst ys):=sm _ _ hy
    have a3:H4 D=some (.lst ys):=g4.fr D _ a5 (by nofun) a1
    have Y:Off φ2 t1 D:=a1.mono g4 a5
    have G4:=(g.trans g2 B).trans g4 B
    cases c with
    | true =>
     rw[if_pos rfl]at hs
     refine iteT ?_
     obtain⟨v,t2,ev,hs⟩:=aa0 hs
     cases hs
     refine⟨φ2,ρ3,t1,v,t3,E3.mono g4 l4,R4,ev,λ w φ3 H5 g5 l5 b5 r5 R5=>?_⟩
     have Z:H5 D=some (.lst ys):=g5.fr D _ a3 (by nofun) Y
     have a0:Off φ3 t3 D:=Y.mono g5 a3
     refine⟨ys,Z,?_,?_⟩
     ·rw[ra.length]
      have:=qc
      omega
     ·have gw:Gw φ3 t3.length H5 φ3 (upd H5 D (.lst (ys++[w]))):=⟨λ _ _=>rfl,(Kp.refl H5).put Z rfl⟩
      have G5:=G4.trans g5 (ao B l4)
      have GG:=g2.trans (g4.trans g5 l4) (aj _)
      have b3:RVL Γ φ3 H5 y ys:=RVL.mono GG _ _ ba ra
      have bb:ky t3.length (y++[v])=true:=zY (aa2 GG.le _ ba) (by unfold ky;rw[b5];rfl)
      refine⟨φ3,ρ3,t3,y++[v],ys++[w],r2,G5.foreign hD Z,R5.foreign Z a0,?_,zb,a0,RVL.monoW gw _ _ bb (b3.append (.cons r5 .nil)),bb,by simp;omega,hlt,rfl,?_,?_⟩
      ·have E5:=(E3.mono g4 l4).mono g5 l5
       exact⟨E5.len,λ j e hj=>by
        obtain⟨h1,z,h2,h3⟩:=E5.val j e hj
        exact⟨h1,z,h2,RV.monoW gw _ _ h1 h3⟩⟩
      ·cases hc;exact a4
      ·cases hc;rw[hl];simp
    | false =>
     rw[if_neg aQ]at hs
     refine cb4 ?_
     cases hs
     have GG:=g2.trans g4 (aj _)
     exact⟨φ2,ρ3,t3,y,ys,r2,G4,R4,E3.mono g4 l4,a3,Y,RVL.mono GG _ _ ba ra,aa2 l4 _ ba,by omega,hlt,rfl,by cases hc;exact a4,by cases hc;exact hl⟩
  ·have hi:i=q.its.length:=by omega
   rw[gm hge]at hc
   unfold lA at hc
   split at hc
   case isFalse=>exact fb hc
   rename_i a2
   cases hc
   refine .inl ⟨(wk φ' H' s' g B R' a2 i).2 hge,?_⟩
   rw[a7]at hl
   subst hl
   exact k D ys φ' H' (g1.trans g l1) (ao l1 B) ba hy h0 a1 ra R'
variable {Γ:Gm} {X:Cx}
noncomputable def bY9 (Γ:Gm)(φ:Nat->Addr)(H:Hp)(n:Nat)(D:Ends):k8->Prop
 | .next ρ=>∀ σ,RE Γ φ H n ρ σ->D.nx σ H
 | .ret d=>∀ v,d.bnd n=true->RV Γ φ H d v->D.rt v H
 | .cont ρ=>∀ σ,RE Γ φ H n ρ σ->D.ct σ H
 | .brk ρ=>∀ σ,RE Γ φ H n ρ σ->D.bk σ H
def ak5 (Γ:Gm)(φ:Nat->Addr)(s:kt)(H:Hp)(c:k8)(s':kt)(D:Ends):Prop :=
 ∀ φ' H',Gr φ s H φ' s' H'->s.length<=s'.length->Rp Γ φ' H' s'->bY9 Γ φ' H' s'.length D c
def TSv (Γ:Gm)(m:kz->kt->kA k8):TS:=λ D σ H=>∃ φ ρ s c s',RE Γ φ H s.length ρ σ/\Rp Γ φ H s/\m ρ s=.ok c s'/\ak5 Γ φ s H c s' D
theorem PS.imp {e:Stmt}{t t':TS}(h:PS X e t)(i:∀ D σ H,t' D σ H->t D σ H):PS X e t':=λ y s σ H Q I q=>h y s σ H Q I (i Q σ H q)
theorem PSs.imp {e:List Stmt}{t t':TS}(h:PSs X e t)(i:∀ D σ H,t' D σ H->t D σ H):PSs X e t':=λ y s σ H Q I q=>h y s σ H Q I (i Q σ H q)
theorem ak5.trans {φ φ1:Nat->Addr}{s s1 s':kt}{H y:Hp}{c:k8}{D:Ends}(h:ak5 Γ φ s H c s' D)(g:Gr φ s H φ1 s1 y)(l:s.length<=s1.length):ak5 Γ φ1 s1 y c s' D :=
 λ φ' H' g' B p=>h φ' H' (g.trans g' l) (ao l B) p
theorem ak5.here {φ:Nat->Addr}{s:kt}{H:Hp}{c:k8}{D:Ends}(h:ak5 Γ φ s H c s D)(p:Rp Γ φ H s):bY9 Γ φ H s.length D c:=h φ H (Gr.refl φ s H) (aj _) p
variable {D:Ends} {σ:St} {H:Hp}
theorem br2 {m:kz->kt->kA k8}(y:∀ ρ s,m ρ s=.ok (.next ρ) s)(h:TSv Γ m D σ H):bK0 D σ H:=by
 obtain⟨φ,ρ,s,c,s',E,R,e,q⟩:=h
 rw[y]at e;cases e
 exact q.here R σ E
theorem bB5 {m:kz->kt->kA ku}(h:TSv Γ (λ ρ s=>(m ρ s).bind λ d s=>.ok (.ret d) s) D σ H):bZ4 (TEv Γ m) D σ H:=by
 obtain⟨φ,ρ,s,c,s',E,R,e,q⟩:=h
 obtain⟨x,s1,e1,e⟩:=aa0 e
 cases e
 exact⟨φ,ρ,s,x,_,E,R,e1,λ v φ1 y g1 l1 B r1 R1=>q φ1 y g1 l1 R1 v B r1⟩
theorem bu3 {m:kz->kt->kA ku}(h:TSv Γ (λ ρ s=>(m ρ s).bind λ _ s=>.ok (.next ρ) s) D σ H):bA1 (TEv Γ m) D σ H:=by
 obtain⟨φ,ρ,s,c,s',E,R,e,q⟩:=h
 obtain⟨x,s1,e1,e⟩:=aa0 e
 cases e
 exact⟨φ,ρ,s,x,_,E,R,e1,λ v φ1 y g1 l1 B r1 R1=>q φ1 y g1 l1 R1 σ (E.mono g1 l1)⟩
theorem aN5 {m:kz->kt->kA ku}{tg:k7}(h:TSv Γ (λ ρ s=>(m ρ s).bind λ d s=>match kO ρ tg d with|some ρ=>.ok (.next ρ) s|none=>.bad) D σ H):aY8 (TEv Γ m) (gOf Γ.K tg) D σ H:=by
 obtain⟨φ,ρ,s,c,s',E,R,e,q⟩:=h
 obtain⟨x,s1,e1,e⟩:=aa0 e
 refine⟨φ,ρ,s,x,s1,E,R,e1,λ v φ1 y g1 l1 B r1 R1=>?_⟩
 cases hb:kO ρ tg x with
 | none=>rw[hb]at e;cases e
 | some ρ1 =>
  rw[hb]at e
  cases e
  exact br4 (E.mono g1 l1) r1 B hb λ σ' G=>q φ1 y g1 l1 R1 σ' G
theorem be7 {m:kz->kt->kA (List ku)}(h:TSv Γ (λ ρ s=>((m ρ s).bind λ l s=>li (.lst l) s).bind λ d s=>match kO ρ tg d with|some ρ=>.ok (.next ρ) s|none=>.bad) D σ H):aY8 (TFv Γ m) (gOf Γ.K tg) D σ H :=
 aO7 (aN5 h)
def bA4 (Γ:Gm):bN7:=λ o i v H Q=>∃ φ s x y d s',Rp Γ φ H s/\RV Γ φ H x o/\RV Γ φ H y i/\RV Γ φ H d v/\x.bnd s.length=true/\y.bnd s.length=true/\d.bnd s.length=true/\DV.setIx x y d s=.ok () s' /\
 ∀ φ' H',Gr φ s H φ' s' H'->s.length<=s'.length->Rp Γ φ' H' s'->Q H'
theorem bc1 {me mo mi:kz->kt->kA ku}(h:TSv Γ (λ ρ s=>(me ρ s).bind λ d s=>(mo ρ s).bind λ x s=>(mi ρ s).bind λ y s=>(DV.setIx x y d s).bind λ _ s=>.ok (.next ρ) s) D σ H) :
  aY8 (TEv Γ me) (bX1 (TEv Γ mo) (TEv Γ mi) (bA4 Γ)) D σ H:=by
 obtain⟨φ,ρ,s,c,s',E,R,e,q⟩:=h
 obtain⟨d,s1,e1,e⟩:=aa0 e
 obtain⟨x,s2,e2,e⟩:=aa0 e
 obtain⟨y,s3,e3,e⟩:=aa0 e
 obtain⟨u,s4,e4,e⟩:=aa0 e
 cases e
 refine⟨φ,ρ,s,d,s1,E,R,e1,λ v1 φ1 H1 g1 l1 b1 r1 R1=>?_⟩
 refine⟨φ1,ρ,s1,x,s2,E.mono g1 l1,R1,e2,λ v2 φ2 H2 g2 G b2 r2 R2=>?_⟩
 have G2:=g1.trans g2 l1
 have L2:=ao l1 G
 refine⟨φ2,ρ,s2,y,s3,E.mono G2 L2,R2,e3,λ v3 φ3 H3 B J b3 r3 R3=>?_⟩
 refine⟨φ3,s3,x,y,d,_,R3,RV.mono B x v2 b2 r2,r3,RV.mono (g2.trans B G) d v1 b1 r1,zn J x b2,b3,zn (ao G J) d b1,e4,λ φ4 H4 Y l4 R4=>?_⟩
 have Z:=G2.trans B L2
 have L3:=ao L2 J
 exact q φ4 H4 (Z.trans Y L3) (ao L3 l4) R4 σ (E.mono (Z.trans Y L3) (ao L3 l4))
theorem bC9 (hu:X.A.units+1<cLine):bV4 X (bA4 Γ):=by
 intro a0 sh σ H o i v ov iv u Q I ro ri rv h
 obtain⟨φ,s,x,y,d,s',R,rx,ry,rd,bx,a1,bd,B,q⟩:=h
 cases x with
 | ref r =>
  have B:(match s[r]? with
   | some (.lst l)=>(match y with
    | .int i=>(match lj l.length i with|some j=>DV.R.ok () (s.set r (.lst (l.set j d)))|none=>.bad)
    | _=>.bad)
   | some (.dic l)=>if y.key&&decide (l.length<kF)then .ok () (s.set r (.dic (kJ y d l)))else .bad
   | some (.dit l)=>if y.keyT&&decide (l.length<kF)then .ok () (s.set r (.dit (kJ y d l)))else .bad
   | _=>.bad)=.ok () s':=B
  cases e:s[r]? with
  | none=>rw[e]at B;cases B
  | some ob =>
   rw[e]at B
   cases ob with
   | lst l =>
    cases y with
    | int k =>
     have B:(match lj l.length k with|some j=>DV.R.ok () (s.set r (.lst (l.set j d)))|none=>.bad)=.ok () s':=B
     cases ej:lj l.length k with
     | none=>rw[ej]at B;cases B
     | some j =>
      rw[ej]at B
      cases B
      obtain⟨xs,Z,G⟩:=R.addr e
      have hb:ky s.length (l.set j d)=true:=aa5.mpr λ z hz=>by
       rcases fh hz with h|h
       ·exact aa5.mp (by have:=R.wf r _ e;unfold kD at this;exact this) z h
       ·subst h;exact bd
      refine be8 a0 sh σ H o i v ov iv u Q I ro ri rv ⟨φ r,xs,k,j,rx.refE,ry.intE,Z,?_,?_⟩
      ·rw[G.length];exact ej
      ·obtain⟨g,R'⟩:=R.set (o:=.lst (l.set j d)) (u:=.lst (xs.set j v)) e rfl hb λ H' g e=>⟨_,e,RVL.monoW g _ _ hb (G.set j rd)⟩
       exact q _ _ g (by simp) R'
    | _=>exact fb B
   | dic l =>
    have B:(if y.key&&decide (l.length<kF)then DV.R.ok () (s.set r (.dic (kJ y d l)))else .bad)=.ok () s':=B
    split at B
    case isFalse=>exact fb B
    rename_i hc
    cases B
    rw[ag]at hc
    obtain⟨k,hk⟩:=ar9 hc.1
    have hlt:=of_decide_eq_true hc.2
    obtain⟨Y,Z,G⟩:=R.obj r _ e
    have ex:=rx.refE;subst ex
    cases ro
    have ey:=aI2 hk ry;subst ey
    have hb:(DV.O.dic (kJ y d l)).bnd s.length=true:=aH6 (R.wf r _ e) a1 bd
    have J:ky s.length ((kJ y d l).map (·.2))=true:=by
     unfold kD at hb
     rw[ag]at hb
     exact hb.2
    obtain⟨g,R'⟩:=R.set (o:=.dic (kJ y d l)) (u:=.dK (ao1 Y k v)) e rfl hb λ H' g e=>⟨_,e,RVD.monoW g _ _ J (G.put keyOf_inj hk rd)⟩
    exact ax3 hu I (bo8.k Z (by rw[G.length];exact aq hlt qc)) ri rv λ s4 I4=>⟨_,I4,q _ _ g (by simp) R'⟩
   | dit l =>
    have B:(if y.keyT&&decide (l.length<kF)then DV.R.ok () (s.set r (.dit (kJ y d l)))else .bad)=.ok () s':=B
    split at B
    case isFalse=>exact fb B
    rename_i hc
    cases B
    rw[ag]at hc
    obtain⟨k,hk⟩:=ax8 hc.1
    have hlt:=of_decide_eq_true hc.2
    obtain⟨Y,Z,G⟩:=R.obj r _ e
    have ex:=rx.refE;subst ex
    cases ro
    obtain⟨kb,ey,a2⟩:=aV7 hk ry;subst ey
    have hb:(DV.O.dit (kJ y d l)).bnd s.length=true:=bf1 (R.wf r _ e) a1 bd
    have J:ky s.length ((kJ y d l).map (·.2))=true:=by
     unfold kD at hb
     rw[ag]at hb
     exact hb.2
    obtain⟨g,R'⟩:=R.set (o:=.dit (kJ y d l)) (u:=.dT (ao1 Y k v)) e rfl hb λ H' g e=>⟨_,e,RVD.monoW g _ _ J (G.put keyT_inj hk rd)⟩
    exact ax3 hu I (bo8.t Z a2 (by rw[G.length];exact aq hlt qc)) ri rv λ s4 I4=>⟨_,I4,q _ _ g (by simp) R'⟩
   | _=>exact fb B
 | _=>exact fb B
theorem bU7 {mc:kz->kt->kA ku}{G B:kz->kt->kA k8}(h:TSv Γ (λ ρ s=>kH (mc ρ s) λ k s=>if k then G ρ s else B ρ s) D σ H):bY3 (TTv Γ mc) (TSv Γ G) (TSv Γ B) D σ H:=by
 obtain⟨φ,ρ,s,d,s',E,R,y,q⟩:=h
 obtain⟨c,s1,e1,y⟩:=zU y
 refine⟨φ,ρ,s,c,s1,E,R,e1,λ φ1 J g1 l1 R1=>?_⟩
 cases c with
 | true =>
  rw[if_pos rfl]at y ⊢
  exact⟨φ1,ρ,s1,d,s',E.mono g1 l1,R1,y,q.trans g1 l1⟩
 | false =>
  rw[if_neg aQ]at y ⊢
  exact⟨φ1,ρ,s1,d,s',E.mono g1 l1,R1,y,q.trans g1 l1⟩
theorem bH5 {Y J:kz->kt->kA k8}(h:TSv Γ (λ ρ s=>(Y ρ s).bind λ c s=>match c with|.next ρ=>J ρ s|c=>.ok c s) D σ H):bY4 (TSv Γ Y) (TSv Γ J) D σ H:=by
 obtain⟨φ,ρ,s,c,s',E,R,y,q⟩:=h
 obtain⟨G,s1,e1,y⟩:=aa0 y
 refine⟨φ,ρ,s,G,s1,E,R,e1,λ φ1 B g1 l1 R1=>?_⟩
 cases G with
 | next ρ1=>exact λ σ1 Z=>⟨φ1,ρ1,s1,c,s',Z,R1,y,q.trans g1 l1⟩
 | ret d=>cases y;exact q φ1 B g1 l1 R1
 | cont ρ=>cases y;exact q φ1 B g1 l1 R1
 | brk ρ=>cases y;exact q φ1 B g1 l1 R1
theorem aZ0 {mc:kz->kt->kA ku}{J:kz->kt->kA k8}(h:TSv Γ (DV.whl mc J) D σ H):bh5 (TTv Γ mc) (TSv Γ J) D σ H:=by
 obtain⟨φ,ρ,s,c,s',E,R,y,q⟩:=h
 unfold DV.whl at y
 split at y
 case isFalse=>exact fb y
 rename_i hn
 generalize hn.choose=n at y
 refine⟨λ n σ H=>∃ φ ρ s,RE Γ φ H s.length ρ σ/\Rp Γ φ H s/\DV.ag8 mc J n ρ s=.ok c s'/\ak5 Γ φ s H c s' D,⟨n,φ,ρ,s,E,R,y,q⟩,?_⟩
 clear E R y q hn
 rintro n σ H ⟨φ,ρ,s,E,R,y,q⟩
 cases n with
 | zero=>exact fb y
 | succ n =>
  unfold DV.ag8 at y
  obtain⟨b,s1,e1,y⟩:=zU y
  refine⟨φ,ρ,s,b,s1,E,R,e1,λ φ1 Z g1 l1 R1=>?_⟩
  cases b with
  | false =>
   rw[if_neg aQ]at y ⊢
   cases y
   exact q φ1 Z g1 l1 R1 σ (E.mono g1 l1)
  | true =>
   rw[if_pos rfl]at y ⊢
   obtain⟨Y,s2,e2,y⟩:=aa0 y
   refine⟨_,λ σ' H' w=>⟨n,cZ n,w⟩,φ1,ρ,s1,Y,s2,E.mono g1 l1,R1,e2,λ φ2 H2 g2 l2 R2=>?_⟩
   have G:=g1.trans g2 l1
   have L:=ao l1 l2
   cases Y with
   | next ρ1=>exact λ σ1 B=>⟨φ2,ρ1,s2,B,R2,y,q.trans G L⟩
   | cont ρ1=>exact λ σ1 B=>⟨φ2,ρ1,s2,B,R2,y,q.trans G L⟩
   | ret d=>cases y;exact q φ2 H2 G L R2
   | brk ρ=>cases y;exact q φ2 H2 G L R2
theorem bK7 {mI : DV.Env -> DV.Sto -> DV.R DV.Sq} {mb : DV.Env -> DV.Sto -> DV.R DV.Ct} {tg : DV.Tg} (h : TSv Γ (λ ρ s => (mI ρ s).bind λ q s0 => DV.aM2 (λ s => DV.chk s0 s q.src) (λ d ρ s => match DV.ac8 ρ tg d with
      | some ρ => mb ρ s
      | none => .bad) q.its ρ s0) D σ H) : bX4 (TIv Γ mI) (gOf Γ.K tg) (TSv Γ mb) D σ H := by
  obtain⟨φ, ρ, s, c, s', E, R, hm, k⟩ := h
  obtain⟨q, s0, e1, hm⟩ := aa0 hm
  refine⟨φ, ρ, s, q, s0, E, R, e1, λ J φ1 H1 g1 l1 b1 R1 wk => ?_⟩
  refine⟨λ i m σ' H' => ∃ φ' ρ' t, Gr φ1 s0 H1 φ' t H' /\ Rp Γ φ' H' t /\ RE Γ φ' H' t.length ρ' σ' /\ i <= q.its.length /\ m = q.its.length - i /\
    lR (λ s => lb s0 s q.src) (λ d ρ s => match kO ρ tg d with
      | some ρ => mb ρ s
      | none => .bad) (q.its.drop i) ρ' t = .ok c s', ⟨q.its.length, ?_⟩, ?_⟩
  · exact⟨φ1, ρ, s0, Gr.refl _ _ _, R1, E.mono g1 l1, dv _, by simp, by rw[e9]; exact hm⟩
  · rintro i m σ' H' ⟨φ', ρ', t, g, R', E', hil, rfl, hc⟩
    have hle := g.le
    rcases j9 i q.its.length with hlt|hge
    · have hd : q.its[i]? = some q.its[i] := am hlt
      rw[fg hlt]at hc
      unfold lR at hc
      split at hc
      case isFalse => exact fb hc
      rename_i hck
      obtain⟨hgo, hy2⟩ := (wk φ' H' t g hle R' hck i).1 hlt
      refine .inr ⟨hgo, _, λ σ2 H2 n => ⟨q.its.length - (i + 1), by omega, n⟩, λ x H2 hyl => ?_⟩
      obtain⟨sm, rv⟩ := hy2 x H2 hyl
      obtain⟨g2, R2⟩ := R'.same sm
      have rd := rv _ hd
      have bd : (q.its[i]).bnd t.length = true := zn hle _ (af5 b1 hd)
      obtain⟨c1, t3, hs, hc⟩ := aa0 hc
      cases hb : kO ρ' tg q.its[i]with
      | none => rw[hb]at hs; cases hs
      | some ρ3 =>
        rw[hb]at hs
        refine br4 (E'.mono g2 (aj _)) rd bd hb λ σ3 E3 => ?_
        refine⟨φ', ρ3, t, c1, t3, E3, R2, hs, λ φ2 H4 g4 l4 R4 => ?_⟩
        have G4 := (g.trans g2 hle).trans g4 hle
        have L4 := ao hle l4
        have GG := g1.trans G4 l1
        cases c1 with
        | next ρ1 => exact λ σ1 E1 => ⟨φ2, ρ1, t3, G4, R4, E1, hlt, rfl, hc⟩
        | cont ρ1 => exact λ σ1 E1 => ⟨φ2, ρ1, t3, G4, R4, E1, hlt, rfl, hc⟩
        | ret d => cases hc; exact k φ2 H4 GG (ao l1 L4) R4
        | brk ρ => cases hc; exact k φ2 H4 GG (ao l1 L4) R4
    · rw[gm hge]at hc
      unfold lR at hc
      split at hc
      case isFalse => exact fb hc
      rename_i hck
      cases hc
      exact .inl ⟨(wk φ' H' s' g hle R' hck i).2 hge, k φ' H' (g1.trans g l1) (ao l1 hle) R' σ' E'⟩
structure Ck where
 N:List Str
 sc:Scope
 lk:String->List Nat->Expr->Bool
noncomputable abbrev ck0 (N:List Str)(sc:Scope):Ck:=⟨N,sc,λ _ _ _=>false⟩
noncomputable def Ck.vis (c:Ck)(x:Str):Bool:=match c.sc.names.lookup x with|some .local=>true|some .cell=>true|some .free=>true|_=>false
noncomputable def Ck.loc (c:Ck)(x:Str):Bool:=match c.sc.names.lookup x with|some .local=>true|some .cell=>true|_=>false
noncomputable def Ck.gl (c:Ck)(x:Str):Bool:=(match c.sc.names.lookup x with|some .globalImplicit=>true|_=>false)&&!(x==("__debug__":Str))&&!decide (x=("__name__":Str))
noncomputable def Ck.var (c:Ck)(i:Nat)(x:Str):Bool:=decide (c.N[i]?=some x)&&c.vis x&&!(x==("__debug__":Str))&&!(x==("__classdict__":Str))
noncomputable def shp:Expr->Bool
 | .Starred ..=>false
 | .Set ..=>false
 | .SetComp ..=>false
 | .DictComp ..=>false
 | .GeneratorExp ..=>false
 | .Slice ..=>false
 | .NamedExpr ..=>false
 | _=>true
noncomputable def av6:Expr->Bool
 | .ListComp ..=>false
 | .SetComp ..=>false
 | .DictComp ..=>false
 | _=>true
noncomputable def be4:Expr->Bool
 | .Tuple ..=>false
 | _=>true
noncomputable def bC7:Expr->Bool
 | .Call _ [] [] _=>false
 | _=>true
noncomputable def mC:DV.Cn->Const->Bool
 | .non,.none=>true
 | .bl b,.bool c=>b==c
 | .int i,.int j=>decide (i=j)
 | .str x,.str y=>decide (y=⟨x.toArray⟩)&&decide (x.length<=1000)
 | _,_=>false
noncomputable def bN0 (ck:Ck):List Nat->List Expr->Bool
 | [],[]=>true
 | i::is,.Name x _::es=>decide (ck.N[i]?=some x)&&ck.loc x&&bN0 ck is es
 | _,_=>false
noncomputable def mTg (ck:Ck):k7->Expr->Bool
 | .one i,.Name x _=>decide (ck.N[i]?=some x)&&ck.loc x
 | .tup is,.Tuple es _ _=>bN0 ck is es
 | _,_=>false
noncomputable def tgN:Expr->List Str
 | .Name x _=>[x]
 | .Tuple es _ _=>es.filterMap λ e=>match e with|.Name x _=>some x|_=>none
 | _=>[]
structure ItT where
 x:Str
 y:Str
 ob:Expr
 sc:Scope
 p1:Pos
 p2:Pos
 p3:Pos
 p4:Pos
 p5:Pos
 p6:Pos
 p7:Pos
 k1:Nat
 k2:Nat
 ap:Pos
 cp:Pos
 pos:Pos
noncomputable def ItT.tg (q:ItT):Expr:=.Tuple [.Name q.x q.p5,.Name q.y q.p6] q.k2 q.p7
noncomputable def ItT.it (q:ItT):Expr:=.Call (.Attribute q.ob "items" q.ap) [] [] q.cp
noncomputable def ItT.text (q:ItT):Expr:=.ListComp (.BinOp (.Name q.x q.p1) .Add (.Tuple [.Name q.y q.p2] q.k1 q.p3) q.p4) [⟨q.tg,q.it,[],0⟩] q.sc q.pos
noncomputable def ckC (ck:Ck)(tgt:Expr)(caps:List (Option Nat))(scope:Scope):Ck:=⟨tgN tgt++(caps.filterMap id).map λ j=>ck.N.getD j "",scope,λ _ _ _=>false⟩
noncomputable def aK8 (ck:Ck)(tg:k7)(tgt iter:Expr)(caps:List (Option Nat))(scope:Scope):Bool :=
 z9 (ckC ck tgt caps scope).N caps scope ck.N ck.sc&&decide ((ckC ck tgt caps scope).N.Nodup)&&mTg (ckC ck tgt caps scope) tg tgt&&shp iter
noncomputable def biT:k6->Option Str
 | .len=>some "len" | .abs=>some "abs" | .min2=>some "min" | .max2=>some "max" | .int=>some "int" | _=>none
noncomputable def biK:k6->Option (Nat×Str)
 | .isInt=>some (1, "int")|.isBool=>some (2, "bool")|.isStr=>some (3, "str")|.isTup=>some (4, "tuple")|.isList=>some (5, "list")|_=>none
noncomputable def mkT:lJ->Option Str
 | .tuple=>some "tuple" | .list=>some "list" | _=>none
noncomputable def mkF:lJ->Option Str
 | .all=>some "all" | .min=>some "min" | _=>none
noncomputable def mtT:lK->Option (Str×Nat)
 | .append=>some ("append",1)|.pop=>some ("pop",0)|_=>none
noncomputable def bf7:lf->Bool
 | .nil=>false
 | .ex _ as=>bf7 as
 | .lam _ _ _=>true
 | .fn _ as=>bf7 as
noncomputable def bN8 (ck:Ck)(b:k6)(x:Str)(xs:List Expr)(m1 m2:Bool):Bool:=match biK b with
 | some p=>(match xs with|[_,.Name y _]=>decide (x=("isinstance":Str))&&ck.gl x&&decide (y=p.2)&&ck.gl y&&m2|_=>false)
 | none=>(match xs with|_::_=>decide (biT b=some x)&&ck.gl x&&m1|[]=>false)
mutual
noncomputable def mE (ck:Ck):lB->Expr->Bool
 | .var i,E=>match E with|.Name x _=>ck.var i x|_=>false
 | .cst c,E=>match E with|.Constant v _ _=>mC c v|_=>false
 | .glob g,E=>match E with|.Name x _=>decide (x=(g:Str))&&ck.gl x|_=>false
 | .bin op a b,E=>match E with|.BinOp l o r _=>decide (o=bO7 op)&&mE ck a l&&mE ck b r|_=>false
 | .neg a,E=>match E with|.UnaryOp .USub l _=>mE ck a l|_=>false
 | .not a,E=>match E with|.UnaryOp .Not l _=>mE ck a l|_=>false
 | .cmp op a b,E=>match E with|.Compare l [o] [r] _=>decide (o=bt6 op)&&mE ck a l&&mE ck b r|_=>false
 | .chain _ _ _ _ _,_=>false
 | .isN _,_=>false
 | .notN _,_=>false
 | .isB _ _,_=>false
 | .notB _ _,_=>false
 | .and a b,E=>match E with
  | .BoolOp .And [l,r] _=>mE ck a l&&mE ck b r
  | .BoolOp .And (l::m::r::es) p=>mE ck a l&&mE ck b (.BoolOp .And (m::r::es) p)
  | _=>false
 | .or a b,E=>match E with
  | .BoolOp .Or [l,r] _=>mE ck a l&&mE ck b r
  | .BoolOp .Or (l::m::r::es) p=>mE ck a l&&mE ck b (.BoolOp .Or (m::r::es) p)
  | _=>false
 | .ite c a b,E=>match E with|.IfExp t l r _=>mE ck c t&&mE ck a l&&mE ck b r|_=>false
 | .tup es,E=>match E with|.Tuple xs _ _=>mEs ck es xs&&decide (xs.length<=1000)|_=>false
 | .lst es,E=>match E with|.List xs _=>mEs ck es xs&&decide (xs.length<=1000)|_=>false
 | .dic ks vs,E=>match E with|.Dict a b _=>(match a,b with|[],[]=>mEs ck ks []&&mEs ck vs []|[some x],[y]=>mEs ck ks [x]&&mEs ck vs [y]|_,_=>false)|_=>false
 | .slL _ _,_=>false
 | .slU a hi,E=>match E with|.Subscript o (.Slice none (some h) none _) _=>mE ck a o&&mE ck hi h|_=>false
 | .slLU _ _ _,_=>false
 | .rev _,_=>false
 | .bitl _,_=>false
 | .lrng _,_=>false
 | .dicT,_=>false
 | .get2 _ _ _,_=>false
 | .ix a b,E=>match E with|.Subscript o i _=>mE ck a o&&mE ck b i|_=>false
 | .call f as,E=>match E with|.Call (.Name x _) xs [] _=>decide (x=(f:Str))&&ck.gl x&&mAs ck as xs|_=>false
 | .callC f as,E=>match E with|.Call (.Name x _) (y::ys) [] _=>decide (x=(f:Str))&&ck.gl x&&bf7 as&&bx5 ck as (y::ys)|_=>false
 | .callV i es,E=>match E with|.Call (.Name x _) (y::ys) [] _=>ck.var i x&&mEs ck es (y::ys)|_=>false
 | .bi b es,E=>match E with|.Call (.Name x _) xs [] _=>bN8 ck b x xs (mEs ck es xs) (mEs ck es (xs.take 1))|_=>false
 | .mk k l,E=>match E with
  | .Call (.Name x _) [a] [] _=>ck.gl x&&shp a&&((decide (mkT k=some x)&&mL ck 2 l a)||(decide (mkF k=some x)&&mL ck 1 l a))
  | .ListComp e gs sc p=>decide (k=.list)&&mL ck 0 l (.ListComp e gs sc p)
  | _=>false
 | .mkD _ _ _,_=>false
 | .meth m o es,E=>match E with
  | .Call (.Attribute ob x ap) xs [] cp=>decide (mtT m=some (x,xs.length))&&bC7 ob&&(ap.endLine==cp.line)&&mE ck o ob&&mEs ck es xs
  | _=>false
 | .ext _ _,_=>false
 | .extS _ _,_=>false
 | .mks _ _,_=>false
 | .mkDs _ _ _,_=>false
 | .join o e,E=>match E with
  | .Call (.Attribute ob x ap) [a] [] cp=>decide (x=("join":Str))&&bC7 ob&&(ap.endLine==cp.line)&&mE ck o ob&&mE ck e a&&shp a
  | _=>false
noncomputable def mEs (ck:Ck):kP->List Expr->Bool
 | .nil,xs=>match xs with|[]=>true|_=>false
 | .cons e es,xs=>match xs with|x::xs=>mE ck e x&&shp x&&mEs ck es xs|_=>false
noncomputable def mAs (ck:Ck):lf->List Expr->Bool
 | .nil,xs=>match xs with|[]=>true|_=>false
 | .ex e es,xs=>match xs with|x::xs=>mE ck e x&&shp x&&mAs ck es xs|_=>false
 | .lam _ _ _,_=>false
 | .fn _ _,_=>false
noncomputable def bx5 (ck:Ck):lf->List Expr->Bool
 | .nil,xs=>match xs with|[]=>true|_=>false
 | .ex e es,xs=>match xs with|x::xs=>mE ck e x&&shp x&&bx5 ck es xs|_=>false
 | .lam id caps es,xs=>match xs with|x::xs=>ck.lk id caps x&&shp x&&bx5 ck es xs|_=>false
 | .fn _ _,_=>false
noncomputable def mI (ck:Ck)(tgt:Expr):DV.I->Expr->Bool
 | .rng1 a,E=>match E with|.Call (.Name x _) [l] [] _=>decide (x=("range":Str))&&ck.gl x&&mE ck a l&&shp l|_=>false
 | .rng2 _ _,_=>false
 | .seq e,x=>mE ck e x&&shp x
 | .rng3 _ _ _,_=>false
 | .enum (.seq _),_=>false
 | .zip (.seq _) (.seq _),_=>false
 | .enum _,_=>false
 | .zip _ _,_=>false
 | .items _,_=>false
noncomputable def mL (ck:Ck)(k:Nat):DV.L->Expr->Bool
 | .comp tg it e caps,E=>match E with|.ListComp elt [⟨tgt,iter,[],z⟩] scope _=>decide (z=0)&&aK8 ck tg tgt iter caps scope&&mI ck tgt it iter&&mE (ckC ck tgt caps scope) e elt|_=>false
 | .compIf tg it c e caps,E=>match E with|.ListComp elt [⟨tgt,iter,[i],z⟩] scope _=>decide (z=0)&&aK8 ck tg tgt iter caps scope&&mI ck tgt it iter&&mE (ckC ck tgt caps scope) c i&&mE (ckC ck tgt caps scope) e elt|_=>false
 | .disp es,E=>match E with|.List xs _=>decide (1<=k)&&mEs ck es xs&&decide (xs.length<=1000)|_=>false
 | .seq e,x=>decide (k=2)&&mE ck e x
 | .itm _,_=>false
end
theorem ff {p:Prop}(h:false=true):p:=Bool.noConfusion h
noncomputable def bl3:a9->Bool
 | ⟨[], args, none, [], [], none, []⟩ => args.all λ y => y.annotation.isNone
 | _=>false
noncomputable def bW7:List Stmt->Option (Str×a9×Expr×Pos×Scope×Pos×List Stmt)
 | .FunctionDef nm params [.Return (some b) rp] [] none [] scope none nm' pos::xs=>if nm'=nm then some (nm,params,b,rp,scope,pos,xs)else none
 | _=>none
noncomputable def ca3 (nm:Str):List Stmt->Option (Str×Pos×Expr×Pos×Pos×Pos)
 | [.Return (some (.Call (.Name g gp) [a,.Name x p2] [] cp)) rp2]=>if x=nm then some (g,gp,a,p2,cp,rp2)else none
 | _=>none
noncomputable def bU2:lZ->lL->Option (Nat×String×lB×String×List Nat)
 | .und i,.cons (.ret (.callC g (.ex e (.lam id caps .nil)))) .nil=>some (i,g,e,id,caps)
 | _,_=>none
noncomputable def by7 (ck:Ck)(s:lZ)(ss:lL)(S:List Stmt):Bool :=
 (bU2 s ss).any λ d=>(bW7 S).any λ q=>(ca3 q.1 q.2.2.2.2.2.2).any λ r =>
  decide (ck.N[d.1]?=some q.1)&&ck.loc q.1&&ck.var d.1 q.1&&ck.lk d.2.2.2.1 d.2.2.2.2 (.NamedExpr (.Name q.1 q.2.2.2.1) (.Lambda q.2.1 q.2.2.1 q.2.2.2.2.1 q.2.2.2.2.2.1) q.2.2.2.2.2.1)&&decide (r.1=(d.2.1:Str))&&ck.gl r.1&&mE ck d.2.2.1 r.2.2.1&&shp r.2.2.1&&bl3 q.2.1
mutual
noncomputable def mS (ck:Ck):lZ->Stmt->Bool
 | .asg tg e,S=>match S with
  | .Assign [t] v _=>mTg ck tg t&&mE ck e v&&(match tg with|.one _=>true|.tup _=>be4 v&&av6 v)
  | _=>false
 | .setIx o i e,S=>match S with|.Assign [.Subscript ob ix _] v _=>mE ck o ob&&mE ck i ix&&mE ck e v&&av6 v&&be4 v|_=>false
 | .aug _ _,_=>false
 | .ex e,S=>match S with|.Expr v _=>mE ck e v&&av6 v|_=>false
 | .ret e,S=>match S with|.Return (some v) _=>mE ck e v|_=>false
 | .retN,_=>false
 | .ite c a b,S=>match S with|.If t l r _=>mE ck c t&&mSs ck a l&&mSs ck b r|_=>false
 | .whl c b,S=>match S with|.While t l [] _=>mE ck c t&&mSs ck b l|_=>false
 | .for_ tg it b,S=>match S with|.For tgt iter l [] _=>mTg ck tg tgt&&mI ck tgt it iter&&mSs ck b l|_=>false
 | .pass,_=>false
 | .cont,_=>false
 | .brk,_=>false
 | .raise,_=>true
 | .und _,_=>false
noncomputable def mSs (ck:Ck):lL->List Stmt->Bool
 | .nil,xs=>match xs with|[]=>true|_=>false
 | .cons s ss,xs=>match xs with|x::xs=>by7 ck s ss (x::xs)||(mS ck s x&&mSs ck ss xs)|_=>false
end
theorem aG8 {y:Ck}{e:lB}{E:Expr}(h:mE y e E=true):shp E=true:=by
 cases E<;>first|rfl|(exfalso;cases e<;>exact ff h)
theorem bH2 {B:Ck}{y:Expr}{e:DV.I}{E:Expr}(h:mI B y e E=true):shp E=true:=by
 cases e with
 | seq e=>have h:(mE B e E&&shp E)=true:=h;rw[ag]at h;exact h.2
 | enum a=>cases E<;>first|rfl|(exfalso;cases a<;>exact ff h)
 | zip a b=>cases E<;>first|rfl|(exfalso;cases a<;>first|exact ff h|(cases b<;>exact ff h))
 | _=>cases E<;>first|rfl|exact ff h
theorem zd {e:Expr}{es:List Expr}{env:Env}(h:shp e=true):bo (e::es) env=(false,eval e env)::bo es env:=by
 cases e<;>first|rfl|cases h
theorem zz {env:Env}{pos:Pos}:∀ {es:List Expr},(∀ e∈es,shp e=true)->(dC pos (bo es env)).any (·.1)=false/\(dC pos (bo es env)).all (λ x=>!x.1)=true
 | [],_=>⟨rfl,rfl⟩
 | e::es,h=>by
  have G:=zd (es:=es) (env:=env) (h e (aw ..))
  obtain⟨y,B⟩:=zz (env:=env) (pos:=pos) (es:=es) λ x hx=>h x (ai _ hx)
  rw[G]
  unfold dC at y B ⊢
  simp only[aI,dY,dg,y,B]
  exact⟨rfl,rfl⟩
theorem ay8 {e:Expr}{env:Env}(h:shp e=true)(x:Value):cQ e env x=pure x:=by
 cases e<;>first|rfl|cases h
theorem ax9 {e:Expr}{op:CmpOp}(h:shp e=true):ip op e=false:=by
 cases e<;>first|rfl|cases h
theorem al8 {e:Expr}{t:Option Expr}{l:Nat}{env:Env}(h:av6 e=true):eP e t l env=pure false:=by
 cases e<;>first|rfl|cases h
theorem aA7 {e:Expr}{f:Str}{env:Env}(h:bC7 e=true):fF e f env (eval e env)=eval e env:=by
 cases e with
 | Call g a k p =>
  cases g with
  | Name x p' =>
   cases a with
   | nil=>cases k with
    | nil=>cases h
    | cons _ _=>rfl
   | cons _ _=>rfl
  | _=>rfl
 | _=>rfl
theorem aJ5 {es:List Expr}{k:Nat}{p:Pos}{e:Expr}{env:Env}(h:be4 e=true):io [.Tuple es k p] e env=pure none:=by
 cases e<;>first|rfl|cases h
theorem aI7 {o i:Expr}{p:Pos}{e:Expr}{env:Env}(h:be4 e=true):io [.Subscript o i p] e env=pure none:=by
 cases e<;>first|rfl|cases h
theorem aK9 {e:Expr}(h:shp e=true):aT0 e:=by
 intro o i
 cases e<;>first|rfl|cases h
def spV (Γ:Gm)(c:List ku->kt->kA ku):Sp:=λ vs H Q _=>rCl Γ c vs H Q
noncomputable def bNames:List Str:=["len", "abs", "min", "max", "int", "isinstance", "bool", "str", "tuple", "list", "range", "sum", "all", "any", "sorted", "zip", "enumerate", "ord"]
def spL (Γ:Gm)(c:List ku->List ku->kt->kA ku)(cap:List V):Sp:=λ vs H Q _=>∃ φ s cs l d s',Rp Γ φ H s/\RVL Γ φ H l vs/\RVL Γ φ H cs cap/\ky s.length l=true/\ky s.length cs=true/\c cs l s=.ok d s'/\ad4 Γ φ s H d s' Q
noncomputable def LamI.own (J:LamI):Str:=match J.nm with|none => "<lambda>" | some p=>p.1
noncomputable def lamText (J:LamI)(params:a9)(body:Expr)(scope:Scope)(pos:Pos):Expr:=match J.nm with
 | none=>.Lambda params body scope pos
 | some p=>.NamedExpr (.Name p.1 p.2) (.Lambda params body scope pos) pos
structure LamHere (Γ:Gm)(X:Cx)(N:List Str)(id:String)(caps:List Nat)(params:a9)(body:Expr)(scope:Scope)(c P:Addr)(J:LamI):Prop where
 code:X.env.code=.ref c
 hd:bw X.base c P
 bm:BM X.mg X.base
 ck:lamCheck scope X.env.scope=true
 df:jR params X.env=([],[])
 lg:Γ.lg id J
 q:J.qual=X.env.qual++J.own
 p:J.params=params
 b:J.body=body
 s:J.scope=scope
 len:J.fr.length=caps.length
 at_:∀(i j:Nat) (x:Str),caps[i]?=some j->J.fr[i]?=some x->N[j]?=some x
 fr:∀ x∈J.fr,scope.names.lookup x=some .free
 cl:∀ x,scope.names.lookup x=some .free->∃ c,X.env.cells.lookup x=some c
 tab:(P,J.qual)∈Γ.T
 nd:(Γ.T.map (·.1)).Nodup
 fn:∀ x,X.fn x=true
 kd:∀ x c,X.env.cells.lookup x=some c->X.env.kindOf x=some .cell\/X.env.kindOf x=some .free
structure CG (Γ:Gm)(F:kK)(n:Nat)(X:Cx)(ck:Ck):Prop where
 K:X.K=Γ.K
 N:X.N=ck.N
 nd:ck.N.Nodup
 xe:X.xe=λ _ _=>False
 calm:X.calm=true
 deep:kM+1<=n
 room:Room n X.A
 sc:∀ x k,ck.sc.names.lookup x=some k->X.env.scope.names.lookup x=some k\/(k=.free/\X.env.scope.names.lookup x=some .cell)
 fn:∀ x,ck.sc.names.lookup x=some .cell->X.fn x=true
 bi:∀ x∈bNames,X.mg x=none
 call:∀ f:String,(∀ l s,F.call f l s=.bad)\/∃ a fd ps,FnOk X.prog X.w X.K X.mg X.base CX0 n a fd ps (spV Γ (F.call f))/\X.mg (f:Str)=some (.ref a)/\bR X.K (.ref a)=true/\Binds X.K fd ps []
 con:∀ x d,F.con x=some d->∃ v u,X.mg (x:Str)=some u/\RelV v u/\(∀ m,d.bnd m=true)/\∀ φ H,RV Γ φ H d v
 lam:∀ id caps E,ck.lk id caps E=true->∃ c P params body scope pos J,E=lamText J params body scope pos/\LamHere Γ X ck.N id caps params body scope c P J
 cl:∀(id:String) (J:LamI) (f:Addr) (cap:List V) (clos:List (Str×Addr)),Γ.lg id J->cap.length=J.fr.length->ClOk X.prog X.w X.K X.mg X.base n (λ H=>CloAt H f J cap clos) f (spL Γ (F.lam id) cap)
 fa:∀(f:String) (a:Addr),Γ.fa f=some a->X.mg (f:Str)=some (.ref a)/\∃ oc od fd sl,X.K.lookup a=some ⟨oc,od,.func fd,sl⟩
 fk:DV.FK F
section
variable {Γ:Gm} {F:kK} {n:Nat} {X:Cx} {ck:Ck}
theorem CG.vis (G:CG Γ F n X ck){x:Str}(h:ck.vis x=true):Vis X.env.scope x:=by
 unfold Ck.vis at h
 split at h
 ·rename_i e;rcases G.sc _ _ e with z|⟨z,_⟩
  ·exact .inl z
  ·cases z
 ·rename_i e;rcases G.sc _ _ e with z|⟨z,_⟩
  ·exact .inr (.inl z)
  ·cases z
 ·rename_i e;rcases G.sc _ _ e with z|⟨_,z⟩
  ·exact .inr (.inr z)
  ·exact .inr (.inl z)
 ·cases h
theorem CG.loc (G:CG Γ F n X ck){x:Str}(h:ck.loc x=true):Loc X.env.scope x/\(X.fn x=true\/X.env.scope.names.lookup x=some .local):=by
 unfold Ck.loc at h
 split at h
 ·rename_i e;rcases G.sc _ _ e with z|⟨z,_⟩
  ·exact⟨.inl z,.inr z⟩
  ·cases z
 ·rename_i e;rcases G.sc _ _ e with z|⟨z,_⟩
  ·exact⟨.inr z,.inl (G.fn _ e)⟩
  ·cases z
 ·cases h
theorem CG.gl (G:CG Γ F n X ck){x:Str}(h:ck.gl x=true):Gl X x/\(x==("__debug__":Str))=false/\x ≠ "__name__":=by
 unfold Ck.gl at h
 simp only[ag,dJ]at h
 obtain⟨⟨y,B⟩,J⟩:=h
 refine⟨?_,B,of_decide_eq_false J⟩
 split at y
 ·rename_i e;rcases G.sc _ _ e with z|⟨z,_⟩
  ·exact z
  ·cases z
 ·cases y
theorem bh1 (G:CG Γ F n X ck):∀ {is:List Nat} {es:List Expr},bN0 ck is es=true->PGs X es (bO2 is)/\(b8 es X.env).length=is.length/\(b8 es X.env).findIdx? (·.1)=none
 | [],[],_=>⟨bq4,rfl,rfl⟩
 | [],_::_,h=>by cases h
 | i::is,[],h=>by cases h
 | i::is,e::es,h=>by
  cases e with
  | Name x p =>
   unfold bN0 at h
   simp only[ag,decide_eq_true_eq]at h
   obtain⟨⟨B,y⟩,J⟩:=h
   obtain⟨l1,Y⟩:=G.loc y
   obtain⟨a,b,c⟩:=bh1 G J
   have hs:b8 (.Name x p::es) X.env=(false,fW (.Name x p) X.env)::b8 es X.env:=rfl
   refine⟨ba5 (aQ4 (by rw[G.N];exact G.nd) (by rw[G.N];exact B) l1 Y) a (by rw[hs];rfl),by rw[hs,aV,aV,b],?_⟩
   rw[hs,List.findIdx?_cons]
   simp[c]
  | _=>cases h
theorem bw7 (G:CG Γ F n X ck){tg:k7}{e:Expr}(h:mTg ck tg e=true):PG X e (gOf Γ.K tg):=by
 unfold mTg at h
 split at h
 ·simp only[ag,decide_eq_true_eq]at h
  obtain⟨l1,y⟩:=G.loc h.2
  exact aQ4 (by rw[G.N];exact G.nd) (by rw[G.N];exact h.1) l1 y
 ·obtain⟨a,b,c⟩:=bh1 G h
  exact bm8 G.K G.calm a b c
 ·cases h
theorem CG.comp (G:CG Γ F n X ck){tg:k7}{J iter:Expr}{B:List (Option Nat)}{scope:Scope}(h:aK8 ck tg J iter B scope=true) :
  z9 (ckC ck J B scope).N B scope X.N X.env.scope=true/\shp iter=true /\
  ∀(C:Addr) (cells:List (Str×Addr)) (s:af) (H:Hp) (ex:List Addr),CG Γ F n (zQ X (ckC ck J B scope).N scope C cells s H ex) (ckC ck J B scope)/\PG (zQ X (ckC ck J B scope).N scope C cells s H ex) J (gOf Γ.K tg):=by
 unfold aK8 at h
 simp only[ag,decide_eq_true_eq]at h
 obtain⟨⟨⟨Y,h2⟩,h3⟩,h4⟩:=h
 refine⟨?_,h4,λ C cells s H ex=>?_⟩
 ·rw[G.N]
  unfold z9 at Y ⊢
  simp only[ag]at Y ⊢
  obtain⟨⟨⟨⟨⟨a1,a2⟩,a3⟩,a4⟩,a5⟩,a6⟩:=Y
  refine⟨⟨⟨⟨⟨a1,?_⟩,a3⟩,a4⟩,a5⟩,a6⟩
  rw[aG]at a2 ⊢
  intro y hy
  have:=a2 y hy
  rw[bN]at this ⊢
  rcases this with q|q
  ·exact .inl q
  ·right
   rw[bN]at q ⊢
   rcases q with q|q
   ·rcases G.sc _ _ (eq_of_beq q)with z|⟨z,_⟩
    ·left;rw[z];exact beq_self_eq_true _
    ·cases z
   ·rcases G.sc _ _ (eq_of_beq q)with z|⟨_,z⟩
    ·right;rw[z];exact beq_self_eq_true _
    ·left;rw[z];exact beq_self_eq_true _
 ·have Z:CG Γ F n (zQ X (ckC ck J B scope).N scope C cells s H ex) (ckC ck J B scope):=by
   refine⟨G.K,rfl,h2,rfl,G.calm,G.deep,G.room,λ x k e=>?_,λ x e=>?_,G.bi,G.call,G.con,λ _ _ _ h=>(by cases h),G.cl,G.fa,G.fk⟩
   ·have q:=qA (env:=X.env) e
    have q':(dX scope X.env).names.lookup x=some (if(k==NameKind.free&&X.env.scope.kind==.function&&X.env.kindOf x==some .cell)then NameKind.cell else k):=q
    show(dX scope X.env).names.lookup x=some k\/_
    rw[q']
    split
    ·rename_i hc
     simp only[ag]at hc
     exact .inr ⟨eq_of_beq hc.1.1,rfl⟩
    ·exact .inl rfl
   ·show(scope.names.lookup x==some .cell)=true
    rw[show scope.names.lookup x=some .cell from e];rfl
  exact⟨Z,bw7 Z h3⟩
end
section
variable {Γ:Gm} {F:kK} {n:Nat} {X:Cx} {ck:Ck} {σ:St} {H:Hp} {Q:VK}
theorem TEv.eq {m m':kz->kt->kA ku}(e:∀ ρ s,m ρ s=m' ρ s)(q:TEv Γ m σ H Q):TEv Γ m' σ H Q:=by
 have:m=m':=funext λ ρ=>funext λ s=>e ρ s
 subst this;exact q
theorem TTv.eq {m m':kz->kt->kA ku}{Q:Bool->Hp->Prop}(e:∀ ρ s,m ρ s=m' ρ s)(q:TTv Γ m σ H Q):TTv Γ m' σ H Q:=by
 have:m=m':=funext λ ρ=>funext λ s=>e ρ s
 subst this;exact q
theorem TAv.eq {m m':kz->kt->kA (List ku)}{Q:List V->Hp->Prop}(e:∀ ρ s,m ρ s=m' ρ s)(q:TAv Γ m σ H Q):TAv Γ m' σ H Q:=by
 have:m=m':=funext λ ρ=>funext λ s=>e ρ s
 subst this;exact q
theorem TFv.eq {m m':kz->kt->kA (List ku)}(e:∀ ρ s,m ρ s=m' ρ s)(q:TFv Γ m σ H Q):TFv Γ m' σ H Q:=by
 have:m=m':=funext λ ρ=>funext λ s=>e ρ s
 subst this;exact q
theorem TIv.eq {m m':kz->kt->kA lC}{R:It->Hp->Prop}(e:∀ ρ s,m ρ s=m' ρ s)(q:TIv Γ m σ H R):TIv Γ m' σ H R:=by
 have:m=m':=funext λ ρ=>funext λ s=>e ρ s
 subst this;exact q
theorem TSv.eq {m m':kz->kt->kA k8}{D:Ends}(e:∀ ρ s,m ρ s=m' ρ s)(q:TSv Γ m D σ H):TSv Γ m' D σ H:=by
 have:m=m':=funext λ ρ=>funext λ s=>e ρ s
 subst this;exact q
def EvT (Γ:Gm)(X:Cx)(E:Expr)(m:kz->kt->kA ku):Prop:=PE X E (TEv Γ m)/\PT X E (TTv Γ m)
theorem EvT.val {E:Expr}{m:kz->kt->kA ku}(h:PE X E (TEv Γ m))(B:∀ y,dj E X.env y=(do let v <- y;standAt E.pos;jF [v] (truthy v)):=by intro _;rfl):EvT Γ X E m :=
 ⟨h,(aR2 h B).imp λ σ H Q q=>bi0 q⟩
theorem bb3 {c a b:Expr}{pos:Pos}{J tb Z:TT}(hc:PT X c J)(ha:PT X a tb)(hb:PT X b Z):PT X (.IfExp c a b pos) (λ σ H Q=>J σ H λ k B=>if k=true then tb σ B Q else Z σ B Q):=by
 intro y s σ H Q I h
 have e:dj (.IfExp c a b pos) X.env (eval (.IfExp c a b pos) X.env)=(do if <- dj c X.env (eval c X.env)then dj a X.env (eval a X.env)else dj b X.env (eval b X.env)):=by rw[dj]
 rw[e]
 refine ah (thn (hc y s σ H _ I h) λ k s1 ⟨B,Y,G⟩=>?_)
 cases k with
 | true=>exact ha y s1 σ B Q Y G
 | false=>exact hb y s1 σ B Q Y G
theorem bK5 {mc J G:kz->kt->kA ku}{Q:Bool->Hp->Prop}(h:TTv Γ (λ ρ s=>kH (mc ρ s) λ k s=>if k then J ρ s else G ρ s) σ H Q):TTv Γ mc σ H λ k B=>if k=true then TTv Γ J σ B Q else TTv Γ G σ B Q:=by
 obtain⟨φ,ρ,s,d,s',E,R,y,q⟩:=h
 obtain⟨c,s1,e1,y⟩:=zU y
 refine⟨φ,ρ,s,c,s1,E,R,e1,λ φ1 B g1 l1 R1=>?_⟩
 cases c with
 | true =>
  rw[if_pos rfl]at y ⊢
  exact⟨φ1,ρ,s1,d,s',E.mono g1 l1,R1,y,q.trans g1 l1⟩
 | false =>
  rw[if_neg aQ]at y ⊢
  exact⟨φ1,ρ,s1,d,s',E.mono g1 l1,R1,y,q.trans g1 l1⟩
section
variable {a b c:lB} {l r t:Expr} {pos:Pos}
theorem br8 (G:CG Γ F n X ck)(op:lU)(ha:EvT Γ X l (kC F a))(hb:EvT Γ X r (kC F b)):EvT Γ X (.BinOp l (bO7 op) r pos) (kC F (.bin op a b)) :=
 .val ((bR3 (bJ6 G.K op) ha.1 hb.1).imp λ σ H Q q=>bf8 (TEv.eq (λ ρ s=>rfl) q))
theorem bp9 (ha:EvT Γ X l (kC F a)):EvT Γ X (.UnaryOp .USub l pos) (kC F (.neg a)) :=
 .val ((bV0 bA7 ha.1).imp λ σ H Q q=>bT3 (f:=λ x s=>match x with|.int i=>.ok (.int (-i)) s|_=>.bad) (TEv.eq (λ ρ s=>rfl) q) λ φ s x d s' v H' R r y h k=>by
  cases x with
  | int i =>
   cases h
   exact⟨i,r.intE,k.here R rfl RV.intI⟩
  | _=>cases h)
theorem bo3 (ha:EvT Γ X l (kC F a)):EvT Γ X (.UnaryOp .Not l pos) (kC F (.not a)) :=
 ⟨(bi2 ha.1).imp λ σ H Q q=>bB0 (TEv.eq (λ ρ s=>rfl) q),(bj2 ha.2).imp λ σ H Q q=>bH4 (TTv.eq (λ ρ s=>rfl) q)⟩
theorem bn1 (G:CG Γ F n X ck)(op:lO)(hs:shp r=true)(ha:EvT Γ X l (kC F a))(hb:EvT Γ X r (kC F b)):EvT Γ X (.Compare l [bt6 op] [r] pos) (kC F (.cmp op a b)):=by
 have ho:=bH8 (Γ:=Γ) G.K (G.room.mono G.deep) op
 refine⟨(bs2 ho ha.1 hb.1 (ax9 hs)).imp λ σ H Q q=>bf8 (TEv.eq (λ ρ s=>rfl) q),(bt7 ho ha.1 hb.1 (ax9 hs)).imp λ σ H Q q=>?_⟩
 have q:=bl4 q
 exact bf8 (TEv.eq (λ ρ s=>rfl) q)
theorem aQ6 {op:BoolOp}{es:List Expr}{t:TT}(h:PT X (.BoolOp op es pos) t):PW X (.BoolOp op es pos) t:=by
 intro B y s σ H Q I q
 have:=h y s σ H Q I q
 have e:∀ w,dj (.BoolOp op es pos) X.env w=allTrue op es X.env:=λ w=>by rw[dj]
 rw[e]at this ⊢
 exact this
theorem bs4 (ha:EvT Γ X l (kC F a))(hb:EvT Γ X r (kC F b)):EvT Γ X (.BoolOp .And [l,r] pos) (kC F (.and a b)) :=
 ⟨(bg2 ha.1 (aS3 hb.1)).imp λ σ H Q q=>bg1 (TEv.eq (λ ρ s=>rfl) q),(bg5 ha.2 (bv1 hb.2)).pt.imp λ σ H Q q=>bg4 (TTv.eq (λ ρ s=>rfl) q)⟩
theorem bq8 {es:List Expr}(ha:EvT Γ X l (kC F a))(hb:EvT Γ X (.BoolOp .And (r::es) pos) (kC F b)):EvT Γ X (.BoolOp .And (l::r::es) pos) (kC F (.and a b)) :=
 ⟨(bg2 ha.1 hb.1).imp λ σ H Q q=>bg1 (TEv.eq (λ ρ s=>rfl) q),(bg5 ha.2 (aQ6 hb.2)).pt.imp λ σ H Q q=>bg4 (TTv.eq (λ ρ s=>rfl) q)⟩
theorem bI2 (ha:EvT Γ X l (kC F a))(hb:EvT Γ X r (kC F b)):EvT Γ X (.BoolOp .Or [l,r] pos) (kC F (.or a b)) :=
 ⟨(bw0 ha.1 (aS3 hb.1)).imp λ σ H Q q=>bE1 (TEv.eq (λ ρ s=>rfl) q),(bq5 ha.2 (bh8 hb.2)).pt.imp λ σ H Q q=>bG9 (TTv.eq (λ ρ s=>rfl) q)⟩
theorem bM2 {es:List Expr}(ha:EvT Γ X l (kC F a))(hb:EvT Γ X (.BoolOp .Or (r::es) pos) (kC F b)):EvT Γ X (.BoolOp .Or (l::r::es) pos) (kC F (.or a b)) :=
 ⟨(bw0 ha.1 hb.1).imp λ σ H Q q=>bE1 (TEv.eq (λ ρ s=>rfl) q),(bq5 ha.2 (aQ6 hb.2)).pt.imp λ σ H Q q=>bG9 (TTv.eq (λ ρ s=>rfl) q)⟩
theorem bs5 (hc:EvT Γ X t (kC F c))(ha:EvT Γ X l (kC F a))(hb:EvT Γ X r (kC F b)):EvT Γ X (.IfExp t l r pos) (kC F (.ite c a b)) :=
 ⟨(aY7 hc.2 ha.1 hb.1).imp λ σ H Q q=>bF1 (TEv.eq (λ ρ s=>rfl) q),(bb3 hc.2 ha.2 hb.2).imp λ σ H Q q=>bK5 (TTv.eq (λ ρ s=>rfl) q)⟩
theorem bM5 (G:CG Γ F n X ck)(hs:shp r=true)(ha:EvT Γ X l (kC F a))(hb:EvT Γ X r (kC F b)):EvT Γ X (.Subscript l r pos) (kC F (.ix a b)) :=
 .val ((bW6 (bQ8 G.K (bF7 G.room)) ha.1 hb.1 (aK9 hs)).imp λ σ H Q q=>bf8 (TEv.eq (λ ρ s=>rfl) q))
theorem bt2 {h:Pos}(G:CG Γ F n X ck)(ha:EvT Γ X l (kC F a))(hb:EvT Γ X r (kC F b)):EvT Γ X (.Subscript l (.Slice none (some r) none h) pos) (kC F (.slU a b)) :=
 .val ((aZ1 (bS7 G.K) ha.1 bt0 (bk4 hb.1)).imp λ σ H Q q=>(bR0 (ml:=kC F b)).2.1 (TEv.eq (λ ρ s=>rfl) q))
end
end
section
variable {Γ:Gm} {F:kK} {n:Nat} {X:Cx} {ck:Ck} {σ:St} {H:Hp} {Q:VK}
theorem aq2:∀ {es:kP} {ρ:kz} {s s':kt} {l:List ku} {y:List Expr} {B:Ck},kT F es ρ s=.ok l s'->mEs B es y=true->l.length=y.length
 | .nil,ρ,s,s',l,y,B,h,m=>by
  cases h
  cases y with
  | nil=>rfl
  | cons _ _=>rw[mEs]at m<;>first|cases m|(intros;simp_all)
 | .cons e es,ρ,s,s',l,y,B,h,m=>by
  obtain⟨d,s1,e1,h⟩:=aa0 h
  obtain⟨r,s2,e2,h⟩:=aa0 h
  cases h
  cases y with
  | nil=>rw[mEs]at m<;>first|cases m|(intros;simp_all)
  | cons x y =>
   rw[mEs,ag]at m
   rw[aV,aV,aq2 e2 m.2]
theorem ap3:∀ {es:kP} {B:List Expr},mEs ck es B=true->∀ x∈B,shp x=true
 | .nil,[],_,x,hx=>by cases hx
 | .nil,_::_,m,_,_=>by rw[mEs]at m<;>first|cases m|(intros;simp_all)
 | .cons e es,[],m,x,hx=>by cases hx
 | .cons e es,y::B,m,x,hx=>by
  rw[mEs,ag,ag]at m
  rcases ay.mp hx with h|h
  ·rw[h];exact m.1.2
  ·exact ap3 m.2 x h
theorem aB9:∀ {es:lf} {B:List Expr},mAs ck es B=true->∀ x∈B,shp x=true
 | .nil,[],_,x,hx=>by cases hx
 | .nil,_::_,m,_,_=>by rw[mAs]at m<;>first|cases m|(intros;simp_all)
 | .ex e es,[],m,x,hx=>by cases hx
 | .lam _ _ _,_,m,_,_=>by rw[mAs]at m<;>first|cases m|(intros;simp_all)
 | .fn _ _,_,m,_,_=>by rw[mAs]at m<;>first|cases m|(intros;simp_all)
 | .ex e es,y::B,m,x,hx=>by
  rw[mAs,ag,ag]at m
  rcases ay.mp hx with h|h
  ·rw[h];exact m.1.2
  ·exact aB9 m.2 x h
theorem aF5 {e:lB}{x:Expr}{h:List Expr}{y:kz->kt->kA (List ku)}(hs:shp x=true)(G:PE X x (TEv Γ (kC F e)))(B:PA X h (TAv Γ y)) :
  PA X (x::h) (TAv Γ (λ ρ s=>(kC F e ρ s).bind λ d s=>(y ρ s).bind λ l s=>.ok (d::l) s)) :=
 (zH G B (zd hs)).imp λ σ H Q q=>bw6 q
theorem aU1 {k:Nat}(h:k<=1000):k<=aH:=by rw[fj];omega
theorem br1 {es:kP}{y:List Expr}{k:Nat}{pos:Pos}(m:mEs ck es y=true)(hz:y.length<=1000)(h:PA X y (TAv Γ (kT F es))):EvT Γ X (.Tuple y k pos) (kC F (.tup es)) :=
 .val ((bg8 h).imp λ σ H Q q=>tv_tup' hz m q)
where
 tv_tup' {es:kP} {y:List Expr} {σ:St} {H:Hp} {Q:VK} (hz:y.length<=1000) (m:mEs ck es y=true) (q:TEv Γ (kC F (.tup es)) σ H Q):bY6 (TAv Γ (kT F es)) σ H Q:=by
  obtain⟨φ,ρ,s,d,s',E,R,B,q⟩:=q
  obtain⟨l,s1,e1,B⟩:=aa0 B
  cases B
  refine⟨φ,ρ,s,l,_,E,R,e1,λ vs φ1 J g1 l1 G r1 R1=>⟨by rw[r1.length,aq2 e1 m];exact aU1 hz,λ p hp=>?_⟩⟩
  exact(q.trans g1 l1).tup R1 r1 G hp
theorem br5 {es:kP}{y:List Expr}{pos:Pos}(m:mEs ck es y=true)(hz:y.length<=1000)(h:PA X y (TAv Γ (kT F es))):EvT Γ X (.List y pos) (kC F (.lst es)):=by
 refine .val ((bh7 h).imp λ σ H Q q=>?_)
 obtain⟨φ,ρ,s,d,s',E,R,B,q⟩:=q
 obtain⟨l,s1,e1,B⟩:=aa0 B
 obtain⟨rfl,rfl⟩:=qk B
 refine⟨φ,ρ,s,l,_,E,R,e1,λ vs φ1 J g1 l1 G r1 R1=>⟨by rw[r1.length,aq2 e1 m];exact aU1 hz,λ p hp=>?_⟩⟩
 exact(q.trans g1 l1).alloc R1 r1 G hp
theorem aZ7 {f:String}{y:lf}{J:List Expr}{p pos:Pos}(G:CG Γ F n X ck)(hg:ck.gl (f:Str)=true)(m:mAs ck y J=true)(h:PA X J (TAv Γ (kZ F y))):EvT Γ X (.Call (.Name (f:Str) p) J [] pos) (kC F (.call f y)):=by
 refine .val ?_
 obtain⟨g1,g2,g3⟩:=G.gl hg
 rcases G.call f with hbad|⟨a,fd,ps,hF,B,hk,hb⟩
 ·intro a0 s σ H Q I q
  obtain⟨φ,ρ,s,d,s',E,R,Y,q⟩:=q
  obtain⟨l,s1,e1,Y⟩:=aa0 Y
  rw[hbad]at Y
  cases Y
 have key:∀ σ H Q,TEv Γ (kC F (.call f y)) σ H Q->aJ4 (spV Γ (F.call f)) [] E0 (TAv Γ (kZ F y)) σ H Q:=λ σ H Q q=>by
  have:=aC2 (TEv.eq (m':=λ ρ s=>(kZ F y ρ s).bind λ l s=>F.call f l s) (λ ρ s=>rfl) q)
  unfold tCB at this
  unfold aJ4 spV
  simpa only[a7]using this
 cases J with
 | nil =>
  have h0:PE X (.Call (.Name (f:Str) p) [] [] pos) (aJ4 (spV Γ (F.call f)) [] E0 aZ8):=bc9 hF G.room g1 B hk hb .nil bE2 g2
  cases y with
  | nil =>
   refine h0.imp λ σ H Q q=>?_
   have Z:=key σ H Q q
   unfold aJ4 at Z ⊢
   exact aE7 (TAv.eq (λ ρ s=>rfl) Z)
  | _=>rw[mAs]at m<;>first|cases m|(intros;simp_all)
 | cons x J =>
  have hs:=aB9 m
  exact(aQ9 hF G.room g1 B hk hb .nil bE2 h g2 (zd (hs x (aw ..))) (zz λ e he=>hs e (ai _ he)).1).imp key
def BiC (Γ:Gm)(X:Cx)(b:k6)(x:Str):Prop:=(∃ id,be x=some (.builtin id)/\ac0 X (.builtin id) (rCl Γ (lT b)))\/∃ T,be x=some (.type T)/\ac0 X (.type T) (rCl Γ (lT b))
theorem bJ2 (G:CG Γ F n X ck){b:k6}{x:Str}(h:biT b=some x):x∈bNames/\BiC Γ X b x:=by
 cases b<;>first|cases h|skip
 ·exact⟨by decide,.inl ⟨_,bU1,ba7 G.K G.calm (k:=1) rfl⟩⟩
 ·exact⟨by decide,.inl ⟨_,bP1,ba7 G.K G.calm (k:=1) rfl⟩⟩
 ·exact⟨by decide,.inr ⟨_,bB8,bK4⟩⟩
 ·exact⟨by decide,.inl ⟨_,bB2,ba7 G.K G.calm (k:=2) rfl⟩⟩
 ·exact⟨by decide,.inl ⟨_,bP5,ba7 G.K G.calm (k:=2) rfl⟩⟩
theorem bD6 {b:k6}{es:kP}{x:Str}{y:Expr}{B:List Expr}{p pos:Pos}(G:CG Γ F n X ck)(hb:biT b=some x)(hg:ck.gl x=true)(m:mEs ck es (y::B)=true)(h:PA X (y::B) (TAv Γ (kT F es))) :
  EvT Γ X (.Call (.Name x p) (y::B) [] pos) (kC F (.bi b es)):=by
 refine .val ?_
 obtain⟨g1,g2,Z⟩:=G.gl hg
 obtain⟨hm,hc⟩:=bJ2 G hb
 have hs:=ap3 m
 have s1:=zd (es:=B) (env:=X.env) (hs y (aw ..))
 have s2:=(zz (env:=X.env) (pos:=pos) λ e he=>hs e (ai _ he)).1
 rcases hc with⟨id,J,Y⟩|⟨T,J,Y⟩
 ·exact(af8 Y g1 (G.bi _ hm) J h Z g2 s1 s2).imp λ σ H Q q=>aC2 (TEv.eq (λ ρ s=>rfl) q)
 ·exact(am2 Y g1 (G.bi _ hm) J h Z g2 s1 s2).imp λ σ H Q q=>aC2 (TEv.eq (λ ρ s=>rfl) q)
theorem bG8 {b:k6}{k:Nat}{t:Str}(h:biK b=some (k,t)):(1<=k/\k<=5)/\t∈bNames/\be t=some (.type (am9 k))/\lT b=lQ (lV k):=by
 cases b<;>cases h
 ·exact⟨by omega,by decide,bB8,rfl⟩
 ·exact⟨by omega,by decide,bG1,rfl⟩
 ·exact⟨by omega,by decide,bP8,rfl⟩
 ·exact⟨by omega,by decide,aO9,rfl⟩
 ·exact⟨by omega,by decide,bi9,rfl⟩
noncomputable def PEs (Γ:Gm)(F:kK)(X:Cx):kP->List Expr->Prop
 | .nil,[]=>True
 | .cons e es,x::xs=>(shp x=true/\EvT Γ X x (kC F e))/\PEs Γ F X es xs
 | _,_=>False
theorem aj3:∀ {es:kP} {y:List Expr},PEs Γ F X es y->PA X y (TAv Γ (kT F es))
 | .nil,[],_=>ad0.imp λ σ H Q q=>aE7 (TAv.eq (λ ρ s=>rfl) q)
 | .nil,_::_,h=>h.elim
 | .cons _ _,[],h=>h.elim
 | .cons e es,x::y,h=>(aF5 h.1.1 h.1.2.1 (aj3 h.2)).imp λ σ H Q q=>TAv.eq (λ ρ s=>rfl) q
theorem bk8 {b:k6}{es:kP}{k:Nat}{t:Str}{a:Expr}{p J pos:Pos}(G:CG Γ F n X ck)(hb:biK b=some (k,t))(hg:ck.gl "isinstance"=true)(B:ck.gl t=true)(h:PEs Γ F X es [a]) :
  EvT Γ X (.Call (.Name "isinstance" p) [a,.Name t J] [] pos) (kC F (.bi b es)):=by
 refine .val ?_
 obtain⟨g1,g2,g3⟩:=G.gl hg
 obtain⟨t1,t2,t3⟩:=G.gl B
 obtain⟨hk,y,hv,Z⟩:=bG8 hb
 have Y:PE X (.Name t J) (tC (.ty (am9 k))):=bn0 t1 (G.bi _ y) hv rfl t3 t2
 cases es with
 | nil=>exact h.elim
 | cons e es =>
  cases es with
  | cons _ _=>exact h.2.elim
  | nil =>
   obtain⟨⟨hs,ha,_⟩,_⟩:=h
   have hA:PA X [a,.Name t J] (aq4 (TEv Γ (kC F e)) (aq4 (tC (.ty (am9 k))) aZ8)):=zH ha (zH Y ad0 (zd rfl)) (zd hs)
   refine(af8 (bE6 G.K hk) g1 (G.bi _ (by decide)) qU hA g3 g2 (zd hs) (zz λ e he=>by rw[cH.mp he];rfl).1).imp λ σ H Q q=>?_
   obtain⟨φ,ρ,s,d,s',E,R,y,q⟩:=q
   obtain⟨l,s1,e1,y⟩:=aa0 y
   obtain⟨x,s2,e2,e1⟩:=aa0 e1
   obtain⟨l2,s3,e3,e1⟩:=aa0 e1
   cases e3
   cases e1
   rw[Z]at y
   refine⟨φ,ρ,s,x,_,E,R,e2,λ v φ1 H1 g1 l1 b1 r1 R1=>?_⟩
   exact⟨v,rfl,φ1,_,[x],d,s',R1,.cons r1 .nil,by unfold ky;rw[b1];rfl,y,q.trans g1 l1⟩
end
section
variable {Γ:Gm} {F:kK} {n:Nat} {X:Cx} {ck:Ck} {σ:St} {H:Hp}
def TAp (Γ:Gm)(cells:List (Str×Addr))(N:List Str)(m:kz->kt->kA (List ku)):TA:=λ σ H Q=>∃ φ ρ s l s',RE Γ φ H s.length ρ σ/\Rp Γ φ H s/\m ρ s=.ok l s' /\
 ∀ vs φ' H',Gr φ s H φ' s' H'->s.length<=s'.length->ky s'.length l=true->PVL Γ cells N σ φ' H' l vs->Rp Γ φ' H' s'->Q vs H'
theorem TAp.eq {cells:List (Str×Addr)}{N:List Str}{m m':kz->kt->kA (List ku)}{Q:List V->Hp->Prop}(e:∀ ρ s,m ρ s=m' ρ s)(q:TAp Γ cells N m σ H Q):TAp Γ cells N m' σ H Q:=by
 obtain⟨φ,ρ,s,l,s',E,R,h,q⟩:=q
 exact⟨φ,ρ,s,l,s',E,R,by rw[<-e];exact h,q⟩
theorem bw2 {cells:List (Str×Addr)}{N:List Str}{Q:List V->Hp->Prop}(h:TAp Γ cells N (λ ρ s=>.ok [] s) σ H Q):aZ8 σ H Q:=by
 obtain⟨φ,ρ,s,l,s',E,R,y,q⟩:=h
 cases y
 exact q [] φ H (Gr.refl _ _ _) (aj _) rfl .nil R
theorem bI6 {cells:List (Str×Addr)}{N:List Str}{m:kz->kt->kA ku}{J:kz->kt->kA (List ku)}{Q:List V->Hp->Prop}(h:TAp Γ cells N (λ ρ s=>(m ρ s).bind λ d s=>(J ρ s).bind λ l s=>.ok (d::l) s) σ H Q):aq4 (TEv Γ m) (TAp Γ cells N J) σ H Q:=by
 obtain⟨φ,ρ,s,l,s',E,R,B,q⟩:=h
 obtain⟨x,s1,e1,B⟩:=aa0 B
 obtain⟨y,s2,e2,B⟩:=aa0 B
 cases B
 refine⟨φ,ρ,s,x,s1,E,R,e1,λ v φ1 H1 g1 l1 Y r1 R1=>?_⟩
 refine⟨φ1,ρ,s1,y,s',E.mono g1 l1,R1,e2,λ vs φ2 H2 Z G b2 r2 R2=>?_⟩
 exact q (v::vs) φ2 H2 (g1.trans Z l1) (ao l1 G) (by unfold ky;rw[zn G x Y,b2];rfl) (.cons (PVp.mono Z Y (.inl r1)) r2) R2
theorem ak3 {ρ:kz}:∀ {is:List Nat} {cs:List ku},kU ρ is=some cs->cs.length=is.length/\∀(i j:Nat),is[i]?=some j->∃ d,cs[i]?=some d/\ρ[j]?=some (some d)
 | [],cs,h=>by cases h;exact⟨rfl,λ i j e=>by cases e⟩
 | k::is,cs,h=>by
  unfold kU at h
  cases e:ρ[k]? with
  | none=>rw[e]at h;cases h
  | some o =>
   cases o with
   | none=>rw[e]at h;cases h
   | some d =>
    cases e2:kU ρ is with
    | none=>rw[e,e2]at h;cases h
    | some l =>
     rw[e,e2]at h
     cases h
     obtain⟨G,B⟩:=ak3 e2
     refine⟨by rw[aV,aV,G],λ i j y=>?_⟩
     cases i with
     | zero=>cases y;exact⟨d,rfl,e⟩
     | succ i=>exact B i j y
theorem aP8 {φ:Nat->Addr}{s:kt}{ρ:kz}(E:RE Γ φ H s.length ρ σ):∀ {is:List Nat} {cs:List ku},kU ρ is=some cs->∃ cap,RVL Γ φ H cs cap/\ky s.length cs=true/\∀(i j:Nat) (v:V),is[i]?=some j->cap[i]?=some v->σ[j]?=some (some v)
 | [],cs,h=>by cases h;exact⟨[],.nil,rfl,λ i j v e=>by cases e⟩
 | k::is,cs,h=>by
  unfold kU at h
  cases e:ρ[k]? with
  | none=>rw[e]at h;cases h
  | some o =>
   cases o with
   | none=>rw[e]at h;cases h
   | some d =>
    cases e2:kU ρ is with
    | none=>rw[e,e2]at h;cases h
    | some l =>
     rw[e,e2]at h
     cases h
     obtain⟨cap,J,G,Z⟩:=aP8 E e2
     obtain⟨hb,v,Y,hv⟩:=E.val k d e
     refine⟨v::cap,.cons hv J,by unfold ky;rw[hb,G];rfl,λ i j w B y=>?_⟩
     cases i with
     | zero=>cases B;cases y;exact Y
     | succ i=>exact Z i j w B y
theorem bF2 {id:String}{h:List Nat}{params:a9}{body:Expr}{scope:Scope}{pos:Pos}{c P:Addr}{J:LamI}{xs:List Expr}{ms:kz->kt->kA (List ku)}(L:LamHere Γ X X.N id h params body scope c P J)(hnm:J.nm=none)(h2:PA X xs (TAp Γ X.env.cells X.N ms)) :
  PA X (.Lambda params body scope pos::xs) (TAp Γ X.env.cells X.N (λ ρ s=>match kU ρ h with|some cs=>(ms ρ s).bind λ l s=>.ok (.clo id cs::l) s|none=>.bad)):=by
 refine(zH (aO3 L.code L.hd L.bm L.ck L.df) h2).imp λ σ H Q q=>?_
 obtain⟨φ,ρ,s,l,s',E,R,B,q⟩:=q
 have B:(match kU ρ h with|some cs=>(ms ρ s).bind λ l s=>DV.R.ok (DV.D.clo id cs::l) s|none=>DV.R.bad)=.ok l s':=B
 cases eg:kU ρ h with
 | none=>rw[eg]at B;exact fb B
 | some cs =>
  rw[eg]at B
  obtain⟨y,s2,e2,B⟩:=aa0 B
  cases B
  obtain⟨cap,Y,G,hσ⟩:=aP8 E eg
  have Z:=(ak3 eg).1
  have hq:J.qual=X.env.qual ++ "<lambda>":=by rw[L.q];unfold LamI.own;rw[hnm]
  rw[<-hq]
  refine bb2 R.tab L.nd L.tab λ f H' e st tb hf ho=>?_
  obtain⟨g1,R1⟩:=R.sameT e st tb
  refine⟨φ,ρ,s,y,s',E.mono g1 (aj _),R1,e2,λ vs φ2 H2 g2 l2 b2 r2 R2=>?_⟩
  refine q (.ref f::vs) φ2 H2 (g1.trans g2 (aj _)) l2 (by unfold ky kB;rw[aa2 l2 cs G,b2];rfl) (.cons ?_ r2) R2
  have p1:PVp Γ X.env.cells X.N σ φ H' (.clo id cs) (.ref f):=by
   refine .inr ⟨id,cs,rfl,f,J,rfl,L.lg,by unfold ae5;rw[hnm];dsimp only;rw[L.p,L.b,L.s];exact ho,by rw[Z,L.len],by rw[L.s];exact L.cl,cap,RVL.mono g1 cs cap G Y,λ i x v e1 e3=>?_⟩
   have hi:i<h.length:=by rw[<-L.len];exact(ae.mp e1).1
   have hj:h[i]?=some h[i]:=am hi
   exact⟨by rw[L.s];exact L.fr x (bp e1),h[i],L.at_ i _ x hj e1,hσ i _ v hj e3⟩
  exact p1.mono g2 (by unfold kB;exact G)
theorem aU3 {f:String}{ms:kz->kt->kA (List ku)}{e:Expr}{es:List Expr}{p pos:Pos}(G:CG Γ F n X ck)(hg:ck.gl (f:Str)=true)(Z:∀ x,X.fn x=true)(a0:∀ x c,X.env.cells.lookup x=some c->X.env.kindOf x=some .cell\/X.env.kindOf x=some .free)
  (hs:∀ y∈e::es,shp y=true) (h:PA X (e::es) (TAp Γ X.env.cells X.N ms)) :
  PE X (.Call (.Name (f:Str) p) (e::es) [] pos) (TEv Γ (λ ρ s=>(ms ρ s).bind λ l s=>(F.call f l s).bind λ d s'=>if(d.ncl&&s'.all lX)=true then .ok d s' else .bad)):=by
 obtain⟨g1,g2,g3⟩:=G.gl hg
 rcases G.call f with hb|⟨a,fd,ps,hF,Y,hk,hB⟩
 ·intro a1 s σ H Q I q
  obtain⟨φ,ρ,s,d,s',E,R,B,q⟩:=q
  obtain⟨l,s1,e1,B⟩:=aa0 B
  rw[hb]at B;exact fb B
 ·refine(aI4 hF G.room g1 Y hk hB Z h g2 (zd (hs e (aw ..))) (zz λ y hy=>hs y (ai _ hy)).1).imp λ σ H Q q=>?_
  obtain⟨φ,ρ,s,d,s',E,R,B,q⟩:=q
  obtain⟨l,s1,e1,B⟩:=aa0 B
  obtain⟨d2,s2,e2,B⟩:=aa0 B
  split at B
  case isFalse=>exact fb B
  rename_i hn
  cases B
  rw[ag]at hn
  refine⟨φ,ρ,s,l,s1,E,R,e1,λ vs φ1 H1 gg l1 b1 r1 R1=>λ H2 J=>?_⟩
  obtain⟨gs,R2⟩:=R1.same J.same
  refine⟨φ1,s1,l,d,s',R2,r1.caught J a0 b1,b1,e2,λ v φ' H3 g' l' b' r' R'=>?_⟩
  have hc:Cells X.env.cells H3:=J.cells.kp g'.w.kp
  exact q v φ' (ab1 X.env.cells H3) (gg.trans (Gr.caught J g') l1) (ao l1 l') b' (RV.dropC hc d v hn.1 r') (R'.dropC hc hn.2)
theorem aS2 {i:Nat}{x:Str}{es:kP}{e:Expr}{xs:List Expr}{p pos:Pos}(G:CG Γ F n X ck)(hv:ck.var i x=true)(hs:∀ y∈e::xs,shp y=true)(h:PA X (e::xs) (TAv Γ (kT F es)))(a2:PE X (.Name x p) (aX0 i)) :
  PE X (.Call (.Name x p) (e::xs) [] pos) (TEv Γ (kC F (.callV i es))):=by
 refine(be2 rfl rfl rfl rfl rfl G.room a2 h (zd (hs e (aw ..))) (zz λ y hy=>hs y (ai _ hy)).1).imp λ σ H Q q=>?_
 obtain⟨φ,ρ,s,d,s',E,R,B,q⟩:=q
 have B:((kT F es ρ s).bind λ l s=>match ρ[i]? with
  | some (some (.fn f))=>F.call f l s
  | some (some (.clo id cs))=>F.lam id cs l s
  | _=>.bad)=.ok d s':=B
 obtain⟨l,s1,e1,B⟩:=aa0 B
 cases eρ:ρ[i]? with
 | none=>rw[eρ]at B;exact fb B
 | some o =>
  cases o with
  | none=>rw[eρ]at B;exact fb B
  | some v0 =>
   obtain⟨hb,v,hσ,rv⟩:=E.val i v0 eρ
   cases v0 with
   | fn f =>
    rw[eρ]at B
    have B:F.call f l s1=.ok d s':=B
    unfold RV at rv
    obtain⟨a,ha,e2⟩:=rv
    subst e2
    obtain⟨h1,h2⟩:=G.fa f a ha
    rcases G.call f with hb|⟨a',fd,ps,hF,a0,hk,hB⟩
    ·rw[hb]at B;exact fb B
    ·rw[h1]at a0
     cases a0
     refine⟨a,hσ,.inr h2,φ,ρ,s,l,s1,E,R,e1,λ vs φ1 H1 g1 l1 b1 r1 R1=>?_⟩
     exact⟨.inr h2,_,_,ClOk.ofFn hF hB,trivial,φ1,s1,l,d,s',R1,r1,b1,B,q.trans g1 l1⟩
   | clo id cs =>
    rw[eρ]at B
    have B:F.lam id cs l s1=.ok d s':=B
    unfold RV at rv
    unfold kB at hb
    obtain⟨f,cap,J,Y,e2,a3,a1,hcl,a4⟩:=rv
    subst e2
    have fin:∀ H',CloAt H' f J cap Y->bw3 X.K H' f:=λ H' h'=>h'.fn
    refine⟨f,hσ,fin H a1,φ,ρ,s,l,s1,E,R,e1,λ vs φ1 H1 g1 l1 b1 r1 R1=>?_⟩
    have Z:=a1.kp g1.w.kp
    exact⟨fin H1 Z,_,_,G.cl id J f cap Y a3 hcl,Z,φ1,s1,cs,l,d,s',R1,r1,RVL.mono g1 cs cap hb a4,b1,aa2 l1 cs hb,B,q.trans g1 l1⟩
   | _=>rw[eρ]at B;exact fb B
end
section
variable {Γ:Gm} {F:kK} {n:Nat} {X:Cx} {ck:Ck} {σ:St} {H:Hp} {Q:VK}
def cb1 (K:ac)(H:Hp)(v:V)(ys:List V)(z:Bool):Prop:=(∃ a,v=.ref a/\(SqL K H a ys\/(SqT K H a ys/\(z=true->H a=some (.tup ys)))))\/∃ x:List Nat,v=.str ⟨x.toArray⟩/\x.length<=kF/\ys=sgV x
def TLv (Γ:Gm)(m:kz->kt->kA (List ku)):TE:=λ σ H Q=>∃ φ ρ s l s',RE Γ φ H s.length ρ σ/\Rp Γ φ H s/\m ρ s=.ok l s' /\
 ∀ v ys φ' H',Gr φ s H φ' s' H'->s.length<=s'.length->ky s'.length l=true->cb1 Γ.K H' v ys (kG l)->RVL Γ φ' H' l ys->Rp Γ φ' H' s'->Q v H'
theorem aE0 {m:kz->kt->kA (List ku)}(h:TLv Γ m σ H Q):TFv Γ m σ H Q:=by
 obtain⟨φ,ρ,s,l,s',E,R,B,q⟩:=h
 exact⟨φ,ρ,s,l,s',E,R,B,λ p ys φ' H' g hl hb hp h0 ho r y=>q (.ref p) ys φ' H' g hl hb (.inl ⟨p,rfl,.inl (SqL.of hp)⟩) r y⟩
theorem aw2 {φ:Nat->Addr}:∀ x:List Nat,RVL Γ φ H (x.map λ c=>.str [c]) (sgV x)
 | []=>.nil
 | c::x=>.cons (RV.strI (by unfold kF;simp)) (aw2 x)
theorem an6 {k:Nat}:∀ x:List Nat,ky k (x.map λ c=>.str [c])=true
 | []=>rfl
 | c::x=>by rw[aI];unfold ky;rw[an6 x];rfl
theorem bD2 {m:kz->kt->kA ku}(h:TLv Γ (λ ρ s=>(m ρ s).bind λ d s=>DV.bo2 d s) σ H Q):TEv Γ m σ H Q:=by
 obtain⟨φ,ρ,s,l,s',E,R,y,q⟩:=h
 obtain⟨d,s1,e1,y⟩:=aa0 y
 refine⟨φ,ρ,s,d,s1,E,R,e1,λ v φ1 Y g1 l1 Z r1 R1=>?_⟩
 cases d with
 | tup l' =>
  cases y
  obtain⟨a,B,⟨rfl,z1⟩,G,J⟩:=r1.tupZ
  unfold kB at Z
  exact q _ B φ1 Y g1 l1 Z (.inl ⟨a,rfl,.inr ⟨G,z1⟩⟩) J R1
 | str x =>
  cases y
  exact q v (sgV x) φ1 Y g1 l1 (an6 x) (.inr ⟨x,r1.strE,r1.strL,rfl⟩) (aw2 x) R1
 | ref k =>
  have y:(match s1[k]? with
   | some (.lst l)=>DV.R.ok l s1
   | some (.ro l)=>.ok l s1
   | _=>.bad)=.ok l s':=y
  rw[r1.refE]
  cases e:s1[k]? with
  | none=>rw[e]at y;exact fb y
  | some ob =>
   rw[e]at y
   cases ob with
   | lst l' =>
    cases y
    obtain⟨B,G,J⟩:=R1.addr e
    have:=R1.wf k _ e
    unfold kD at this
    exact q _ B φ1 Y g1 l1 this (.inl ⟨_,rfl,.inl (SqL.of G)⟩) J R1
   | ro l' =>
    cases y
    obtain⟨B,G,J⟩:=R1.obj k _ e
    have:=R1.wf k _ e
    unfold kD at this
    exact q _ B φ1 Y g1 l1 this (.inl ⟨_,rfl,.inl G.1⟩) J R1
   | _=>exact fb y
 | _=>exact fb y
theorem TLv.eq {m m':kz->kt->kA (List ku)}(e:∀ ρ s,m ρ s=m' ρ s)(q:TLv Γ m σ H Q):TLv Γ m' σ H Q:=by
 have:m=m':=funext λ ρ=>funext λ s=>e ρ s
 subst this;exact q
theorem aL4 {m:kz->kt->kA (List ku)}{a:Expr}{p pos:Pos}(G:CG Γ F n X ck)(Z:ck.gl "tuple"=true)(hs:shp a=true)(h:PE X a (TLv Γ m)) :
  PE X (.Call (.Name "tuple" p) [a] [] pos) (TEv Γ (λ ρ s=>(m ρ s).bind λ l s=>lD .tuple l s)):=by
 obtain⟨g1,g2,J⟩:=G.gl Z
 refine(am2 ((aA3 G.K).or (aC9 G.calm)) g1 (G.bi _ (by decide)) aO9 (zH h ad0 (zd hs)) J g2 (zd hs) rfl).imp λ σ H Q q=>?_
 obtain⟨φ,ρ,s,d,s',E,R,B,q⟩:=q
 obtain⟨l,s1,e1,B⟩:=aa0 B
 cases B
 refine⟨φ,ρ,s,l,_,E,R,e1,λ v ys φ1 Y g1 l1 y hq r1 R1=>?_⟩
 rcases hq with⟨a,rfl,hq|hq⟩|⟨x,rfl,hx,rfl⟩
 ·exact .inl ⟨a,ys,rfl,.inl ⟨hq,λ p hp=>(q.trans g1 l1).tup R1 r1 y hp⟩⟩
 ·exact .inl ⟨a,ys,rfl,.inr ⟨hq.1,q _ φ1 Y g1 l1 (by unfold kB;exact y) (RV.tupC hq.1 hq.2 r1) R1⟩⟩
 ·exact .inr ⟨x,rfl,hx,λ p hp=>(q.trans g1 l1).tup R1 r1 y hp⟩
theorem aW5 {m:kz->kt->kA (List ku)}{a:Expr}{p pos:Pos}(G:CG Γ F n X ck)(Y:ck.gl "list"=true)(hs:shp a=true)(h:PE X a (TLv Γ m)) :
  PE X (.Call (.Name "list" p) [a] [] pos) (TEv Γ (λ ρ s=>(m ρ s).bind λ l s=>lD .list l s)):=by
 obtain⟨g1,Z,J⟩:=G.gl Y
 refine(am2 ((aL9 G.K).or (aL0 G.calm)) g1 (G.bi _ (by decide)) bi9 (zH h ad0 (zd hs)) J Z (zd hs) rfl).imp λ σ H Q q=>?_
 obtain⟨φ,ρ,s,d,s',E,R,y,q⟩:=q
 obtain⟨l,s1,e1,y⟩:=aa0 y
 obtain⟨rfl,rfl⟩:=qk y
 refine⟨φ,ρ,s,l,_,E,R,e1,λ v ys φ1 H1 g1 l1 B hq r1 R1=>?_⟩
 rcases hq with⟨a,rfl,hq⟩|⟨x,rfl,hx,rfl⟩
 ·exact .inl ⟨a,ys,rfl,hq.imp id (·.1),λ p hp=>(q.trans g1 l1).alloc R1 r1 B hp⟩
 ·exact .inr ⟨x,rfl,hx,λ p hp=>(q.trans g1 l1).alloc R1 r1 B hp⟩
theorem bE3 {m:kz->kt->kA (List ku)}{k:lJ}{x:Str}{a:Expr}{p pos:Pos}(G:CG Γ F n X ck)(hk:mkT k=some x)(y:ck.gl x=true)(hs:shp a=true)(h:PE X a (TLv Γ m)) :
  PE X (.Call (.Name x p) [a] [] pos) (TEv Γ (λ ρ s=>(m ρ s).bind λ l s=>lD k l s)):=by
 cases k<;>cases hk
 ·exact aL4 G y hs h
 ·exact aW5 G y hs h
def FrC (Γ:Gm)(X:Cx)(x:Str)(k:lJ):Prop:=∃ id r,be x=some (.builtin id)/\x∈bNames/\ac0 X (.builtin id) r/\∀ φ H s l ys p d s' Q,Rp Γ φ H s->RVL Γ φ H l ys->H p=some (.lst ys)->lD k l s=.ok d s'->ad4 Γ φ s H d s' Q->r [.ref p] H Q
theorem aH4:∀(l:List Int) (a:Int),(l.foldl min a=a\/l.foldl min a∈l)/\l.foldl min a<=a/\∀ y∈l,l.foldl min a<=y
 | [],a=>⟨.inl rfl,ju _,λ y hy=>by cases hy⟩
 | b::l,a=>by
  obtain⟨B,J,G⟩:=aH4 l (min a b)
  rw[bU]
  refine⟨?_,by omega,λ y hy=>?_⟩
  ·rcases B with h|h
   ·rw[h]
    rcases Int.le_total a b with z|z
    ·left;omega
    ·right;rw[show min a b=b by omega];exact aw ..
   ·exact .inr (ai _ h)
  ·rcases ay.mp hy with z|z
   ·rw[z];omega
   ·exact G y z
theorem bb7 {l:List Int}{m:Int}(h:l6 l=some m):m∈l/\∀ y∈l,m<=y:=by
 cases l with
 | nil=>cases h
 | cons a l =>
  cases h
  obtain⟨B,G,J⟩:=aH4 l a
  refine⟨?_,λ y hy=>?_⟩
  ·rcases B with h|h
   ·rw[h];exact aw ..
   ·exact ai _ h
  ·rcases ay.mp hy with z|z
   ·rw[z];exact G
   ·exact J y z
theorem bo4 (G:CG Γ F n X ck){k:lJ}{x:Str}(hk:mkF k=some x):FrC Γ X x k:=by
 cases k<;>cases hk
 ·refine⟨_,_,bR9,by decide,aP1 G.calm G.K,λ φ H s l ys p d s' Q R r hp h q=>?_⟩
  unfold lD at h
  dsimp only at h
  cases e:lx l with
  | none=>rw[e]at h;exact fb h
  | some bs =>
   rw[e]at h
   cases h
   have:=ak8 e
   subst this
   exact⟨p,bs,rfl,SqL.of (by rw[<-r.bls];exact hp),q.here R rfl RV.blI⟩
 ·refine⟨_,_,bB2,by decide,aW1 G.calm G.K,λ φ H s l ys p d s' Q R r hp h q=>?_⟩
  unfold lD at h
  dsimp only at h
  cases e:lw l with
  | none=>rw[e]at h;exact fb h
  | some is =>
   rw[e]at h
   have h:(match l6 is with|some m=>DV.R.ok (DV.D.int m) s|none=>.bad)=.ok d s':=h
   cases e2:l6 is with
   | none=>rw[e2]at h;exact fb h
   | some mm =>
    rw[e2]at h
    cases h
    have:=qE e
    subst this
    refine⟨p,is,rfl,SqL.of (by rw[<-r.ints];exact hp),(λ(z:is=[])=>by rw[z]at e2;cases e2),λ m h y=>?_⟩
    obtain⟨a,b⟩:=bb7 e2
    have:m=mm:=Int.le_antisymm (y mm a) (b m h)
    rw[this]
    exact q.here R rfl RV.intI
theorem bI0 {m:kz->kt->kA (List ku)}{k:lJ}{x:Str}{a:Expr}{p pos:Pos}(G:CG Γ F n X ck)(hk:mkF k=some x)(Y:ck.gl x=true)(hs:shp a=true)(h:PE X a (TFv Γ m)) :
  PE X (.Call (.Name x p) [a] [] pos) (TEv Γ (λ ρ s=>(m ρ s).bind λ l s=>lD k l s)):=by
 obtain⟨g1,g2,B⟩:=G.gl Y
 obtain⟨id,r,hb,hx,hc,Z⟩:=bo4 (Γ:=Γ) G hk
 refine(af8 hc g1 (G.bi _ hx) hb (zH h ad0 (zd hs)) B g2 (zd hs) rfl).imp λ σ H Q q=>?_
 obtain⟨φ,ρ,s,d,s',E,R,y,q⟩:=q
 obtain⟨l,s1,e1,y⟩:=aa0 y
 exact⟨φ,ρ,s,l,_,E,R,e1,λ p ys φ1 J g1 l1 b1 hp h0 ho r1 R1=>Z φ1 J s1 l ys p d s' Q R1 r1 hp y (q.trans g1 l1)⟩
theorem ba1 {φ φ':Nat->Addr}{s s':kt}{H':Hp}{r:Nat}{l:List ku}(R:Rp Γ φ H s)(g:Gr φ s H φ' s' H')(hb:r<s.length)(e:s'[r]?=some (.lst l)):tyV Γ.K "list" (.ref (φ r)) H:=by
 obtain⟨h,y⟩:∃ h,s[r]?=some h:=⟨s[r],am hb⟩
 have J:=g.mu r h _ y e rfl
 have ho:=R.obj r h y
 cases h with
 | lst l0 =>
  obtain⟨B,G,_⟩:=ho
  exact .inl ⟨rfl,B,SqL.of G⟩
 | ro _=>cases J
 | dic _=>have:=g.kd r _ _ y e;cases this
 | dit _=>have:=g.kd r _ _ y e;cases this
 | ins _ _=>exact ho.elim
def mtR (Γ:Gm)(m:lK):V->List V->Hp->VK->Prop:=λ x vs H Q=>∃ φ s a l d s',Rp Γ φ H s/\RV Γ φ H a x/\RVL Γ φ H l vs/\a.bnd s.length=true/\ky s.length l=true/\lq m a l s=.ok d s'/\ad4 Γ φ s H d s' Q
theorem bJ4:kF<aH:=by rw[fj];decide
theorem ap7 {m:lK}{x:Str}{k:Nat}(y:mtT m=some (x,k)){a:ku}{l:List ku}{s s':kt}{d:ku}(h:lq m a l s=.ok d s'):∃ r l0,a=.ref r/\s[r]?=some (.lst l0):=by
 have go:∀ {r:Nat} {f:List ku->kA ku},(match s[r]? with|some (.lst l)=>f l|_=>.bad)=.ok d s'->∃ l0,s[r]?=some (.lst l0):=λ {r f} h=>by
  cases e:s[r]? with
  | none=>rw[e]at h;exact fb h
  | some ob =>
   cases ob with
   | lst l0=>exact⟨l0,rfl⟩
   | _=>rw[e]at h;exact fb h
 unfold lq at h
 split at h
 ·obtain⟨l0,e⟩:=go h;exact⟨_,l0,rfl,e⟩
 ·obtain⟨l0,e⟩:=go h;exact⟨_,l0,rfl,e⟩
 ·obtain⟨l0,e⟩:=go h;exact⟨_,l0,rfl,e⟩
 ·obtain⟨l0,e⟩:=go h;exact⟨_,l0,rfl,e⟩
 ·obtain⟨l0,e⟩:=go h;exact⟨_,l0,rfl,e⟩
 ·exact fb h
theorem aY0:MtR X "list.append" (mtR Γ .append):=by
 intro G sh σ H x vs v us Q I rx rv h
 obtain⟨φ,s,a,l,d,s',R,ra,rl,ba,bl,B,q⟩:=h
 obtain⟨r,l0,rfl,e⟩:=ap7 (m:=.append) rfl B
 cases l with
 | nil=>exact fb B
 | cons y t =>
  cases t with
  | cons _ _=>exact fb B
  | nil =>
   simp only[lq,e]at B
   split at B
   case isFalse=>exact fb B
   rename_i hlt
   cases B
   obtain⟨z,rfl,rz⟩:=rl.one
   obtain⟨Z,h1,Y⟩:=R.addr e
   have J:ky s.length l0=true:=by have:=R.wf r _ e;unfold kD at this;exact this
   refine av0 G sh σ H x [z] v us Q I rx rv ⟨φ r,Z,z,ra.refE,rfl,h1,by rw[Y.length];have:=bJ4;omega,?_⟩
   exact q.put R e (Y.append (.cons rz .nil)) (zY J bl) rfl RV.nonI
theorem bQ5:MtR X "list.pop" (mtR Γ .pop):=by
 intro J sh σ H x vs v us Q I rx rv h
 obtain⟨φ,s,a,l,d,s',R,ra,rl,ba,bl,B,q⟩:=h
 obtain⟨r,l0,rfl,e⟩:=ap7 (m:=.pop) rfl B
 cases l with
 | cons _ _=>exact fb B
 | nil =>
  simp only[lq,e]at B
  cases eg:l0.getLast? with
  | none=>rw[eg]at B;exact fb B
  | some y =>
   rw[eg]at B
   cases B
   have hv:=rl.unnil
   subst hv
   obtain⟨xs,h1,Y⟩:=R.addr e
   have G:ky s.length l0=true:=by have:=R.wf r _ e;unfold kD at this;exact this
   rw[List.getLast?_eq_getElem?]at eg
   obtain⟨w,hw,Z⟩:=Y.get eg
   rw[<-Y.length]at hw
   refine bF8 J sh σ H x [] v us Q I rx rv ⟨φ r,xs,w,ra.refE,rfl,h1,hw,?_⟩
   have h3:RVL Γ φ H l0.dropLast xs.dropLast:=by
    rw[gH,gH,Y.length]
    exact Y.take _
   exact q.put R e h3 (ar6 G λ d hd=>List.dropLast_subset _ hd) (af5 G eg) Z
structure MtOk (Γ:Gm)(X:Cx)(m:lK)(x:Str):Prop where
 ex:∃ id,PySem.Slot "list" x id/\jk (.builtin id)=pure (.type "method_descriptor")/\MtR X id (mtR Γ m)
theorem bC3 (B:X.K=Γ.K)(y:Room (kM+1) X.A){m:lK}{x:Str}{k:Nat}(h:mtT m=some (x,k)):MtOk Γ X m x:=by
 cases m<;>cases h
 ·exact⟨_,gD,PySem.F.type_list_append,aY0⟩
 ·exact⟨_,iH,PySem.F.type_list_pop,bQ5⟩
theorem bc0 {m:lK}{o:lB}{es:kP}{ob:Expr}{J:List Expr}{x:Str}{ap cp:Pos}(G:CG Γ F n X ck)(hm:mtT m=some (x,J.length))(hab:bC7 ob=true)(hl:(ap.endLine==cp.line)=true)(ho:PE X ob (TEv Γ (kC F o)))
  (a2:mEs ck es J=true) (h:PEs Γ F X es J):EvT Γ X (.Call (.Attribute ob x ap) J [] cp) (kC F (.meth m o es)):=by
 refine .val ?_
 obtain⟨id,slot,a1,hr⟩:=(bC3 (Γ:=Γ) (X:=X) G.K (G.room.mono G.deep) hm).ex
 have hs:=ap3 a2
 have key:∀ σ H Q,TEv Γ (kC F (.meth m o es)) σ H Q->tBM Γ.K "list" (mtR Γ m) (TEv Γ (kC F o)) (TAv Γ (kT F es)) σ H Q:=λ σ H Q q=>by
  obtain⟨φ,ρ,s,d,s',E,R,B,q⟩:=q
  obtain⟨a,s1,e1,B⟩:=aa0 B
  obtain⟨l,s2,e2,B⟩:=aa0 B
  refine⟨φ,ρ,s,a,s1,E,R,e1,λ v φ1 H1 g1 l1 Y r1 R1=>?_⟩
  obtain⟨r,l0,rfl,er⟩:=ap7 hm B
  rw[r1.refE]
  have hk:∀ φ2 H2,Gr φ1 s1 H1 φ2 s2 H2->tyV Γ.K "list" (.ref (φ1 r)) H1:=λ φ2 H2 g2=>ba1 R1 g2 (by unfold kB at Y;exact of_decide_eq_true Y) er
  have Z:TAv Γ (kT F es) σ H1 λ J H2=>mtR Γ m (.ref (φ1 r)) J H2 Q:=by
   refine⟨φ1,ρ,s1,l,s2,E.mono g1 l1,R1,e2,λ vs φ2 H2 g2 l2 b2 r2 R2=>?_⟩
   refine⟨φ2,s2,.ref r,l,d,s',R2,?_,r2,zn l2 _ Y,b2,B,q.trans (g1.trans g2 l1) (ao l1 l2)⟩
   have:=RV.mono g2 _ _ Y r1
   rw[r1.refE]at this
   exact this
  refine⟨?_,Z⟩
  have hlt:r<s1.length:=by unfold kB at Y;exact of_decide_eq_true Y
  obtain⟨o0,e0⟩:∃ o0,s1[r]?=some o0:=⟨s1[r],am hlt⟩
  have a0:=R1.obj r o0 e0
  cases o0 with
  | lst l0 =>
   obtain⟨J,h1,_⟩:=a0
   exact .inl ⟨rfl,J,SqL.of h1⟩
  | ro l0 =>
   obtain⟨J,h1,_⟩:=a0
   exact .inl ⟨rfl,J,h1.1⟩
  | dic _ =>
   obtain⟨o',eo,ek⟩:=DV.af0 G.fk es ρ s1 _ _ e2 r _ e0
   rw[er]at eo;cases eo;cases ek
  | dit _ =>
   obtain⟨o',eo,ek⟩:=DV.af0 G.fk es ρ s1 _ _ e2 r _ e0
   rw[er]at eo;cases eo;cases ek
  | ins _ _=>exact a0.elim
 cases J with
 | nil =>
  have p0:PE X (.Call (.Attribute ob x ap) [] [] cp) (bY0 X.K "list" (mtR Γ m) (TEv Γ (kC F o))):=by3 fR slot a1 hr ho (aA7 hab) hl
  rw[G.K]at p0
  refine p0.imp λ σ H Q q=>?_
  cases es with
  | cons _ _=>exact h.elim
  | nil =>
   obtain⟨φ,ρ,s,d,s',E,R,B,k⟩:=key σ H Q q
   refine⟨φ,ρ,s,d,s',E,R,B,λ v φ1 H1 g1 l1 Y r1 R1=>?_⟩
   obtain⟨h1,h2⟩:=k v φ1 H1 g1 l1 Y r1 R1
   exact⟨h1,aE7 (TAv.eq (λ ρ s=>rfl) h2)⟩
 | cons y ys =>
  refine(bh0 G.K fR slot a1 hr ho (aj3 h) (aA7 hab) ?_ hl (zd (hs y (aw ..))) (zz λ e he=>hs e (ai _ he)).1).imp key
  rw[(zz hs).2]
  have:(y::ys).length<=1:=by
   unfold mtT at hm
   split at hm<;>first|(have:=aC hm;have:=congrArg Prod.snd this;simp at this;simp;omega)|cases hm
  simp only[fJ,ci,ka]
  show(true&&decide ((y::ys).length+0+0<30))=true
  rw[fJ]
  exact decide_eq_true (by omega)
end
section
variable {Γ:Gm} {F:kK} {n:Nat} {X:Cx} {ck:Ck} {σ:St} {H:Hp} {Q:VK}
theorem aN3 {φ:Nat->Addr}{H:Hp}:∀ {l:List ku} {y:List (List Nat)} {B:List V},lS l=some y->RVL Γ φ H l B->B=y.map by1
 | [],y,B,h,r=>by cases h;exact r.unnil
 | d::l,y,B,h,r=>by
  obtain⟨w,ws,rfl,r1,G⟩:=r.uncons
  cases d with
  | str z =>
   unfold lS at h
   cases e:lS l with
   | none=>rw[e]at h;cases h
   | some ss' =>
    rw[e]at h
    cases h
    rw[aI,<-aN3 e G,r1.strE];rfl
  | _=>cases h
theorem bv5 {o:lB}{m:kz->kt->kA ku}{ob a:Expr}{ap cp:Pos}(G:CG Γ F n X ck)(hab:bC7 ob=true)(hl:(ap.endLine==cp.line)=true)(ho:PE X ob (TEv Γ (kC F o)))(hs:shp a=true)(h:PE X a (TEv Γ m)) :
  PE X (.Call (.Attribute ob "join" ap) [a] [] cp) (TEv Γ (λ ρ s=>(kC F o ρ s).bind λ x s=>(m ρ s).bind λ q s=>DV.aw7 x q s)):=by
 refine(bh0 G.K PySem.F.plainAttrs_str gF PySem.F.type_str_join bn4 ho (zH h ad0 (zd hs)) (aA7 hab) ?_ hl (zd hs) rfl).imp λ σ H Q q=>?_
 ·rw[(zz (es:=[a]) λ e Z=>by rw[cH.mp Z];exact hs).2];rfl
 ·obtain⟨φ,ρ,s,d,s',E,R,B,q⟩:=q
  obtain⟨x,s1,e1,B⟩:=aa0 B
  obtain⟨y,s2,e2,B⟩:=aa0 B
  obtain⟨r,l,J,rfl,rfl,er,es,hlim,rfl,rfl⟩:∃ r l J,x=.str []/\y=.ref r/\s2[r]?=some (.lst l)/\lS l=some J/\J.flatten.length<=kF/\d=.str J.flatten/\s'=s2:=by
   unfold DV.aw7 at B
   split at B
   ·split at B
    ·split at B
     ·split at B
      ·split at B
       ·cases B;exact⟨_,_,_,rfl,rfl,by assumption,by assumption,by assumption,rfl,rfl⟩
       ·exact fb B
      ·exact fb B
     ·exact fb B
    ·exact fb B
   ·exact fb B
  refine⟨φ,ρ,s,_,s1,E,R,e1,λ v φ1 H1 g1 l1 b1 r1 R1=>?_⟩
  have ev:=r1.strE
  subst ev
  refine⟨rfl,φ1,ρ,s1,_,s',E.mono g1 l1,R1,e2,λ v φ2 H2 g2 l2 b2 r2 R2=>?_⟩
  have ew:=r2.refE
  subst ew
  obtain⟨xs,Y,h2⟩:=R2.addr er
  rw[aN3 es h2]at Y
  exact⟨φ2 r,J,rfl,rfl,Y,ao hlim qc,(q.trans (g1.trans g2 l1) (ao l1 l2)).here R2 rfl (RV.strI hlim)⟩
theorem PIf.imp {e:List Expr}{t t':TT}(h:PIf X e t)(i:∀ σ H Q,t' σ H Q->t σ H Q):PIf X e t':=λ y s σ H Q I q=>h y s σ H Q I (i σ H Q q)
structure CompF (Γ:Gm)(X:Cx)(m:kz->kt->kA (List ku))(E:Expr):Prop where
 ex:∃ elt tgt iter ifs scope pos N' caps wi g tc te,E=.ListComp elt [⟨tgt,iter,ifs,0⟩] scope pos/\z9 N' caps scope X.N X.env.scope=true/\PI X tgt iter wi /\
  (∀(C:Addr) (cells:List (Str×Addr)) (s:af) (H:Hp) (ex:List Addr),PG (zQ X N' scope C cells s H ex) tgt g/\PIf (zQ X N' scope C cells s H ex) ifs tc/\PE (zQ X N' scope C cells s H ex) elt te) /\
  (∀ x,cQ iter X.env x=pure x)/\∀ σ H Q,TFv Γ m σ H Q->tComp caps wi g tc te σ H Q
theorem CompF.pe {m:kz->kt->kA (List ku)}{E:Expr}(h:CompF Γ X m E)(hc:X.calm=true):PE X E (TFv Γ m):=by
 obtain⟨a0,Y,iter,Z,scope,pos,N',y,wi,g,tc,te,rfl,B,G,J,h4,h5⟩:=h.ex
 exact(aW2 N' y B G hc J h4).imp h5
theorem bq9 {tg:k7}{mI:kz->kt->kA lC}{mc J:kz->kt->kA ku}{h:List (Option Nat)}{B y iter i:Expr}{scope:Scope}{pos:Pos}(G:CG Γ F n X ck)(hm:aK8 ck tg y iter h scope=true)
  (hi:PI X y iter (TIv Γ mI)) (hc:∀ C cells s H ex,PT (zQ X (ckC ck y h scope).N scope C cells s H ex) i (TTv Γ mc)) (Z:∀ C cells s H ex,PE (zQ X (ckC ck y h scope).N scope C cells s H ex) B (TEv Γ J)) :
  CompF Γ X (λ ρ s=>(mI ρ s).bind λ q s0=>if q.its.length<=kF then lA (λ s=>lb s0 s q.src) (λ d ρ s=>match kO ρ tg d with
   | some ρ=>kH (mc ρ s) λ k s=>if k then(J ρ s).bind λ v s=>.ok (some v,ρ) s else .ok (none,ρ) s
   | none=>.bad) q.its (lp ρ h) s0 else .bad) (.ListComp B [⟨y,iter,[i],0⟩] scope pos):=by
 obtain⟨Y,c2,c3⟩:=G.comp hm
 exact⟨B,y,iter,[i],scope,pos,_,h,_,_,_,_,rfl,Y,hi,λ C cells s H ex=>⟨(c3 C cells s H ex).2,bv9 (hc C cells s H ex),Z C cells s H ex⟩,ay8 c2,λ σ H Q q=>aP2 q⟩
theorem aY6 {tg:k7}{mI:kz->kt->kA lC}{Y:kz->kt->kA ku}{h:List (Option Nat)}{B y iter:Expr}{scope:Scope}{pos:Pos}(G:CG Γ F n X ck)(J:aK8 ck tg y iter h scope=true)
  (hi:PI X y iter (TIv Γ mI)) (he:∀ C cells s H ex,PE (zQ X (ckC ck y h scope).N scope C cells s H ex) B (TEv Γ Y)) :
  CompF Γ X (λ ρ s=>(mI ρ s).bind λ q s0=>if q.its.length<=kF then lA (λ s=>lb s0 s q.src) (λ d ρ s=>match kO ρ tg d with
   | some ρ=>(Y ρ s).bind λ v s=>.ok (some v,ρ) s
   | none=>.bad) q.its (lp ρ h) s0 else .bad) (.ListComp B [⟨y,iter,[],0⟩] scope pos):=by
 obtain⟨Z,c2,c3⟩:=G.comp J
 refine⟨B,y,iter,[],scope,pos,_,h,_,_,TTv Γ (λ ρ s=>.ok (.bl true) s),_,rfl,Z,hi,λ C cells s H ex=>⟨(c3 C cells s H ex).2,bu8.imp λ σ H Q q=>?_,he C cells s H ex⟩,ay8 c2,λ σ H Q q=>aP2 (TFv.eq (λ ρ s=>?_) q)⟩
 ·obtain⟨φ,ρ,s,b,s',E,R,J,q⟩:=q
  cases J
  exact q φ H (Gr.refl _ _ _) (aj _) R
 ·congr 1
theorem bk2 {tg:Expr}{e:lB}{E:Expr}(G:CG Γ F n X ck)(h:PE X E (TEv Γ (kC F e))):PI X tg E (TIv Γ (l7 F (.seq e))):=by
 refine(PI.or (bp5 G.K h) (PI.or (ba0 G.K h) (bI8 h))).imp λ σ H R q=>bM3 (TIv.eq (λ ρ s=>rfl) q)
theorem bb0 {tg:Expr}{a:lB}{l:Expr}{p pos:Pos}(G:CG Γ F n X ck)(y:ck.gl "range"=true)(hs:shp l=true)(h:PE X l (TEv Γ (kC F a))):PI X tg (.Call (.Name "range" p) [l] [] pos) (TIv Γ (l7 F (.rng1 a))) :=
 (aR8 (G.gl y).1 (G.bi _ (by decide)) (zH h ad0 (zd hs)) (zd hs)).imp λ σ H R q=>bv2 (TIv.eq (λ ρ s=>rfl) q)
theorem bH1 (h:TEv Γ (λ ρ s=>li (.dic []) s) σ H Q):bh4 σ H Q:=by
 obtain⟨φ,ρ,s,d,s',E,R,B,q⟩:=h
 obtain⟨rfl,rfl⟩:=qk B
 intro p hp
 obtain⟨g,y⟩:=R.new (o:=.dic []) (u:=.dK []) hp rfl λ φ' H' g e=>⟨[],e,rfl⟩
 exact q (.ref p) _ _ g (by simp) (by unfold kB;simp) (by unfold RV;simp) y
theorem bI5 {mk mv:kz->kt->kA ku}(h:TEv Γ (λ ρ s=>(mk ρ (s++[.dic []])).bind λ kd s1=>(mv ρ s1).bind λ G s2=>if kd.key=true/\s2[s.length]?=some (.dic [])then .ok (.ref s.length) (s2.set s.length (.dic [(kd,G)]))else .bad) σ H Q):bz3 [(TEv Γ mk,TEv Γ mv)] σ H Q:=by
 obtain⟨φ,ρ,s,d,s',E,R,B,q⟩:=h
 obtain⟨kd,s1,e1,B⟩:=aa0 B
 obtain⟨G,s2,e2,B⟩:=aa0 B
 split at B
 case isFalse=>exact fb B
 rename_i hc
 cases B
 intro p hp
 obtain⟨g0,R0⟩:=R.new (o:=.dic []) (u:=.dK []) hp rfl λ φ' H' g e=>⟨[],e,rfl⟩
 have l0:s.length<=(s++[DV.O.dic []]).length:=by simp
 refine⟨_,ρ,s++[DV.O.dic []],kd,s1,E.mono g0 l0,R0,e1,λ v1 φ1 H1 g1 l1 b1 r1 R1=>?_⟩
 refine⟨φ1,ρ,s1,G,s2,(E.mono g0 l0).mono g1 l1,R1,e2,λ Y φ2 H2 g2 J b2 r2 R2=>?_⟩
 have y:φ2 s.length=p:=by
  rw[g2.w.map s.length (aq (by simp) l1),g1.w.map s.length (by simp)];simp
 obtain⟨k,hk⟩:=ar9 hc.1
 have ek:=aI2 hk (RV.mono g2 kd v1 b1 r1)
 obtain⟨Z,z1,z2⟩:=R2.obj s.length _ hc.2
 have z2:Z=[]:=z2
 subst z2
 rw[y]at z1
 refine⟨z1,[(k,Y)],by rw[ek];rfl,by simp,?_⟩
 have hb:(DV.O.dic [(kd,G)]).bnd s2.length=true:=by
  unfold kD
  simp only[aI,cr,ky,fI,ag]
  exact⟨zn J _ b1,b2⟩
 obtain⟨g3,R3⟩:=R2.set (o:=.dic [(kd,G)]) (u:=.dK [(k,Y)]) hc.2 rfl hb λ H' g e=>⟨_,e,k,Y,[],rfl,hk,RV.monoW g _ _ b2 r2,rfl⟩
 rw[y]at g3 R3
 have L:s.length<=s2.length:=ao l0 (ao l1 J)
 have lt:s.length<s2.length:=aq (by simp) (ao l1 J)
 exact q (.ref p) _ _ (((g0.trans g1 l0).trans g2 (ao l0 l1)).trans g3 L) (by rw[br];exact L) (by unfold kB;rw[br];exact decide_eq_true lt) (by unfold RV;rw[y]) R3
end
section
variable {Γ:Gm} {F:kK} {n:Nat}
theorem bB3 {X:Cx}{c:DV.Cn}{v:Const}{k:Nat}{pos:Pos}(h:mC c v=true):EvT Γ X (.Constant v k pos) (kC F (.cst c)):=by
 refine .val ?_
 unfold mC at h
 split at h
 ·exact bD7.imp λ σ H Q q=>ay2 (c:=.non) (λ _=>rfl) (λ _ _=>RV.nonI) (TEv.eq (λ ρ s=>rfl) q)
 ·rename_i b c
  have e:=eq_of_beq h
  subst e
  exact bG3.imp λ σ H Q q=>ay2 (c:=.bl b) (λ _=>rfl) (λ _ _=>RV.blI) (TEv.eq (λ ρ s=>rfl) q)
 ·rename_i i j
  have e:=of_decide_eq_true h
  subst e
  exact bz0.imp λ σ H Q q=>ay2 (c:=.int i) (λ _=>rfl) (λ _ _=>RV.intI) (TEv.eq (λ ρ s=>rfl) q)
 ·rename_i x y
  rw[ag]at h
  have e:=of_decide_eq_true h.1
  have e2:=of_decide_eq_true h.2
  subst e
  exact bh2.imp λ σ H Q q=>ay2 (c:=.str x) (λ _=>rfl) (λ _ _=>RV.strI (by unfold kF;omega)) (TEv.eq (λ ρ s=>rfl) q)
 ·cases h
theorem bt1 {X:Cx}{Z:Ck}{es:kP}{y:List Expr}{pos:Pos}(m:mEs Z es y=true)(hz:y.length<=1000)(h:PA X y (TAv Γ (kT F es))):PE X (.List y pos) (TFv Γ (DV.evL F (.disp es))):=by
 refine(bh7 h).imp λ σ H Q q=>?_
 obtain⟨φ,ρ,s,l,s',E,R,J,q⟩:=q
 refine⟨φ,ρ,s,l,s',E,R,J,λ vs φ1 B g1 l1 G r1 R1=>⟨by rw[r1.length,aq2 J m];exact aU1 hz,λ p hp=>?_⟩⟩
 obtain⟨Y,R2⟩:=R1.same (H':=upd B p (.lst vs)) ((ad2.refl B).new hp)
 refine q p vs φ1 _ (g1.trans Y l1) l1 G zb ?_ (Off.new R1 hp) (RVL.mono Y _ _ G r1) R2
 cases e:H p with
 | none=>rfl
 | some o=>exact absurd hp (g1.st p (by rw[e];simp))
theorem CompF.eq {X:Cx}{m m':kz->kt->kA (List ku)}{E:Expr}(c:CompF Γ X m E)(e:∀ ρ s,m' ρ s=m ρ s):CompF Γ X m' E:=by
 have:m'=m:=funext λ ρ=>funext λ s=>e ρ s
 subst this;exact c
theorem zg {a b:Bool}(h:(a&&b)=true):a=true/\b=true:=by rw[ag]at h;exact h
theorem bo0 {X:Cx}{B:Ck}{g:String}{p:Pos}(G:CG Γ F n X B)(h:B.gl (g:Str)=true):EvT Γ X (.Name (g:Str) p) (kC F (.glob g)):=by
 refine .val ?_
 obtain⟨g1,g2,g3⟩:=G.gl h
 cases e:F.con g with
 | none =>
  intro J s σ H Q I q
  obtain⟨φ,ρ,s,d,s',E,R,y,q⟩:=q
  have y:(match F.con g with|some d=>DV.R.ok d s|none=>.bad)=.ok d s':=y
  rw[e]at y
  cases y
 | some d =>
  obtain⟨v,u,Y,Z,h3,h4⟩:=G.con g d e
  exact(ak0 g1 Y Z g2).imp λ σ H Q q=>ay2 (c:=d) h3 h4 (TEv.eq (λ ρ s=>by show(match F.con g with|some d=>DV.R.ok d s|none=>.bad)=DV.R.ok d s;rw[e]) q)
theorem bD9 {X:Cx}{y:Ck}{i:Nat}{x:Str}{p:Pos}(G:CG Γ F n X y)(h:y.var i x=true):EvT Γ X (.Name x p) (kC F (.var i)):=by
 refine .val ?_
 unfold Ck.var at h
 obtain⟨h,Y⟩:=zg h
 obtain⟨h,Z⟩:=zg h
 obtain⟨J,B⟩:=zg h
 have e1:(x==("__debug__":Str))=false:=by simpa using Z
 have e2:(x==("__classdict__":Str))=false:=by simpa using Y
 exact(at0 (by rw[G.N];exact of_decide_eq_true J) (G.vis B) e1 e2).imp λ σ H Q q=>bA3 i (TEv.eq (λ ρ s=>rfl) q)
theorem bj8 {X:Cx}{y:Ck}{i:Nat}{x:Str}{p:Pos}(G:CG Γ F n X y)(h:y.var i x=true):PE X (.Name x p) (aX0 i):=by
 unfold Ck.var at h
 obtain⟨h,Y⟩:=zg h
 obtain⟨h,Z⟩:=zg h
 obtain⟨J,B⟩:=zg h
 exact at0 (by rw[G.N];exact of_decide_eq_true J) (G.vis B) (by simpa using Z) (by simpa using Y)
theorem aq7 {Y:Ck}:∀ {es:lf} {J:List Expr},bx5 Y es J=true->∀ x∈J,shp x=true
 | .nil,[],_,x,hx=>by cases hx
 | .nil,_::_,h,_,_=>ff h
 | .ex e es,[],h,_,_=>ff h
 | .ex e es,y::ys,h,x,hx=>by
  obtain⟨h,G⟩:=zg h
  obtain⟨Z,B⟩:=zg h
  rcases ay.mp hx with rfl|hx
  ·exact B
  ·exact aq7 G x hx
 | .lam _ _ es,[],h,_,_=>ff h
 | .lam _ _ es,y::ys,h,x,hx=>by
  obtain⟨h,G⟩:=zg h
  obtain⟨Z,B⟩:=zg h
  rcases ay.mp hx with rfl|hx
  ·exact B
  ·exact aq7 G x hx
 | .fn _ _,_,h,_,_=>ff h
theorem aD6 {G:Ck}:∀ {es:lf} {Y:List Expr},bx5 G es Y=true->bf7 es=true->∃ id B E,G.lk id B E=true
 | .nil,_,_,h=>by cases h
 | .ex e es,[],h,_=>ff h
 | .ex e es,y::ys,h,hl=>by
  obtain⟨h,J⟩:=zg h
  exact aD6 J hl
 | .lam id B es,[],h,_=>ff h
 | .lam id B es,y::ys,h,_=>by
  obtain⟨h,J⟩:=zg h
  obtain⟨Z,h2⟩:=zg h
  exact⟨id,B,y,Z⟩
 | .fn _ _,_,h,_=>ff h
theorem aE8 {X:Cx}{E:Expr}{m:kz->kt->kA ku}(h:∀ ρ s,m ρ s=.bad):EvT Γ X E m:=by
 refine⟨λ y s σ H Q I q=>?_,λ y s σ H Q I q=>?_⟩
 ·obtain⟨φ,ρ,s,d,s',E,R,B,q⟩:=q
  rw[h]at B;exact fb B
 ·obtain⟨φ,ρ,s,d,s',E,R,B,q⟩:=q
  rw[h]at B;exact fb B
inductive LK (Γ:Gm)(X:Cx)(m:kz->kt->kA (List ku))(E:Expr)(k:Nat):Prop where
 | c (h:CompF Γ X m E):LK Γ X m E k
 | f (hk:1<=k) (h:PE X E (TFv Γ m)):LK Γ X m E k
 | s (hk:k=2) (h:PE X E (TLv Γ m)):LK Γ X m E k
theorem bF6 {X:Cx}{m:kz->kt->kA (List ku)}{E:Expr}(h:LK Γ X m E 0):CompF Γ X m E:=by
 cases h with
 | c h=>exact h
 | f hk h=>omega
 | s hk h=>omega
theorem bU9 {X:Cx}{y:Ck}{m:kz->kt->kA (List ku)}{E:Expr}(G:CG Γ F n X y)(h:LK Γ X m E 1):PE X E (TFv Γ m):=by
 cases h with
 | c h=>exact h.pe G.calm
 | f hk h=>exact h
 | s hk h=>omega
theorem bV3 {X:Cx}{y:Ck}{m:kz->kt->kA (List ku)}{E:Expr}(G:CG Γ F n X y)(h:LK Γ X m E 2):PE X E (TLv Γ m):=by
 cases h with
 | c h=>exact(h.pe G.calm).imp λ σ H Q q=>aE0 q
 | f hk h=>exact h.imp λ σ H Q q=>aE0 q
 | s hk h=>exact h
theorem biOk_inv {B:Ck}{b:k6}{x:Str}{G:List Expr}{es:kP}(h:bN8 B b x G (mEs B es G) (mEs B es (G.take 1))=true) :
  (∃ k t a y J,biK b=some (k,t)/\G=[a,.Name y J]/\x=("isinstance":Str)/\y=t/\B.gl x=true/\B.gl y=true/\mEs B es [a]=true)\/∃ a ys,G=a::ys/\biT b=some x/\B.gl x=true/\mEs B es (a::ys)=true:=by
 unfold bN8 at h
 cases hk:biK b with
 | none =>
  rw[hk]at h
  cases G with
  | nil=>exact ff h
  | cons a ys =>
   obtain⟨h,h3⟩:=zg h
   obtain⟨Z,Y⟩:=zg h
   exact .inr ⟨a,ys,rfl,of_decide_eq_true Z,Y,h3⟩
 | some p =>
  rw[hk]at h
  cases G with
  | nil=>exact ff h
  | cons a ys=>cases ys with
   | nil=>exact ff h
   | cons b ys=>cases b with
    | Name y J=>cases ys with
     | nil =>
      obtain⟨h,h5⟩:=zg h
      obtain⟨h,h4⟩:=zg h
      obtain⟨h,h3⟩:=zg h
      obtain⟨Z,Y⟩:=zg h
      exact .inl ⟨p.1,p.2,a,y,J,rfl,rfl,of_decide_eq_true Z,of_decide_eq_true h3,Y,h4,h5⟩
     | cons _ _=>exact ff h
    | _=>exact ff h
mutual
theorem sE:∀(e:lB) (E:Expr) (X:Cx) (B:Ck),CG Γ F n X B->mE B e E=true->EvT Γ X E (kC F e)
 | .var i,E,X,B,G,h=>by
  cases E with
  | Name x p =>
   exact bD9 G h
  | _=>exact ff h
 | .cst c,E,X,B,G,h=>by
  cases E with
  | Constant v k p =>
   exact bB3 h
  | _=>exact ff h
 | .glob g,E,X,B,G,h=>by
  cases E with
  | Name x p =>
   obtain⟨Y,J⟩:=zg h
   have e:=of_decide_eq_true Y
   subst e
   exact bo0 G J
  | _=>exact ff h
 | .bin op a b,E,X,B,G,h=>by
  cases E with
  | BinOp l o r pE =>
   obtain⟨h,Z⟩:=zg h
   obtain⟨Y,J⟩:=zg h
   have e:=of_decide_eq_true Y
   subst e
   exact br8 G op (sE a _ X B G J) (sE b _ X B G Z)
  | _=>exact ff h
 | .neg a,E,X,B,G,h=>by
  cases E with
  | UnaryOp o l p =>
   cases o with
   | USub =>
    exact bp9 (sE a _ X B G h)
   | _=>exact ff h
  | _=>exact ff h
 | .not a,E,X,B,G,h=>by
  cases E with
  | UnaryOp o l p =>
   cases o with
   | Not =>
    exact bo3 (sE a _ X B G h)
   | _=>exact ff h
  | _=>exact ff h
 | .cmp op a b,E,X,B,G,h=>by
  cases E with
  | Compare l os rs pE =>
   cases os with
   | cons o os_0 =>
    cases os_0 with
    | nil =>
     cases rs with
     | cons r rs_0 =>
      cases rs_0 with
      | nil =>
       obtain⟨h,Z⟩:=zg h
       obtain⟨Y,J⟩:=zg h
       have e:=of_decide_eq_true Y
       subst e
       exact bn1 G op (aG8 Z) (sE a _ X B G J) (sE b _ X B G Z)
      | _=>exact ff h
     | _=>exact ff h
    | _=>exact ff h
   | _=>exact ff h
  | _=>exact ff h
 | .chain _ _ _ _ _,E,X,B,G,h=>ff h
 | .isN _,E,X,B,G,h=>ff h
 | .notN _,E,X,B,G,h=>ff h
 | .isB _ _,E,X,B,G,h=>ff h
 | .notB _ _,E,X,B,G,h=>ff h
 | .and a b,E,X,B,G,h=>by
  cases E with
  | BoolOp op vs p=>cases op with
   | And =>
    cases vs with
    | nil=>exact ff h
    | cons l vs=>cases vs with
     | nil=>exact ff h
     | cons r vs=>cases vs with
      | nil =>
       obtain⟨Y,J⟩:=zg h
       exact bs4 (sE a _ X B G Y) (sE b _ X B G J)
      | cons r2 vs =>
       obtain⟨Y,J⟩:=zg h
       exact bq8 (sE a _ X B G Y) (sE b _ X B G J)
   | _=>exact ff h
  | _=>exact ff h
 | .or a b,E,X,B,G,h=>by
  cases E with
  | BoolOp op vs p=>cases op with
   | Or =>
    cases vs with
    | nil=>exact ff h
    | cons l vs=>cases vs with
     | nil=>exact ff h
     | cons r vs=>cases vs with
      | nil =>
       obtain⟨Y,J⟩:=zg h
       exact bI2 (sE a _ X B G Y) (sE b _ X B G J)
      | cons r2 vs =>
       obtain⟨Y,J⟩:=zg h
       exact bM2 (sE a _ X B G Y) (sE b _ X B G J)
   | _=>exact ff h
  | _=>exact ff h
 | .ite c a b,E,X,B,G,h=>by
  cases E with
  | IfExp tE l r pE =>
   obtain⟨h,Z⟩:=zg h
   obtain⟨Y,J⟩:=zg h
   exact bs5 (sE c _ X B G Y) (sE a _ X B G J) (sE b _ X B G Z)
  | _=>exact ff h
 | .tup es,E,X,B,G,h=>by
  cases E with
  | Tuple xs k p =>
   obtain⟨Y,J⟩:=zg h
   exact br1 Y (of_decide_eq_true J) (aj3 (sEs es _ X B G Y))
  | _=>exact ff h
 | .lst es,E,X,B,G,h=>by
  cases E with
  | List xs p =>
   obtain⟨Y,J⟩:=zg h
   exact br5 Y (of_decide_eq_true J) (aj3 (sEs es _ X B G Y))
  | _=>exact ff h
 | .dic .nil .nil,E,X,B,G,h=>by
  cases E with
  | Dict a b p=>cases a with
   | nil=>cases b with
    | nil=>exact .val (bc3.imp λ σ H Q q=>bH1 (TEv.eq (λ ρ s=>rfl) q))
    | _=>exact ff h
   | cons x a=>cases x with
    | none=>exact ff h
    | some x=>cases a with
     | nil=>cases b with
      | nil=>exact ff h
      | cons y b=>cases b with
       | nil=>exact ff h
       | _=>exact ff h
     | _=>exact ff h
  | _=>exact ff h
 | .dic (.cons k .nil) (.cons v .nil),E,X,B,G,h=>by
  cases E with
  | Dict a b p=>cases a with
   | nil=>cases b with
    | nil=>exact ff h
    | _=>exact ff h
   | cons x a=>cases x with
    | none=>exact ff h
    | some x=>cases a with
     | nil=>cases b with
      | nil=>exact ff h
      | cons y b=>cases b with
       | nil =>
        obtain⟨Y,J⟩:=zg h
        obtain⟨Y,_⟩:=zg Y
        obtain⟨Y,_⟩:=zg Y
        obtain⟨J,_⟩:=zg J
        obtain⟨J,_⟩:=zg J
        exact .val ((bn8 (be6 (sE k _ X B G Y).1 (sE v _ X B G J).1 bv4) rfl rfl (by nofun) (by show 1<=15;decide)).imp λ σ H Q q=>bI5 (TEv.eq (λ ρ s=>rfl) q))
       | _=>exact ff h
     | _=>exact ff h
  | _=>exact ff h
 | .dic .nil (.cons _ _),E,X,B,G,h=>aE8 λ _ _=>rfl
 | .dic (.cons _ .nil) .nil,E,X,B,G,h=>aE8 λ _ _=>rfl
 | .dic (.cons _ .nil) (.cons _ (.cons _ _)),E,X,B,G,h=>aE8 λ _ _=>rfl
 | .dic (.cons _ (.cons _ _)) _,E,X,B,G,h=>aE8 λ _ _=>rfl
 | .bitl _,E,X,B,G,h=>ff h
 | .lrng _,E,X,B,G,h=>ff h
 | .dicT,E,X,B,G,h=>ff h
 | .get2 _ _ _,E,X,B,G,h=>ff h
 | .ix a b,E,X,B,G,h=>by
  cases E with
  | Subscript o i p =>
   obtain⟨Y,J⟩:=zg h
   exact bM5 G (aG8 J) (sE a _ X B G Y) (sE b _ X B G J)
  | _=>exact ff h
 | .slL _ _,E,X,B,G,h=>ff h
 | .slU a hi,E,X,B,G,h=>by
  cases E with
  | Subscript o i p =>
   cases i with
   | Slice lo hi st p2 =>
    cases lo with
    | none =>
     cases hi with
     | some l =>
      cases st with
      | none =>
       obtain⟨Y,J⟩:=zg h
       exact bt2 G (sE a _ X B G Y) (sE hi _ X B G J)
      | _=>exact ff h
     | _=>exact ff h
    | _=>exact ff h
   | _=>exact ff h
  | _=>exact ff h
 | .slLU _ _ _,E,X,B,G,h=>ff h
 | .rev _,E,X,B,G,h=>ff h
 | .call f as,E,X,B,G,h=>by
  cases E with
  | Call fE xs kw p =>
   cases fE with
   | Name x pN =>
    cases kw with
    | nil =>
     obtain⟨h,Z⟩:=zg h
     obtain⟨Y,J⟩:=zg h
     have e:=of_decide_eq_true Y
     subst e
     exact aZ7 G J Z (sAs as _ X B G Z)
    | _=>exact ff h
   | _=>exact ff h
  | _=>exact ff h
 | .callC f as,E,X,B,G,h=>by
  cases E with
  | Call fE xs kw p =>
   cases fE with
   | Name x pN =>
    cases xs with
    | cons y ys =>
     cases kw with
     | nil =>
      obtain⟨h,Z⟩:=zg h
      obtain⟨h,h4⟩:=zg h
      obtain⟨Y,J⟩:=zg h
      have e:=of_decide_eq_true Y
      subst e
      obtain⟨id,a0,E',a1⟩:=aD6 Z h4
      obtain⟨_,_,_,_,_,_,_,_,L⟩:=G.lam id a0 E' a1
      exact .val ((aU3 G J L.fn L.kd (aq7 Z) (bP6 as _ X B G Z)).imp λ σ H Q q=>TEv.eq (λ ρ s=>rfl) q)
     | _=>exact ff h
    | _=>exact ff h
   | _=>exact ff h
  | _=>exact ff h
 | .callV i es,E,X,B,G,h=>by
  cases E with
  | Call fE xs kw p =>
   cases fE with
   | Name x pN =>
    cases xs with
    | cons y ys =>
     cases kw with
     | nil =>
      obtain⟨Y,J⟩:=zg h
      exact .val (aS2 G Y (ap3 J) (aj3 (sEs es _ X B G J)) (bj8 G Y))
     | _=>exact ff h
    | _=>exact ff h
   | _=>exact ff h
  | _=>exact ff h
 | .bi b es,E,X,B,G,h=>by
  cases E with
  | Call fE xs kw p =>
   cases fE with
   | Name x pN =>
    cases kw with
    | nil =>
     have h:bN8 B b x xs (mEs B es xs) (mEs B es (xs.take 1))=true:=h
     rcases biOk_inv h with⟨k,t,a,y,py,hk,rfl,rfl,rfl,J,h4,h5⟩|⟨a,ys,rfl,Y,J,Z⟩
     ·exact bk8 G hk J h4 (sEs es _ X B G h5)
     ·exact bD6 G Y J Z (aj3 (sEs es _ X B G Z))
    | _=>exact ff h
   | _=>exact ff h
  | _=>exact ff h
 | .mk k l,E,X,B,G,h=>by
  cases E with
  | ListComp e gs sc p =>
   obtain⟨Y,J⟩:=zg h
   have e:=of_decide_eq_true Y
   subst e
   exact .val (((bF6 (sL l _ X B G 0 J)).pe G.calm).imp λ σ H Q q=>aO7 (TEv.eq (λ ρ s=>rfl) q))
  | Call fE xs kw p =>
   cases fE with
   | Name x pN =>
    cases xs with
    | cons a xs_0 =>
     cases xs_0 with
     | nil =>
      cases kw with
      | nil =>
       obtain⟨h,h4⟩:=zg h
       obtain⟨J,Z⟩:=zg h
       rw[bN]at h4
       rcases h4 with h4|h4
       ·obtain⟨h5,h6⟩:=zg h4
        exact .val ((bE3 G (of_decide_eq_true h5) J Z (bV3 G (sL l _ X B G 2 h6))).imp λ σ H Q q=>TEv.eq (λ ρ s=>rfl) q)
       ·obtain⟨h5,h6⟩:=zg h4
        exact .val ((bI0 G (of_decide_eq_true h5) J Z (bU9 G (sL l _ X B G 1 h6))).imp λ σ H Q q=>TEv.eq (λ ρ s=>rfl) q)
      | _=>exact ff h
     | _=>exact ff h
    | _=>exact ff h
   | _=>exact ff h
  | _=>exact ff h
 | .mks _ _,E,X,B,G,h=>ff h
 | .mkDs _ _ _,E,X,B,G,h=>ff h
 | .mkD _ _ _,E,X,B,G,h=>ff h
 | .meth m o es,E,X,B,G,h=>by
  cases E with
  | Call fE xs kw p =>
   cases fE with
   | Attribute ob x ap =>
    cases kw with
    | nil =>
     obtain⟨h,h5⟩:=zg h
     obtain⟨h,h4⟩:=zg h
     obtain⟨h,Z⟩:=zg h
     obtain⟨Y,J⟩:=zg h
     exact bc0 G (of_decide_eq_true Y) J Z (sE o _ X B G h4).1 h5 (sEs es _ X B G h5)
    | _=>exact ff h
   | _=>exact ff h
  | _=>exact ff h
 | .ext _ _,E,X,B,G,h=>ff h
 | .extS _ _,E,X,B,G,h=>ff h
 | .join o e',E,X,B,G,h=>by
  cases E with
  | Call fE xs kw p =>
   cases fE with
   | Attribute ob x ap =>
    cases xs with
    | cons a xs_0 =>
     cases xs_0 with
     | nil =>
      cases kw with
      | nil =>
       obtain⟨h,h6⟩:=zg h
       obtain⟨h,h5⟩:=zg h
       obtain⟨h,h4⟩:=zg h
       obtain⟨h,Z⟩:=zg h
       obtain⟨Y,J⟩:=zg h
       have e:=of_decide_eq_true Y
       subst e
       exact .val ((bv5 G J Z (sE o _ X B G h4).1 h6 (sE e' _ X B G h5).1).imp λ σ H Q q=>TEv.eq (λ ρ s=>rfl) q)
      | _=>exact ff h
     | _=>exact ff h
    | _=>exact ff h
   | _=>exact ff h
  | _=>exact ff h
theorem sEs:∀(es:kP) (y:List Expr) (X:Cx) (B:Ck),CG Γ F n X B->mEs B es y=true->PEs Γ F X es y
 | .nil,y,X,B,G,h=>by
  cases y with
  | nil =>
   exact trivial
  | _=>exact ff h
 | .cons e es,y,X,B,G,h=>by
  cases y with
  | cons x y =>
   obtain⟨h,Z⟩:=zg h
   obtain⟨Y,J⟩:=zg h
   exact⟨⟨J,sE e _ X B G Y⟩,sEs es _ X B G Z⟩
  | _=>exact ff h
theorem sAs:∀(es:lf) (y:List Expr) (X:Cx) (B:Ck),CG Γ F n X B->mAs B es y=true->PA X y (TAv Γ (kZ F es))
 | .nil,y,X,B,G,h=>by
  cases y with
  | nil =>
   exact ad0.imp λ σ H Q q=>aE7 (TAv.eq (λ ρ s=>rfl) q)
  | _=>exact ff h
 | .ex e es,y,X,B,G,h=>by
  cases y with
  | cons x y =>
   obtain⟨h,Z⟩:=zg h
   obtain⟨Y,J⟩:=zg h
   exact(aF5 J (sE e _ X B G Y).1 (sAs es _ X B G Z)).imp λ σ H Q q=>TAv.eq (λ ρ s=>rfl) q
  | _=>exact ff h
 | .lam _ _ _,y,X,B,G,h=>ff h
 | .fn _ _,y,X,B,G,h=>ff h
theorem bP6:∀(es:lf) (y:List Expr) (X:Cx) (B:Ck),CG Γ F n X B->bx5 B es y=true->PA X y (TAp Γ X.env.cells X.N (kZ F es))
 | .nil,y,X,B,G,h=>by
  cases y with
  | nil =>
   exact ad0.imp λ σ H Q q=>bw2 (TAp.eq (λ ρ s=>rfl) q)
  | _=>exact ff h
 | .ex e es,y,X,B,G,h=>by
  cases y with
  | cons x y =>
   obtain⟨h,h3⟩:=zg h
   obtain⟨Z,Y⟩:=zg h
   exact(zH (sE e _ X B G Z).1 (bP6 es _ X B G h3) (zd Y)).imp λ σ H Q q=>bI6 (TAp.eq (λ ρ s=>rfl) q)
  | _=>exact ff h
 | .lam id caps es,y,X,B,G,h=>by
  cases y with
  | cons x y =>
   obtain⟨h,h3⟩:=zg h
   obtain⟨Z,Y⟩:=zg h
   obtain⟨c,P,params,body,scope,pos,J,e,L⟩:=G.lam id caps _ Z
   have hnm:J.nm=none:=by
    cases q:J.nm with
    | none=>rfl
    | some p=>unfold lamText at e;rw[q]at e;rw[e]at Y;cases Y
   unfold lamText at e
   rw[hnm]at e
   dsimp only at e
   subst e
   rw[<-G.N]at L
   exact(bF2 L hnm (bP6 es _ X B G h3)).imp λ σ H Q q=>TAp.eq (λ ρ s=>rfl) q
  | _=>exact ff h
 | .fn _ _,y,X,B,G,h=>ff h
theorem sI:∀(i:DV.I) (E tg:Expr) (X:Cx) (y:Ck),CG Γ F n X y->mI y tg i E=true->PI X tg E (TIv Γ (l7 F i))
 | .seq e,E,tg,X,y,G,h=>by
  obtain⟨B,J⟩:=zg h
  exact bk2 G (sE e _ X y G B).1
 | .rng1 a,E,tg,X,y,G,h=>by
  cases E with
  | Call fE xs kw p =>
   cases fE with
   | Name x pN =>
    cases xs with
    | cons l xs_0 =>
     cases xs_0 with
     | nil =>
      cases kw with
      | nil =>
       obtain⟨h,Y⟩:=zg h
       obtain⟨h,Z⟩:=zg h
       obtain⟨B,J⟩:=zg h
       have e:=of_decide_eq_true B
       subst e
       exact bb0 G J Y (sE a _ X y G Z).1
      | _=>exact ff h
     | _=>exact ff h
    | _=>exact ff h
   | _=>exact ff h
  | _=>exact ff h
 | .rng2 _ _,E,tg,X,y,G,h=>ff h
 | .rng3 _ _ _,E,tg,X,y,G,h=>ff h
 | .enum (.seq _),E,tg,X,y,G,h=>ff h
 | .enum (.rng1 _),E,tg,X,y,G,h=>ff h
 | .enum (.rng2 _ _),E,tg,X,y,G,h=>ff h
 | .enum (.rng3 _ _ _),E,tg,X,y,G,h=>ff h
 | .enum (.enum _),E,tg,X,y,G,h=>ff h
 | .enum (.zip _ _),E,tg,X,y,G,h=>ff h
 | .enum (.items _),E,tg,X,y,G,h=>ff h
 | .zip (.seq _) (.seq _),E,tg,X,y,G,h=>ff h
 | .zip (.seq _) (.rng1 _),E,tg,X,y,G,h=>ff h
 | .zip (.seq _) (.rng2 _ _),E,tg,X,y,G,h=>ff h
 | .zip (.seq _) (.rng3 _ _ _),E,tg,X,y,G,h=>ff h
 | .zip (.seq _) (.enum _),E,tg,X,y,G,h=>ff h
 | .zip (.seq _) (.zip _ _),E,tg,X,y,G,h=>ff h
 | .zip (.seq _) (.items _),E,tg,X,y,G,h=>ff h
 | .zip (.rng1 _) _,E,tg,X,y,G,h=>ff h
 | .zip (.rng2 _ _) _,E,tg,X,y,G,h=>ff h
 | .zip (.rng3 _ _ _) _,E,tg,X,y,G,h=>ff h
 | .zip (.enum _) _,E,tg,X,y,G,h=>ff h
 | .zip (.zip _ _) _,E,tg,X,y,G,h=>ff h
 | .zip (.items _) _,E,tg,X,y,G,h=>ff h
 | .items _,E,tg,X,y,G,h=>ff h
theorem sL:∀(l:DV.L) (E:Expr) (X:Cx) (B:Ck),CG Γ F n X B->∀ k,mL B k l E=true->LK Γ X (DV.evL F l) E k
 | .comp tg it e caps,E,X,B,G,k,h=>by
  cases E with
  | ListComp elt gs scope p =>
   cases gs with
   | cons g gs1 =>
    cases g with
    | mk tgt iter ifs z =>
     cases ifs with
     | nil =>
      cases gs1 with
      | nil =>
       obtain⟨h,Z⟩:=zg h
       obtain⟨h,J⟩:=zg h
       obtain⟨h0,y⟩:=zg h
       have Y:=of_decide_eq_true h0
       subst Y
       have c:=aY6 (pos:=p) G y (sI it _ _ X B G J) λ C cells s H ex=>(sE e _ _ _ ((G.comp y).2.2 C cells s H ex).1 Z).1
       exact .c (c.eq λ ρ s=>rfl)
      | _=>exact ff h
     | _=>exact ff h
   | _=>exact ff h
  | _=>exact ff h
 | .compIf tg it i e caps,E,X,B,G,k,h=>by
  cases E with
  | ListComp elt gs scope p =>
   cases gs with
   | cons g gs1 =>
    cases g with
    | mk tgt iter ifs z =>
     cases ifs with
     | cons i1 ifs1 =>
      cases ifs1 with
      | nil =>
       cases gs1 with
       | nil =>
        obtain⟨h,h4⟩:=zg h
        obtain⟨h,Z⟩:=zg h
        obtain⟨h,J⟩:=zg h
        obtain⟨h0,y⟩:=zg h
        have Y:=of_decide_eq_true h0
        subst Y
        have c:=bq9 (pos:=p) G y (sI it _ _ X B G J) (λ C cells s H ex=>(sE i _ _ _ ((G.comp y).2.2 C cells s H ex).1 Z).2) λ C cells s H ex=>(sE e _ _ _ ((G.comp y).2.2 C cells s H ex).1 h4).1
        exact .c (c.eq λ ρ s=>rfl)
       | _=>exact ff h
      | _=>exact ff h
     | _=>exact ff h
   | _=>exact ff h
  | _=>exact ff h
 | .disp es,E,X,B,G,k,h=>by
  cases E with
  | List xs p =>
   obtain⟨h,J⟩:=zg h
   obtain⟨h0,y⟩:=zg h
   exact .f (of_decide_eq_true h0) (bt1 y (of_decide_eq_true J) (aj3 (sEs es _ X B G y)))
  | _=>exact ff h
 | .seq e,E,X,B,G,k,h=>by
  obtain⟨h0,y⟩:=zg h
  exact .s (of_decide_eq_true h0) ((sE e _ X B G y).1.imp λ σ H Q q=>bD2 (TLv.eq (λ ρ s=>rfl) q))
 | .itm _,E,X,B,G,k,h=>ff h
end
end
section
variable {Γ:Gm} {F:kK} {n:Nat}
theorem ba4 {X:Cx}{ck:Ck}{m:kz->kt->kA (List ku)}{E:Expr}{x:Str}{i:Nat}{px pos:Pos}(G:CG Γ F n X ck)(c:CompF Γ X m E)(hi:ck.N[i]?=some x)(hl:ck.loc x=true) :
  PS X (.Assign [.Name x px] E pos) (aY8 (TFv Γ m) (au9 i)):=by
 obtain⟨a0,Y,iter,Z,scope,p2,N',h,wi,g,tc,te,rfl,h1,h2,h3,h4,h5⟩:=c.ex
 obtain⟨l1,l2⟩:=G.loc hl
 have nd:X.N.Nodup:=by rw[G.N];exact G.nd
 have y:X.N[i]?=some x:=by rw[G.N];exact hi
 generalize hb:((X.env.blockKind==.function&&X.env.kindOf x==some .local&&px.line==(Expr.ListComp a0 [⟨Y,iter,Z,0⟩] scope p2).pos.line&&!(scope.names.any λ(n,k)=>n==x&&(k==.local||k==.cell))))=b
 have J:eP (.ListComp a0 [⟨Y,iter,Z,0⟩] scope p2) (some (.Name x px)) pos.line X.env=pure b:=by rw[<-hb];rfl
 have imp:∀ D σ H,aY8 (TFv Γ m) (au9 i) D σ H->aY8 (tComp h wi g tc te) (au9 i) D σ H:=λ D σ H q=>h5 _ _ _ q
 cases b with
 | true =>
  have B:X.env.scope.names.lookup x=some .local:=by
   simp only[ag]at hb
   exact eq_of_beq hb.1.1.2
  exact(aM0 N' h nd y B h1 h2 G.calm h3 h4 J).imp imp
 | false=>exact(bf9 nd y l1 (aW2 N' h h1 h2 G.calm h3 h4) J l2).imp imp
theorem bm7 {X:Cx}{y:Ck}{e:lB}{v:Expr}{x:Str}{i:Nat}{Y pos:Pos}(G:CG Γ F n X y)(J:y.N[i]?=some x)(hl:y.loc x=true)(h:mE y e v=true) :
  PS X (.Assign [.Name x Y] v pos) (TSv Γ (DV.ex F (.asg (.one i) e))):=by
 obtain⟨l1,l2⟩:=G.loc hl
 have nd:X.N.Nodup:=by rw[G.N];exact G.nd
 have B:X.N[i]?=some x:=by rw[G.N];exact J
 by_cases hc:av6 v=true
 ·exact(bf9 nd B l1 (sE e v X y G h).1 (al8 hc) l2).imp λ D σ H q=>aN5 (tg:=.one i) (TSv.eq (λ ρ s=>rfl) q)
 ·have hs:=aG8 h
  cases v with
  | ListComp elt gs sc p =>
   cases e with
   | mk k l =>
    obtain⟨Z,h2⟩:=zg h
    have e:=of_decide_eq_true Z
    subst e
    exact(ba4 G (bF6 (sL l _ X y G 0 h2)) J hl).imp λ D σ H q=>be7 (tg:=.one i) (TSv.eq (λ ρ s=>rfl) q)
   | _=>exact ff h
  | SetComp _ _ _ _=>cases hs
  | DictComp _ _ _ _ _=>cases hs
  | _=>exact absurd rfl hc
theorem bb4 {T:List (Addr×Str)}{cells:List (Str×Addr)}{P:Addr}{q:Str}{name:Str}{params:a9}{body:List Stmt}{scope:Scope}{pos:Pos}{ix:Nat}{D0:Ends}{σ:St}{H:Hp}(hT:TabsH T H)(nd:(T.map (·.1)).Nodup)(hm:(P,q)∈T)
  (go:∀(f:Addr) (H':Hp),aU5 H H'->(∀ b,H b≠none->H' b≠none)->TabsH T H'->H f=none->(∃ Y pm J B,H' f=some (ap2 f (b7 name q params body scope (ad3 cells scope.names []) .none .none Y pm none (.ref J) B))/\H' J=some (qj J q))->D0.nx (σ.set ix (some (.ref f))) H') :
  bZ5 cells P name q params body scope pos ix D0 σ H:=by
 obtain⟨ps,hP,ht,hc⟩:=hT _ hm
 refine⟨ps,hP,ht,λ hn J f Y pm B n1 n2 ne=>?_,λ cv e=>?_⟩
 ·have cP:J≠P:=λ z=>by rw[z,hP]at n1;cases n1
  have fP:f≠P:=λ z=>by rw[z,hP]at n2;cases n2
  have G:∀ b,b≠P->H b≠none->∀ o1 o2 o3,upd (upd (upd H P o1) J o2) f o3 b=H b:=λ b z1 z2 o1 o2 o3=>by
   rw[za λ z=>by subst z;exact z2 n2,za λ z=>by subst z;exact z2 n1,za z1]
  refine go f _ (λ b o d e=>?_) (λ b hb=>?_) (λ y hy=>?_) n2 ⟨Y,pm,J,B,zb,by rw[za ne,zb]⟩
  ·rw[G b (λ z=>by subst z;rw[hP]at e;cases e;exact d _ rfl) (by rw[e];simp)];exact e
  ·by_cases z:b=P
   ·subst z;rw[za (bO fP),za (bO cP),zb];simp
   ·rw[G b z hb];exact hb
  ·by_cases z:y.1=P
   ·have ey:y=(P,q):=by
     have:∀(l:List (Addr×Str)),(l.map (·.1)).Nodup->y∈l->(P,q)∈l->y=(P,q):=by
      intro l
      induction l with
      | nil=>intro _ h;simp at h
      | cons a l ih =>
       intro hn h1 h2
       rw[aI,cK]at hn
       rcases ay.mp h1 with e1|h1<;>rcases ay.mp h2 with e2|h2
       ·rw[e1,e2]
       ·exact absurd (by rw[<-e1,z];exact bj (f:=(·.1)) h2) hn.1
       ·exact absurd (by rw[<-e2,<-z];exact bj (f:=(·.1)) h1) hn.1
       ·exact ih hn.2 h1 h2
     exact this T nd hy hm
    subst ey
    refine⟨_,by rw[za (bO fP),za (bO cP),zb],?_,λ Z cv e=>?_⟩
    ·rw[c9];exact TriplesOk_snoc _ _ _ _ ht
    ·rw[c9]at e
     rcases codeAmong_add _ ht e with e'|e'
     ·obtain⟨c2,e1,e2⟩:=hc Z cv e'
      exact⟨c2,e1,by rw[G c2 (λ z=>by subst z;rw[hP]at e2;unfold qj at e2;cases e2) (by rw[e2];simp)];exact e2⟩
     ·exact⟨J,e',by rw[za ne,zb]⟩
   ·obtain⟨qs,e1,e2,e3⟩:=hT y hy
    refine⟨qs,by rw[G y.1 z (by rw[e1];simp)];exact e1,e2,λ Z cv e=>?_⟩
    obtain⟨c2,e4,e5⟩:=e3 Z cv e
    exact⟨c2,e4,by rw[G c2 (λ z=>by subst z;rw[hP]at e5;unfold qj at e5;cases e5) (by rw[e5];simp)];exact e5⟩
 ·obtain⟨J,e1,e2⟩:=hc pos cv e
  refine⟨J,e1,λ f Y pm B n=>go f _ (.of ((ad2.refl H).new n)) (λ b hb=>by
   by_cases z:b=f
   ·subst z;rw[zb];simp
   ·rw[za z];exact hb) (hT.new n) n ⟨Y,pm,J,B,zb,?_⟩⟩
  rw[za (zq e2 n)];exact e2
theorem aW3 (env : Env) : ∀ l : List Arg, (l.all λ y => y.annotation.isNone) = true -> iw l env = []
 | [], _ => by unfold iw; rfl
 | ⟨x,some a,p⟩::l,h=>by simp at h
 | ⟨x,none,p⟩::l,h=>by
  unfold iw
  exact aW3 env l (by simpa using h)
theorem bb8 {params:a9}(h:bl3 params=true)(env:Env):params.defaults=[]/\params.kw_defaults=[]/\annTrees params none env=[]:=by
 unfold bl3 at h
 split at h
 ·refine⟨rfl,rfl,?_⟩
  unfold annTrees
  simp only[Option.toList,a7]
  rw[aW3 env _ h];rfl
 ·cases h
theorem aC8 {α:Type}{o:Option α}{f:α->Bool}(h:o.any f=true):∃ a,o=some a/\f a=true:=by
 cases o with
 | none=>exact ff h
 | some a=>exact⟨a,rfl,h⟩
theorem ba9 {s:lZ}{y:lL}{d:Nat×String×lB×String×List Nat}(h:bU2 s y=some d):s=.und d.1/\y=.cons (.ret (.callC d.2.1 (.ex d.2.2.1 (.lam d.2.2.2.1 d.2.2.2.2 .nil)))) .nil:=by
 unfold bU2 at h
 split at h
 ·cases h;exact⟨rfl,rfl⟩
 ·cases h
theorem aZ2 {S:List Stmt}{q:Str×a9×Expr×Pos×Scope×Pos×List Stmt}(h:bW7 S=some q):S=.FunctionDef q.1 q.2.1 [.Return (some q.2.2.1) q.2.2.2.1] [] none [] q.2.2.2.2.1 none q.1 q.2.2.2.2.2.1::q.2.2.2.2.2.2:=by
 have y:∀ {p:Prop},(none:Option (Str×a9×Expr×Pos×Scope×Pos×List Stmt))=some q->p:=λ h=>nomatch h
 cases S with
 | cons x xs =>
  cases x with
  | FunctionDef nm params body dl ret tp scope ts nm2 pos =>
   cases body with
   | cons b1 bs =>
    cases b1 with
    | Return v rp =>
     cases v with
     | some b =>
      cases bs with
      | nil =>
       cases dl with
       | nil =>
        cases ret with
        | none =>
         cases tp with
         | nil =>
          cases ts with
          | none =>
           have h:(if nm2=nm then some (nm,params,b,rp,scope,pos,xs)else none)=some q:=h
           by_cases e:nm2=nm
           ·rw[if_pos e]at h;cases h;rw[e]
           ·rw[if_neg e]at h;exact y h
          | _=>exact y h
         | _=>exact y h
        | _=>exact y h
       | _=>exact y h
      | _=>exact y h
     | _=>exact y h
    | _=>exact y h
   | _=>exact y h
  | _=>exact y h
 | _=>exact y h
theorem bd5 {nm:Str}{S:List Stmt}{r:Str×Pos×Expr×Pos×Pos×Pos}(h:ca3 nm S=some r):S=[.Return (some (.Call (.Name r.1 r.2.1) [r.2.2.1,.Name nm r.2.2.2.1] [] r.2.2.2.2.1)) r.2.2.2.2.2]:=by
 have B:∀ {p:Prop},(none:Option (Str×Pos×Expr×Pos×Pos×Pos))=some r->p:=λ h=>nomatch h
 cases S with
 | cons x xs =>
  cases x with
  | Return v rp2 =>
   cases v with
   | some e =>
    cases e with
    | Call f as kw cp =>
     cases f with
     | Name g gp =>
      cases as with
      | cons a as1 =>
       cases as1 with
       | cons y as2 =>
        cases y with
        | Name x p2 =>
         cases as2 with
         | nil =>
          cases kw with
          | nil =>
           cases xs with
           | nil =>
            have h:(if x=nm then some (g,gp,a,p2,cp,rp2)else none)=some r:=h
            by_cases e:x=nm
            ·rw[if_pos e]at h;cases h;rw[e]
            ·rw[if_neg e]at h;exact B h
           | _=>exact B h
          | _=>exact B h
         | _=>exact B h
        | _=>exact B h
       | _=>exact B h
      | _=>exact B h
     | _=>exact B h
    | _=>exact B h
   | _=>exact B h
  | _=>exact B h
 | _=>exact B h
theorem bL7 {X:Cx}{ck:Ck}{s:lZ}{ss:lL}{S:List Stmt}(G:CG Γ F n X ck)(hM:by7 ck s ss S=true):PSs X S (TSv Γ (l8 F (.cons s ss))):=by
 obtain⟨⟨i,g,e,id,y⟩,e1,hA⟩:=aC8 hM
 clear hM
 obtain⟨⟨B,params,b,rp,scope,pos,xs⟩,e2,hB⟩:=aC8 hA
 clear hA
 obtain⟨⟨g',gp,a,p2,cp,rp2⟩,e3,h⟩:=aC8 hB
 clear hB
 obtain⟨rfl,rfl⟩:=ba9 e1
 have e3:=bd5 e3
 have e2:=aZ2 e2
 dsimp only at e2 e3 h ⊢
 subst e3
 subst e2
 clear e1
 obtain⟨h,c4⟩:=zg h
 obtain⟨h,b0⟩:=zg h
 obtain⟨h,h9⟩:=zg h
 obtain⟨h,h8⟩:=zg h
 obtain⟨h,h7⟩:=zg h
 obtain⟨h,h6⟩:=zg h
 obtain⟨h,h5⟩:=zg h
 obtain⟨h0,h2⟩:=zg h
 have h7:=of_decide_eq_true h7
 subst h7
 have h1:=of_decide_eq_true h0
 clear h0
 obtain⟨c,P,a0,c6,b4,e7,J,Z,L⟩:=G.lam id y _ h6
 obtain⟨pn,hnm⟩:∃ pn,J.nm=some pn:=by
  cases q:J.nm with
  | none=>unfold lamText at Z;rw[q]at Z;cases Z
  | some p=>exact⟨p,rfl⟩
 obtain⟨pa,pb⟩:=pn
 unfold lamText at Z
 rw[hnm]at Z
 dsimp only at Z
 cases Z
 rw[<-G.N]at L h1
 obtain⟨l1,l2⟩:=G.loc h2
 obtain⟨a1,a2,a3⟩:=bb8 c4 X.env
 have d0:X.env.kindOf B=some .local\/X.env.kindOf B=some .cell:=l1
 have hq:jS X.env B B=J.qual:=by
  rw[L.q]
  unfold LamI.own jS
  rw[hnm]
  rcases d0 with z|z<;>rw[z]<;>rfl
 have p1:=by9 (X:=X) (c:=c) (P:=P) (body:=[.Return (some b) rp]) (scope:=scope) (pos:=pos) (by rw[G.N];exact G.nd) h1 l1 L.code L.hd L.bm L.ck hq a1 a2 a3 l2
 have c3:PE X (.Name B p2) (aX0 i):=bj8 G h5
 obtain⟨g1,g2,g3⟩:=G.gl h8
 rcases G.call g with hb|⟨fa,fd,ps,hF,c2,hk,hB⟩
 ·intro e0 sh σ H D I q
  obtain⟨φ,ρ,s,c,s',E,R,Y,q⟩:=q
  obtain⟨c1,s1,e1,Y⟩:=aa0 Y
  have e1:(match l9 ρ i with|some ρ=>DV.R.ok (DV.Ct.next ρ) s|none=>.bad)=.ok c1 s1:=e1
  split at e1
  case h_2=>cases e1
  cases e1
  obtain⟨c1,s1,e1,Y⟩:=aa0 Y
  obtain⟨d1,s2,e1,hm2⟩:=aa0 e1
  obtain⟨l,s3,e1,hm2⟩:=aa0 e1
  obtain⟨d,s4,e4,hm2⟩:=aa0 hm2
  rw[hb]at e4;cases e4
 have hE:=(sE e _ X ck G h9).1
 have hA:PA X [a,.Name B p2] (aq4 (TEv Γ (kC F e)) (aq4 (aX0 i) aZ8)):=zH hE (zH c3 ad0 (zd rfl)) (zd b0)
 have p3:=aI4 (p:=gp) (pos:=cp) hF G.room g1 c2 hk hB L.fn hA g2 (zd b0) (zz (es:=[.Name B p2]) λ z hz=>by rw[cH.mp hz];rfl).1
 refine(zS p1 (zS (an0 p3) am0)).imp λ D σ H q=>?_
 obtain⟨φ,ρ,s,c0,s',E,R,Y,q⟩:=q
 obtain⟨c1,s1,e1,Y⟩:=aa0 Y
 have e1:(match l9 ρ i with|some ρ=>DV.R.ok (DV.Ct.next ρ) s|none=>.bad)=.ok c1 s1:=e1
 unfold l9 at e1
 by_cases hil:i < ρ.length
 case neg=>rw[if_neg hil]at e1;cases e1
 rw[if_pos hil]at e1
 cases e1
 obtain⟨c1,s1,e1,Y⟩:=aa0 Y
 obtain⟨d1,s2,e1,hm2⟩:=aa0 e1
 cases hm2
 cases Y
 obtain⟨l,s3,e1,hm2⟩:=aa0 e1
 obtain⟨d2,s4,e4,hm2⟩:=aa0 hm2
 split at hm2
 case isFalse=>exact fb hm2
 rename_i hn
 cases hm2
 rw[ag]at hn
 obtain⟨x1,s5,e5,e1⟩:=aa0 e1
 obtain⟨y1,s6,e6,e1⟩:=aa0 e1
 cases e1
 have e6:(match kU (ρ.set i none) y with|some cs=>(kZ F .nil (ρ.set i none) s5).bind λ l s=>DV.R.ok (DV.D.clo id cs::l) s|none=>DV.R.bad)=.ok y1 s3:=e6
 cases eg:kU (ρ.set i none) y with
 | none=>rw[eg]at e6;cases e6
 | some cs =>
  rw[eg]at e6
  cases e6
  refine bb4 R.tab L.nd L.tab λ f H' eS st tb hf ho=>?_
  obtain⟨a4,R1⟩:=R.sameT eS st tb
  have E1:RE Γ φ H' s.length (ρ.set i none) (σ.set i (some (.ref f))):=by
   have E0:=E.mono a4 (aj _)
   refine⟨by rw[br,br];exact E0.len,λ j d ej=>?_⟩
   by_cases z:i=j
   ·subst z
    rw[aU hil]at ej;cases ej
   ·rw[aY z]at ej
    obtain⟨q1,v,q2,q3⟩:=E0.val j d ej
    exact⟨q1,v,by rw[aY z];exact q2,q3⟩
  obtain⟨cap,a6,b3,hσ⟩:=aP8 E1 eg
  have b2:=(ak3 eg).1
  have b5:ae5 H' f J (ad3 X.env.cells J.scope.names []):=by
   unfold ae5;rw[hnm];dsimp only;rw[L.p,L.b,L.s];exact ho
  refine⟨φ,ρ.set i none,s,x1,_,E1,R1,e5,λ v1 φ1 H1 g1 l1 b1 r1 c5=>?_⟩
  have b6:i < σ.length:=by rw[<-E.len];exact hil
  refine⟨.ref f,by rw[aU b6],?_⟩
  intro H2 ca
  obtain⟨gs,R2⟩:=c5.same ca.same
  have a5:=aa2 l1 cs b3
  have d3:∀ m,x1.bnd m=true->ky m cs=true->ky m [x1,.clo id cs]=true:=λ m z1 z2=>by
   simp only[ky,z1,fJ,fI]
   unfold kB;exact z2
  have bl:=d3 _ b1 a5
  have pv:PVL Γ X.env.cells X.N (σ.set i (some (.ref f))) φ1 H1 [x1,.clo id cs] [v1,.ref f]:=by
   refine .cons (.inl r1) (.cons (.inr ⟨id,cs,rfl,f,J,rfl,L.lg,b5.kp g1.w.kp,by rw[b2,L.len],by rw[L.s];exact L.cl,cap,RVL.mono g1 cs cap b3 a6,λ i x v e1 e3=>?_⟩) .nil)
   have hi:i<y.length:=by rw[<-L.len];exact(ae.mp e1).1
   have hj:y[i]?=some y[i]:=am hi
   exact⟨by rw[L.s];exact L.fr x (bp e1),y[i],L.at_ i _ x hj e1,hσ i _ v hj e3⟩
  refine⟨φ1,_,[x1,.clo id cs],_,_,R2,pv.caught ca L.kd bl,bl,e4,λ v φ' H3 g' l' b' r' R'=>?_⟩
  have hc:Cells X.env.cells H3:=ca.cells.kp g'.w.kp
  exact q φ' (ab1 X.env.cells H3) ((a4.trans g1 (aj _)).trans (Gr.caught ca g') l1) (ao l1 l') (R'.dropC hc hn.2) v b' (RV.dropC hc _ v hn.1 r')
mutual
theorem sS:∀(st:lZ) (S:Stmt) (X:Cx) (y:Ck),CG Γ F n X y->mS y st S=true->PS X S (TSv Γ (DV.ex F st))
 | .asg tg e,S,X,y,G,h=>by
  cases S with
  | Assign ts v p =>
   cases ts with
   | cons t ts1 =>
    cases ts1 with
    | nil =>
     obtain⟨h,Y⟩:=zg h
     obtain⟨J,B⟩:=zg h
     cases tg with
     | one i =>
      have h:=J
      cases t with
      | Name x px =>
       obtain⟨a1,Z⟩:=zg h
       exact bm7 G (of_decide_eq_true a1) Z B
      | _=>exact ff h
     | tup is =>
      obtain⟨a1,Z⟩:=zg Y
      have h:=J
      cases t with
      | Tuple te tk tp=>exact(bj0 (sE e _ X y G B).1 (bw7 G J) (show eP v (some (.Tuple te tk tp)) p.line X.env=pure false from al8 Z) (aJ5 a1) rfl).imp λ D σ H q=>aN5 (TSv.eq (λ ρ s=>rfl) q)
      | _=>exact ff h
    | _=>exact ff h
   | _=>exact ff h
  | _=>exact ff h
 | .setIx o i e,S,X,y,G,h=>by
  cases S with
  | Assign ts v p2 =>
   cases ts with
   | cons tt ts1 =>
    cases tt with
    | Subscript ob ix p1 =>
     cases ts1 with
     | nil =>
      obtain⟨h,h5⟩:=zg h
      obtain⟨h,h4⟩:=zg h
      obtain⟨h,Y⟩:=zg h
      obtain⟨J,B⟩:=zg h
      have a0:=aG8 B
      refine(bj0 (sE e _ X y G Y).1 (bD0 (sE o _ X y G J).1 (sE i _ X y G B).1 (bC9 (bF7 G.room)) ?_) (show eP v (some (.Subscript ob ix p1)) p2.line X.env=pure false from al8 h4) (aI7 h5) ?_).imp λ D σ H q=>bc1 (TSv.eq (λ ρ s=>rfl) q)
      ·intro w
       cases ix<;>first|rfl|cases a0
      ·rfl
     | _=>exact ff h
    | _=>exact ff h
   | _=>exact ff h
  | _=>exact ff h
 | .aug _ _,S,X,y,G,h=>ff h
 | .ex e,S,X,y,G,h=>by
  cases S with
  | Expr v p =>
   obtain⟨J,B⟩:=zg h
   exact(aV8 (sE e _ X y G J).1 (al8 B)).imp λ D σ H q=>bu3 (TSv.eq (λ ρ s=>rfl) q)
  | _=>exact ff h
 | .ret e,S,X,y,G,h=>by
  cases S with
  | Return vo p =>
   cases vo with
   | some v =>
    exact(an0 (sE e _ X y G h).1).imp λ D σ H q=>bB5 (TSv.eq (λ ρ s=>rfl) q)
   | _=>exact ff h
  | _=>exact ff h
 | .retN,S,X,y,G,h=>ff h
 | .ite c a b,S,X,y,G,h=>by
  cases S with
  | If t l r p =>
   obtain⟨h,Y⟩:=zg h
   obtain⟨J,B⟩:=zg h
   exact(bm9 (sE c _ X y G J).2 (sSs a _ X y G B) (sSs b _ X y G Y)).imp λ D σ H q=>bU7 (TSv.eq (λ ρ s=>rfl) q)
  | _=>exact ff h
 | .whl c b,S,X,y,G,h=>by
  cases S with
  | While t l o p =>
   cases o with
   | nil =>
    obtain⟨J,B⟩:=zg h
    exact(bc8 (by rw[G.xe];exact jA) (sE c _ X y G J).2 (sSs b _ X y G B)).imp λ D σ H q=>aZ0 (TSv.eq (λ ρ s=>rfl) q)
   | _=>exact ff h
  | _=>exact ff h
 | .for_ tg it b,S,X,y,G,h=>by
  cases S with
  | For tgt iter l o p =>
   cases o with
   | nil =>
    obtain⟨h,Y⟩:=zg h
    obtain⟨J,B⟩:=zg h
    exact(bz4 (by rw[G.xe];exact jA) G.calm (sI it _ _ X y G B) (bw7 G J) (sSs b _ X y G Y) (ay8 (bH2 B))).imp λ D σ H q=>bK7 (TSv.eq (λ ρ s=>rfl) q)
   | _=>exact ff h
  | _=>exact ff h
 | .pass,S,X,y,G,h=>ff h
 | .cont,S,X,y,G,h=>ff h
 | .brk,S,X,y,G,h=>ff h
 | .und _,S,X,y,G,h=>ff h
 | .raise,S,X,y,G,h=>bd6.imp λ D σ H q=>by
  obtain⟨φ,ρ,s,c,s',E,R,hm,q⟩:=q
  cases hm
theorem sSs:∀(st:lL) (S:List Stmt) (X:Cx) (y:Ck),CG Γ F n X y->mSs y st S=true->PSs X S (TSv Γ (l8 F st))
 | .nil,S,X,y,G,h=>by
  cases S with
  | nil =>
   exact am0.imp λ D σ H q=>br2 (m:=l8 F .nil) (λ ρ s=>rfl) q
  | _=>exact ff h
 | .cons s ss,S,X,y,G,h=>by
  cases S with
  | cons x xs =>
   rcases(bN _ _).mp h with h|h
   ·exact bL7 G h
   obtain⟨J,B⟩:=zg h
   exact(zS (sS s _ X y G J) (sSs ss _ X y G B)).imp λ D σ H q=>bH5 (TSv.eq (λ ρ s=>rfl) q)
  | _=>exact ff h
end
end
noncomputable def bO6 (ck:Ck):List String->List Expr->Bool
 | [],xs=>match xs with|[]=>true|_=>false
 | c::cs,xs=>match xs with|.Name x _::es=>decide (x=(c:Str))&&ck.gl x&&bO6 ck cs es|_=>false
noncomputable def mHT (ck:Ck)(n:Str):DV.HT->Expr->Bool
 | .isi cs,E=>match E with|.Call (.Name g _) [.Name x _,.Tuple es _ _] [] _=>decide (g=("isinstance":Str))&&ck.gl g&&decide (x=n)&&bO6 ck cs es&&decide (cs.length<=1000)|_=>false
 | .one c,E=>match E with|.Call (.Name g _) [.Name x _,.Name d _] [] _=>decide (g=("isinstance":Str))&&ck.gl g&&decide (x=n)&&decide (d=(c:Str))&&ck.gl d|_=>false
 | .not t,E=>match E with|.UnaryOp .Not e _=>mHT ck n t e|_=>false
 | .or a b,E=>match E with|.BoolOp .Or [x,y] _=>mHT ck n a x&&mHT ck n b y|_=>false
noncomputable def mHd (ck:Ck)(n:Str):DV.Hd->List Stmt->Bool
 | .ret t,S=>match S with|[.Return (some e) _]=>mHT ck n t e|_=>false
 | .iff t b h,S=>match S with|.If e [.Return (some (.Constant (.bool b') _ _)) _] [] _::rest=>mHT ck n t e&&decide (b'=b)&&mHd ck n h rest|_=>false
structure XC (F:kK)(K:ac)(mg:Str->Option Value):Prop where
 at_:∀ c:String,F.xc c=true->∃ C,mg (c:Str)=some (.ref C)/\ExcCls K C/\excI K C=true
 cls:∀ c:String,F.xt c=true->∃ C,mg (c:Str)=some (.ref C)
 sub:∀(c d:String) (C D:Addr),F.xc c=true->F.xt d=true->mg (c:Str)=some (.ref C)->mg (d:Str)=some (.ref D)->bE K (.ref C) (.ref D)=some (kY c d)
theorem au0:∀ {h:List Addr} {us:List Value},Vals (h.map V.ref) us->us=h.map Value.ref
 | [],_,.nil=>rfl
 | d::h,_,.cons r t=>by
  have e:=au0 t
  subst e
  cases(show _=Value.ref d from r)
  rfl
def ca8 (K:ac)(a C:Addr):List V->Hp->VK->Prop:=λ xs H Q=>∃ y b,xs=[.ref a,y]/\((∃ D,y=.ref D/\bE K (.ref C) (.ref D)=some b)\/∃(p:Addr) (ds:List Addr),y=.ref p/\H p=some (.tup (ds.map V.ref))/\gZ K (.ref C) (ds.map Value.ref)=some b)/\Q (.bl b) H
section
variable {Γ:Gm} {F:kK} {n:Nat} {X:Cx} {ck:Ck} {a C:Addr} {oe:Obj}
theorem aF6 (G:dL X.K (.ref a) (.ref C) (λ h=>XAt h a C))(hcl:oe.cls=.ref C):ac0 (X.hnd a oe) (.builtin "isinstance") (ca8 X.K a C):=by
 intro Y s σ H xs us Q I r h
 obtain⟨y,b,rfl,hc,q⟩:=h
 obtain⟨u,B,rfl,r1,J⟩:=bf3 r
 cases(show u=Value.ref a from r1)
 have hx:XAt s.heap a C:=⟨oe,(I.pin (a,oe) (aw ..)).1,hcl⟩
 rcases hc with⟨D,rfl,e⟩|⟨p,ds,rfl,hp,e⟩
 ·cases(show B=Value.ref D from J)
  exact bD G I.kIn hx e (λ z=>nomatch z) λ tk=>⟨.bl b,H,I.tok _,rfl,q⟩
 ·cases(show B=Value.ref p from J)
  obtain⟨z,its,rr,ob,e1,e2,nn,Z⟩:=(show ab6 X.prog X.w H s.heap p (.tup (ds.map V.ref))from I.hok p _ hp)
  have e4:=au0 rr
  subst e4
  obtain⟨c0,dd,dt,sl⟩:=ob
  cases e2
  cases Z
  exact PySem.W.kia_tup G I.kIn hx e1 e (λ z=>nomatch z) λ tk=>⟨.bl b,H,I.tok _,rfl,q⟩
def tHv (i:Nat)(a:Addr)(b:Bool):TE:=λ σ H Q=>σ[i]?=some (some (.ref a))/\∀ H',ad2 H H'->Q (.bl b) H'
def tHt (i:Nat)(a:Addr)(b:Bool):TT:=λ σ H Q=>σ[i]?=some (some (.ref a))/\∀ H',ad2 H H'->Q b H'
theorem aZ6 {H:Hp}{p:Addr}{o:HO}(h:H p=none):ad2 H (upd H p o):=λ b u e=>by rw[za (zq e h)];exact e
theorem bi8 (G:CG Γ F n X ck)(xc:XC F X.K X.mg):∀ {cs:List String} {es:List Expr},bO6 ck cs es=true->cs.all F.xt=true->∃ y:List Addr,y.length=cs.length/\PA (X.hnd a oe) es (λ σ H Q=>Q (y.map V.ref) H)/\(∀ e∈es,shp e=true) /\
  ∀(c:String),F.xc c=true->X.mg (c:Str)=some (.ref C)->gZ X.K (.ref C) (y.map Value.ref)=some (cs.any (kY c))
 | [],es,h,_=>by
  cases es with
  | nil=>exact⟨[],rfl,ad0.imp λ σ H Q q=>q,by nofun,λ c _ _=>rfl⟩
  | cons _ _=>exact ff h
 | d::cs,es,h,hc=>by
  cases es with
  | nil=>exact ff h
  | cons e es =>
   cases e with
   | Name x p =>
    obtain⟨h,h3⟩:=zg h
    obtain⟨Y,h2⟩:=zg h
    have e1:=of_decide_eq_true Y
    subst e1
    rw[dg,ag]at hc
    obtain⟨D,hD⟩:=xc.cls d hc.1
    obtain⟨g1,g2,g3⟩:=G.gl h2
    obtain⟨y,hl,hp,hs,hk⟩:=bi8 G xc h3 hc.2
    refine⟨D::y,by simp[hl],?_,λ e Z=>?_,λ c J B=>?_⟩
    ·have h0:PE (X.hnd a oe) (.Name (d:Str) p) (tC (.ref D)):=ak0 (X:=X.hnd a oe) g1 hD rfl g2
     exact(zH h0 hp rfl).imp λ σ H Q q=>q
    ·rcases ay.mp Z with z|z
     ·subst z;rfl
     ·exact hs e z
    ·have e1:=xc.sub c d C D J hc.1 B hD
     have e2:=hk c J B
     rw[aI]
     show(match bE X.K (.ref C) (.ref D)with|some true=>some true|some false=>gZ X.K (.ref C) (y.map Value.ref)|none=>none)=_
     rw[e1]
     cases hs:kY c d with
     | true=>simp[hs]
     | false=>simp only[dY,hs,iu];exact e2
   | _=>exact ff h
theorem aQ7 (G:CG Γ F n X ck)(xc:XC F X.K X.mg){c:String}(Z:F.xc c=true)(B:X.mg (c:Str)=some (.ref C))(kx:dL X.K (.ref a) (.ref C) (λ h=>XAt h a C))(hcl:oe.cls=.ref C){nm:Str}{i:Nat}(hi:ck.N[i]?=some nm)(hv:Vis X.env.scope nm)(hd:(nm==("__debug__":Str))=false)(Y:(nm==("__classdict__":Str))=false) :
  ∀ {t:DV.HT} {E:Expr},mHT ck nm t E=true->t.ok F.xt=true->PE (X.hnd a oe) E (tHv i a (t.val c))/\PT (X.hnd a oe) E (tHt i a (t.val c))
 | .isi cs,E,h,ho=>by
  cases E with
  | Call g xs kw p =>
   cases g with
   | Name g pg =>
    cases xs with
    | nil=>exact ff h
    | cons x xs=>cases x with
     | Name x px =>
      cases xs with
      | nil=>exact ff h
      | cons y xs=>cases y with
       | Tuple es k py =>
        cases xs with
        | cons _ _=>exact ff h
        | nil=>cases kw with
         | cons _ _=>exact ff h
         | nil =>
          obtain⟨h,h5⟩:=zg h
          obtain⟨h,h4⟩:=zg h
          obtain⟨h,h3⟩:=zg h
          obtain⟨h1,h2⟩:=zg h
          have e1:=of_decide_eq_true h1
          have e3:=of_decide_eq_true h3
          have e5:=of_decide_eq_true h5
          subst e1 e3
          obtain⟨g1,g2,g3⟩:=G.gl h2
          obtain⟨ds,hl,hp,hs,hk⟩:=bi8 (a:=a) (C:=C) (oe:=oe) G xc h4 ho
          have J:PE (X.hnd a oe) (.Name x px) (aX0 i):=at0 (X:=X.hnd a oe) (by show X.N[i]?=_;rw[G.N];exact hi) hv hd Y
          have pa:PA (X.hnd a oe) [.Name x px,.Tuple es k py] _:=zH J (zH (bg8 hp) ad0 rfl) rfl
          have main:PE (X.hnd a oe) (.Call (.Name "isinstance" pg) [.Name x px,.Tuple es k py] [] p) (tHv i a (cs.any (kY c))):=by
           refine(af8 (aF6 kx hcl) (show Gl (X.hnd a oe) "isinstance" from g1) (G.bi _ (by decide)) qU pa g3 g2 rfl rfl).imp λ σ H Q q=>?_
           exact⟨.ref a,q.1,by rw[aE,hl];exact ao e5 (by decide),λ p a2=>⟨.ref p,_,rfl,.inr ⟨p,ds,rfl,zb,hk c Z B⟩,q.2 _ (aZ6 a2)⟩⟩
          refine⟨main,(aR2 main).imp λ σ H Q q=>?_⟩
          exact⟨q.1,λ H' s=>⟨_,rfl,q.2 H' s⟩⟩
       | _=>exact ff h
     | _=>exact ff h
   | _=>exact ff h
  | _=>exact ff h
 | .one d,E,h,ho=>by
  cases E with
  | Call g xs kw p =>
   cases g with
   | Name g pg =>
    cases xs with
    | nil=>exact ff h
    | cons x xs=>cases x with
     | Name x px =>
      cases xs with
      | nil=>exact ff h
      | cons y xs=>cases y with
       | Name y py =>
        cases xs with
        | cons _ _=>exact ff h
        | nil=>cases kw with
         | cons _ _=>exact ff h
         | nil =>
          obtain⟨h,h5⟩:=zg h
          obtain⟨h,h4⟩:=zg h
          obtain⟨h,h3⟩:=zg h
          obtain⟨h1,h2⟩:=zg h
          have e1:=of_decide_eq_true h1
          have e3:=of_decide_eq_true h3
          have e4:=of_decide_eq_true h4
          subst e1 e3 e4
          obtain⟨g1,g2,g3⟩:=G.gl h2
          obtain⟨k1,k2,k3⟩:=G.gl h5
          obtain⟨D,hD⟩:=xc.cls d ho
          have J:PE (X.hnd a oe) (.Name x px) (aX0 i):=at0 (X:=X.hnd a oe) (by show X.N[i]?=_;rw[G.N];exact hi) hv hd Y
          have a1:PE (X.hnd a oe) (.Name (d:Str) py) (tC (.ref D)):=ak0 (X:=X.hnd a oe) k1 hD rfl k2
          have pa:PA (X.hnd a oe) [.Name x px,.Name (d:Str) py] _:=zH J (zH a1 ad0 rfl) rfl
          have main:PE (X.hnd a oe) (.Call (.Name "isinstance" pg) [.Name x px,.Name (d:Str) py] [] p) (tHv i a (kY c d)):=by
           refine(af8 (aF6 kx hcl) (show Gl (X.hnd a oe) "isinstance" from g1) (G.bi _ (by decide)) qU pa g3 g2 rfl rfl).imp λ σ H Q q=>?_
           exact⟨.ref a,q.1,⟨.ref D,_,rfl,.inl ⟨D,rfl,xc.sub c d C D Z ho B hD⟩,q.2 _ (ad2.refl _)⟩⟩
          refine⟨main,(aR2 main).imp λ σ H Q q=>?_⟩
          exact⟨q.1,λ H' s=>⟨_,rfl,q.2 H' s⟩⟩
       | _=>exact ff h
     | _=>exact ff h
   | _=>exact ff h
  | _=>exact ff h
 | .not t,E,h,ho=>by
  cases E with
  | UnaryOp o l p=>cases o with
   | Not =>
    obtain⟨h1,h2⟩:=aQ7 G xc Z B kx hcl hi hv hd Y (t:=t) (E:=l) h ho
    exact⟨(bi2 h1).imp λ σ H Q q=>⟨q.1,λ H' s=>⟨_,rfl,q.2 H' s⟩⟩,(bj2 h2).imp λ σ H Q q=>⟨q.1,λ H' s=>q.2 H' s⟩⟩
   | _=>exact ff h
  | _=>exact ff h
 | .or t u,E,h,ho=>by
  cases E with
  | BoolOp op vs p=>cases op with
   | Or=>cases vs with
    | nil=>exact ff h
    | cons l vs=>cases vs with
     | nil=>exact ff h
     | cons r vs=>cases vs with
      | cons _ _=>exact ff h
      | nil =>
       obtain⟨m1,m2⟩:=zg h
       have a0:(t.ok F.xt&&u.ok F.xt)=true:=ho
       rw[ag]at a0
       obtain⟨h1,h2⟩:=aQ7 G xc Z B kx hcl hi hv hd Y (t:=t) (E:=l) m1 a0.1
       obtain⟨h3,h4⟩:=aQ7 G xc Z B kx hcl hi hv hd Y (t:=u) (E:=r) m2 a0.2
       have ev:(DV.HT.or t u).val c=if t.val c then true else u.val c:=rfl
       refine⟨(bw0 h1 (aS3 h3)).imp λ σ H Q q=>⟨q.1,λ H' s=>⟨_,rfl,?_⟩⟩,(bq5 h2 (bh8 h4)).pt.imp λ σ H Q q=>⟨q.1,λ H' s=>?_⟩⟩
       ·rw[ev]at q
        cases hb:t.val c with
        | true=>rw[hb]at q;exact q.2 H' s
        | false=>rw[hb]at q;exact⟨q.1,λ H2 s2=>q.2 H2 (s.trans s2)⟩
       ·rw[ev]at q
        cases hb:t.val c with
        | true=>rw[hb]at q;exact q.2 H' s
        | false=>rw[hb]at q;exact⟨q.1,λ H2 s2=>q.2 H2 (s.trans s2)⟩
   | _=>exact ff h
  | _=>exact ff h
end
def tHd (i:Nat)(a:Addr)(b:Bool):TS:=λ D σ H=>σ[i]?=some (some (.ref a))/\∀ H',ad2 H H'->D.rt (.bl b) H'
noncomputable def mX (ck:Ck):DV.XB->List Stmt->Bool
 | .no,_=>true
 | .rais c,S=>match S with|.Raise (some (.Call (.Name x _) [.Constant (.str _) _ _] [] _)) none _::_=>decide (x=(c:Str))&&ck.gl x|_=>false
 | .call f as,S=>match S with
  | .Return (some (.Call (.Name x _) (e::es) [] _)) _::_=>decide (x=(f:Str))&&ck.gl x&&mAs ck as (e::es)
  | .Expr (.Call (.Name x _) (e::es) [] _) _::_=>decide (x=(f:Str))&&ck.gl x&&mAs ck as (e::es)
  | _=>false
 | .iteT c a r,S=>match S with|.If t l [] _::rest=>mE ck c t&&mX ck a l&&mX ck r rest|_=>false
 | .seq s b,S=>match S with|x::rest=>mS ck s x&&mX ck b rest|_=>false
noncomputable def noR:DV.XB->Bool
 | .rais _=>false
 | .iteT _ a r=>noR a&&noR r
 | .seq _ b=>noR b
 | _=>true
def au5 (Γ:Gm)(mg:Str->Option Value)(φ:Nat->Addr)(s:kt)(H:Hp)(c:String)(s':kt)(E:XK):Prop :=
 ∀ φ' H' a C,Gr φ s H φ' s' H'->s.length<=s'.length->Rp Γ φ' H' s'->mg (c:Str)=some (.ref C)->E (.ref a) (some C) H'
def TXv (Γ:Gm)(mg:Str->Option Value)(m:kz->kt->Option (String×kt))(E:XK):TS:=λ _ σ H=>∃ φ ρ s c s',RE Γ φ H s.length ρ σ/\Rp Γ φ H s/\m ρ s=some (c,s')/\au5 Γ mg φ s H c s' E
def spX (Γ:Gm)(mg:Str->Option Value)(x:List ku->kt->Option (String×kt)):Sp:=λ vs H _ E=>∃ φ s l c s',Rp Γ φ H s/\RVL Γ φ H l vs/\ky s.length l=true/\x l s=some (c,s')/\au5 Γ mg φ s H c s' E
theorem au5.trans {Γ:Gm}{mg:Str->Option Value}{φ φ1:Nat->Addr}{s s1 s':kt}{H y:Hp}{c:String}{E:XK}(h:au5 Γ mg φ s H c s' E)(g:Gr φ s H φ1 s1 y)(l:s.length<=s1.length):au5 Γ mg φ1 s1 y c s' E :=
 λ φ' H' a C g' B p m=>h φ' H' a C (g.trans g' l) (ao l B) p m
theorem PA.nox {X:Cx}{e:List Expr}{t:TA}(h:PA X.nox e t):PA X e t:=λ pos y s σ H Q I hw =>
 bz (h pos y s σ H Q (I.wish _) hw) (λ _ _ ⟨v,H',B,r,q⟩=>⟨v,H',B.unwish,r,q⟩) λ _ _ z=>aZ z
theorem PS.nox {X:Cx}{st:Stmt}{t:TS}(h:PS X.nox st t):PS X st t:=λ y s σ H D I hw =>
 bz (h y s σ H D (I.wish _) hw) (λ _ _ q=>q.unwish) λ _ _ z=>aZ z
def XOk (Γ:Gm)(prog:aD)(w:World)(K:ac)(mg:Str->Option Value)(base:Heap)(F:kK)(n:Nat):Prop:=∀ f:String,(∀ l s,F.xcall f l s=none) \/
 ∃ a fd ps,FnOk prog w K mg base (CX1 prog w) n a fd ps (spX Γ mg (F.xcall f))/\mg (f:Str)=some (.ref a)/\bR K (.ref a)=true/\Binds K fd ps []
section
variable {Γ:Gm} {F:kK} {n:Nat} {X:Cx} {ck:Ck} {a C:Addr} {oe:Obj}
theorem bJ9 (G:CG Γ F n X ck)(xc:XC F X.K X.mg){c:String}(J:F.xc c=true)(y:X.mg (c:Str)=some (.ref C))(kx:dL X.K (.ref a) (.ref C) (λ h=>XAt h a C))(hcl:oe.cls=.ref C){nm:Str}{i:Nat}(hi:ck.N[i]?=some nm)(hv:Vis X.env.scope nm)(hd:(nm==("__debug__":Str))=false)(B:(nm==("__classdict__":Str))=false) :
  ∀ {t:DV.Hd} {S:List Stmt},mHd ck nm t S=true->t.ok F.xt=true->PSs (X.hnd a oe) S (tHd i a (t.val c))
 | .ret t,S,h,ho=>by
  cases S with
  | nil=>exact ff h
  | cons s S=>cases s with
   | Return vo p=>cases vo with
    | none=>exact ff h
    | some v=>cases S with
     | cons _ _=>exact ff h
     | nil=>exact(aT9 (an0 (aQ7 G xc J y kx hcl hi hv hd B h ho).1)).imp λ D σ H q=>q
   | _=>exact ff h
 | .iff t b g,S,h,ho=>by
  cases S with
  | nil=>exact ff h
  | cons s S=>cases s with
   | If e l r p=>cases l with
    | nil=>exact ff h
    | cons l0 l=>cases l0 with
     | Return vo pr=>cases vo with
      | none=>exact ff h
      | some v=>cases v with
       | Constant k j pk=>cases k with
        | bool b'=>cases l with
         | cons _ _=>exact ff h
         | nil=>cases r with
          | cons _ _=>exact ff h
          | nil =>
           obtain⟨h,h3⟩:=zg h
           obtain⟨h1,h2⟩:=zg h
           have e:=of_decide_eq_true h2
           subst e
           have Y:(t.ok F.xt&&g.ok F.xt)=true:=ho
           rw[ag]at Y
           have q1:=(aQ7 G xc J y kx hcl hi hv hd B h1 Y.1).2
           have q2:=bJ9 G xc J y kx hcl hi hv hd B h3 Y.2
           refine(zS (bm9 q1 (aT9 (an0 bG3)) am0) q2).imp λ D σ H q=>⟨q.1,λ H' s=>?_⟩
           have Z:∀ H',ad2 H H'->D.rt (.bl (if t.val c then b' else g.val c)) H':=q.2
           cases hb:t.val c with
           | true=>rw[hb]at Z;exact Z H' s
           | false=>rw[hb]at Z;exact⟨q.1,λ H2 s2=>Z H2 (s.trans s2)⟩
        | _=>exact ff h
       | _=>exact ff h
     | _=>exact ff h
   | _=>exact ff h
theorem bg6 (G:CG Γ F n X.nox ck)(Z:XOk Γ X.prog X.w X.K X.mg X.base F n){E:XK}(hp:af6 (CX1 X.prog X.w) X E){f:String}{y:lf}{e:Expr}{es:List Expr}{p pos:Pos}(hg:ck.gl (f:Str)=true)(m:mAs ck y (e::es)=true) :
  ∃ t:TE,PE X (.Call (.Name (f:Str) p) (e::es) [] pos) t/\∀ D σ H Q,TXv Γ X.mg (lM F (.call f y)) E D σ H->t σ H Q:=by
 obtain⟨g1,g2,g3⟩:=G.gl hg
 rcases Z f with hbad|⟨a,fd,ps,hF,B,hk,hb⟩
 ·refine⟨λ _ _ _=>False,λ _ _ _ _ _ _ z=>z.elim,λ D σ H Q q=>?_⟩
  obtain⟨φ,ρ,s,c,s',J,R,h,q⟩:=q
  change(match kZ F y ρ s with|.ok l s1=>F.xcall f l s1|_=>none)=_ at h
  split at h
  ·rw[hbad]at h;cases h
  ·cases h
 ·have hs:=aB9 m
  have pa:PA X (e::es) (TAv Γ (kZ F y)):=(sAs y _ X.nox ck G m).nox
  refine⟨_,aQ9 hF G.room g1 B hk hb .nil hp pa g2 (zd (hs e (aw ..))) (zz λ x hx=>hs x (ai _ hx)).1,λ D σ H Q q=>?_⟩
  obtain⟨φ,ρ,s,c,s',J,R,h,q⟩:=q
  change(match kZ F y ρ s with|.ok l s1=>F.xcall f l s1|_=>none)=_ at h
  split at h
  ·rename_i l s1 e1
   refine⟨φ,ρ,s,l,s1,J,R,e1,λ vs φ1 Y g1 l1 b1 r1 R1=>?_⟩
   show spX Γ X.mg (F.xcall f) (vs++[]) Y Q E
   rw[a7]
   exact⟨φ1,s1,l,c,s',R1,r1,b1,h,q.trans g1 l1⟩
  ·cases h
theorem aO5 (G:CG Γ F n X.nox ck)(xc:XC F X.K X.mg)(XO:XOk Γ X.prog X.w X.K X.mg X.base F n){E:XK}(hp:af6 (CX1 X.prog X.w) X E):∀(b:DV.XB) (S:List Stmt),(noR b=true\/aJ3 X E)->mX ck b S=true->PSs X S (TXv Γ X.mg (lM F b) E)
 | .no,S,_,h=>λ a0 s σ H D I q=>by
  obtain⟨_,_,_,_,_,_,_,z,_⟩:=q
  cases z
 | .rais c,S,hT,h=>by
  have hT:aJ3 X E:=hT.elim (λ z=>by cases z) id
  cases hx:F.xc c with
  | false =>
   intro a0 s σ H D I q
   obtain⟨_,_,s,_,_,_,_,z,_⟩:=q
   change(if F.xc c=true then some (c,s)else none)=_ at z
   rw[hx]at z;cases z
  | true =>
   cases S with
   | nil=>exact ff h
   | cons st S=>cases st with
    | Raise v k p=>cases v with
     | none=>exact ff h
     | some v=>cases v with
      | Call g xs kw pc=>cases g with
       | Name x pn=>cases xs with
        | nil=>exact ff h
        | cons y xs=>cases y with
         | Constant cv j py=>cases cv with
          | str t=>cases xs with
           | cons _ _=>exact ff h
           | nil=>cases kw with
            | cons _ _=>exact ff h
            | nil=>cases k with
             | some _=>exact ff h
             | none =>
              obtain⟨J,Y⟩:=zg h
              have e:=of_decide_eq_true J
              subst e
              obtain⟨g1,g2,g3⟩:=G.gl Y
              obtain⟨C,hC,hE,_⟩:=xc.at_ c hx
              refine(zS (aY1 hT hE g1 hC G.room.hd g2) af3).imp λ D σ H q a=>?_
              obtain⟨φ,ρ,s,c',s',Z,R,B,q⟩:=q
              change(if F.xc c=true then some (c,s)else none)=_ at B
              rw[hx,if_pos rfl]at B
              cases B
              exact q φ H a C (Gr.refl φ s H) (aj _) R hC
          | _=>exact ff h
         | _=>exact ff h
       | _=>exact ff h
      | _=>exact ff h
    | _=>exact ff h
 | .call f as,S,_,h=>by
  cases S with
  | nil=>exact ff h
  | cons st S=>cases st with
   | Return v p=>cases v with
    | none=>exact ff h
    | some v=>cases v with
     | Call g xs kw pc=>cases g with
      | Name x pn=>cases xs with
       | nil=>exact ff h
       | cons y xs=>cases kw with
        | cons _ _=>exact ff h
        | nil =>
         obtain⟨h,h3⟩:=zg h
         obtain⟨J,Y⟩:=zg h
         have e:=of_decide_eq_true J
         subst e
         obtain⟨t,ht,hq⟩:=bg6 G XO hp Y h3
         exact(zS (an0 ht) af3).imp λ D σ H q=>hq D σ H _ q
      | _=>exact ff h
     | _=>exact ff h
   | Expr v p=>cases v with
    | Call g xs kw pc=>cases g with
     | Name x pn=>cases xs with
      | nil=>exact ff h
      | cons y xs=>cases kw with
       | cons _ _=>exact ff h
       | nil =>
        obtain⟨h,h3⟩:=zg h
        obtain⟨J,Y⟩:=zg h
        have e:=of_decide_eq_true J
        subst e
        obtain⟨t,ht,hq⟩:=bg6 G XO hp Y h3
        exact(zS (aV8 ht (al8 rfl)) af3).imp λ D σ H q=>hq D σ H _ q
     | _=>exact ff h
    | _=>exact ff h
   | _=>exact ff h
 | .iteT c a r,S,hT,h=>by
  cases S with
  | nil=>exact ff h
  | cons st S=>cases st with
   | If t l o p=>cases o with
    | cons _ _=>exact ff h
    | nil =>
     obtain⟨h,h3⟩:=zg h
     obtain⟨J,Y⟩:=zg h
     have a2:noR a=true\/aJ3 X E:=hT.elim (λ z=>.inl (zg z).1) .inr
     have a1:noR r=true\/aJ3 X E:=hT.elim (λ z=>.inl (zg z).2) .inr
     refine(zS (bm9 (sE c _ X.nox ck G J).2.nox (aO5 G xc XO hp a _ a2 Y) am0) (aO5 G xc XO hp r _ a1 h3)).imp λ D σ H q=>?_
     obtain⟨φ,ρ,s,c',s',Z,R,B,q⟩:=q
     change(match kC F c ρ s with|.ok (.bl b) s1=>if b then lM F a ρ s1 else lM F r ρ s1|_=>none)=_ at B
     split at B
     ·rename_i b s1 e1
      refine⟨φ,ρ,s,b,s1,Z,R,e1,λ φ1 H1 g1 l1 R1=>?_⟩
      cases b with
      | true=>exact⟨φ1,ρ,s1,c',s',Z.mono g1 l1,R1,B,q.trans g1 l1⟩
      | false=>exact⟨φ1,ρ,s1,c',s',Z.mono g1 l1,R1,B,q.trans g1 l1⟩
     ·cases B
   | _=>exact ff h
 | .seq st b,S,hT,h=>by
  cases S with
  | nil=>exact ff h
  | cons x S =>
   obtain⟨J,Y⟩:=zg h
   refine(zS (sS st _ X.nox ck G J).nox (aO5 G xc XO hp b _ hT Y)).imp λ D σ H q=>?_
   obtain⟨φ,ρ,s,c',s',Z,R,B,q⟩:=q
   change(match DV.ex F st ρ s with|.ok (.next ρ1) s1=>lM F b ρ1 s1|_=>none)=_ at B
   split at B
   ·rename_i ρ1 s1 e1
    exact⟨φ,ρ,s,.next ρ1,s1,Z,R,e1,λ φ1 H1 g1 l1 R1 σ1 a3=>⟨φ1,ρ1,s1,c',s',a3,R1,B,q.trans g1 l1⟩⟩
   ·cases B
theorem bo7 {tb:List Stmt}{h₀:fH}{hs:List fH}{p:Pos}{t:TS}(hx:X.xe=λ _ _=>False)(h:PSs X tb t):PS X (.Try tb (h₀::hs) [] [] p) t:=by
 intro y s σ H D I q
 refine jq (bz (h y s σ H D I q) (λ f s1 z=>?_) (λ e s1 z=>?_))
 ·cases f with
  | next=>exact cJ z
  | _=>exact z
 ·rw[hx]at z;exact z.elim
def EH (C:Addr)(b:Bool)(D:Ends):XK:=λ _ o H'=>o=some C/\∀ H'',ad2 H' H''->D.rt (.bl b) H''
theorem bx0 {tb:List Stmt}{x nm:Str}{i:Nat}{b₀:Stmt}{G:List Stmt}{np Z p:Pos}{hs:List fH}{m:kz->kt->Option (String×kt)}{b:Bool}(a2:X.ex=[])(b0:X.stack=X.env::X.outer)(a4:X.env.frame=some X.env.locals)
  (hc:ExcCls X.K C) (hg:Gl X x) (hm:X.mg x=some (.ref C)) (hd:(x==("__debug__":Str))=false) (hN:X.N.Nodup) (hi:X.N[i]?=some nm) (hl:X.env.scope.names.lookup nm=some .local)
  (a1:∀(pn:List (Addr×Obj)) (W:Value->af->Prop) (E:XK),af6 (CX1 X.prog X.w) { X with pn:=pn,xe:=W } E->PSs { X with pn:=pn,xe:=W } tb (TXv Γ X.mg m E)) (a6:∀ a oe,oe.cls=.ref C->PSs (X.hnd a oe) (b₀::G) (tHd i a b)) :
  PS X (.Try tb (.ExceptHandler (some (.Name x np)) (some nm) (b₀::G) Z::hs) [] [] p) (λ D σ H=>TXv Γ X.mg m (EH C b D) D σ H):=by
 intro y s σ H D I q
 let W:Value->af->Prop:=λ e s₁=>wpAny (model X.prog X.w) X.A (jm e X.env) (λ _ s₂=>wpAny (model X.prog X.w) X.A (j2 e none) (λ _ s₃=>wpAny (model X.prog X.w) X.A (handleBy e X.env (.ExceptHandler (some (.Name x np)) (some nm) (b₀::G) Z::hs)) (SP X y D) X.xe s₃) X.xe s₂) X.xe s₁
 have a3:({ X with pn:=X.pn++y,xe:=W }:Cx).Ok:=⟨I.ok.mod,I.ok.kind,I.ok.glob,I.ok.blt,I.ok.above,I.ok.inj,I.ok.has,I.ok.cab,I.ok.hd,I.ok.frames,I.ok.stk,I.ok.exf,I.ok.bs,I.ok.bsz,I.ok.noex,I.ok.exfs,I.ok.funs,I.ok.frf⟩
 have I':Inv { X with pn:=X.pn++y,xe:=W } [] σ H s:=⟨a3,I.os,I.bare,I.base,I.loc,I.cell,I.free,I.freeC,λ p hp=>I.pin p (by rw[a7]at hp;exact hp),I.hok,I.len⟩
 have B:∀ {Y:List (Addr×Obj)} {σ':St} {H':Hp} {s':af},Inv { X with pn:=X.pn++y,xe:=W } Y σ' H' s'->Inv X y σ' H' s':=λ J=>⟨I.ok,J.os,J.bare,J.base,J.loc,J.cell,J.free,J.freeC,λ p hp=>J.pin p (cj _ hp),J.hok,J.len⟩
 have hp:af6 (CX1 X.prog X.w) { X with pn:=X.pn++y,xe:=W } (EH C b D):=λ Y σ' H' s' e b2 J h=>by
  obtain⟨a,C',b1,rfl,T,eC,hq⟩:=CX1.tr J a2 h
  cases eC
  obtain⟨a0,oe,vs,T0,oT,ts,h1,h2,h3,h4,h5,h6,a5,h7⟩:=T.tr
  have hn:i < σ'.length:=by rw[J.len];exact(ae.mp hi).1
  exact aS8 ⟨B T.inv,T.n0,T.nH,λ p hp=>T.np p (cj _ hp),a0,oe,vs,T0,oT,ts,h1,h2,h3,h4,h5,h6,λ p hp=>a5 p (cj _ hp),h7⟩ a2 b0 a4 hc hg hm hd hN hi hl (a6 a) ⟨by rw[aU hn],hq⟩
 refine jq (bz (a1 _ W _ hp [] s σ H D I' q) (λ f s1 z=>?_) (λ e s1 z=>z))
 cases f with
 | next=>obtain⟨σ1,H1,J,z⟩:=z;exact cJ ⟨σ1,H1,B J,z⟩
 | brk=>obtain⟨σ1,H1,J,z⟩:=z;exact⟨σ1,H1,B J,z⟩
 | cont=>obtain⟨σ1,H1,J,z⟩:=z;exact⟨σ1,H1,B J,z⟩
 | ret u=>obtain⟨v,σ1,H1,J,r,z⟩:=z;exact⟨v,σ1,H1,B J,r,z⟩
end
section
variable {Γ:Gm}
theorem az1 {φ φ1:Nat->Addr}{H B:Hp}{s s1:kt}(R:Rp Γ φ H s)(g:Gr φ s H φ1 s1 B)(ho:ma s s1=true){i:Nat}{o:kR}(y:i<s.length)(e:s1[i]?=some o):o.bnd s.length=true:=by
 unfold ma at ho
 have:=aG.mp ho i (cT.mpr y)
 rw[e,bN]at this
 rcases this with h|h
 ·exact R.wf i o (of_decide_eq_true h).symm
 ·exact h
theorem qL {s1:kt}{k i:Nat}{o:kR}(e:(s1.take k)[i]?=some o):i<k/\s1[i]?=some o:=by
 rw[e8]at e
 split at e
 ·exact⟨‹_›,e⟩
 ·cases e
theorem aL2 {φ φ1:Nat->Addr}{H h:Hp}{s s1:kt}(R:Rp Γ φ H s)(g:Gr φ s H φ1 s1 h)(R1:Rp Γ φ1 h s1)(ho:ma s s1=true):Gr φ s H φ1 (s1.take s.length) h/\Rp Γ φ1 h (s1.take s.length):=by
 have hl:(s1.take s.length).length=s.length:=by rw[bq];have:=g.le;omega
 refine⟨⟨g.w,by rw[hl];exact aj _,λ i G B=>by rw[hl]at B;omega,λ i o y e e'=>g.kd i o y e (qL e').2,g.st,g.fr⟩,λ i j o y e e' m m' z=>R1.inj i j o y (qL e).2 (qL e').2 m m' z,λ i o e=>R1.obj i o (qL e).2,λ i o e=>?_,R1.tab⟩
 rw[hl]
 exact az1 R g ho (qL e).1 (qL e).2
theorem qG {φ φ1:Nat->Addr}{H G:Hp}{s s1 s':kt}{v0 d:ku}{v:V}(R:Rp Γ φ H s)(g:Gr φ s H φ1 s1 G)(R1:Rp Γ φ1 G s1)(hb:v0.bnd s1.length=true)(r:RV Γ φ1 G v0 v)(h:DV.ab3 s v0 s1=.ok d s') :
  ∃ φ',Gr φ s H φ' s' G/\s.length<=s'.length/\d.bnd s'.length=true/\RV Γ φ' G d v/\Rp Γ φ' G s':=by
 have all:d=v0->s'=s1->∃ φ',Gr φ s H φ' s' G/\s.length<=s'.length/\d.bnd s'.length=true/\RV Γ φ' G d v/\Rp Γ φ' G s':=λ e1 e2=>by
  subst e1;subst e2
  exact⟨φ1,g,g.le,hb,r,R1⟩
 unfold DV.ab3 at h
 split at h
 case isFalse=>cases h;exact all rfl rfl
 rename_i ho
 obtain⟨gt,Rt⟩:=aL2 R g R1 ho
 have hl:(s1.take s.length).length=s.length:=by rw[bq];have:=g.le;omega
 have tk:d=v0->s'=s1.take s.length->v0.bnd s.length=true->∃ φ',Gr φ s H φ' s' G/\s.length<=s'.length/\d.bnd s'.length=true/\RV Γ φ' G d v/\Rp Γ φ' G s':=λ e1 e2 b=>by
  subst e1;subst e2
  exact⟨φ1,gt,by rw[hl];exact aj _,by rw[hl];exact b,r,Rt⟩
 split at h
 ·rename_i k
  split at h
  ·cases h
   exact tk rfl rfl (by unfold kB;exact decide_eq_true ‹_›)
  ·rename_i hk
   split at h
   ·rename_i o Z
    split at h
    ·rename_i Y
     cases h
     have gw:Gw φ1 s.length G (λ i=>if i=s.length then φ1 k else φ1 i) G:=⟨λ i y=>if_neg (av y),Kp.refl _⟩
     have key:∀(i:Nat) (J:kR),(s1.take s.length++[o])[i]?=some J->(i<s.length/\s1[i]?=some J)\/(i=s.length/\J=o):=λ i J e=>by
      rcases fw i s.length with h|h|h
      ·rw[aB (by rw[hl];exact h)]at e;exact .inl (qL e)
      ·subst h
       rw[aF (by rw[hl];exact aj _),hl,gu]at e
       exact .inr ⟨rfl,(aC e).symm⟩
      ·rw[dR (by rw[aL,hl];simp;omega)]at e;cases e
     have B:(s1.take s.length++[o]).length=s.length+1:=by rw[aL,hl];rfl
     refine⟨λ i=>if i=s.length then φ1 k else φ1 i,⟨⟨λ i y=>?_,g.w.kp⟩,by rw[B];omega,λ i h1 h2=>?_,λ i oo J e e'=>?_,g.st,g.fr⟩,by rw[B];omega,by unfold kB;rw[B];exact decide_eq_true (cZ _),?_,⟨λ i j oi oj a0 a1 mi mj e=>?_,λ i J e=>?_,λ i J e=>?_,R1.tab⟩⟩
     ·show(if i=s.length then φ1 k else φ1 i)=φ i
      rw[if_neg (av y)];exact g.w.map i y
     ·rw[B]at h2
      show H (if i=s.length then φ1 k else φ1 i)=none
      rw[if_pos (by omega)]
      exact g.new k (by omega) (ae.mp Z).1
     ·rcases key i J e' with⟨_,e2⟩|⟨y,_⟩
      ·exact g.kd i oo J e e2
      ·have:=(ae.mp e).1;omega
     ·rw[r.refE]
      unfold RV
      show V.ref (φ1 k)=V.ref (if s.length=s.length then φ1 k else φ1 s.length)
      rw[if_pos rfl]
     ·rcases key i oi a0 with⟨y,ei⟩|⟨y,zi⟩<;>rcases key j oj a1 with⟨hj,ej⟩|⟨hj,zj⟩
      ·rw[if_neg (av y),if_neg (av hj)]at e
       exact R1.inj i j oi oj ei ej mi mj e
      ·rw[if_neg (av y),if_pos hj]at e
       subst zj
       have:=R1.inj i k oi _ ei Z mi mj e
       omega
      ·rw[if_neg (av hj),if_pos y]at e
       subst zi
       have:=R1.inj k j _ oj Z ej mi mj e
       omega
      ·rw[y,hj]
     ·rcases key i J e with⟨y,e⟩|⟨y,rfl⟩
      ·show RO Γ _ _ (if i=s.length then φ1 k else φ1 i) J
       rw[if_neg (av y)]
       exact(R1.obj i J e).mono gw (az1 R g ho y e) λ _ u hu=>hu
      ·show RO Γ _ _ (if i=s.length then φ1 k else φ1 i) J
       rw[if_pos y]
       exact(R1.obj k _ Z).mono gw Y λ _ u hu=>hu
     ·rw[B]
      rcases key i J e with⟨y,e⟩|⟨_,rfl⟩
      ·exact qg (d7 _) _ (az1 R g ho y e)
      ·exact qg (d7 _) _ Y
    ·cases h;exact all rfl rfl
   ·exact fb h
 ·split at h
  ·cases h;exact tk rfl rfl ‹_›
  ·cases h;exact all rfl rfl
structure LamGood (J:LamI)(L:lE):Prop where
 sc:LamScope (J.ps++J.fr) J.ps J.fr J.scope
 ps:J.ps.length=L.ps
 fr:J.fr.length=L.cs
 m:mE (ck0 (J.ps++J.fr) J.scope) L.body J.body=true
 bind:∀(clos:List (Str×Addr)) (doc pm:Value) (c':Addr) (ctv:Value) (us:List Value),us.length=J.ps.length->d4 (bM "<lambda>" J.qual J.params J.body J.scope clos pm (.ref c') ctv) ⟨us,[]⟩=pure (J.ps.zip us) /\
  ∀(nm:Str) (rp:Pos),d4 (b7 nm J.qual J.params [.Return (some J.body) rp] J.scope clos .none .none doc pm none (.ref c') ctv) ⟨us,[]⟩=pure (J.ps.zip us)
structure LkAt (Γ:Gm)(cds:List (Addr×Addr))(f:Str)(sc:Scope)(N:List Str)(fd:bv)(id:String)(caps:List Nat)(params:a9)(body:Expr)(scope:Scope)(c P:Addr)(J:LamI):Prop where
 code:fd.code=.ref c
 cd:(c,P)∈cds
 ck:lamCheck scope sc=true
 fre:∀ x,scope.names.lookup x=some .free->sc.names.lookup x=some .cell
 cel:∀ y∈sc.names,y.2=.cell->sc.names.lookup y.1=some .cell
 df:∀ env,jR params env=([],[])
 lg:Γ.lg id J
 q:J.qual=f ++ ".<locals>."++J.own
 p:J.params=params
 b:J.body=body
 s:J.scope=scope
 len:J.fr.length=caps.length
 at_:∀(i j:Nat) (x:Str),caps[i]?=some j->J.fr[i]?=some x->N[j]?=some x
 fr:∀ x∈J.fr,scope.names.lookup x=some .free
 tab:(P,J.qual)∈Γ.T
def bq6 (Γ:Gm)(cds:List (Addr×Addr))(f:Str)(sc:Scope)(N:List Str)(fd:bv)(lk:String->List Nat->Expr->Bool):Prop :=
 ∀ id caps E,lk id caps E=true->∃ c P params body scope pos J,E=lamText J params body scope pos/\LkAt Γ cds f sc N fd id caps params body scope c P J
def GoodB (Γ:Gm)(cds:List (Addr×Addr))(mg:Str->Option Value)(f:String)(pc vc:Nat)(m:Ck->List Stmt->Bool):Prop:=∃ st N ps a fd lk,DefAt Γ.K mg (f:Str) st ps a fd/\FnScope N ps (defScope st)/\ps.length=pc/\N.length=pc+vc/\m ⟨N,defScope st,lk⟩ (zC st)=true/\bq6 Γ cds (f:Str) (defScope st) N fd lk
def Good (Γ:Gm)(cds:List (Addr×Addr))(mg:Str->Option Value)(f:String)(d:lF):Prop:=GoodB Γ cds mg f d.ps d.vs λ ck S=>mSs ck d.body S
noncomputable def mT (ck:Ck)(d:DV.Tf)(S:List Stmt):Bool:=match S with
 | .Try tb [.ExceptHandler (some (.Name x _)) (some nm) (b::su) _] [] [] _::rest=>mSs ck d.body tb&&(mX ck d.xb tb&&(noR d.xb&&(decide (x=(d.c:Str))&&(ck.gl x&&(decide (ck.N[d.i]?=some nm)&&((ck.sc.names.lookup nm==some .local)&&(!(nm==("__debug__":Str))&&(!(nm==("__classdict__":Str))&&(mHd ck nm d.h (b::su)&&mSs ck d.tl rest)))))))))
 | _=>false
structure PrOk (Γ:Gm)(cds:List (Addr×Addr))(P:kI)(mg:Str->Option Value):Prop where
 df:∀ f d,P.df f=some d->Good Γ cds mg f d
 con:∀ x d,P.con x=some d->∃ v u,mg (x:Str)=some u/\RelV v u/\(∀ m,d.bnd m=true)/\∀ φ H,RV Γ φ H d v
 bi:∀ x∈bNames,mg x=none
 fa:∀(f:String) (a:Addr),Γ.fa f=some a->mg (f:Str)=some (.ref a)/\∃ oc od fd sl,Γ.K.lookup a=some ⟨oc,od,.func fd,sl⟩
 lg:∀ id J,Γ.lg id J->∃ L,P.lm id=some L/\LamGood J L
 nd:(Γ.T.map (·.1)).Nodup
 xf:∀ f d,P.xf f=some d->GoodB Γ cds mg f d.ps d.vs λ ck S=>mX ck d.body S
 tf:∀ f d,P.tf f=some d->GoodB Γ cds mg f d.ps d.vs λ ck S=>mT ck d S
 xc:∀ c:String,P.xc c=true->∃ C,mg (c:Str)=some (.ref C)/\ExcCls Γ.K C/\excI Γ.K C=true
 xt:∀ c:String,P.xt c=true->∃ C,mg (c:Str)=some (.ref C)
 xs:∀(c d:String) (C D:Addr),P.xc c=true->P.xt d=true->mg (c:Str)=some (.ref C)->mg (d:Str)=some (.ref D)->bE Γ.K (.ref C) (.ref D)=some (kY c d)
noncomputable def ak7 (Γ : Gm) (prog : Program) (w : World) (mg : Str -> Option Value) (base : Heap) (F : DV.Fns) (n : Nat) : Prop := (∀ f : String, (∀ l s, F.call f l s = .bad) \/
      ∃ a fd ps, FnOk prog w Γ.K mg base CX0 n a fd ps (spV Γ (F.call f)) /\ mg (f : Str) = some (.ref a) /\ bR Γ.K (.ref a) = true /\ Binds Γ.K fd ps []) /\
  ∀(id : String) (J : LamI) (f : Addr) (cap : List V) (clos : List (Str × Addr)), Γ.lg id J -> cap.length = J.fr.length -> ClOk prog w Γ.K mg base n (λ H => CloAt H f J cap clos) f (spL Γ (F.lam id) cap)
theorem as3 {φ:Nat->Addr}{H:Hp}{n k:Nat}{N:List Str}{l:List ku}{vs:List V}(r:RVL Γ φ H l vs)(b:ky n l=true)(hN:N.length=l.length+k):RE Γ φ H n (l.map some++ar k none) (ae7 N vs):=by
 have hl:=r.length
 refine⟨?_,λ i d e=>?_⟩
 ·unfold ae7;simp[hl,hN]
 ·by_cases hi:i<l.length
  ·rw[aB (by simpa using hi),aJ]at e
   have e':l[i]?=some d:=by
    rw[am hi]at e ⊢
    exact aC e
   obtain⟨v,e1,e2⟩:=r.get e'
   refine⟨af5 b e',v,?_,e2⟩
   unfold ae7
   rw[aB (by rw[aE,hl];exact hi),aJ,e1];rfl
  ·rw[aF (by simpa using jl hi)]at e
   rw[fL]at e
   split at e<;>cases e
theorem aR7 {Z:List (Addr×Addr)}{P:kI}{prog:aD}{w:World}{mg:Str->Option Value}{base:Heap}(hP:PrOk Γ Z P mg)(hb:∀ y∈Z,bw base y.1 y.2/\BM mg base)(n:Nat)(B:ak7 Γ prog w mg base (kE P n) (n+31))
  {f:String} {st:Stmt} {N ps:List Str} {a:Addr} {fd:bv} {lk:String->List Nat->Expr->Bool} (hS:FnScope N ps (defScope st)) (hL:bq6 Γ Z (f:Str) (defScope st) N fd lk) (G:Value) (a3:∀ id h E,lk id h E=true->fd.code=G) (A:aP) (Y:List Env) (sh:af) (H:Hp) (E:XK) (hr:Room (n+31) (A.deeper (ef (f:Str) (defScope st) sh.heap.objs.size a G))) :
  CG Γ (kE P n) (n+31) (as7 CX0 prog w Γ.K mg base N (f:Str) (defScope st) a G A Y sh H E).nox ⟨N,defScope st,lk⟩:=by
 refine⟨rfl,rfl,hS.nd,rfl,rfl,?_,hr,λ x k e=>.inl e,λ _ _=>rfl,hP.bi,B.1,?_,λ id h E' a0=>?_,B.2,hP.fa,DV.ae0 P n⟩
 ·show kM+1<=n+31
  unfold kM;omega
 ·have:(kE P n).con=P.con:=by cases n<;>rfl
  rw[this];exact hP.con
 ·obtain⟨c,Pa,params,body,scope,pos,J,eE,L⟩:=hL id h E' a0
  obtain⟨a1,a2⟩:=hb _ L.cd
  refine⟨c,Pa,params,body,scope,pos,J,eE,⟨?_,a1,a2,L.ck,L.df _,L.lg,L.q,L.p,L.b,L.s,L.len,L.at_,L.fr,λ x hx=>?_,L.tab,hP.nd,λ _=>rfl,λ x c hx=>?_⟩⟩
  ·show G=.ref c
   rw[<-a3 id h E' a0];exact L.code
  ·exact z6 (L.fre x hx)
  ·rcases zF (ax hx)with z|z
   ·exact .inl (L.cel (x,.cell) z rfl)
   ·exact absurd z (by simp)
theorem bB9 {a1:List (Addr×Addr)}{P:kI}{prog:aD}{w:World}{mg:Str->Option Value}{base:Heap}(hP:PrOk Γ a1 P mg)(hb:∀ y∈a1,bw base y.1 y.2/\BM mg base)(n:Nat)(a2:ak7 Γ prog w mg base (kE P n) (n+31))
  {f:String} {d:lF} (e:P.df f=some d) {st:Stmt} {N ps:List Str} {a:Addr} {fd:bv} {lk:String->List Nat->Expr->Bool} (hD:DefAt Γ.K mg (f:Str) st ps a fd) (hS:FnScope N ps (defScope st)) (h1:ps.length=d.ps) (h2:N.length=d.ps+d.vs) (hm:mSs ⟨N,defScope st,lk⟩ d.body (zC st)=true) (hL:bq6 Γ a1 (f:Str) (defScope st) N fd lk) :
  FnOk prog w Γ.K mg base CX0 (n+1+31) a fd ps (spV Γ ((kE P (n+1)).call f)):=by
 have a0:∀ vs H Q E,spV Γ ((kE P (n+1)).call f) vs H Q E->vs.length=ps.length:=λ vs H Q E q=>by
  obtain⟨φ,s,l,d',s',R,r,b,hc,k⟩:=q
  simp only[kE,e]at hc
  split at hc
  ·rw[r.length,h1];assumption
  ·exact fb hc
 have body:∀(Z:Value),(∀ id B E,lk id B E=true->fd.code=Z)->∀(A:aP) (Y:List Env) (sh:af) (H:Hp) (vs:List V) (Q:VK) (E:XK),Room (n+31) (A.deeper (ef (f:Str) (defScope st) sh.heap.objs.size a Z))->spV Γ ((kE P (n+1)).call f) vs H Q E ->
   ∃ t,PSs (as7 CX0 prog w Γ.K mg base N (f:Str) (defScope st) a Z A Y sh H E).nox (zC st) t/\t { nx:=λ _ H'=>Q .non H',rt:=Q } (ae7 N vs) H:=by
  intro Z a5 A Y sh H vs Q E hr q
  have G:=aR7 hP hb n a2 hS hL (a:=a) Z a5 A Y sh H E hr
  refine⟨_,sSs d.body (zC st) _ ⟨N,defScope st,lk⟩ G hm,?_⟩
  obtain⟨φ,s,l,d',s',R,r,b,hc,k⟩:=q
  simp only[kE,e]at hc
  split at hc
  case isFalse=>exact fb hc
  rename_i a0
  obtain⟨c,s1,e1,hc⟩:=aa0 hc
  refine⟨φ,l.map some++ar d.vs none,s,c,s1,as3 r b (by rw[h2,a0]),R,e1,λ φ1 H1 g1 l1 R1=>?_⟩
  cases c with
  | ret v0 =>
   intro v hb rv
   obtain⟨φ',g',l',b',r',R'⟩:=qG R g1 R1 hb rv hc
   exact k v φ' H1 g' l' b' r' R'
  | next ρ =>
   intro σ' _
   obtain⟨φ',g',l',b',r',R'⟩:=qG (v0:=.non) R g1 R1 rfl RV.nonI hc
   exact k .non φ' H1 g' l' b' r' R'
  | cont ρ=>exact fb hc
  | brk ρ=>exact fb hc
 by_cases hl:∃ id B E,lk id B E=true
 ·obtain⟨id,B,E,a4⟩:=hl
  obtain⟨c,Pa,params,a3,scope,pos,J,eE,L⟩:=hL id B E a4
  exact hD.fn.okC L.code hS a0 (body _ λ _ _ _ _=>L.code)
 ·exact hD.fn.ok hS a0 (λ Z=>body Z λ id B E h=>absurd ⟨id,B,E,h⟩ hl)
theorem Fun.okX {Y:CXT}{P:aD}{w:World}{K:ac}{mg:Str->Option Value}{base:Heap}{x qual:Str}{st:Stmt}{f:Addr}{J:bv}{N ps:List Str}{k:Nat}{sp:Sp}(F:Fun K x qual st f J)(S:FnScope N ps (defScope st))(len:∀ vs H Q E,sp vs H Q E->vs.length=ps.length)
  (B:∀(y:Value),J.code=y->∀(A:aP) (h:List Env) (s:af) (H:Hp) (vs:List V) (Q:VK) (E:XK),Room k (A.deeper (ef qual (defScope st) s.heap.objs.size f y))->sp vs H Q E ->
   ∃ t,PSs (as7 Y P w K mg base N qual (defScope st) f y A h s H E) (zC st) t/\t { nx:=λ _ H'=>Q .non H',rt:=Q } (ae7 N vs) H):FnOk P w K mg base Y (k+1) f J ps sp:=by
 obtain⟨oc,od,kV,Z,pm,an,y,ct,a0,rfl,lk,hc⟩:=F.ex
 exact bq7 lk hc S len λ A h s H vs Q E hr G=>B y rfl A h s H vs Q E hr G
theorem bA5 {B:List (Addr×Addr)}{P:kI}{mg:Str->Option Value}(y:PrOk Γ B P mg)(n:Nat):XC (kE P n) Γ.K mg:=by
 have e:(kE P n).xc=P.xc:=by cases n<;>rfl
 have e':(kE P n).xt=P.xt:=by cases n<;>rfl
 exact⟨λ c h=>y.xc c (by rw[e]at h;exact h),λ c h=>y.xt c (by rw[e']at h;exact h),λ c d C D J G=>y.xs c d C D (by rw[e]at J;exact J) (by rw[e']at G;exact G)⟩
theorem bD5 {B:List (Addr×Addr)}{P:kI}{prog:aD}{w:World}{mg:Str->Option Value}{base:Heap}(hP:PrOk Γ B P mg)(hb:∀ y∈B,bw base y.1 y.2/\BM mg base)(n:Nat)(J:ak7 Γ prog w mg base (kE P n) (n+31))(XO:XOk Γ prog w Γ.K mg base (kE P n) (n+31))
  {f:String} {d:DV.Xf} (e:P.xf f=some d) {st:Stmt} {N ps:List Str} {a:Addr} {fd:bv} {lk:String->List Nat->Expr->Bool} (hD:DefAt Γ.K mg (f:Str) st ps a fd) (hS:FnScope N ps (defScope st)) (h1:ps.length=d.ps) (h2:N.length=d.ps+d.vs) (hm:mX ⟨N,defScope st,lk⟩ d.body (zC st)=true) (hL:bq6 Γ B (f:Str) (defScope st) N fd lk) :
  FnOk prog w Γ.K mg base (CX1 prog w) (n+1+31) a fd ps (spX Γ mg ((kE P (n+1)).xcall f)):=by
 refine hD.fn.okX hS (λ vs H Q E q=>?_) λ Z a0 A h sh H vs Q E hr q=>?_
 ·obtain⟨φ,s,l,c,s',R,r,b,hc,k⟩:=q
  simp only[kE,e]at hc
  split at hc
  ·rw[r.length,h1];assumption
  ·cases hc
 ·have G:=aR7 hP hb n J hS hL (a:=a) Z (λ _ _ _ _=>a0) A h sh H E hr
  obtain⟨φ,s,l,c,s',R,r,b,hc,k⟩:=q
  simp only[kE,e]at hc
  split at hc
  case isFalse=>cases hc
  rename_i Y
  exact⟨_,aO5 (X:=as7 (CX1 prog w) prog w Γ.K mg base N (f:Str) (defScope st) a Z A h sh H E) G (bA5 hP n) XO bS0 d.body (zC st) (.inr bV8) hm,φ,l.map some++ar d.vs none,s,c,s',as3 r b (by rw[h2,Y]),R,hc,k⟩
theorem bz9 {cds : List (Addr × Addr)} {P : DV.Pr} {prog : Program} {w : World} {mg : Str -> Option Value} {base : Heap} (hP : PrOk Γ cds P mg) (hb : ∀ y ∈ cds, PySem.W.CodeHd base y.1 y.2 /\ BM mg base) (n : Nat) (hcall : ak7 Γ prog w mg base (DV.aa1 P n) (n + 31)) (XO : XOk Γ prog w Γ.K mg base (DV.aa1 P n) (n + 31))
    {f : String} {d : DV.Tf} (e0 : P.df f = none) (e : P.tf f = some d) {st : Stmt} {N ps : List Str} {a : Addr} {fd : bv} {lk : String -> List Nat -> Expr -> Bool} (hD : DefAt Γ.K mg (f : Str) st ps a fd) (hS : FnScope N ps (defScope st)) (h1 : ps.length = d.ps) (h2 : N.length = d.ps + d.vs) (hm : mT ⟨N, defScope st, lk⟩ d (zC st) = true) (hL : bq6 Γ cds (f : Str) (defScope st) N fd lk) :
    FnOk prog w Γ.K mg base CX0 (n + 1 + 31) a fd ps (spV Γ ((kE P (n + 1)).call f)) := by
  refine hD.fn.okX hS (λ vs H Q E q => ?_) λ cdv hcd A outer sh H vs Q E hr q => ?_
  · obtain⟨φ, s, l, d', s', R, r, b, hc, k⟩ := q
    simp only[kE, e0, e]at hc
    split at hc
    · rw[r.length, h1]; assumption
    · exact fb hc
  have G := aR7 hP hb n hcall hS hL (a := a) cdv (λ _ _ _ _ => hcd) A outer sh H E hr
  have xc := bA5 hP n
  obtain⟨φ, s, l, d', s', R, r, b, hc, k⟩ := q
  simp only[kE, e0, e]at hc
  split at hc
  case isFalse => exact fb hc
  rename_i hlen
  have E0 := as3 r b (k := d.vs) (N := N) (by rw[h2, hlen])
  unfold mT at hm
  split at hm
  case h_2 => exact ff hm
  rename_i tb x np nm b0 su hp tp rest eb
  rw[eb]
  obtain⟨m1, hm⟩ := zg hm
  obtain⟨m2, hm⟩ := zg hm
  obtain⟨m3, hm⟩ := zg hm
  obtain⟨m4, hm⟩ := zg hm
  obtain⟨m5, hm⟩ := zg hm
  obtain⟨m6, hm⟩ := zg hm
  obtain⟨m7, hm⟩ := zg hm
  obtain⟨m8, hm⟩ := zg hm
  obtain⟨m9, hm⟩ := zg hm
  obtain⟨m10, m11⟩ := zg hm
  have ex := of_decide_eq_true m4
  have ei := of_decide_eq_true m6
  subst ex
  unfold DV.bj9 at hc
  split at hc
  · rename_i c s1 hx
    split at hc
    case isFalse => exact fb hc
    rename_i hcond
    obtain⟨rfl, hxc, hok⟩ := hcond
    obtain⟨C, hC, hE, hI⟩ := xc.at_ _ hxc
    obtain⟨g1, g2, g3⟩ := G.gl m5
    have hloc : (defScope st).names.lookup nm = some .local := eq_of_beq m7
    have hd1 : (nm == ("__debug__" : Str)) = false := by simpa using m8
    have hd2 : (nm == ("__classdict__" : Str)) = false := by simpa using m9
    have kx : ∀ a', dL Γ.K (.ref a') (.ref C) (λ h => XAt h a' C) := λ a' => bp3 hE hI
    refine⟨_, (zS (bx0 (X := (as7 CX0 prog w Γ.K mg base N (f : Str) (defScope st) a cdv A outer sh H E).nox) (Γ := Γ) (C := C) (m := lM (kE P n) d.xb) (b := d.h.val d.c) (i := d.i) rfl rfl rfl hE g1 hC g2 hS.nd ei hloc (λ pn W E1 hpas => ?_) λ a' oe hcl => bJ9 G xc hxc hC (kx a') hcl ei (.inl hloc) hd1 hd2 m10 hok) af3).nox, ?_⟩
    · have G' : CG Γ (DV.aa1 P n) (n + 31) ({ (as7 CX0 prog w Γ.K mg base N (f : Str) (defScope st) a cdv A outer sh H E).nox with pn := pn, xe := W } : Cx).nox ⟨N, defScope st, lk⟩ := ⟨G.K, G.N, G.nd, rfl, G.calm, G.deep, G.room, G.sc, G.fn, G.bi, G.call, G.con, λ id caps E' hlk => by
          obtain⟨c, Pa, params, body, scope, pos, J, eE, L⟩ := G.lam id caps E' hlk
          exact⟨c, Pa, params, body, scope, pos, J, eE, ⟨L.code, L.hd, L.bm, L.ck, L.df, L.lg, L.q, L.p, L.b, L.s, L.len, L.at_, L.fr, L.cl, L.tab, L.nd, L.fn, L.kd⟩⟩, G.cl, G.fa, G.fk⟩
      exact aO5 (X := { (as7 CX0 prog w Γ.K mg base N (f : Str) (defScope st) a cdv A outer sh H E).nox with pn := pn, xe := W }) G' xc XO hpas d.xb tb (.inl m3) m2
    · refine⟨φ, l.map some ++ ar d.vs none, s, d.c, s1, E0, R, hx, λ φ' H' a' C' g' l' R' hC' => ?_⟩
      have hC' : mg (d.c : Str) = some (.ref C') := hC'
      rw[hC]at hC'
      cases hC'
      refine⟨rfl, λ H'' same => ?_⟩
      obtain⟨gs, Rs⟩ := R'.same same
      obtain⟨φ2, g2', l2, b2, r2, R2⟩ := qG (v0 := .bl (d.h.val d.c)) R (g'.trans gs l') Rs rfl RV.blI hc
      exact k _ φ2 H'' g2' l2 b2 r2 R2
  · rename_i hx
    refine⟨_, (zS (bo7 (X := (as7 CX0 prog w Γ.K mg base N (f : Str) (defScope st) a cdv A outer sh H E).nox) rfl (sSs d.body tb _ ⟨N, defScope st, lk⟩ G m1)) (sSs d.tl rest _ ⟨N, defScope st, lk⟩ G m11)).nox, ?_⟩
    obtain⟨c, s1, e1, hc⟩ := aa0 hc
    refine⟨φ, l.map some ++ ar d.vs none, s, c, s1, E0, R, e1, λ φ1 H1 g1 l1 R1 => ?_⟩
    cases c with
    | ret v0 =>
      intro v hb rv
      obtain⟨φ', g', l', b', r', R'⟩ := qG R g1 R1 hb rv hc
      exact k v φ' H1 g' l' b' r' R'
    | next ρ =>
      intro σ' E1
      obtain⟨c, s2, e2, hc⟩ := aa0 hc
      refine⟨φ1, ρ, s1, c, s2, E1, R1, e2, λ φ2 H2 g2 l2 R2 => ?_⟩
      cases c with
      | ret v0 =>
        intro v hb rv
        obtain⟨φ', g', l', b', r', R'⟩ := qG R (g1.trans g2 l1) R2 hb rv hc
        exact k v φ' H2 g' l' b' r' R'
      | next ρ =>
        intro σ' _
        obtain⟨φ', g', l', b', r', R'⟩ := qG (v0 := .non) R (g1.trans g2 l1) R2 rfl RV.nonI hc
        exact k .non φ' H2 g' l' b' r' R'
      | cont ρ => exact fb hc
      | brk ρ => exact fb hc
    | cont ρ => exact fb hc
    | brk ρ => exact fb hc
theorem bs6 {c1:List (Addr×Addr)}{P:kI}{prog:aD}{w:World}{mg:Str->Option Value}{base:Heap}(hP:PrOk Γ c1 P mg)(n:Nat)(a1:ak7 Γ prog w mg base (kE P n) (n+31))
  (id:String) (J:LamI) (f:Addr) (cap:List V) (Y:List (Str×Addr)) (b6:Γ.lg id J) (a2:cap.length=J.fr.length) :
  ClOk prog w Γ.K mg base (n+1+31) (λ H=>CloAt H f J cap Y) f (spL Γ ((kE P (n+1)).lam id) cap):=by
 obtain⟨L,eL,LG⟩:=hP.lg id J b6
 have a3:∀ vs H Q E,spL Γ ((kE P (n+1)).lam id) cap vs H Q E->vs.length=J.ps.length:=λ vs H Q E q=>by
  obtain⟨φ,s,cs,l,d,s',R,r,rc,b,bc,hc,k⟩:=q
  simp only[kE,eL]at hc
  split at hc
  ·rename_i hh;rw[r.length,LG.ps];exact hh.1
  ·exact fb hc
 have main:∀(A:aP) (Z:List Env) (sh:af) (H:Hp) (cd:Value) (vs:List V) (Q:VK),Room (n+31) (A.deeper (cG J.qual J.scope sh.heap.objs.size f cd (aK (sh.heap.objs.size+1) J.scope.names Y)))->Cells Y H->(∀ b o,Γ.K.lookup b=some o->H b=none)->spL Γ ((kE P (n+1)).lam id) cap vs H Q E0 ->
   ∃ t,PE (az2 prog w Γ.K mg base (J.ps++J.fr) J.qual J.scope f cd Y A Z sh H) J.body t/\t (vs.map some++cap.map some) (ab1 Y H) λ v H'=>(∀ b,isC Y b=true->H' b=none)->Q v (Put Y H H'):=by
  intro A Z sh H cd vs Q hr B hK q
  have G:CG Γ (kE P n) (n+31) (az2 prog w Γ.K mg base (J.ps++J.fr) J.qual J.scope f cd Y A Z sh H) (ck0 (J.ps++J.fr) J.scope):=by
   refine⟨rfl,rfl,LG.sc.nd,rfl,rfl,?_,hr,λ x k e=>.inl e,λ x e=>?_,hP.bi,a1.1,?_,λ _ _ _ h=>(by cases h),a1.2,hP.fa,DV.ae0 P n⟩
   ·show kM+1<=n+31
    unfold kM;omega
   ·show(J.scope.names.lookup x==some .cell)=true
    rw[show J.scope.names.lookup x=some .cell from e];rfl
   ·have:(kE P n).con=P.con:=by cases n<;>rfl
    rw[this];exact hP.con
  refine⟨_,(sE L.body J.body _ (ck0 (J.ps++J.fr) J.scope) G LG.m).1,?_⟩
  obtain⟨φ,s,cs,l,d,s',R,r,rc,b,bc,hc,k⟩:=q
  simp only[kE,eL]at hc
  split at hc
  case isFalse=>exact fb hc
  rename_i hh
  obtain⟨h1,h2,h3⟩:=hh
  rw[ag,ag]at h3
  obtain⟨⟨b5,b4⟩,c0⟩:=h3
  obtain⟨v0,s1,e1,hc⟩:=aa0 hc
  have RD:Rp Γ φ (ab1 Y H) s:=R.dropC B c0
  have b0:RVL Γ φ (ab1 Y H) (l++cs) (vs++cap):=(RVL.dropC B l vs b5 r).append (RVL.dropC B cs cap b4 rc)
  refine⟨φ,l.map some++cs.map some,s,v0,s1,⟨by simp[r.length,rc.length],λ i x ei=>?_⟩,RD,e1,λ v φ1 H1 g1 l1 b1 r1 R1 a4=>?_⟩
  ·rw[<-bt,aJ]at ei
   have b2:(l++cs)[i]?=some x:=by
    cases q:(l++cs)[i]? with
    | none=>rw[q]at ei;cases ei
    | some y=>rw[q]at ei;cases ei;rfl
   obtain⟨u,e3,e4⟩:=b0.get b2
   refine⟨af5 (zY b bc) b2,u,?_,e4⟩
   rw[<-bt,aJ,e3];rfl
  ·obtain⟨φ',g',l',b',r',R'⟩:=qG RD g1 R1 b1 r1 hc
   have gp:=Gr.put B a4 hK R' g'
   obtain⟨gs,Rs⟩:=R'.same (aN2 (H:=H) a4)
   exact k v φ' _ gp l' b' (RV.mono gs d v b' r') Rs
 unfold CloAt
 cases q:J.nm with
 | none=>exact bx1 LG.sc a3 a2 (λ pm c' a0 us a5=>(LG.bind Y .none pm c' a0 us a5).1) (λ A Z sh H cd vs Q hr a6 hK q=>by
   obtain⟨pm,c',a0,_,_,B,_⟩:=a6
   exact main A Z sh H cd vs Q hr B hK q)
 | some p=>exact bn6 LG.sc a3 a2 (λ b3 pm c' a0 us a5=>(LG.bind Y b3 pm c' a0 us a5).2 _ _) (λ A Z sh H cd vs Q hr a6 hK q=>by
   obtain⟨b3,pm,c',a0,_,_,B,_⟩:=a6
   obtain⟨t,h1,h2⟩:=main A Z sh H cd vs Q hr B hK q
   exact⟨_,zS (an0 h1) am0,h2⟩)
theorem aG6 {Z:List (Addr×Addr)}{P:kI}{prog:aD}{w:World}{mg:Str->Option Value}{base:Heap}(B:PrOk Γ Z P mg)(hb:∀ y∈Z,bw base y.1 y.2/\BM mg base):∀ n:Nat,ak7 Γ prog w mg base (kE P n) (n+31)/\XOk Γ prog w Γ.K mg base (kE P n) (n+31)
 | 0=>⟨⟨λ f=>.inl λ l s=>rfl,λ id J f cap h _ _=>⟨λ A a0 s H us vs Q _ _ _ _ q=>by
   obtain⟨φ,s,cs,l,d,s',R,r,rc,b,bc,hc,k⟩:=q
   cases hc⟩⟩,λ f=>.inl λ l s=>rfl⟩
 | n+1=>by
  obtain⟨ih,XO⟩:=aG6 (prog:=prog) (w:=w) (base:=base) B hb n
  refine⟨⟨λ f=>?_,λ id J f cap h G Y=>bs6 B n ih id J f cap h G Y⟩,λ f=>?_⟩
  ·cases e:P.df f with
   | none =>
    cases e2:P.tf f with
    | none=>exact .inl λ l s=>by simp only[kE,e,e2]
    | some d =>
     obtain⟨st,N,ps,a,fd,lk,hD,hS,G,Y,hm,hL⟩:=B.tf f d e2
     exact .inr ⟨a,fd,ps,bz9 B hb n ih XO e e2 hD hS G Y hm hL,hD.mg,hD.fn.kp,hD.bi⟩
   | some d =>
    obtain⟨st,N,ps,a,fd,lk,hD,hS,G,Y,hm,hL⟩:=B.df f d e
    exact .inr ⟨a,fd,ps,bB9 B hb n ih e hD hS G Y hm hL,hD.mg,hD.fn.kp,hD.bi⟩
  ·cases e:P.xf f with
   | none=>exact .inl λ l s=>by simp only[kE,e]
   | some d =>
    obtain⟨st,N,ps,a,fd,lk,hD,hS,G,Y,hm,hL⟩:=B.xf f d e
    exact .inr ⟨a,fd,ps,bD5 B hb n ih XO e hD hS G Y hm hL,hD.mg,hD.fn.kp,hD.bi⟩
theorem bo5 {h:List (Addr×Addr)}{P:kI}{prog:aD}{w:World}{mg:Str->Option Value}{base:Heap}(B:PrOk Γ h P mg)(hb:∀ y∈h,bw base y.1 y.2/\BM mg base)(n:Nat):ak7 Γ prog w mg base (kE P n) (n+31):=(aG6 B hb n).1
def spT (Γ:Gm):Sp:=λ vs H Q _=>∃(a:Addr) (ns:List Int),vs=[.ref a]/\SqF Γ.K H a (ns.map V.int)/\ns.length<=63/\TabsH Γ.T H/\∀ H',Q (.bl true) H'
theorem aF7 {φ:Nat->Addr}{H:Hp}:∀ ns:List Int,RVL Γ φ H (ns.map DV.D.int) (ns.map V.int)
 | []=>.nil
 | n::ns=>.cons RV.intI (aF7 ns)
theorem aw6 {m:Nat}:∀ ns:List Int,ky m (ns.map DV.D.int)=true
 | []=>rfl
 | n::ns=>by rw[aI];unfold ky;rw[aw6 ns];rfl
theorem bK1 {P:kI}{k:Nat}(h:∀ ns:List Int,ns.length<=63->∃ s',(kE P k).call "law" [.ref 0] [.ro (ns.map DV.D.int)]=.ok (.bl true) s')(vs:List V)(H:Hp)(Q:VK)(E:XK)(q:spT Γ vs H Q E):spV Γ ((kE P k).call "law") vs H Q E:=by
 obtain⟨a,ns,rfl,B,hl,hT,y⟩:=q
 obtain⟨s',hs⟩:=h ns hl
 refine⟨λ _=>a,[.ro (ns.map DV.D.int)],[.ref 0],.bl true,s',⟨λ i j o G e e' m m' _=>?_,λ i o e=>?_,λ i o e=>?_,hT⟩,.cons RV.refI .nil,?_,hs,λ v φ' H' g l b r R=>?_⟩
 ·cases i with
  | zero=>cases e;cases m
  | succ i=>cases e
 ·cases i with
  | zero=>cases e;exact⟨_,B,aF7 ns⟩
  | succ i=>cases e
 ·cases i with
  | zero=>cases e;unfold kD;exact aw6 ns
  | succ i=>cases e
 ·unfold ky kB ky;rfl
 ·rw[r.blE];exact y H'
theorem aI1 {y:List (Addr×Addr)}{mg:Str->Option Value}:∀ {tbl:List (String×lF)},(∀ p∈tbl,Good Γ y mg p.1 p.2)->∀ f d,tbl.lookup f=some d->Good Γ y mg f d
 | [],_,f,d,h=>by cases h
 | (g,e)::tbl,H,f,d,h=>by
  rw[aX]at h
  cases q:f==g with
  | true =>
   rw[q]at h
   cases h
   rw[eq_of_beq q]
   exact H (g,_) (aw ..)
  | false =>
   rw[q]at h
   exact aI1 (λ p hp=>H p (ai _ hp)) f d h
def bc2 (Γ:Gm)(mg:Str->Option Value)(x:String)(d:ku):Prop:=∃ v u,mg (x:Str)=some u/\RelV v u/\(∀ m,d.bnd m=true)/\∀ φ H,RV Γ φ H d v
theorem aU8 {mg:Str->Option Value}:∀ {tbl:List (String×ku)},(∀ p∈tbl,bc2 Γ mg p.1 p.2)->∀ f d,tbl.lookup f=some d->bc2 Γ mg f d
 | [],_,f,d,h=>by cases h
 | (g,e)::tbl,H,f,d,h=>by
  rw[aX]at h
  cases q:f==g with
  | true =>
   rw[q]at h
   cases h
   rw[eq_of_beq q]
   exact H (g,_) (aw ..)
  | false =>
   rw[q]at h
   exact aU8 (λ p hp=>H p (ai _ hp)) f d h
theorem bp8 {mg:Str->Option Value}{x:String}{i:Int}{t:Tok}(h:mg (x:Str)=some (.int i t)):bc2 Γ mg x (.int i):=⟨.int i,_,h,⟨t,rfl⟩,λ _=>rfl,λ _ _=>RV.intI⟩
end
theorem aK1 {P:aD}{w:World}{K:ac}{mg mb:Str->Option Value}{k:Nat}{fa a:Addr}{fd:bv}{x:Str}{sp:Sp}{B:af}{vs:List Value}{ns:List Int}{tabs:List (Addr×Addr)}
  (KX:K.In B.heap) (c0:B.heap.Ns aS mg) (hb:B.heap.Ns fV mb) (d1:∀ x:Str,x ≠ "__name__"->mb x=be x) (hlim:B.heap.NoLimit) (hg:B.gens=#[]) (d2:BM mg B.heap) (hT:jW tabs B.heap) (c4:jX K=true)
  (ha:B.heap.get? a=some { cls:=.type "list",data:=.seq vs.toArray }) (hi:jI vs ns) (hl:ns.length<=aH) (hr:Room k g8)
  (F:∀ base:Heap,K.In base->base.Ns aS mg->BM mg base->(∀ q∈tabs,bw base q.1 q.2)->FnOk P w K mg base CX0 k fa fd [x] sp) (a4:∀(s:af) (u:Value),jG s fd ⟨[u],[]⟩ [(x,u)])
  (c1:∀ H:Hp,(∀ q∈tabs,H q.2=some (.tbl #[]))->SqL K H a (ns.map V.int)->(∀ u,H a=some u->(∃ o xs,u=.frz o (.lst xs))\/∃ ps,u=.tbl ps)->sp [.ref a] H (λ v _=>v=.bl true) E0) :
  fX (model P w) g8 (.call (.ref fa) ⟨[.ref a],[]⟩) (λ r s'=>r=.ok (.ret (.bool true))/\OldK B.heap s'.heap/\s'.os=B.os/\eJ s'.gens) B:=by
 have rv:=at1 hi
 have b0:=hi.length
 have G:∀ b,b∈tabs.map (·.2)->B.heap.get? b=some (dH #[]):=λ b h=>by
  obtain⟨q,hq,rfl⟩:=aW.mp h
  exact(hT q hq).2
 have a1:∀ H:Hp,(∀ b u,H b=some u->(b=a/\∃ o xs,u=.frz o (.lst xs))\/(b∈tabs.map (·.2)/\u=.tbl #[]))->(∀ q∈tabs,H q.2=some (.tbl #[]))->SqL K H a (ns.map V.int)->HOk P w H B.heap->(H a≠none->K.lookup a=none) ->
   fX (model P w) g8 (.call (.ref fa) ⟨[.ref a],[]⟩) (λ r s'=>r=.ok (.ret (.bool true))/\OldK B.heap s'.heap/\s'.os=B.os/\eJ s'.gens) B:=by
  intro H hO c3 hS hok hK
  have un:∀ b o,B.heap.get? b=some o->o.cls≠.type "list"->(∀ vs,o.data≠.fields vs)->H b=none:=λ b o e n1 n2=>by
   cases q:H b with
   | none=>rfl
   | some u =>
    rcases hO b u q with⟨z,_⟩|⟨z,_⟩
    ·rw[z,ha]at e;cases e;exact absurd rfl n1
    ·rw[G b z]at e;cases e;exact absurd rfl (n2 #[])
  have Y:∀ {b:Addr} {m:Str->Option Value},B.heap.Ns b m->(aW8 B.heap H).Ns b m:=λ {b m} ⟨o,es,ep,e,d,r⟩=>by
   refine⟨o,es,ep,ai3 e ?_,d,r⟩
   cases q:H b with
   | none=>rfl
   | some u =>
    rcases hO b u q with⟨z,_⟩|⟨z,_⟩
    ·rw[z,ha]at e;cases e;cases d
    ·rw[G b z]at e;cases e;cases d
  have a5:K.In (aW8 B.heap H):=λ b o e=>ai3 (KX b o e) (by
   cases q:H b with
   | none=>rfl
   | some u =>
    rcases hO b u q with⟨z,_⟩|⟨z,_⟩
    ·subst z
     rw[hK (by rw[q];simp)]at e;cases e
    ·have e2:=KX b o e
     rw[G b z]at e2
     have h2:=aG.mp c4 (b,o) (PySem.W.mem_of_lookupK e)
     have e3:o=dH #[]:=(aC e2).symm
     subst e3
     exact absurd (show false=true from h2) aQ)
  have hM:Mod K mg (aW8 B.heap H):=⟨a5,Y c0,⟨mb,Y hb,d1⟩,let⟨mc,h1,h2⟩:=hlim;⟨mc,Y h1,h2⟩⟩
  have c6:BM mg (aW8 B.heap H):=by
   obtain⟨bm,ob,b1,b2,b3,b4,b5,b6⟩:=d2
   exact⟨bm,ob,b1,b2,ai3 b3 (un bm ob b3 (by rw[b4];nofun) (by rw[b6];nofun)),b4,b5,b6⟩
  have c5:∀ q∈tabs,bw (aW8 B.heap H) q.1 q.2:=λ q hq=>by
   obtain⟨o,d0,a6,tf,a2,tg,c2,text,tt,e1,r1,r2⟩:=(hT q hq).1
   refine⟨o,d0,a6,tf,a2,tg,c2,text,tt,ai3 e1 ?_,r1,r2⟩
   cases q2:H q.1 with
   | none=>rfl
   | some u =>
    rcases hO _ u q2 with⟨z,_⟩|⟨z,_⟩
    ·rw[z,ha]at e1;cases e1;exact absurd r1 (by simp)
    ·rw[G _ z]at e1;cases e1;exact absurd r1 (by simp)
  have e0:Env0 P w K mg (aW8 B.heap H) g8 [] B H:=⟨rfl,hM,λ b o e=>bk3 e,Nat.le_of_eq (aQ1 _ _),trivial,λ b hb=>absurd (show b∈([]:List Addr)from hb) (by simp),hok,.of_eq hg⟩
  refine eM ((F _ a5 (Y c0) c6 c5).run g8 [] B H ⟨[.ref a],[]⟩ [.ref a] [.ref a] _ _ hr e0 (a4 B (.ref a)) (.cons rfl .nil) (c1 H c3 hS (λ u e=>(hO a u e).elim (λ z=>.inl z.2) (λ z=>.inr ⟨_,z.2⟩)))) λ r s' h=>?_
  cases r with
  | error e=>exact aZ h
  | ok fl =>
   cases fl with
   | next=>exact aZ h
   | brk=>exact aZ h
   | cont=>exact aZ h
   | ret u =>
    obtain⟨v,H',os,bare,a3,a0,r',q⟩:=h
    have q':v=.bl true:=q
    subst q'
    obtain rfl:u=Value.bool true:=r'
    have key:∀ b o,B.heap.get? b=some o->asItWas B.heap s'.heap b o/\∃ o',s'.heap.get? b=some o':=λ b o e=>by
     cases q:H b with
     | none =>
      have z:=a3.keep b o e q (by intro z;exact absurd (show b∈([]:List Addr)from z) (by simp)) (by simp)
      exact⟨.inl z,o,z⟩
     | some u =>
      rcases hO b u q with⟨_,ob,xs,z⟩|⟨z,z2⟩
      ·subst z
       have z2:=a3.frzs b ob _ q
       obtain⟨e1,_⟩:=hok b _ q
       obtain⟨e2,_⟩:=a0 b _ z2
       rw[e]at e1;cases e1
       exact⟨.inl e2,_,e2⟩
      ·subst z2
       obtain⟨Z,z3⟩:=a3.tbls b _ q
       have g:s'.heap.get? b=some { cls:=.none,data:=.fields (#[]++Z) }:=a0 b _ z3
       have e1:=G b z
       rw[e]at e1;cases e1
       obtain⟨p,hp,ep⟩:=aW.mp z
       refine⟨.inr (.inl ⟨?_,rfl,#[],Z,rfl,g⟩),_,g⟩
       have t:=((hT p hp).1.tab (hT p hp).2).isCodeTable
       rw[ep]at t
       exact t
    exact⟨rfl,⟨λ b o e=>(key b o e).1,λ b o e=>(key b o e).2⟩,os,bare⟩
 have tbl:∀ b,b∈tabs.map (·.2)->b≠a:=λ b h z=>by
  have e:=G b h
  rw[z,ha]at e;cases e
 cases hk:K.lookup a with
 | some o =>
  have e:=KX a o hk
  rw[ha]at e
  cases e
  refine a1 (λ b=>if b∈tabs.map (·.2)then some (.tbl #[])else none) (λ b u z=>?_) (λ q hq=>if_pos (bj hq)) (.inr ⟨_,vs.toArray,_,hk,rfl,rfl,rfl,by rw[au,b0];exact hl,by simpa using rv⟩) (λ b u z=>?_) λ z=>?_
  ·by_cases hb:b∈tabs.map (·.2)
   ·have J:=(if_pos hb).symm.trans z
    cases J
    exact .inr ⟨hb,rfl⟩
   ·have J:=(if_neg hb).symm.trans z
    cases J
  ·by_cases hb:b∈tabs.map (·.2)
   ·have J:=(if_pos hb).symm.trans z
    cases J
    exact G b hb
   ·have J:=(if_neg hb).symm.trans z
    cases J
  ·exact absurd (if_neg λ y=>tbl a y rfl) z
 | none =>
  refine a1 (λ b=>if b=a then some (.frz { cls:=.type "list",data:=.seq vs.toArray } (.lst (ns.map V.int)))else if b∈tabs.map (·.2)then some (.tbl #[])else none) (λ b u z=>?_) (λ q hq=>?_) (.inl (.inr ⟨{ cls:=.type "list",data:=.seq vs.toArray },if_pos rfl⟩)) (λ b u z=>?_) λ _=>hk
  ·by_cases hb:b=a
   ·have J:=(if_pos hb).symm.trans z
    cases J
    exact .inl ⟨hb,_,_,rfl⟩
   ·have J:=(if_neg hb).symm.trans z
    by_cases hc:b∈tabs.map (·.2)
    ·rw[if_pos hc]at J;cases J;exact .inr ⟨hc,rfl⟩
    ·rw[if_neg hc]at J;cases J
  ·have hm:q.2∈tabs.map (·.2):=bj hq
   show(if _ then _ else if _ then _ else _)=_
   rw[if_neg (tbl _ hm),if_pos hm]
  ·by_cases hb:b=a
   ·have J:=(if_pos hb).symm.trans z
    cases J
    subst hb
    exact⟨ha,by rw[aE];exact hl,vs,_,rv,ha⟩
   ·have J:=(if_neg hb).symm.trans z
    by_cases hc:b∈tabs.map (·.2)
    ·rw[if_pos hc]at J;cases J;exact G b hc
    ·rw[if_neg hc]at J;cases J
theorem aM7 {ts:List Addr}{l:cI}{n k:Nat}{q:aD}{loose:List Str}{XP:(Str->Option Value)->Heap->Prop}{YP:World->Heap->Prop}{d:DefRec}{K:Params->ac}{sp:ac->Sp}{x:Str}(names:List Str)
  (hn:l.most=some n) (a3:n<=aH) (a5:d.params.defaults=[]) (hr:Room k g8)
  (hY:∀(w:World) (h:Heap),YP w h->(K w.params).In h/\∀ P∈ts,h.get? P=some (dH #[])) (a0:∀ w:World,bD8 (K w.params) names ts=true) (a4:∀ w:World,jX (K w.params)=true)
  (F:∀(w:World) (mg:Str->Option Value) (fa:Addr) (h:Heap),(K w.params).In h->h.Ns aS mg->mg d.name=some (.ref fa) ->
   ∃ fd:bv,(∀(s:af) (u:Value),jG s fd ⟨[u],[]⟩ [(x,u)]) /\
    ∀ base:Heap,(K w.params).In base->base.Ns aS mg->BM mg base->bw4 (K w.params) names base->FnOk l.prog w (K w.params) mg base CX0 k fa fd [x] (sp (K w.params)))
  (a1:∀(K:ac) (H:Hp) (a:Addr) (ns:List Int),ns.length<=n->bn2 K names H->SqL K H a (ns.map V.int)->(∀ u,H a=some u->(∃ o xs,u=.frz o (.lst xs))\/∃ ps,u=.tbl ps)->sp K [.ref a] H (λ v _=>v=.bl true) E0) :
  jZ q loose XP YP l.row.toRowW d [] (λ f vs=>jK f vs):=by
 refine Att.attach_call hn a5 λ w s₀ s₁ mg mb fa o pm cd b0 a vs ns G Y ho hd b1 a2 Z J B hg=>?_
 obtain⟨KX,a6⟩:=hY w _ Y
 obtain⟨fd,hb,hF⟩:=F w mg fa _ KX G.T.g a2
 have hT:jW ((av2 (K w.params) names).map (·.2)) s₁.heap:=λ p hp=>by
  obtain⟨y,hy,rfl⟩:=aW.mp hp
  obtain⟨h1,h2⟩:=ao2.mp hy
  have z:=aG.mp (a0 w) y.1 h1
  rw[h2]at z
  have z':(jo (K w.params) y.2.1 y.2.2&&ts.contains y.2.2)=true:=z
  rw[ag]at z'
  exact⟨PySem.W.codeHd_of_K KX z'.1,a6 _ (by simpa using z'.2)⟩
 have hm:∀ x∈names,∀ c P,a8 (K w.params) x=some (c,P)->(c,P)∈(av2 (K w.params) names).map (·.2):=λ x hx c P e=>aW.mpr ⟨(x,c,P),ao2.mpr ⟨hx,e⟩,rfl⟩
 refine aK1 (tabs:=(av2 (K w.params) names).map (·.2)) KX G.T.g G.T.b G.T.builtins G.T.nolimit hg ?_ hT (a4 w) Z J (ao B a3) hr (λ base k1 k2 k3 k4=>hF base k1 k2 k3 λ x hx c P e=>k4 _ (hm x hx c P e)) hb λ H hO hS hF=>a1 (K w.params) H a ns B (λ x hx c P e=>hO _ (hm x hx c P e)) hS hF
 obtain⟨bm,ob,h1,h2,h3,h4,h5,h6⟩:=G.T.bmain
 exact⟨bm,ob,h1,h2,h3,h4,h5,h6⟩
def spB (names:List Str)(K:ac):Sp:=λ vs H Q _=>∃(a:Addr) (ns:List Int),vs=[.ref a]/\SqF K H a (ns.map V.int)/\ns.length<=63/\bn2 K names H/\∀ H',Q (.bl true) H'
theorem bD3 {names:List Str}{K:ac}{H:Hp}{a:Addr}{ns:List Int}(hl:ns.length<=63)(hB:bn2 K names H)(y:SqL K H a (ns.map V.int))(G:∀ u,H a=some u->(∃ o B,u=.frz o (.lst B))\/∃ ps,u=.tbl ps):spB names K [.ref a] H (λ v _=>v=.bl true) E0:=by
 refine⟨a,ns,rfl,⟨y,λ H' k=>?_⟩,hl,hB,λ _=>rfl⟩
 rcases y with(h|⟨o,h⟩)|h
 ·rcases G _ h with⟨_,_,z⟩|⟨_,z⟩<;>cases z
 ·exact .inl (.inr ⟨o,k _ _ h rfl⟩)
 ·exact .inr h
def cb8 (P:kI):String->LamI->Prop:=λ id J=>∃ L,P.lm id=some L/\LamGood J L
noncomputable def sfx (x:Str):Str:=if x = "letter_table" then "least_fee" else "<lambda>"
noncomputable def bm3 (names:List Str)(K:ac):List (Addr×Str):=names.map λ x=>(((a8 K x).getD (0,0)).2,x ++ ".<locals>."++sfx x)
noncomputable def bv3 (names:List Str)(K:ac):List (Addr×Addr):=names.map λ x=>(a8 K x).getD (0,0)
noncomputable def bI9 (K:ac)(f:String):Option Addr:=match bV K aS (f:Str)with
 | some (some (.ref a))=>(match K.lookup a with
  | some ⟨_,_,.func _,_⟩=>some a
  | _=>none)
 | _=>none
theorem bw1 {K:ac}{f:String}{a:Addr}{oc:Value}{od:Option Addr}{y:bv}{sl:Array (Option Value)}(B:bV K aS (f:Str)=some (some (.ref a)))(h:K.lookup a=some ⟨oc,od,.func y,sl⟩):bI9 K f=some a:=by
 unfold bI9
 rw[B]
 simp only
 rw[h]
theorem aF8 {K:ac}{f:String}{a:Addr}(h:bI9 K f=some a):bV K aS (f:Str)=some (some (.ref a))/\∃ oc od y sl,K.lookup a=some ⟨oc,od,.func y,sl⟩:=by
 unfold bI9 at h
 split at h
 ·rename_i B e
  split at h
  ·rename_i oc od y sl e2
   cases h
   exact⟨e,_,_,_,_,e2⟩
  ·cases h
 ·cases h
noncomputable abbrev aT6 (names:List Str)(P:kI)(K:ac):Gm:=⟨K,bI9 K,cb8 P,bm3 names K⟩
theorem bW3 {names:List Str}{P:kI}{K:ac}{h:Heap}{mg:Str->Option Value}(X:K.In h)(G:h.Ns aS mg):∀(f:String) (a:Addr),(aT6 names P K).fa f=some a->mg (f:Str)=some (.ref a)/\∃ oc od y sl,(aT6 names P K).K.lookup a=some ⟨oc,od,.func y,sl⟩:=λ f a e=>⟨bP X G (aF8 e).1,(aF8 e).2⟩
theorem bG5 {names:List Str}{P:kI}{K:ac}{h:Heap}{mg:Str->Option Value}{f:String}{a:Addr}{oc:Value}{od:Option Addr}{J:bv}{sl:Array (Option Value)}(X:K.In h)(G:h.Ns aS mg)(y:bV K aS (f:Str)=some (some (.ref a)))(B:K.lookup a=some ⟨oc,od,.func J,sl⟩):bc2 (aT6 names P K) mg f (.fn f) :=
 ⟨.ref a,.ref a,bP X G y,rfl,λ _=>rfl,λ φ H=>by unfold RV;exact⟨a,bw1 y B,rfl⟩⟩
theorem aX7 {names:List Str}{P:kI}{K:ac}(h:∀ x∈names,(a8 K x).isSome=true){vs:List V}{H:Hp}{Q:VK}{E:XK}(q:spB names K vs H Q E):spT (aT6 names P K) vs H Q E:=by
 obtain⟨a,ns,e,B,hl,hB,y⟩:=q
 refine⟨a,ns,e,B,hl,TabsH.init λ p hp=>?_,y⟩
 simp only[bm3,List.map_map]at hp
 obtain⟨x,hx,rfl⟩:=aW.mp hp
 exact hB x hx _ _ (ar0 (h x hx))
theorem bj6 {names:List Str}{K:ac}{mg:Str->Option Value}{base:Heap}(h:∀ x∈names,(a8 K x).isSome=true)(bm:BM mg base)(hc:bw4 K names base):∀ y∈bv3 names K,bw base y.1 y.2/\BM mg base:=λ y hy=>by
 obtain⟨x,hx,rfl⟩:=aW.mp hy
 exact⟨hc x hx _ _ (ar0 (h x hx)),bm⟩
noncomputable def ao6:a9->Option (List Str)
 | ⟨[],args,none,[],[],none,[]⟩=>some (args.map (·.arg))
 | _=>none
theorem jh {p:a9}{ps:List Str}(h:ao6 p=some ps):∃ args,p=⟨[],args,none,[],[],none,[]⟩/\args.map (·.arg)=ps:=by
 unfold ao6 at h
 split at h
 ·exact⟨_,rfl,aC h⟩
 ·cases h
def aJ2 (ps:List Str):Prop:=∀ params,ao6 params=some ps->∀(qual:Str) (body:Expr) (scope:Scope) (clos:List (Str×Addr)) (doc pm:Value) (c':Addr) (ctv:Value) (us:List Value),us.length=ps.length->d4 (bM "<lambda>" qual params body scope clos pm (.ref c') ctv) ⟨us,[]⟩=pure (ps.zip us) /\
 ∀(nm:Str) (rp:Pos),d4 (b7 nm qual params [.Return (some body) rp] scope clos .none .none doc pm none (.ref c') ctv) ⟨us,[]⟩=pure (ps.zip us)
noncomputable def aQ8 (ps fr:List Str)(sc:Scope):Bool:=decide (sc.kind=.function)&&!sc.isCoroutine&&!sc.isGenerator&&decide ((ps++fr).Nodup)&&(ps.all λ x=>decide (sc.names.lookup x=some .local)||decide (sc.names.lookup x=some .cell))&&(fr.all λ x=>decide (sc.names.lookup x=some .free))&&(sc.names.all λ y=>!decide (y.2=.cell)||decide (sc.names.lookup y.1=some .cell))
theorem aP6 {ps fr:List Str}{sc:Scope}(h:aQ8 ps fr sc=true):LamScope (ps++fr) ps fr sc:=by
 unfold aQ8 at h
 simp only[ag,decide_eq_true_eq,dJ,aG,bN]at h
 obtain⟨⟨⟨⟨⟨⟨G,B⟩,h3⟩,Y⟩,h5⟩,Z⟩,J⟩:=h
 exact⟨G,B,h3,Y,rfl,h5,Z,λ y hy e=>by
  rcases J y hy with z|z
  ·rw[e]at z;simp at z
  ·exact z⟩
noncomputable def bF4 (scope sc:Scope):Bool:=scope.names.all λ y=>!decide (scope.names.lookup y.1=some .free)||decide (sc.names.lookup y.1=some .cell)
theorem aY5 {scope sc:Scope}(h:bF4 scope sc=true):∀ x,scope.names.lookup x=some .free->sc.names.lookup x=some .cell:=λ x hx=>by
 have:=aG.mp h (x,.free) (ax hx)
 simp only[bN,dJ,decide_eq_false_iff_not,decide_eq_true_eq]at this
 rcases this with z|z
 ·exact absurd hx z
 ·exact z
noncomputable def lkB (sc:Scope)(N:List Str)(caps:List Nat)(params:a9)(body:Expr)(scope:Scope)(t:lE×List Str×List Str):Bool :=
 decide (ao6 params=some t.2.1)&&decide (caps.map (λ j=>N[j]?)=t.2.2.map some)&&lamCheck scope sc&&bF4 scope sc&&aQ8 t.2.1 t.2.2 scope&&decide (t.2.1.length=t.1.ps)&&decide (t.2.2.length=t.1.cs)&&mE (ck0 (t.2.1++t.2.2) scope) t.1.body body
noncomputable def lkG (f:Str)(sc:Scope)(N:List Str)(tab:List (String×lE×List Str×List Str))(id:String)(caps:List Nat)(E:Expr):Bool:=match tab.lookup id,E with
 | some t,.Lambda params body scope _=>decide (sfx f = "<lambda>")&&lkB sc N caps params body scope t
 | some t,.NamedExpr (.Name nm _) (.Lambda params body scope p1) p2=>decide (sfx f=nm)&&decide (p1=p2)&&lkB sc N caps params body scope t
 | _,_=>false
theorem bu9 {names:List Str}{P:kI}{K:ac}{f:Str}{sc:Scope}{N:List Str}{fd:bv}{tab:List (String×lE×List Str×List Str)}(hf:f∈names)(J:fd.code=.ref ((a8 K f).getD (0,0)).1)(a0:∀ y∈sc.names,y.2=.cell->sc.names.lookup y.1=some .cell)
  (Z:∀ id t,tab.lookup id=some t->P.lm id=some t.1/\aJ2 t.2.1):bq6 (aT6 names P K) (bv3 names K) f sc N fd (lkG f sc N tab):=by
 intro id B E h
 have G:∀(t:lE×List Str×List Str) (params:a9) (body:Expr) (scope:Scope) (nm:Option (Str×Pos)),tab.lookup id=some t->lkB sc N B params body scope t=true->(match nm with|none => "<lambda>" | some p=>p.1)=sfx f ->
   LkAt (aT6 names P K) (bv3 names K) f sc N fd id B params body scope ((a8 K f).getD (0,0)).1 ((a8 K f).getD (0,0)).2 ⟨f ++ ".<locals>."++sfx f,params,body,scope,t.2.1,t.2.2,nm⟩:=λ t params body scope nm e h hs=>by
  obtain⟨L,ps,fr⟩:=t
  unfold lkB at h
  simp only[ag,decide_eq_true_eq]at h
  obtain⟨⟨⟨⟨⟨⟨⟨h1,h2⟩,h3⟩,h4⟩,h5⟩,h6⟩,h7⟩,h8⟩:=h
  obtain⟨hL,hB⟩:=Z id _ e
  obtain⟨args,rfl,a2⟩:=jh h1
  have Y:fr.length=B.length:=by have:=congrArg kg h2;simpa using this.symm
  have S:=aP6 h5
  refine⟨J,aW.mpr ⟨f,hf,rfl⟩,h3,aY5 h4,a0,λ env=>rfl,⟨L,hL,⟨S,h6,h7,h8,λ a3 a5 pm c' a4 us a1=>hB _ h1 _ _ _ _ _ _ _ _ _ a1⟩⟩,?_,rfl,rfl,rfl,Y,λ i j x e1 e2=>?_,S.frs,aW.mpr ⟨f,hf,rfl⟩⟩
  ·show f ++ ".<locals>."++sfx f=f ++ ".<locals>."++LamI.own _
   unfold LamI.own
   rw[<-hs]<;>rfl
  ·have e3:(B.map (λ j=>N[j]?))[i]?=some (N[j]?):=by rw[aJ,e1];rfl
   rw[h2,aJ,e2]at e3
   exact(aC e3).symm
 unfold lkG at h
 split at h
 case h_3=>cases h
 ·rename_i t params body scope pos e
  rw[ag]at h
  exact⟨_,_,params,body,scope,pos,_,rfl,G t params body scope none e h.2 (of_decide_eq_true h.1).symm⟩
 ·rename_i t nm rp params body scope p1 p2 e
  rw[ag,ag]at h
  have ep:=of_decide_eq_true h.1.2
  subst ep
  exact⟨_,_,params,body,scope,p1,_,rfl,G t params body scope (some (nm,rp)) e h.2 (of_decide_eq_true h.1.1).symm⟩
theorem aM4 {names:List Str}{P:kI}{K:ac}{f:Str}{sc:Scope}{N:List Str}{y:bv}:bq6 (aT6 names P K) (bv3 names K) f sc N y (λ _ _ _=>false):=λ _ _ _ h=>by cases h
theorem bU6 {names:List Str}{P:kI}{K:ac}:∀ id J,(aT6 names P K).lg id J->∃ L,P.lm id=some L/\LamGood J L:=λ _ _ h=>h
theorem bT5 {P:kI}{tab:List (String×lE×List Str×List Str)}(h:∀ p∈tab,P.lm p.1=some p.2.1/\aJ2 p.2.2.1):∀ id t,tab.lookup id=some t->P.lm id=some t.1/\aJ2 t.2.1:=by
 induction tab with
 | nil=>intro id t e;cases e
 | cons y l ih =>
  intro id t e
  rw[aX]at e
  cases q:id==y.1 with
  | true =>
   rw[q]at e
   cases e
   rw[eq_of_beq q]
   exact h y (aw ..)
  | false =>
   rw[q]at e
   exact ih (λ p hp=>h p (ai _ hp)) id t e
def bO3 (K:ac)(n:Str)(st:Stmt):Prop:=∃(f:Addr) (od an:Option Addr) (sl:Array (Option Value)) (oc kV dc pm cd ct:Value),bV K aS n=some (some (.ref f)) /\
 K.lookup f=some ⟨oc,od,.func (cF n n (defArgs st) (zC st) (defScope st) .none kV dc pm an cd ct),sl⟩/\eV K cd n=true/\bR K (.ref f)=true
def bX5 (n:Str)(st:Stmt)(ps:List Str):Prop:=∀(kV doc pm:Value) (an:Option Addr) (cdv ct:Value) (us:List Value),us.length=ps.length->d4 (cF n n (defArgs st) (zC st) (defScope st) .none kV doc pm an cdv ct) ⟨us,[]⟩=pure (ps.zip us)
theorem bd0 {Q:List Value->Prop}(h:Q [])(us:List Value)(hl:us.length=0):Q us:=by
 cases us with
 | nil=>exact h
 | cons _ _=>cases hl
theorem bdS {k:Nat}{Q:List Value->Prop}(h:∀ a us,us.length=k->Q (a::us))(us:List Value)(hl:us.length=k+1):Q us:=by
 cases us with
 | nil=>cases hl
 | cons a us=>exact h a us (Nat.succ.inj hl)
theorem bd1 {Q:List Value->Prop}(h:∀ a,Q [a]):∀ us:List Value,us.length=1->Q us:=bdS λ a=>bd0 (h a)
theorem bd2 {Q:List Value->Prop}(h:∀ a b,Q [a,b]):∀ us:List Value,us.length=2->Q us:=bdS λ a=>bd1 (h a)
theorem bd3 {Q:List Value->Prop}(h:∀ a b c,Q [a,b,c]):∀ us:List Value,us.length=3->Q us:=bdS λ a=>bd2 (h a)
theorem bd4 {Q:List Value->Prop}(h:∀ a b c d,Q [a,b,c,d]):∀ us:List Value,us.length=4->Q us:=bdS λ a=>bd3 (h a)
def DTB (names:List Str)(P:kI)(n:String)(pc vc:Nat)(m:Ck->List Stmt->Bool)(st:Stmt):Prop:=∃ N ps,FnScope N ps (defScope st)/\ps.length=pc/\N.length=pc+vc/\bX5 n st ps/\(m ⟨N,defScope st,λ _ _ _=>false⟩ (zC st)=true \/
 ((n:Str)∈names/\∃ tab,m ⟨N,defScope st,lkG n (defScope st) N tab⟩ (zC st)=true/\(∀ y∈(defScope st).names,y.2=.cell->(defScope st).names.lookup y.1=some .cell)/\∀ p∈tab,P.lm p.1=some p.2.1/\aJ2 p.2.2.1))
def DT (names:List Str)(P:kI)(n:String)(d:lF)(st:Stmt):Prop:=DTB names P n d.ps d.vs (λ ck S=>mSs ck d.body S) st
theorem ah8 {names:List Str}{P:kI}{K:ac}{h:Heap}{mg:Str->Option Value}{n:String}{Y J:Nat}{m:Ck->List Stmt->Bool}{st:Stmt}(X:K.In h)(G:h.Ns aS mg)(hT:∀ x∈names,(a8 K x).isSome=true)(hD:bO3 K n st)(hd:DTB names P n Y J m st):GoodB (aT6 names P K) (bv3 names K) mg n Y J m:=by
 obtain⟨f,od,an,sl,oc,kV,dc,pm,cd,ct,a,l,c,k⟩:=hD
 obtain⟨N,ps,B,Z,h3,h4,y⟩:=hd
 have F:=bj7 (st:=st) l c k
 have D:DefAt K mg n st ps f _:=⟨F,bP X G a,F.binds h4⟩
 rcases y with y|⟨hn,tab,y,h6,h7⟩
 ·exact⟨_,_,_,_,_,_,D,B,Z,h3,y,aM4⟩
 ·exact⟨_,_,_,_,_,_,D,B,Z,h3,y,bu9 hn (PySem.W.law_code X G (ar0 (hT _ hn)) (bP X G a) (X _ _ l) rfl) h6 (bT5 h7)⟩
theorem good_of {names:List Str}{P:kI}{K:ac}{h:Heap}{mg:Str->Option Value}{n:String}{d:lF}{st:Stmt}(X:K.In h)(G:h.Ns aS mg)(hT:∀ x∈names,(a8 K x).isSome=true)(hD:bO3 K n st)(hd:DT names P n d st):Good (aT6 names P K) (bv3 names K) mg n d:=ah8 X G hT hD hd
theorem az3 {α:Type}{Q:String->α->Prop}:∀ {tbl:List (String×α)},(∀ p∈tbl,Q p.1 p.2)->∀ f d,tbl.lookup f=some d->Q f d
 | [],_,f,d,h=>by cases h
 | (g,e)::tbl,H,f,d,h=>by
  rw[aX]at h
  cases q:f==g with
  | true =>
   rw[q]at h
   cases h
   rw[eq_of_beq q]
   exact H (g,_) (aw ..)
  | false =>
   rw[q]at h
   exact az3 (λ p hp=>H p (ai _ hp)) f d h
noncomputable def bZ2 (K:ac)(c:String):Bool:=match bV K aS (c:Str)with|some (some (.ref C))=>bP4 K C&&excI K C|_=>false
noncomputable def bZ8 (K:ac)(c:String):Bool:=match bV K aS (c:Str)with|some (some (.ref _))=>true|_=>false
noncomputable def bX7 (K:ac)(c d:String):Bool:=match bV K aS (c:Str),bV K aS (d:Str)with|some (some (.ref C)),some (some (.ref D))=>bE K (.ref C) (.ref D)==some (kY c d)|_,_=>false
noncomputable def bw8 (K:ac)(cs ts:List String):Bool:=cs.all (bZ2 K)&&(ts.all (bZ8 K)&&cs.all λ c=>ts.all λ d=>bX7 K c d)
theorem aW6 {K:ac}{h:Heap}{mg:Str->Option Value}{cs ts:List String}(X:K.In h)(G:h.Ns aS mg)(hx:bw8 K cs ts=true) :
  (∀ c:String,cs.contains c=true->∃ C,mg (c:Str)=some (.ref C)/\ExcCls K C/\excI K C=true)/\(∀ c:String,ts.contains c=true->∃ C,mg (c:Str)=some (.ref C)) /\
  ∀(c d:String) (C D:Addr),cs.contains c=true->ts.contains d=true->mg (c:Str)=some (.ref C)->mg (d:Str)=some (.ref D)->bE K (.ref C) (.ref D)=some (kY c d):=by
 unfold bw8 at hx
 simp only[ag]at hx
 obtain⟨J,Y,Z⟩:=hx
 refine⟨λ c hc=>?_,λ c hc=>?_,λ c d C D hc hd mc md=>?_⟩
 ·have q:=aG.mp J c (cO.mp hc)
  unfold bZ2 at q
  split at q
  ·rename_i C e
   rw[ag]at q
   exact⟨C,bP X G e,bo9 q.1,q.2⟩
  ·cases q
 ·have q:=aG.mp Y c (cO.mp hc)
  unfold bZ8 at q
  split at q
  ·rename_i C e
   exact⟨C,bP X G e⟩
  ·cases q
 ·have q:=aG.mp (aG.mp Z c (cO.mp hc)) d (cO.mp hd)
  unfold bX7 at q
  split at q
  ·rename_i C' D' e1 e2
   have B:=bP X G e1
   have y:=bP X G e2
   rw[mc]at B;cases B
   rw[md]at y;cases y
   exact eq_of_beq q
  ·cases q
end L2
end
noncomputable section
namespace DV
noncomputable def bS9:Df:=⟨"_law_bag",2,3,(.cons (.asg (.one 2) (.cst (.int 0))) (.cons (.ite (.cmp .lt (.var 1) (.bi .len (.cons (.var 0) .nil))) (.cons (.asg (.one 2) (.bi .abs (.cons (.ix (.var 0) (.var 1)) .nil))) .nil) .nil) (.cons (.asg (.one 3) (.bin .add (.bin .mul (.cst (.int 7919)) (.var 1)) (.cst (.int 17)))) (.cons (.for_ (.one 4) (.rng1 (.bi .min2 (.cons (.bi .len (.cons (.var 0) .nil)) (.cons (.cst (.int 60)) .nil)))) (.cons (.asg (.one 3) (.bin .mod (.bin .add (.bin .add (.bin .mul (.var 3) (.cst (.int 48271))) (.bin .mod (.ix (.var 0) (.var 4)) (.cst (.int 2147483647)))) (.var 4)) (.cst (.int 2147483629)))) .nil)) (.cons (.ite (.cmp .lt (.var 2) (.bin .pow (.cst (.int 10)) (.cst (.int 18)))) (.cons (.asg (.one 2) (.cst (.int 0))) .nil) .nil) (.cons (.ret (.lst (.cons (.var 2) (.cons (.var 3) .nil)))) .nil))))))⟩
noncomputable def bG4:Df:=⟨"_law_take",2,3,(.cons (.ite (.cmp .gt (.ix (.var 0) (.cst (.int 0))) (.cst (.int 0))) (.cons (.asg (.one 2) (.bin .mod (.ix (.var 0) (.cst (.int 0))) (.var 1))) (.cons (.setIx (.var 0) (.cst (.int 0)) (.bin .fdiv (.ix (.var 0) (.cst (.int 0))) (.var 1))) (.cons (.ret (.var 2)) .nil))) .nil) (.cons (.asg (.one 3) (.cst (.int 0))) (.cons (.asg (.one 4) (.cst (.int 1))) (.cons (.whl (.cmp .lt (.var 4) (.var 1)) (.cons (.setIx (.var 0) (.cst (.int 1)) (.bin .mod (.bin .add (.bin .mul (.ix (.var 0) (.cst (.int 1))) (.cst (.int 48271))) (.cst (.int 7919))) (.cst (.int 2147483647)))) (.cons (.asg (.one 3) (.bin .add (.bin .mul (.var 3) (.cst (.int 1073741789))) (.bin .mod (.bin .mul (.bin .fdiv (.ix (.var 0) (.cst (.int 1))) (.cst (.int 8))) (.cst (.int 69621))) (.cst (.int 1073741789))))) (.cons (.asg (.one 4) (.bin .mul (.var 4) (.cst (.int 1073741789)))) .nil)))) (.cons (.ret (.bin .mod (.var 3) (.var 1))) .nil)))))⟩
noncomputable def bk1:Df:=⟨"_law_rooms",2,1,(.cons (.asg (.one 2) (.call "_law_take" (.ex (.var 0) (.ex (.bin .shl (.cst (.int 1)) (.var 1)) .nil)))) (.cons (.ret (.mk .tuple (.compIf (.one 0) (.rng1 (.var 1)) (.cmp .eq (.bin .mod (.bin .fdiv (.var 1) (.bin .shl (.cst (.int 1)) (.var 0))) (.cst (.int 2))) (.cst (.int 1))) (.var 0) [none,some 2]))) .nil))⟩
noncomputable def aR0:Df:=⟨"_law_machine",1,5,(.cons (.asg (.one 1) (.bin .add (.cst (.int 1)) (.call "_law_take" (.ex (.var 0) (.ex (.cst (.int 3)) .nil))))) (.cons (.asg (.one 2) (.bin .add (.cst (.int 1)) (.call "_law_take" (.ex (.var 0) (.ex (.cst (.int 5)) .nil))))) (.cons (.asg (.one 3) (.call "_law_take" (.ex (.var 0) (.ex (.cst (.int 13)) .nil)))) (.cons (.ite (.cmp .eq (.call "_law_take" (.ex (.var 0) (.ex (.cst (.int 8)) .nil))) (.cst (.int 7))) (.cons (.asg (.one 3) (.call "_law_take" (.ex (.var 0) (.ex (.cst (.int 76)) .nil)))) .nil) .nil) (.cons (.asg (.one 4) (.lst .nil)) (.cons (.for_ (.one 5) (.rng1 (.var 3)) (.cons (.ex (.meth .append (.var 4) (.cons (.tup (.cons (.call "_law_take" (.ex (.var 0) (.ex (.var 2) .nil))) (.cons (.ix (.cst (.str [97,98,99])) (.call "_law_take" (.ex (.var 0) (.ex (.var 1) .nil)))) (.cons (.call "_law_take" (.ex (.var 0) (.ex (.var 2) .nil))) (.cons (.call "_law_take" (.ex (.var 0) (.ex (.cst (.int 4)) .nil))) .nil))))) .nil))) .nil)) (.cons (.ret (.tup (.cons (.var 1) (.cons (.var 2) (.cons (.call "_law_rooms" (.ex (.var 0) (.ex (.var 2) .nil))) (.cons (.call "_law_rooms" (.ex (.var 0) (.ex (.var 2) .nil))) (.cons (.mk .tuple (.seq (.var 4))) .nil))))))) .nil)))))))⟩
noncomputable def bC4:Df:=⟨"_law_word",3,2,(.cons (.asg (.one 3) (.cst (.str []))) (.cons (.for_ (.one 4) (.rng1 (.call "_law_take" (.ex (.var 0) (.ex (.bin .add (.var 2) (.cst (.int 1))) .nil)))) (.cons (.asg (.one 3) (.bin .add (.var 3) (.ix (.cst (.str [97,98,99])) (.call "_law_take" (.ex (.var 0) (.ex (.var 1) .nil)))))) .nil)) (.cons (.ret (.var 3)) .nil)))⟩
noncomputable def zV:Df:=⟨"rooms_of",1,0,(.cons (.ret (.ix (.var 0) (.cst (.int 1)))) .nil)⟩
noncomputable def ai9:Df:=⟨"begins_of",1,0,(.cons (.ret (.ix (.var 0) (.cst (.int 2)))) .nil)⟩
noncomputable def aw0:Df:=⟨"ends_of",1,0,(.cons (.ret (.ix (.var 0) (.cst (.int 3)))) .nil)⟩
noncomputable def z5:Df:=⟨"doors_of",1,0,(.cons (.ret (.ix (.var 0) (.cst (.int 4)))) .nil)⟩
noncomputable def qi:Df:=⟨"grid",2,2,(.cons (.asg (.one 2) (.lst .nil)) (.cons (.for_ (.one 3) (.rng1 (.var 0)) (.cons (.ex (.meth .append (.var 2) (.cons (.mk .tuple (.comp (.one 0) (.rng1 (.var 0)) (.callV 1 (.cons (.var 2) (.cons (.var 0) .nil))) [none,some 1,some 3])) .nil))) .nil)) (.cons (.ret (.mk .tuple (.seq (.var 2)))) .nil)))⟩
noncomputable def qR:Df:=⟨"least",1,0,(.cons (.ret (.mkD .min (.compIf (.one 0) (.seq (.var 0)) (.notN (.var 0)) (.var 0) [none]) (.cst .non))) .nil)⟩
noncomputable def jf:Df:=⟨"added",2,0,(.cons (.ite (.or (.isN (.var 0)) (.isN (.var 1))) (.cons (.ret (.cst .non)) .nil) .nil) (.cons (.ret (.bin .add (.var 0) (.var 1))) .nil))⟩
noncomputable def je:Df:=⟨"plain",1,0,(.cons (.ret (.callC "grid" (.ex (.var 0) (.lam "plain.0" [] .nil)))) .nil)⟩
noncomputable def zZ:Lm:=⟨"plain.0",2,0,(.ite (.cmp .eq (.var 0) (.var 1)) (.cst (.int 0)) (.cst .non))⟩
noncomputable def qp:Df:=⟨"product",2,1,(.cons (.asg (.one 2) (.bi .len (.cons (.var 0) .nil))) (.cons (.ret (.callC "grid" (.ex (.var 2) (.lam "product.0" [2,0,1] .nil)))) .nil))⟩
noncomputable def zK:Lm:=⟨"product.0",2,3,(.call "least" (.ex (.mk .list (.comp (.one 0) (.rng1 (.var 2)) (.call "added" (.ex (.ix (.ix (.var 1) (.var 2)) (.var 0)) (.ex (.ix (.ix (.var 3) (.var 0)) (.var 4)) .nil))) [none,some 3,some 0,some 4,some 1])) .nil))⟩
noncomputable def aX5:Df:=⟨"_law_same",2,2,(.cons (.ite (.or (.not (.bi .isTup (.cons (.var 0) .nil))) (.cmp .ne (.bi .len (.cons (.var 0) .nil)) (.bi .len (.cons (.var 1) .nil)))) (.cons (.ret (.cst (.bl false))) .nil) .nil) (.cons (.for_ (.one 2) (.rng1 (.bi .len (.cons (.var 1) .nil))) (.cons (.ite (.or (.not (.bi .isTup (.cons (.ix (.var 0) (.var 2)) .nil))) (.cmp .ne (.bi .len (.cons (.ix (.var 0) (.var 2)) .nil)) (.bi .len (.cons (.var 1) .nil)))) (.cons (.ret (.cst (.bl false))) .nil) .nil) (.cons (.for_ (.one 3) (.seq (.ix (.var 0) (.var 2))) (.cons (.ite (.and (.notN (.var 3)) (.or (.not (.bi .isInt (.cons (.var 3) .nil))) (.bi .isBool (.cons (.var 3) .nil)))) (.cons (.ret (.cst (.bl false))) .nil) .nil) .nil)) .nil))) (.cons (.ret (.cmp .eq (.var 0) (.var 1))) .nil)))⟩
noncomputable def ae8:Df:=⟨"raised",4,3,(.cons (.asg (.one 4) (.var 2)) (.cons (.asg (.one 5) (.var 0)) (.cons (.asg (.one 6) (.var 1)) (.cons (.whl (.cmp .gt (.var 6) (.cst (.int 0))) (.cons (.ite (.cmp .eq (.bin .mod (.var 6) (.cst (.int 2))) (.cst (.int 1))) (.cons (.asg (.one 4) (.callV 3 (.cons (.var 4) (.cons (.var 5) .nil)))) .nil) .nil) (.cons (.asg (.one 6) (.bin .fdiv (.var 6) (.cst (.int 2)))) (.cons (.ite (.cmp .gt (.var 6) (.cst (.int 0))) (.cons (.asg (.one 5) (.callV 3 (.cons (.var 5) (.cons (.var 5) .nil)))) .nil) .nil) .nil)))) (.cons (.ret (.var 4)) .nil)))))⟩
noncomputable def aA2:Df:=⟨"power",2,0,(.cons (.ret (.call "raised" (.ex (.var 0) (.ex (.var 1) (.ex (.call "plain" (.ex (.bi .len (.cons (.var 0) .nil)) .nil)) (.ex (.glob "product") .nil)))))) .nil)⟩
noncomputable def zx:Df:=⟨"letter_table",2,1,(.cons (.und 2) (.cons (.ret (.callC "grid" (.ex (.call "rooms_of" (.ex (.var 0) .nil)) (.lam "letter_table.least_fee" [0,1] .nil)))) .nil))⟩
noncomputable def zm:Lm:=⟨"letter_table.least_fee",2,2,(.call "least" (.ex (.mk .list (.compIf (.tup [0,1,2,3]) (.seq (.call "doors_of" (.ex (.var 2) .nil))) (.cmp .eq (.tup (.cons (.var 0) (.cons (.var 1) (.cons (.var 2) .nil)))) (.tup (.cons (.var 4) (.cons (.var 5) (.cons (.var 6) .nil))))) (.var 3) [none,none,none,none,some 0,some 3,some 1])) .nil))⟩
noncomputable def qt:Df:=⟨"word_table",2,3,(.cons (.asg (.one 2) (.dic .nil .nil)) (.cons (.asg (.one 3) (.call "plain" (.ex (.call "rooms_of" (.ex (.var 0) .nil)) .nil))) (.cons (.for_ (.one 4) (.seq (.var 1)) (.cons (.ite (.cmp .notin (.var 4) (.var 2)) (.cons (.setIx (.var 2) (.var 4) (.call "letter_table" (.ex (.var 0) (.ex (.var 4) .nil)))) .nil) .nil) (.cons (.asg (.one 3) (.call "product" (.ex (.var 3) (.ex (.ix (.var 2) (.var 4)) .nil)))) .nil))) (.cons (.ret (.var 3)) .nil))))⟩
noncomputable def ay6:Df:=⟨"_law_from_room",3,7,(.cons (.asg (.one 3) (.mk .list (.comp (.one 0) (.rng1 (.ix (.var 0) (.cst (.int 1)))) (.cst .non) [none]))) (.cons (.setIx (.var 3) (.var 2) (.cst (.int 0))) (.cons (.for_ (.one 4) (.seq (.var 1)) (.cons (.asg (.one 5) (.mk .list (.comp (.one 0) (.seq (.var 3)) (.cst .non) [none]))) (.cons (.for_ (.tup [6,7,8,9]) (.seq (.ix (.var 0) (.cst (.int 4)))) (.cons (.ite (.and (.cmp .eq (.var 7) (.var 4)) (.notN (.ix (.var 3) (.var 6)))) (.cons (.ite (.or (.isN (.ix (.var 5) (.var 8))) (.cmp .lt (.bin .add (.ix (.var 3) (.var 6)) (.var 9)) (.ix (.var 5) (.var 8)))) (.cons (.setIx (.var 5) (.var 8) (.bin .add (.ix (.var 3) (.var 6)) (.var 9))) .nil) .nil) .nil) .nil) .nil)) (.cons (.asg (.one 3) (.var 5)) .nil)))) (.cons (.ret (.mk .tuple (.seq (.var 3)))) .nil))))⟩
noncomputable def aS6:Df:=⟨"law",1,7,(.cons (.for_ (.one 1) (.rng1 (.bin .add (.bi .min2 (.cons (.bi .len (.cons (.var 0) .nil)) (.cons (.cst (.int 3)) .nil))) (.cst (.int 1)))) (.cons (.asg (.one 2) (.call "_law_bag" (.ex (.var 0) (.ex (.var 1) .nil)))) (.cons (.asg (.one 3) (.call "_law_machine" (.ex (.var 2) .nil))) (.cons (.asg (.one 4) (.call "_law_word" (.ex (.var 2) (.ex (.ix (.var 3) (.cst (.int 0))) (.ex (.ix (.lst (.cons (.cst (.int 10)) (.cons (.cst (.int 10)) (.cons (.cst (.int 10)) (.cons (.ix (.lst (.cons (.cst (.int 30)) (.cons (.cst (.int 200)) .nil))) (.bi .int (.cons (.cmp .eq (.var 1) (.cst (.int 0))) .nil))) .nil))))) (.call "_law_take" (.ex (.var 2) (.ex (.cst (.int 4)) .nil)))) .nil))))) (.cons (.asg (.one 5) (.lst (.cons (.var 4) (.cons (.cst (.str [])) (.cons (.rev (.var 4)) (.cons (.var 4) .nil)))))) (.cons (.ite (.cmp .gt (.bi .len (.cons (.var 4) .nil)) (.cst (.int 60))) (.cons (.asg (.one 5) (.lst (.cons (.var 4) .nil))) .nil) .nil) (.cons (.for_ (.one 6) (.seq (.var 5)) (.cons (.asg (.one 7) (.mk .tuple (.comp (.one 0) (.rng1 (.ix (.var 3) (.cst (.int 1)))) (.call "_law_from_room" (.ex (.var 1) (.ex (.var 2) (.ex (.var 0) .nil)))) [none,some 3,some 6]))) (.cons (.ite (.not (.call "_law_same" (.ex (.call "word_table" (.ex (.var 3) (.ex (.var 6) .nil))) (.ex (.var 7) .nil)))) (.cons (.ret (.cst (.bl false))) .nil) .nil) .nil))) .nil))))))) (.cons (.ret (.cst (.bl true))) .nil))⟩
noncomputable def qd:Df:=⟨"at_begins_and_ends",2,2,(.cons (.asg (.one 2) (.lst .nil)) (.cons (.for_ (.one 3) (.seq (.call "begins_of" (.ex (.var 0) .nil))) (.cons (.ex (.ext (.var 2) (.comp (.one 0) (.seq (.call "ends_of" (.ex (.var 0) .nil))) (.ix (.ix (.var 1) (.var 2)) (.var 0)) [none,some 1,some 3]))) .nil)) (.cons (.ret (.var 2)) .nil)))⟩
noncomputable def br3:Df:=⟨"price",2,0,(.cons (.ret (.call "least" (.ex (.call "at_begins_and_ends" (.ex (.var 0) (.ex (.call "word_table" (.ex (.var 0) (.ex (.var 1) .nil))) .nil))) .nil))) .nil)⟩
noncomputable def aT5:Df:=⟨"sign_of",1,0,(.cons (.ite (.isN (.var 0)) (.cons (.ret (.glob "NONE")) .nil) .nil) (.cons (.ret (.ite (.cmp .eq (.var 0) (.cst (.int 0))) (.glob "FREE") (.glob "SOME"))) .nil))⟩
noncomputable def aM5:Df:=⟨"reading",1,0,(.cons (.ret (.callC "grid" (.ex (.bi .len (.cons (.var 0) .nil)) (.lam "reading.0" [0] .nil)))) .nil)⟩
noncomputable def av7:Lm:=⟨"reading.0",2,1,(.call "sign_of" (.ex (.ix (.ix (.var 2) (.var 0)) (.var 1)) .nil))⟩
noncomputable def ag1:Df:=⟨"plain_signs",1,0,(.cons (.ret (.callC "grid" (.ex (.var 0) (.lam "plain_signs.0" [] .nil)))) .nil)⟩
noncomputable def qM:Lm:=⟨"plain_signs.0",2,0,(.ite (.cmp .eq (.var 0) (.var 1)) (.glob "FREE") (.glob "NONE"))⟩
noncomputable def ah6:Df:=⟨"_law_box",2,4,(.cons (.asg (.one 2) (.cst (.int 0))) (.cons (.ite (.cmp .lt (.var 1) (.bi .len (.cons (.var 0) .nil))) (.cons (.asg (.one 2) (.bi .abs (.cons (.ix (.var 0) (.var 1)) .nil))) .nil) .nil) (.cons (.ite (.cmp .ge (.var 2) (.bin .pow (.cst (.int 10)) (.cst (.int 18)))) (.cons (.ret (.lst (.cons (.var 2) .nil))) .nil) .nil) (.cons (.asg (.one 3) (.cst (.int 0))) (.cons (.for_ (.one 4) (.rng1 (.cst (.int 128))) (.cons (.asg (.one 5) (.bin .mod (.bin .mul (.bin .add (.bin .add (.bin .add (.bin .mod (.var 2) (.cst (.int 2147483647))) (.bin .mul (.cst (.int 7919)) (.var 1))) (.bin .mul (.cst (.int 104729)) (.var 4))) (.cst (.int 97))) (.cst (.int 48271))) (.cst (.int 2147483647)))) (.cons (.asg (.one 3) (.bin .add (.bin .mul (.var 3) (.cst (.int 2147483647))) (.bin .mod (.bin .add (.bin .add (.bin .mul (.var 5) (.var 5)) (.bin .mul (.cst (.int 31)) (.var 4))) (.bin .fdiv (.var 2) (.cst (.int 2147483647)))) (.cst (.int 2147483647))))) .nil))) (.cons (.ret (.lst (.cons (.var 3) .nil))) .nil))))))⟩
noncomputable def ac7:Df:=⟨"_law_draw",2,1,(.cons (.asg (.one 2) (.bin .mod (.ix (.var 0) (.cst (.int 0))) (.var 1))) (.cons (.setIx (.var 0) (.cst (.int 0)) (.bin .fdiv (.ix (.var 0) (.cst (.int 0))) (.var 1))) (.cons (.ret (.var 2)) .nil)))⟩
noncomputable def bG0:Df:=⟨"_law_form",2,2,(.cons (.ite (.or (.not (.bi .isTup (.cons (.var 0) .nil))) (.cmp .ne (.bi .len (.cons (.var 0) .nil)) (.var 1))) (.cons (.ret (.cst (.bl false))) .nil) .nil) (.cons (.for_ (.one 2) (.seq (.var 0)) (.cons (.ite (.or (.not (.bi .isTup (.cons (.var 2) .nil))) (.cmp .ne (.bi .len (.cons (.var 2) .nil)) (.var 1))) (.cons (.ret (.cst (.bl false))) .nil) .nil) (.cons (.for_ (.one 3) (.seq (.var 2)) (.cons (.ite (.or (.not (.bi .isInt (.cons (.var 3) .nil))) (.bi .isBool (.cons (.var 3) .nil))) (.cons (.ret (.cst (.bl false))) .nil) .nil) .nil)) .nil))) (.cons (.ret (.cst (.bl true))) .nil)))⟩
noncomputable def zE:Df:=⟨"sign_product",2,1,(.cons (.asg (.one 2) (.bi .len (.cons (.var 0) .nil))) (.cons (.ret (.callC "grid" (.ex (.var 2) (.lam "sign_product.0" [2,0,1] .nil)))) .nil))⟩
noncomputable def zo:Lm:=⟨"sign_product.0",2,3,(.mk .min (.comp (.one 0) (.rng1 (.var 2)) (.bi .max2 (.cons (.ix (.ix (.var 1) (.var 2)) (.var 0)) (.cons (.ix (.ix (.var 3) (.var 0)) (.var 4)) .nil))) [none,some 3,some 0,some 4,some 1]))⟩
noncomputable def aA1:Df:=⟨"_law_signs",2,6,(.cons (.asg (.one 2) (.call "_law_draw" (.ex (.var 0) (.ex (.cst (.int 4)) .nil)))) (.cons (.asg (.one 3) (.lst .nil)) (.cons (.for_ (.one 4) (.rng1 (.var 1)) (.cons (.asg (.one 5) (.lst .nil)) (.cons (.for_ (.one 6) (.rng1 (.var 1)) (.cons (.asg (.one 7) (.call "_law_draw" (.ex (.var 0) (.ex (.cst (.int 4)) .nil)))) (.cons (.ite (.or (.and (.cmp .eq (.var 2) (.cst (.int 1))) (.cmp .gt (.call "_law_draw" (.ex (.var 0) (.ex (.cst (.int 3)) .nil))) (.cst (.int 0)))) (.and (.cmp .eq (.var 2) (.cst (.int 2))) (.cmp .gt (.var 4) (.var 6)))) (.cons (.asg (.one 7) (.cst (.int 3))) .nil) .nil) (.cons (.ite (.and (.cmp .eq (.var 2) (.cst (.int 3))) (.and (.cmp .ne (.var 6) (.bin .mod (.bin .add (.var 4) (.cst (.int 1))) (.var 1))) (.cmp .gt (.call "_law_draw" (.ex (.var 0) (.ex (.cst (.int 4)) .nil))) (.cst (.int 0))))) (.cons (.asg (.one 7) (.cst (.int 3))) .nil) .nil) (.cons (.ex (.meth .append (.var 5) (.cons (.var 7) .nil))) .nil))))) (.cons (.ex (.meth .append (.var 3) (.cons (.mk .tuple (.seq (.var 5))) .nil))) .nil)))) (.cons (.ret (.mk .tuple (.seq (.var 3)))) .nil))))⟩
noncomputable def al4:Df:=⟨"_law_product",2,4,(.cons (.asg (.one 2) (.lst .nil)) (.cons (.for_ (.one 3) (.seq (.var 0)) (.cons (.asg (.one 4) (.mk .list (.comp (.one 0) (.seq (.var 3)) (.cst (.int 3)) [none]))) (.cons (.for_ (.one 5) (.rng1 (.bi .len (.cons (.var 3) .nil))) (.cons (.ite (.cmp .lt (.ix (.var 3) (.var 5)) (.cst (.int 3))) (.cons (.asg (.one 4) (.mk .list (.comp (.one 0) (.rng1 (.bi .len (.cons (.var 3) .nil))) (.bi .min2 (.cons (.ix (.var 1) (.var 0)) (.cons (.bi .max2 (.cons (.ix (.var 2) (.var 3)) (.cons (.ix (.ix (.var 4) (.var 3)) (.var 0)) .nil))) .nil))) [none,some 4,some 3,some 5,some 1]))) .nil) .nil) .nil)) (.cons (.ex (.meth .append (.var 2) (.cons (.mk .tuple (.seq (.var 4))) .nil))) .nil)))) (.cons (.ret (.mk .tuple (.seq (.var 2)))) .nil)))⟩
noncomputable def ag9:Df:=⟨"sign_power",2,0,(.cons (.ret (.call "raised" (.ex (.var 0) (.ex (.var 1) (.ex (.call "plain_signs" (.ex (.bi .len (.cons (.var 0) .nil)) .nil)) (.ex (.glob "sign_product") .nil)))))) .nil)⟩
noncomputable def bj4:Df:=⟨"_law_unit",1,0,(.cons (.ret (.mk .tuple (.comp (.one 0) (.rng1 (.var 0)) (.mk .tuple (.comp (.one 0) (.rng1 (.var 1)) (.bin .mul (.cst (.int 3)) (.bi .int (.cons (.cmp .ne (.var 1) (.var 0)) .nil))) [none,some 0])) [none,some 0]))) .nil)⟩
noncomputable def aR5:Df:=⟨"_law_round",1,2,(.cons (.asg (.one 1) (.lst (.cons (.call "_law_unit" (.ex (.bi .len (.cons (.var 0) .nil)) .nil)) .nil))) (.cons (.whl (.cst (.bl true)) (.cons (.asg (.one 2) (.call "_law_product" (.ex (.ix (.var 1) (.neg (.cst (.int 1)))) (.ex (.var 0) .nil)))) (.cons (.ite (.cmp .isin (.var 2) (.var 1)) (.cons (.ret (.tup (.cons (.var 1) (.cons (.meth .index (.var 1) (.cons (.var 2) .nil)) .nil)))) .nil) .nil) (.cons (.ex (.meth .append (.var 1) (.cons (.var 2) .nil))) .nil)))) .nil))⟩
noncomputable def bu5:Df:=⟨"_law_due",3,0,(.cons (.ite (.cmp .lt (.var 2) (.bi .len (.cons (.var 0) .nil))) (.cons (.ret (.ix (.var 0) (.var 2))) .nil) .nil) (.cons (.ret (.ix (.var 0) (.bin .add (.var 1) (.bin .mod (.bin .sub (.var 2) (.var 1)) (.bin .sub (.bi .len (.cons (.var 0) .nil)) (.var 1)))))) .nil))⟩
noncomputable def aP4:Df:=⟨"law",1,9,(.cons (.for_ (.one 1) (.rng1 (.bin .add (.bi .min2 (.cons (.cst (.int 8)) (.cons (.bi .len (.cons (.var 0) .nil)) .nil))) (.cst (.int 1)))) (.cons (.asg (.one 2) (.call "_law_box" (.ex (.var 0) (.ex (.var 1) .nil)))) (.cons (.asg (.one 3) (.bin .add (.cst (.int 1)) (.call "_law_draw" (.ex (.var 2) (.ex (.cst (.int 5)) .nil))))) (.cons (.asg (.one 4) (.call "_law_signs" (.ex (.var 2) (.ex (.var 3) .nil)))) (.cons (.asg (.tup [5,6]) (.call "_law_round" (.ex (.var 4) .nil))) (.cons (.asg (.one 7) (.bin .mul (.call "_law_draw" (.ex (.var 2) (.ex (.bin .pow (.cst (.int 10)) (.cst (.int 30))) .nil))) (.bin .pow (.cst (.int 10)) (.cst (.int 29))))) (.cons (.ite (.cmp .gt (.var 1) (.cst (.int 0))) (.cons (.asg (.one 7) (.cst (.int 0))) .nil) .nil) (.cons (.for_ (.one 8) (.seq (.lst (.cons (.cst (.int 0)) (.cons (.cst (.int 1)) (.cons (.bin .add (.cst (.int 2)) (.call "_law_draw" (.ex (.var 2) (.ex (.cst (.int 30)) .nil)))) (.cons (.call "_law_draw" (.ex (.var 2) (.ex (.cst (.int 1000)) .nil))) (.cons (.bin .add (.var 7) (.call "_law_draw" (.ex (.var 2) (.ex (.cst (.int 1000)) .nil)))) .nil))))))) (.cons (.asg (.one 9) (.call "sign_power" (.ex (.var 4) (.ex (.var 8) .nil)))) (.cons (.ite (.or (.not (.call "_law_form" (.ex (.var 9) (.ex (.var 3) .nil)))) (.cmp .ne (.var 9) (.call "_law_due" (.ex (.var 5) (.ex (.var 6) (.ex (.var 8) .nil)))))) (.cons (.ret (.cst (.bl false))) .nil) .nil) (.cons (.ite (.cmp .ne (.call "sign_product" (.ex (.var 9) (.ex (.call "sign_power" (.ex (.var 4) (.ex (.cst (.int 7)) .nil))) .nil))) (.call "_law_due" (.ex (.var 5) (.ex (.var 6) (.ex (.bin .add (.var 8) (.cst (.int 7))) .nil))))) (.cons (.ret (.cst (.bl false))) .nil) .nil) .nil)))) .nil)))))))) (.cons (.ret (.cst (.bl true))) .nil))⟩
noncomputable def jg:Df:=⟨"is_steady",1,0,(.cons (.ret (.cmp .eq (.call "sign_product" (.ex (.var 0) (.ex (.var 0) .nil))) (.var 0))) .nil)⟩
noncomputable def an2:Df:=⟨"round_of",1,0,(.cons (.ite (.or (.cmp .eq (.var 0) (.glob "FREE")) (.cmp .eq (.var 0) (.glob "NONE"))) (.cons (.ret (.var 0)) .nil) .nil) (.cons (.ret (.glob "UNBOUND")) .nil))⟩
noncomputable def ak6:Df:=⟨"sharpened",1,2,(.cons (.ite (.not (.call "is_steady" (.ex (.var 0) .nil))) (.cons .raise .nil) .nil) (.cons (.asg (.one 1) (.bi .len (.cons (.var 0) .nil))) (.cons (.asg (.one 2) (.mk .list (.comp (.one 0) (.rng1 (.var 1)) (.call "round_of" (.ex (.ix (.ix (.var 1) (.var 0)) (.var 0)) .nil)) [none,some 0]))) (.cons (.ret (.callC "grid" (.ex (.var 1) (.lam "sharpened.0" [1,0,2] .nil)))) .nil))))⟩
noncomputable def jb:Lm:=⟨"sharpened.0",2,3,(.mk .min (.comp (.one 0) (.rng1 (.var 2)) (.bi .max3 (.cons (.ix (.ix (.var 1) (.var 2)) (.var 0)) (.cons (.ix (.var 3) (.var 0)) (.cons (.ix (.ix (.var 1) (.var 0)) (.var 4)) .nil)))) [none,some 3,some 0,some 4,some 1]))⟩
noncomputable def jc:Df:=⟨"steady_power",1,2,(.cons (.asg (.one 1) (.cst (.int 1))) (.cons (.asg (.one 2) (.var 0)) (.cons (.whl (.not (.call "is_steady" (.ex (.var 2) .nil))) (.cons (.aug 1 (.cst (.int 1))) (.cons (.asg (.one 2) (.call "sign_product" (.ex (.var 2) (.ex (.var 0) .nil)))) .nil))) (.cons (.ret (.tup (.cons (.var 1) (.cons (.var 2) .nil)))) .nil))))⟩
noncomputable def az4:Df:=⟨"_law_goes_with",2,4,(.cons (.for_ (.tup [2,3]) (.zip (.seq (.var 0)) (.seq (.var 1))) (.cons (.for_ (.tup [4,5]) (.zip (.seq (.var 2)) (.seq (.var 3))) (.cons (.ite (.or (.cmp .lt (.var 5) (.var 4)) (.or (.cmp .ne (.cmp .eq (.var 5) (.cst (.int 0))) (.cmp .eq (.var 4) (.cst (.int 0)))) (.cmp .ne (.cmp .eq (.var 5) (.cst (.int 3))) (.cmp .eq (.var 4) (.cst (.int 3)))))) (.cons (.ret (.cst (.bl false))) .nil) .nil) .nil)) .nil)) (.cons (.ret (.cmp .eq (.bi .len (.cons (.var 0) .nil)) (.bi .len (.cons (.var 1) .nil)))) .nil))⟩
noncomputable def bp4:Df:=⟨"_law_right",1,3,(.cons (.asg (.tup [1,2]) (.call "steady_power" (.ex (.var 0) .nil))) (.cons (.asg (.one 3) (.call "sharpened" (.ex (.var 2) .nil))) (.cons (.ite (.or (.notB (.call "is_steady" (.ex (.var 3) .nil)) true) (.cmp .ne (.call "sharpened" (.ex (.var 3) .nil)) (.var 3))) (.cons (.ret (.cst (.bl false))) .nil) .nil) (.cons (.ite (.or (.cmp .ne (.call "sign_product" (.ex (.var 3) (.ex (.var 2) .nil))) (.var 3)) (.cmp .ne (.call "sign_product" (.ex (.var 2) (.ex (.var 3) .nil))) (.var 3))) (.cons (.ret (.cst (.bl false))) .nil) .nil) (.cons (.ret (.call "_law_goes_with" (.ex (.var 2) (.ex (.var 3) .nil)))) .nil)))))⟩
noncomputable def aV4:Df:=⟨"law",1,7,(.cons (.for_ (.one 1) (.rng1 (.bin .add (.bi .min2 (.cons (.cst (.int 12)) (.cons (.bi .len (.cons (.var 0) .nil)) .nil))) (.cst (.int 1)))) (.cons (.asg (.one 2) (.call "_law_box" (.ex (.var 0) (.ex (.var 1) .nil)))) (.cons (.asg (.one 3) (.bin .add (.cst (.int 1)) (.call "_law_draw" (.ex (.var 2) (.ex (.cst (.int 5)) .nil))))) (.cons (.asg (.one 4) (.call "_law_signs" (.ex (.var 2) (.ex (.var 3) .nil)))) (.cons (.asg (.one 5) (.call "_law_signs" (.ex (.var 2) (.ex (.var 3) .nil)))) (.cons (.asg (.one 6) (.call "sign_product" (.ex (.call "sharpened" (.ex (.ix (.call "steady_power" (.ex (.var 4) .nil)) (.cst (.int 1))) .nil)) (.ex (.var 5) .nil)))) (.cons (.for_ (.one 7) (.seq (.lst (.cons (.var 4) (.cons (.call "sign_product" (.ex (.var 4) (.ex (.var 5) .nil))) (.cons (.call "sign_product" (.ex (.var 5) (.ex (.var 4) .nil))) (.cons (.var 6) .nil)))))) (.cons (.ite (.not (.call "_law_right" (.ex (.var 7) .nil))) (.cons (.ret (.cst (.bl false))) .nil) .nil) .nil)) .nil))))))) (.cons (.ret (.cst (.bl true))) .nil))⟩
noncomputable def av8:Df:=⟨"word_signs",2,0,(.cons (.ret (.call "reading" (.ex (.call "word_table" (.ex (.var 0) (.ex (.var 1) .nil))) .nil))) .nil)⟩
noncomputable def aL6:Df:=⟨"end_sign",2,0,(.cons (.ret (.mkDs .min (.call "at_begins_and_ends" (.ex (.var 0) (.ex (.var 1) .nil))) (.glob "NONE"))) .nil)⟩
noncomputable def ag6:Df:=⟨"as_times",2,0,(.cons (.ret (.mk .list (.comp (.one 0) (.seq (.var 0)) (.ite (.cmp .eq (.ix (.var 0) (.cst (.int 0))) (.cst (.str [115,104,97,114,112]))) (.tup (.cons (.cst (.str [116,105,109,101,115])) (.cons (.ix (.var 0) (.cst (.int 1))) (.cons (.var 1) .nil)))) (.var 0)) [none,some 1]))) .nil)⟩
noncomputable def aa8:Df:=⟨"folded",4,2,(.cons (.asg (.one 4) (.lst .nil)) (.cons (.for_ (.one 5) (.seq (.var 0)) (.cons (.ite (.cmp .eq (.ix (.var 5) (.cst (.int 0))) (.cst (.str [108,101,116,116,101,114]))) (.cons (.ex (.meth .append (.var 4) (.cons (.callV 1 (.cons (.ix (.var 5) (.cst (.int 1))) .nil)) .nil))) .nil) (.cons (.ite (.cmp .eq (.ix (.var 5) (.cst (.int 0))) (.cst (.str [112,97,105,114]))) (.cons (.ex (.meth .append (.var 4) (.cons (.callV 2 (.cons (.ix (.var 4) (.ix (.var 5) (.cst (.int 1)))) (.cons (.ix (.var 4) (.ix (.var 5) (.cst (.int 2)))) .nil))) .nil))) .nil) (.cons (.ex (.meth .append (.var 4) (.cons (.callV 3 (.cons (.ix (.var 4) (.ix (.var 5) (.cst (.int 1)))) (.cons (.ix (.var 5) (.cst (.int 2))) .nil))) .nil))) .nil)) .nil)) .nil)) (.cons (.ret (.var 4)) .nil)))⟩
noncomputable def qN:Df:=⟨"counted",2,0,(.cons (.ret (.callC "folded" (.ex (.var 0) (.lam "counted.2" [1] (.lam "counted.1" [] (.lam "counted.0" [] .nil)))))) .nil)⟩
noncomputable def z7:Lm:=⟨"counted.0",2,0,(.bin .mul (.var 0) (.var 1))⟩
noncomputable def qb:Lm:=⟨"counted.1",2,0,(.bin .add (.var 0) (.var 1))⟩
noncomputable def qa:Lm:=⟨"counted.2",1,1,(.var 1)⟩
noncomputable def an1:Df:=⟨"unrolled",3,0,(.cons (.ret (.call "as_times" (.ex (.var 1) (.ex (.bin .mul (.bin .add (.var 2) (.cst (.int 1))) (.call "rooms_of" (.ex (.var 0) .nil))) .nil)))) .nil)⟩
noncomputable def ad5:Df:=⟨"begun",1,0,(.cons (.ret (.slU (.var 0) (.bin .add (.glob "MOST_WRITTEN") (.cst (.int 1))))) .nil)⟩
noncomputable def aa4:Df:=⟨"begun_times",2,1,(.cons (.asg (.one 2) (.bin .add (.bin .fdiv (.glob "MOST_WRITTEN") (.bi .len (.cons (.var 0) .nil))) (.cst (.int 1)))) (.cons (.ret (.call "begun" (.ex (.bin .mul (.var 0) (.bi .min2 (.cons (.var 1) (.cons (.var 2) .nil)))) .nil))) .nil))⟩
noncomputable def ab2:Df:=⟨"last_word",1,1,(.cons (.asg (.one 1) (.ix (.callC "folded" (.ex (.var 0) (.lam "last_word.1" [] (.lam "last_word.0" [] (.ex (.glob "begun_times") .nil))))) (.neg (.cst (.int 1))))) (.cons (.ite (.cmp .gt (.bi .len (.cons (.var 1) .nil)) (.glob "MOST_WRITTEN")) (.cons .raise .nil) .nil) (.cons (.ret (.var 1)) .nil)))⟩
noncomputable def aa7:Lm:=⟨"last_word.0",2,0,(.call "begun" (.ex (.bin .add (.var 0) (.var 1)) .nil))⟩
noncomputable def aa6:Lm:=⟨"last_word.1",1,0,(.var 0)⟩
noncomputable def al3:Df:=⟨"word_unrolled",3,0,(.cons (.ret (.call "last_word" (.ex (.call "unrolled" (.ex (.var 0) (.ex (.var 1) (.ex (.var 2) .nil)))) .nil))) .nil)⟩
noncomputable def ac1:Df:=⟨"_law_tall",3,2,(.cons (.asg (.one 3) (.lst (.cons (.tup (.cons (.cst (.str [108,101,116,116,101,114])) (.cons (.ix (.cst (.str [97,98,99])) (.call "_law_draw" (.ex (.var 0) (.ex (.var 1) .nil)))) .nil))) .nil))) (.cons (.for_ (.one 4) (.rng1 (.call "_law_draw" (.ex (.var 0) (.ex (.var 2) .nil)))) (.cons (.ex (.meth .append (.var 3) (.cons (.tup (.cons (.cst (.str [112,97,105,114])) (.cons (.var 4) (.cons (.bin .sub (.var 4) (.call "_law_draw" (.ex (.var 0) (.ex (.bin .add (.bi .min2 (.cons (.var 4) (.cons (.cst (.int 1)) .nil))) (.cst (.int 1))) .nil)))) .nil)))) .nil))) .nil)) (.cons (.ret (.mk .tuple (.seq (.var 3)))) .nil)))⟩
noncomputable def ah2:Df:=⟨"last_table",2,0,(.cons (.ret (.ix (.callC "folded" (.ex (.var 1) (.lam "last_table.0" [0] (.ex (.glob "product") (.ex (.glob "power") .nil))))) (.neg (.cst (.int 1))))) .nil)⟩
noncomputable def qP:Lm:=⟨"last_table.0",1,1,(.call "letter_table" (.ex (.var 1) (.ex (.var 0) .nil)))⟩
noncomputable def ah7:Df:=⟨"table_unrolled",3,0,(.cons (.ret (.call "last_table" (.ex (.var 0) (.ex (.call "unrolled" (.ex (.var 0) (.ex (.var 1) (.ex (.var 2) .nil)))) .nil)))) .nil)⟩
noncomputable def ac2:Df:=⟨"_law_recipe",4,6,(.cons (.asg (.one 4) (.lst .nil)) (.cons (.for_ (.one 5) (.rng1 (.bin .add (.cst (.int 1)) (.call "_law_draw" (.ex (.var 0) (.ex (.var 2) .nil))))) (.cons (.asg (.one 6) (.call "_law_draw" (.ex (.var 0) (.ex (.cst (.int 6)) .nil)))) (.cons (.asg (.one 7) (.call "_law_draw" (.ex (.var 0) (.ex (.bin .add (.var 5) (.cst (.int 1))) .nil)))) (.cons (.asg (.one 8) (.call "_law_draw" (.ex (.var 0) (.ex (.bin .add (.var 5) (.cst (.int 1))) .nil)))) (.cons (.asg (.one 9) (.bin .add (.cst (.int 1)) (.call "_law_draw" (.ex (.var 0) (.ex (.cst (.int 6)) .nil))))) (.cons (.ite (.cmp .eq (.call "_law_draw" (.ex (.var 0) (.ex (.cst (.int 3)) .nil))) (.cst (.int 2))) (.cons (.asg (.one 9) (.bin .add (.cst (.int 1)) (.call "_law_draw" (.ex (.var 0) (.ex (.bin .pow (.cst (.int 10)) (.cst (.int 30))) .nil))))) .nil) .nil) (.cons (.ite (.and (.cmp .gt (.var 5) (.cst (.int 0))) (.and (.cmp .lt (.var 6) (.cst (.int 3))) (.cmp .gt (.var 3) (.cst (.int 0))))) (.cons (.ex (.meth .append (.var 4) (.cons (.tup (.cons (.cst (.str [116,105,109,101,115])) (.cons (.bi .min2 (.cons (.var 7) (.cons (.bin .sub (.var 5) (.cst (.int 1))) .nil))) (.cons (.var 9) .nil)))) .nil))) (.cons (.asg (.one 3) (.bin .sub (.var 3) (.cst (.int 1)))) .nil)) (.cons (.ite (.and (.cmp .gt (.var 5) (.cst (.int 0))) (.cmp .lt (.var 6) (.cst (.int 5)))) (.cons (.ex (.meth .append (.var 4) (.cons (.tup (.cons (.cst (.str [112,97,105,114])) (.cons (.bi .min2 (.cons (.var 7) (.cons (.bin .sub (.var 5) (.cst (.int 1))) .nil))) (.cons (.bi .min2 (.cons (.var 8) (.cons (.bin .sub (.var 5) (.cst (.int 1))) .nil))) .nil)))) .nil))) .nil) (.cons (.ex (.meth .append (.var 4) (.cons (.tup (.cons (.cst (.str [108,101,116,116,101,114])) (.cons (.ix (.cst (.str [97,98,99])) (.bin .mod (.var 7) (.var 1))) .nil))) .nil))) .nil)) .nil)) .nil))))))) (.cons (.ret (.mk .tuple (.seq (.var 4)))) .nil)))⟩
noncomputable def qH:Df:=⟨"long_length",1,0,(.cons (.ret (.ix (.call "counted" (.ex (.var 0) (.ex (.cst (.int 1)) .nil))) (.neg (.cst (.int 1))))) .nil)⟩
noncomputable def jj:Df:=⟨"letter_at",2,4,(.cons (.asg (.one 2) (.call "counted" (.ex (.var 0) (.ex (.cst (.int 1)) .nil)))) (.cons (.asg (.one 3) (.ix (.var 0) (.neg (.cst (.int 1))))) (.cons (.asg (.one 4) (.var 1)) (.cons (.whl (.cmp .ne (.ix (.var 3) (.cst (.int 0))) (.cst (.str [108,101,116,116,101,114]))) (.cons (.asg (.one 5) (.ix (.var 3) (.cst (.int 1)))) (.cons (.ite (.cmp .eq (.ix (.var 3) (.cst (.int 0))) (.cst (.str [116,105,109,101,115]))) (.cons (.asg (.one 4) (.bin .mod (.var 4) (.ix (.var 2) (.var 5)))) .nil) (.cons (.ite (.cmp .ge (.var 4) (.ix (.var 2) (.var 5))) (.cons (.asg (.one 4) (.bin .sub (.var 4) (.ix (.var 2) (.var 5)))) (.cons (.asg (.one 5) (.ix (.var 3) (.cst (.int 2)))) .nil)) .nil) .nil)) (.cons (.asg (.one 3) (.ix (.var 0) (.var 5))) .nil)))) (.cons (.ret (.ix (.var 3) (.cst (.int 1)))) .nil)))))⟩
noncomputable def ab4:Df:=⟨"_law_lengths",1,2,(.cons (.asg (.one 1) (.lst .nil)) (.cons (.for_ (.one 2) (.seq (.var 0)) (.cons (.ite (.cmp .eq (.ix (.var 2) (.cst (.int 0))) (.cst (.str [108,101,116,116,101,114]))) (.cons (.ex (.meth .append (.var 1) (.cons (.cst (.int 1)) .nil))) .nil) (.cons (.ite (.cmp .eq (.ix (.var 2) (.cst (.int 0))) (.cst (.str [112,97,105,114]))) (.cons (.ex (.meth .append (.var 1) (.cons (.bin .add (.ix (.var 1) (.ix (.var 2) (.cst (.int 1)))) (.ix (.var 1) (.ix (.var 2) (.cst (.int 2))))) .nil))) .nil) (.cons (.ex (.meth .append (.var 1) (.cons (.bin .mul (.ix (.var 1) (.ix (.var 2) (.cst (.int 1)))) (.ix (.var 2) (.cst (.int 2)))) .nil))) .nil)) .nil)) .nil)) (.cons (.ret (.var 1)) .nil)))⟩
noncomputable def aH3:Df:=⟨"_law_letter",3,3,(.cons (.asg (.one 3) (.bin .sub (.bi .len (.cons (.var 0) .nil)) (.cst (.int 1)))) (.cons (.whl (.cmp .ne (.ix (.ix (.var 0) (.var 3)) (.cst (.int 0))) (.cst (.str [108,101,116,116,101,114]))) (.cons (.asg (.one 4) (.ix (.var 0) (.var 3))) (.cons (.asg (.one 5) (.ix (.var 1) (.ix (.var 4) (.cst (.int 1))))) (.cons (.ite (.cmp .eq (.ix (.var 4) (.cst (.int 0))) (.cst (.str [116,105,109,101,115]))) (.cons (.asg (.one 3) (.ix (.var 4) (.cst (.int 1)))) (.cons (.asg (.one 2) (.bin .mod (.var 2) (.var 5))) .nil)) (.cons (.ite (.cmp .lt (.var 2) (.var 5)) (.cons (.asg (.one 3) (.ix (.var 4) (.cst (.int 1)))) .nil) (.cons (.asg (.one 3) (.ix (.var 4) (.cst (.int 2)))) (.cons (.asg (.one 2) (.bin .sub (.var 2) (.var 5))) .nil))) .nil)) .nil)))) (.cons (.ret (.ix (.ix (.var 0) (.var 3)) (.cst (.int 1)))) .nil)))⟩
noncomputable def ab9:Df:=⟨"_law_word",1,3,(.cons (.asg (.one 1) (.lst (.cons (.bin .sub (.bi .len (.cons (.var 0) .nil)) (.cst (.int 1))) .nil))) (.cons (.asg (.one 2) (.lst .nil)) (.cons (.whl (.cmp .ne (.var 1) (.lst .nil)) (.cons (.asg (.one 3) (.ix (.var 0) (.meth .pop (.var 1) .nil))) (.cons (.ite (.cmp .eq (.ix (.var 3) (.cst (.int 0))) (.cst (.str [108,101,116,116,101,114]))) (.cons (.ex (.meth .append (.var 2) (.cons (.ix (.var 3) (.cst (.int 1))) .nil))) .nil) (.cons (.ite (.cmp .eq (.ix (.var 3) (.cst (.int 0))) (.cst (.str [112,97,105,114]))) (.cons (.asg (.one 1) (.bin .add (.var 1) (.lst (.cons (.ix (.var 3) (.cst (.int 2))) (.cons (.ix (.var 3) (.cst (.int 1))) .nil))))) .nil) (.cons (.asg (.one 1) (.bin .add (.var 1) (.bin .mul (.lst (.cons (.ix (.var 3) (.cst (.int 1))) .nil)) (.ix (.var 3) (.cst (.int 2)))))) .nil)) .nil)) .nil))) (.cons (.ret (.join (.cst (.str [])) (.var 2))) .nil))))⟩
noncomputable def aw3:Df:=⟨"law",1,11,(.cons (.for_ (.one 1) (.rng1 (.bin .add (.bi .min2 (.cons (.cst (.int 8)) (.cons (.bi .len (.cons (.var 0) .nil)) .nil))) (.cst (.int 1)))) (.cons (.asg (.one 2) (.call "_law_box" (.ex (.var 0) (.ex (.var 1) .nil)))) (.cons (.asg (.one 3) (.cst (.int 20))) (.cons (.ite (.cmp .eq (.call "_law_draw" (.ex (.var 2) (.ex (.cst (.int 4)) .nil))) (.cst (.int 1))) (.cons (.asg (.one 3) (.cst (.int 60))) .nil) .nil) (.cons (.asg (.one 4) (.call "_law_recipe" (.ex (.var 2) (.ex (.cst (.int 3)) (.ex (.var 3) (.ex (.cst (.int 40)) .nil)))))) (.cons (.ite (.cmp .eq (.call "_law_draw" (.ex (.var 2) (.ex (.cst (.int 8)) .nil))) (.cst (.int 3))) (.cons (.asg (.one 4) (.call "_law_tall" (.ex (.var 2) (.ex (.cst (.int 3)) (.ex (.cst (.int 60)) .nil))))) .nil) .nil) (.cons (.asg (.one 5) (.call "_law_lengths" (.ex (.var 4) .nil))) (.cons (.asg (.one 6) (.call "long_length" (.ex (.var 4) .nil))) (.cons (.ite (.or (.not (.bi .isInt (.cons (.var 6) .nil))) (.or (.bi .isBool (.cons (.var 6) .nil)) (.cmp .ne (.var 6) (.ix (.var 5) (.neg (.cst (.int 1))))))) (.cons (.ret (.cst (.bl false))) .nil) .nil) (.cons (.asg (.one 7) (.bi .min2 (.cons (.var 6) (.cons (.bin .pow (.cst (.int 10)) (.cst (.int 60))) .nil)))) (.cons (.asg (.one 8) (.lst (.cons (.cst (.int 0)) (.cons (.bin .sub (.var 7) (.cst (.int 1))) (.cons (.bin .fdiv (.var 7) (.cst (.int 2))) .nil))))) (.cons (.for_ (.one 9) (.rng1 (.cst (.int 3))) (.cons (.ex (.meth .append (.var 8) (.cons (.call "_law_draw" (.ex (.var 2) (.ex (.var 7) .nil))) .nil))) .nil)) (.cons (.for_ (.one 10) (.seq (.var 8)) (.cons (.ite (.cmp .ne (.call "letter_at" (.ex (.var 4) (.ex (.var 10) .nil))) (.call "_law_letter" (.ex (.var 4) (.ex (.var 5) (.ex (.var 10) .nil))))) (.cons (.ret (.cst (.bl false))) .nil) .nil) .nil)) (.cons (.ite (.cmp .le (.var 6) (.cst (.int 200))) (.cons (.asg (.one 11) (.call "_law_word" (.ex (.var 4) .nil))) (.cons (.ite (.cmp .ne (.mk .list (.comp (.one 0) (.rng1 (.var 6)) (.call "letter_at" (.ex (.var 1) (.ex (.var 0) .nil))) [none,some 4])) (.mk .list (.seq (.var 11)))) (.cons (.ret (.cst (.bl false))) .nil) .nil) .nil)) .nil) .nil)))))))))))))) (.cons (.ret (.cst (.bl true))) .nil))⟩
noncomputable def ab0:Df:=⟨"long_word",1,0,(.cons (.ret (.call "last_word" (.ex (.var 0) .nil))) .nil)⟩
noncomputable def ac3:Df:=⟨"_law_right",1,0,(.cons (.ite (.cmp .gt (.ix (.call "_law_lengths" (.ex (.var 0) .nil)) (.neg (.cst (.int 1)))) (.cst (.int 2000))) (.cons (.ret (.call "_law_refused" (.ex (.var 0) .nil))) .nil) .nil) (.cons (.ret (.cmp .eq (.call "long_word" (.ex (.var 0) .nil)) (.call "_law_word" (.ex (.var 0) .nil)))) .nil))⟩
noncomputable def ab7:Df:=⟨"law",1,7,(.cons (.for_ (.one 1) (.rng1 (.bin .add (.bi .min2 (.cons (.cst (.int 8)) (.cons (.bi .len (.cons (.var 0) .nil)) .nil))) (.cst (.int 1)))) (.cons (.asg (.one 2) (.call "_law_box" (.ex (.var 0) (.ex (.var 1) .nil)))) (.cons (.asg (.one 3) (.call "_law_recipe" (.ex (.var 2) (.ex (.cst (.int 3)) (.ex (.cst (.int 10)) (.ex (.cst (.int 4)) .nil)))))) (.cons (.ite (.cmp .eq (.call "_law_draw" (.ex (.var 2) (.ex (.cst (.int 8)) .nil))) (.cst (.int 3))) (.cons (.asg (.one 3) (.call "_law_tall" (.ex (.var 2) (.ex (.cst (.int 3)) (.ex (.cst (.int 59)) .nil))))) .nil) .nil) (.cons (.asg (.one 4) (.tup (.cons (.cst (.str [108,101,116,116,101,114])) (.cons (.ix (.cst (.str [97,98,99])) (.call "_law_draw" (.ex (.var 2) (.ex (.cst (.int 3)) .nil)))) .nil)))) (.cons (.asg (.one 5) (.bin .add (.cst (.int 1)) (.call "_law_draw" (.ex (.var 2) (.ex (.cst (.int 1999)) .nil))))) (.cons (.asg (.one 6) (.tup (.cons (.var 4) (.cons (.tup (.cons (.cst (.str [108,101,116,116,101,114])) (.cons (.cst (.str [98])) .nil))) (.cons (.tup (.cons (.cst (.str [116,105,109,101,115])) (.cons (.cst (.int 0)) (.cons (.var 5) .nil)))) (.cons (.tup (.cons (.cst (.str [116,105,109,101,115])) (.cons (.cst (.int 1)) (.cons (.bin .sub (.cst (.int 2000)) (.var 5)) .nil)))) (.cons (.tup (.cons (.cst (.str [112,97,105,114])) (.cons (.cst (.int 2)) (.cons (.cst (.int 3)) .nil)))) (.cons (.tup (.cons (.cst (.str [112,97,105,114])) (.cons (.cst (.int 4)) (.cons (.cst (.int 1)) .nil)))) .nil)))))))) (.cons (.for_ (.one 7) (.seq (.lst (.cons (.var 3) (.cons (.slU (.var 6) (.cst (.int 5))) (.cons (.var 6) (.cons (.bin .add (.var 3) (.tup (.cons (.var 4) .nil))) (.cons (.bin .add (.var 6) (.tup (.cons (.var 4) .nil))) .nil))))))) (.cons (.ite (.not (.call "_law_right" (.ex (.var 7) .nil))) (.cons (.ret (.cst (.bl false))) .nil) .nil) .nil)) .nil)))))))) (.cons (.ret (.cst (.bl true))) .nil))⟩
noncomputable def ca9:Df:=⟨"_law_on",3,5,(.cons (.asg (.one 3) (.mk .list (.comp (.one 0) (.seq (.var 2)) (.cst .non) [none]))) (.cons (.for_ (.tup [4,5,6,7]) (.seq (.ix (.var 0) (.cst (.int 4)))) (.cons (.ite (.and (.cmp .eq (.var 5) (.var 1)) (.notN (.ix (.var 2) (.var 4)))) (.cons (.ite (.or (.isN (.ix (.var 3) (.var 6))) (.cmp .lt (.bin .add (.ix (.var 2) (.var 4)) (.var 7)) (.ix (.var 3) (.var 6)))) (.cons (.setIx (.var 3) (.var 6) (.bin .add (.ix (.var 2) (.var 4)) (.var 7))) .nil) .nil) .nil) .nil) .nil)) (.cons (.ret (.var 3)) .nil)))⟩
class Has (P:Pr)(d:Df):Prop where
 eq:P.df d.name=some d
class HasL (P:Pr)(d:Lm):Prop where
 eq:P.lm d.id=some d
class HasC (P:Pr)(x:String)(v:D):Prop where
 eq:P.con x=some v
noncomputable def fin (s:Sto)(c:Ct)(s':Sto):R D:=match c with
 | .ret v=>ab3 s v s'
 | .next _=>ab3 s .non s'
 | _=>.bad
@[simp] theorem fin_ret (s:Sto) (v:D) (s':Sto):fin s (.ret v) s'=ab3 s v s':=rfl
@[simp] theorem fin_next (s:Sto) (ρ:Env) (s':Sto):fin s (.next ρ) s'=ab3 s .non s':=rfl
theorem zL {P:Pr}(d:Df)[h:Has P d]{n:Nat}{l:List D}{s:Sto}(hl:l.length=d.ps) :
  (aa1 P (n+1)).call d.name l s=(exs (aa1 P n) d.body (l.map some++ar d.vs none) s).bind (fin s):=by
 simp only[aa1,h.eq,hl,if_true]
 rfl
theorem aO1 {P:Pr}(d:Lm)[h:HasL P d]{n:Nat}{cs l:List D}{s:Sto}(hl:l.length=d.ps)(hc:cs.length=d.cs)(hn:(D.nclL l&&D.nclL cs&&s.all O.ncl)=true) :
  (aa1 P (n+1)).lam d.id cs l s=(ev (aa1 P n) d.body (l.map some++cs.map some) s).bind (ab3 s):=by
 simp only[aa1,h.eq,hl,hc,hn,and_self,if_true]
theorem bs7 {P:Pr}{x:String}{v:D}[h:HasC P x v]{n:Nat}:(aa1 P n).con x=some v:=by
 cases n<;>exact h.eq
theorem aw5 (s t:Sto):ao9 s (s++t)=true:=by
 unfold ao9
 rw[aG]
 intro i h
 rw[cT]at h
 rw[aB h]
 simp
theorem aU2 (s t:Sto)(r:Nat)(o:O)(h:o.bnd s.length=true):ao9 s (s.set r o++t)=true:=by
 unfold ao9
 rw[aG]
 intro i y
 rw[cT]at y
 rw[aB (by rw[br];exact y)]
 by_cases e:r=i
 ·subst e;rw[aU y];simp[h]
 ·rw[aY e];simp
theorem qC {s t:Sto}{d:D}(h:∀ n,d.bnd n=true)(y:∀ r,d≠.ref r):ab3 s d (s++t)=.ok d s:=by
 unfold ab3
 rw[aw5,if_pos rfl]
 cases d with
 | ref r=>exact absurd rfl (y r)
 | _=>simp[h]
theorem zD {s:Sto}{d:D}(h:∀ n,d.bnd n=true)(y:∀ r,d≠.ref r):ab3 s d s=.ok d s:=by
 have:=qC (s:=s) (t:=[]) h y
 rwa [a7]at this
theorem al2 {s t:Sto}{d:D}{r:Nat}{o:O}(h:∀ n,d.bnd n=true)(y:∀ r,d≠.ref r)(ho:o.bnd s.length=true):ab3 s d (s.set r o++t)=.ok d (s.set r o):=by
 unfold ab3
 rw[aU2 s t r o ho,if_pos rfl]
 have e:(s.set r o++t).take s.length=s.set r o:=by rw[cE (by simp),bS (by simp)]
 cases d with
 | ref r=>exact absurd rfl (y r)
 | _=>simp only[h,if_true,e]
theorem aJ7 {s:Sto}{d:D}{r:Nat}{o:O}(h:∀ n,d.bnd n=true)(y:∀ r,d≠.ref r)(ho:o.bnd s.length=true):ab3 s d (s.set r o)=.ok d (s.set r o):=by
 have:=al2 (s:=s) (t:=[]) (r:=r) h y ho
 rwa [a7]at this
theorem ay4 {s t u:Sto}{o:O}(ho:o.bnd s.length=true):ab3 s (.ref (s.length+t.length)) (s++(t++o::u))=.ok (.ref s.length) (s++[o]):=by
 unfold ab3
 rw[aw5,if_pos rfl]
 simp[ho,aF]
@[simp] theorem bL0 {s:Sto} {i:Int}:ab3 s (.int i) s=.ok (.int i) s:=zD (λ _=>rfl) (by nofun)
@[simp] theorem bM8 {s:Sto} {i:Bool}:ab3 s (.bl i) s=.ok (.bl i) s:=zD (λ _=>rfl) (by nofun)
@[simp] theorem bA0 {s:Sto}:ab3 s .non s=.ok .non s:=zD (λ _=>rfl) (by nofun)
@[simp] theorem by4 {s:Sto} {x:List Nat}:ab3 s (.str x) s=.ok (.str x) s:=zD (λ _=>rfl) (by nofun)
theorem qT {c:Env->Sto->R D}{g:Env->Sto->R Ct}:∀ {n:Nat} {ρ:Env} {s:Sto},ag8 c g n ρ s≠.bad->ag8 c g (n+1) ρ s=ag8 c g n ρ s
 | 0,_,_,h=>absurd rfl h
 | n+1,ρ,s,h=>by
  rw[show ag8 c g (n+1+1) ρ s=tru (c ρ s) (λ b s=>if b then(g ρ s).bind λ y s=>match y with
   | .next ρ=>ag8 c g (n+1) ρ s|.cont ρ=>ag8 c g (n+1) ρ s|.brk ρ=>.ok (.next ρ) s|.ret d=>.ok (.ret d) s else .ok (.next ρ) s)from rfl]
  have e:ag8 c g (n+1) ρ s=tru (c ρ s) (λ b s=>if b then(g ρ s).bind λ y s=>match y with
   | .next ρ=>ag8 c g n ρ s|.cont ρ=>ag8 c g n ρ s|.brk ρ=>.ok (.next ρ) s|.ret d=>.ok (.ret d) s else .ok (.next ρ) s):=rfl
  rw[e]at h ⊢
  unfold tru at h ⊢
  cases hc:c ρ s with
  | exc _ _=>rfl
  | bad=>rfl
  | ok d s1 =>
   rw[hc]at h
   cases d with
   | bl b =>
    cases b with
    | false=>rfl
    | true =>
     simp only[R.bind_ok,if_true]at h ⊢
     cases hg:g ρ s1 with
     | exc _ _=>rfl
     | bad=>rfl
     | ok y s2 =>
      rw[hg]at h
      simp only[R.bind_ok]at h ⊢
      cases y with
      | next ρ'=>exact qT h
      | cont ρ'=>exact qT h
      | _=>rfl
   | _=>rfl
theorem qQ {c:Env->Sto->R D}{g:Env->Sto->R Ct}{n:Nat}{ρ:Env}{s:Sto}(h:ag8 c g n ρ s≠.bad):∀ k,ag8 c g (n+k) ρ s=ag8 c g n ρ s
 | 0=>rfl
 | k+1=>by
  have e:=qQ h k
  rw[<-Nat.add_assoc,qT (by rw[e];exact h),e]
theorem bL4 {c:Env->Sto->R D}{g:Env->Sto->R Ct}{n:Nat}{ρ:Env}{s:Sto}{r:Ct}{t:Sto}(h:ag8 c g n ρ s=.ok r t):whl c g ρ s=.ok r t:=by
 have hb:ag8 c g n ρ s≠.bad:=by rw[h];nofun
 have hx:∃ n,ag8 c g n ρ s≠.bad:=⟨n,hb⟩
 unfold whl
 rw[dif_pos hx]
 have B:=qQ hx.choose_spec n
 have y:=qQ hb hx.choose
 rw[<-B,i0,y,h]
theorem ap5 {c:Env->Sto->R D}{g:Env->Sto->R Ct}{ρ ρ':Env}{s s1 s':Sto}(hc:c ρ s=.ok (.bl true) s1)(h:g ρ s1=.ok (.next ρ') s'):whl c g ρ s=whl c g ρ' s':=by
 have key:∀ n,ag8 c g (n+1) ρ s=ag8 c g n ρ' s':=λ n=>by
  show tru (c ρ s) _=_
  rw[hc,zX,if_pos rfl,h];rfl
 unfold whl
 by_cases hx:∃ n,ag8 c g n ρ' s'≠.bad
 ·have hy:∃ n,ag8 c g n ρ s≠.bad:=⟨hx.choose+1,by rw[key];exact hx.choose_spec⟩
  rw[dif_pos hx,dif_pos hy]
  have B:=qQ hy.choose_spec (hx.choose+1)
  have y:=qQ (n:=hx.choose+1) (ρ:=ρ) (s:=s) (by rw[key];exact hx.choose_spec) hy.choose
  rw[<-B,i0,y,key]
 ·have hy:¬ ∃ n,ag8 c g n ρ s≠.bad:=λ⟨n,hn⟩=>by
   cases n with
   | zero=>exact hn rfl
   | succ n=>exact hx ⟨n,by rw[<-key];exact hn⟩
  rw[dif_neg hx,dif_neg hy]
theorem bq1 {c:Env->Sto->R D}{g:Env->Sto->R Ct}{ρ:Env}{s s1:Sto}(hc:c ρ s=.ok (.bl false) s1):whl c g ρ s=.ok (.next ρ) s1 :=
 bL4 (n:=1) (by show tru (c ρ s) _=_;rw[hc,zX];rfl)
theorem ai8 {ok:Sto->Bool}{g:D->Env->Sto->R Ct}(P:Nat->Env->Sto->Prop):∀(l:List D) (k:Nat) (ρ:Env) (s:Sto),
  P k ρ s->(∀(j:Nat) (ρ:Env) (s:Sto),j<=l.length->P (k+j) ρ s->ok s=true)->(∀(j:Nat) (d:D) (ρ:Env) (s:Sto),l[j]?=some d->P (k+j) ρ s->∃ ρ' s',(g d ρ s=.ok (.next ρ') s'\/g d ρ s=.ok (.cont ρ') s')/\P (k+j+1) ρ' s') ->
  ∃ ρ' s',aM2 ok g l ρ s=.ok (.next ρ') s'/\P (k+l.length) ρ' s'
 | [],k,ρ,s,h,o,_=>⟨ρ,s,by show(if ok s then _ else _)=_;rw[if_pos (o 0 ρ s (aj _) h)],h⟩
 | d::l,k,ρ,s,h,o,t=>by
  have ho:=o 0 ρ s (dv _) h
  obtain⟨ρ1,s1,y,B⟩:=t 0 d ρ s rfl h
  obtain⟨ρ2,s2,e,G⟩:=ai8 P l (k+1) ρ1 s1 B (λ j ρ' s' hj hp=>o (j+1) ρ' s' (by simpa using hj) (by rwa [show k+(j+1)=k+1+j by omega])) λ j d' ρ' s' hj hp=>by
   have:=t (j+1) d' ρ' s' (by simpa using hj) (by rwa [show k+(j+1)=k+1+j by omega])
   rwa [show k+(j+1)+1=k+1+j+1 by omega]at this
  refine⟨ρ2,s2,?_,by rwa [aV,show k+(l.length+1)=k+1+l.length by omega]⟩
  show(if ok s then _ else _)=_
  rw[if_pos ho]
  rcases y with y|y<;>(rw[y];exact e)
noncomputable def Nx (Q:Env->Sto->Prop):R Ct->Prop
 | .ok (.next ρ) s=>Q ρ s
 | .ok (.cont ρ) s=>Q ρ s
 | _=>False
@[simp] theorem bS6 (Q:Env->Sto->Prop) (ρ:Env) (s:Sto):Nx Q (.ok (.next ρ) s)=Q ρ s:=rfl
@[simp] theorem bQ2 (Q:Env->Sto->Prop) (ρ:Env) (s:Sto):Nx Q (.ok (.cont ρ) s)=Q ρ s:=rfl
theorem bv6 {Q:Env->Sto->Prop}{r:R Ct}{ρ:Env}{s:Sto}(e:r=.ok (.next ρ) s)(h:Q ρ s):Nx Q r:=by rw[e];exact h
theorem Nx.out {Q:Env->Sto->Prop}:∀ {r:R Ct},Nx Q r->∃ ρ s,(r=.ok (.next ρ) s\/r=.ok (.cont ρ) s)/\Q ρ s
 | .ok (.next ρ) s,h=>⟨ρ,s,.inl rfl,h⟩
 | .ok (.cont ρ) s,h=>⟨ρ,s,.inr rfl,h⟩
 | .ok (.ret _) _,h=>h.elim
 | .ok (.brk _) _,h=>h.elim
 | .exc _ _,h=>h.elim
 | .bad,h=>h.elim
noncomputable def Tst (A B:Sto->Prop):R D->Prop
 | .ok (.bl false) s=>A s
 | .ok (.bl true) s=>B s
 | _=>False
@[simp] theorem bY5 (A B:Sto->Prop) (b:Bool) (s:Sto):Tst A B (.ok (.bl b) s)=if b then B s else A s:=by cases b<;>rfl
theorem aq5 {ok:Sto->Bool}{g:D->Env->Sto->R Ct}{l:List D}{ρ:Env}{s:Sto}{α:Type}{f:Ct->Sto->R α}{W:R α->Prop}(P:Nat->Env->Sto->Prop)(h:P 0 ρ s)
  (o:∀(j:Nat) (ρ:Env) (s:Sto),j<=l.length->P j ρ s->ok s=true) (step:∀(j:Nat) (d:D) (ρ:Env) (s:Sto),l[j]?=some d->P j ρ s->Nx (P (j+1)) (g d ρ s))
  (y:∀ ρ' s',P l.length ρ' s'->W (f (.next ρ') s')):W ((aM2 ok g l ρ s).bind f):=by
 obtain⟨ρ',s',e,q⟩:=ai8 P l 0 ρ s h (λ j ρ s hj hp=>o j ρ s hj (by rwa [cw]at hp)) (λ j d ρ s hj hp=>by
  rw[cw]at hp ⊢
  exact(step j d ρ s hj hp).out)
 rw[e]
 rw[cw]at q
 exact y ρ' s' q
theorem aH9 {ok:Sto->Bool}{g:D->Env->Sto->R Ct}{l:List D}{ρ:Env}{s:Sto}{α:Type}{f:Ct->Sto->R α}{x:R α}(P:Nat->Env->Sto->Prop)(h:P 0 ρ s)
  (o:∀(j:Nat) (ρ:Env) (s:Sto),j<=l.length->P j ρ s->ok s=true) (step:∀(j:Nat) (d:D) (ρ:Env) (s:Sto),l[j]?=some d->P j ρ s->Nx (P (j+1)) (g d ρ s))
  (y:∀ ρ' s',P l.length ρ' s'->f (.next ρ') s'=x):(aM2 ok g l ρ s).bind f=x:=aq5 (W:=(·=x)) P h o step y
section
variable {F:Fns} {ρ:Env} {s:Sto}
@[simp] theorem zw (i:Nat):ev F (.var i) ρ s=aM1 ρ i s:=rfl
@[simp] theorem zN (c:Cn):ev F (.cst c) ρ s=.ok c.d s:=rfl
@[simp] theorem ev_bin (op:BOp) (a b:E):ev F (.bin op a b) ρ s=(ev F a ρ s).bind λ x s=>(ev F b ρ s).bind λ y s=>qr op x y s:=rfl
@[simp] theorem ev_not (a:E):ev F (.not a) ρ s=tru (ev F a ρ s) λ b s=>.ok (.bl (!b)) s:=rfl
@[simp] theorem qm (op:COp) (a b:E):ev F (.cmp op a b) ρ s=(ev F a ρ s).bind λ x s=>(ev F b ρ s).bind λ y s=>qD op x y s:=rfl
@[simp] theorem bN4 (o p:COp) (a b c:E):ev F (.chain o p a b c) ρ s=(ev F a ρ s).bind λ x s=>(ev F b ρ s).bind λ y s=>tru (qD o x y s) λ k s=>if k then(ev F c ρ s).bind λ z s=>qD p y z s else .ok (.bl false) s:=rfl
@[simp] theorem ev_isN (a:E):ev F (.isN a) ρ s=(ev F a ρ s).bind λ x s=>.ok (.bl (decide (x=.non))) s:=rfl
@[simp] theorem ev_notN (a:E):ev F (.notN a) ρ s=(ev F a ρ s).bind λ x s=>.ok (.bl (!decide (x=.non))) s:=rfl
@[simp] theorem ev_and (a b:E):ev F (.and a b) ρ s=tru (ev F a ρ s) λ c s=>if c then tru (ev F b ρ s) λ c s=>.ok (.bl c) s else .ok (.bl false) s:=rfl
@[simp] theorem ev_or (a b:E):ev F (.or a b) ρ s=tru (ev F a ρ s) λ c s=>if c then .ok (.bl true) s else tru (ev F b ρ s) λ c s=>.ok (.bl c) s:=rfl
@[simp] theorem ev_ite (c a b:E):ev F (.ite c a b) ρ s=tru (ev F c ρ s) λ k s=>if k then ev F a ρ s else ev F b ρ s:=rfl
@[simp] theorem ev_tup (es:Es):ev F (.tup es) ρ s=(evs F es ρ s).bind λ l s=>.ok (.tup l) s:=rfl
@[simp] theorem ev_lst (es:Es):ev F (.lst es) ρ s=(evs F es ρ s).bind λ l s=>ac6 (.lst l) s:=rfl
@[simp] theorem ev_ix (a b:E):ev F (.ix a b) ρ s=(ev F a ρ s).bind λ x s=>(ev F b ρ s).bind λ y s=>ixM x y s:=rfl
@[simp] theorem ev_call (f:String) (h:As):ev F (.call f h) ρ s=(ag3 F h ρ s).bind λ l s=>F.call f l s:=rfl
@[simp] theorem be0 (f:String) (h:As):ev F (.callC f h) ρ s=(ag3 F h ρ s).bind λ l s=>(F.call f l s).bind λ d s'=>if(d.ncl&&s'.all O.ncl)=true then .ok d s' else .bad:=rfl
@[simp] theorem ev_bi (b:Bi) (es:Es):ev F (.bi b es) ρ s=(evs F es ρ s).bind λ l s=>bi b l s:=rfl
@[simp] theorem ev_mk (k:Mk) (it:L):ev F (.mk k it) ρ s=(evL F it ρ s).bind λ q s=>mk k q s:=rfl
@[simp] theorem ev_mkD (k:Mk) (it:L) (d:E):ev F (.mkD k it d) ρ s=(evL F it ρ s).bind λ q s=>(ev F d ρ s).bind λ d s=>mkD k q d s:=rfl
@[simp] theorem ev_mks (k:Mk) (e:E):ev F (.mks k e) ρ s=(ev F e ρ s).bind λ x s=>(bx6 x s).bind λ q s=>mk k q s:=rfl
@[simp] theorem ev_mkDs (k:Mk) (e d:E):ev F (.mkDs k e d) ρ s=(ev F e ρ s).bind λ x s=>(ev F d ρ s).bind λ z s=>(bx6 x s).bind λ q s=>mkD k q z s:=rfl
@[simp] theorem qy (m:Mt) (o:E) (es:Es):ev F (.meth m o es) ρ s=(ev F o ρ s).bind λ x s=>(evs F es ρ s).bind λ l s=>meth m x l s:=rfl
@[simp] theorem bU4 (o e:E):ev F (.extS o e) ρ s=(ev F o ρ s).bind λ x s=>(ev F e ρ s).bind λ y s=>extS x y s:=rfl
@[simp] theorem ca1 (a:E):ev F (.rev a) ρ s=(ev F a ρ s).bind λ x s=>bW0 x s:=rfl
@[simp] theorem bZ7 (o:E) (it:L):ev F (.ext o it) ρ s=(ev F o ρ s).bind λ x s=>(evL F it ρ s).bind λ q s=>bJ8 x q s:=rfl
@[simp] theorem zJ:evs F .nil ρ s=.ok [] s:=rfl
@[simp] theorem zI (e:E) (es:Es):evs F (.cons e es) ρ s=(ev F e ρ s).bind λ d s=>(evs F es ρ s).bind λ l s=>.ok (d::l) s:=rfl
@[simp] theorem qZ:ag3 F .nil ρ s=.ok [] s:=rfl
@[simp] theorem jd (e:E) (h:As):ag3 F (.ex e h) ρ s=(ev F e ρ s).bind λ d s=>(ag3 F h ρ s).bind λ l s=>.ok (d::l) s:=rfl
@[simp] theorem bU5 (f:String) (h:As):ag3 F (.fn f h) ρ s=(ag3 F h ρ s).bind λ l s=>.ok (.fn f::l) s:=rfl
@[simp] theorem evI_seq (e:E):evI F (.seq e) ρ s=(ev F e ρ s).bind λ d s=>aG3 d s:=rfl
@[simp] theorem bO0 (es:Es):evL F (.disp es) ρ s=evs F es ρ s:=rfl
@[simp] theorem evL_seq (e:E):evL F (.seq e) ρ s=(ev F e ρ s).bind λ d s=>bo2 d s:=rfl
noncomputable def bv7 (x:D):M Sq:=λ s=>match x with|.int i=>if -W62<=i/\i<W62 then .ok ⟨ar7 0 i,[]⟩ s else .bad|_=>.bad
@[simp] theorem evI_rng1 (a:E):evI F (.rng1 a) ρ s=(ev F a ρ s).bind λ x s=>bv7 x s:=rfl
theorem ar1 {i:Int}(h0:-W62<=i)(h:i<W62):bv7 (.int i) s=.ok ⟨ar7 0 i,[]⟩ s:=by unfold bv7;simp only[h0,h,and_self,if_true]
noncomputable def nxt (F:Fns)(ss:Ss)(c:Ct)(s:Sto):R Ct:=match c with|.next ρ=>exs F ss ρ s|c=>.ok c s
@[simp] theorem zr (h:Ss) (ρ:Env) (s:Sto):nxt F h (.next ρ) s=exs F h ρ s:=rfl
@[simp] theorem nxt_ret (h:Ss) (d:D) (s:Sto):nxt F h (.ret d) s=.ok (.ret d) s:=rfl
@[simp] theorem nxt_cont (h:Ss) (ρ:Env) (s:Sto):nxt F h (.cont ρ) s=.ok (.cont ρ) s:=rfl
@[simp] theorem zy:exs F .nil ρ s=.ok (.next ρ) s:=rfl
@[simp] theorem zl (st:S) (h:Ss):exs F (.cons st h) ρ s=(ex F st ρ s).bind (nxt F h):=rfl
noncomputable def bR2 (ρ:Option Env)(s:Sto):R Ct:=match ρ with|some ρ=>.ok (.next ρ) s|none=>.bad
@[simp] theorem ql (ρ:Env) (s:Sto):bR2 (some ρ) s=.ok (.next ρ) s:=rfl
@[simp] theorem ex_asg (tg:Tg) (e:E):ex F (.asg tg e) ρ s=(ev F e ρ s).bind λ d s=>bR2 (ac8 ρ tg d) s:=rfl
@[simp] theorem ex_setIx (o i e:E):ex F (.setIx o i e) ρ s=(ev F e ρ s).bind λ d s=>(ev F o ρ s).bind λ x s=>(ev F i ρ s).bind λ y s=>(setIx x y d s).bind λ _ s=>.ok (.next ρ) s:=rfl
@[simp] theorem ex_ex (e:E):ex F (.ex e) ρ s=(ev F e ρ s).bind λ _ s=>.ok (.next ρ) s:=rfl
@[simp] theorem ex_ret (e:E):ex F (.ret e) ρ s=(ev F e ρ s).bind λ d s=>.ok (.ret d) s:=rfl
@[simp] theorem bP9:ex F .retN ρ s=.ok (.ret .non) s:=rfl
@[simp] theorem qB (c:E) (a b:Ss):ex F (.ite c a b) ρ s=tru (ev F c ρ s) λ k s=>if k then exs F a ρ s else exs F b ρ s:=rfl
@[simp] theorem ex_whl (c:E) (b:Ss):ex F (.whl c b) ρ s=whl (ev F c) (exs F b) ρ s:=rfl
noncomputable def turn (F:Fns)(tg:Tg)(b:Ss)(d:D)(ρ:Env)(s:Sto):R Ct:=match ac8 ρ tg d with
 | some ρ=>exs F b ρ s
 | none=>.bad
@[simp] theorem ex_for (tg:Tg) (it:I) (b:Ss):ex F (.for_ tg it b) ρ s=(evI F it ρ s).bind λ q s0=>aM2 (λ s=>chk s0 s q.src) (turn F tg b) q.its ρ s0:=rfl
@[simp] theorem ex_cont:ex F .cont ρ s=.ok (.cont ρ) s:=rfl
@[simp] theorem ex_und (i:Nat):ex F (.und i) ρ s=bR2 (ae2 ρ i) s:=rfl
@[simp] theorem ex_pass:ex F .pass ρ s=.ok (.next ρ) s:=rfl
@[simp] theorem zt (i:Nat) (d:D):ac8 ρ (.one i) d=aB1 ρ i d:=rfl
@[simp] theorem bindT_tup (is:List Nat) (l:List D):ac8 ρ (.tup is) (.tup l)=ai5 ρ is l:=rfl
@[simp] theorem setVs_nil:ai5 ρ [] []=some ρ:=rfl
@[simp] theorem setVs_cons (i:Nat) (is:List Nat) (d:D) (l:List D):ai5 ρ (i::is) (d::l)=(aB1 ρ i d).bind λ ρ=>ai5 ρ is l:=rfl
@[simp] theorem zu (d:D) (ρ:Env):aM1 (some d::ρ) 0 s=.ok d s:=rfl
@[simp] theorem zv (x:Option D) (ρ:Env) (i:Nat):aM1 (x::ρ) (i+1) s=aM1 ρ i s:=by unfold aM1;rw[List.getElem?_cons_succ]
@[simp] theorem qv (d:D) (x:Option D) (ρ:Env):aB1 (x::ρ) 0 d=some (some d::ρ):=rfl
@[simp] theorem qx (d:D) (x:Option D) (ρ:Env) (i:Nat):aB1 (x::ρ) (i+1) d=(aB1 ρ i d).map (x::·):=by
 unfold aB1
 by_cases h:i < ρ.length
 ·rw[if_pos (by simpa using h),if_pos h];rfl
 ·rw[if_neg (by simpa using h),if_neg h];rfl
@[simp] theorem unsetV_0 (x:Option D) (ρ:Env):ae2 (x::ρ) 0=some (none::ρ):=rfl
@[simp] theorem unsetV_s (x:Option D) (ρ:Env) (i:Nat):ae2 (x::ρ) (i+1)=(ae2 ρ i).map (x::·):=by
 unfold ae2
 by_cases h:i < ρ.length
 ·rw[if_pos (by simpa using h),if_pos h];rfl
 ·rw[if_neg (by simpa using h),if_neg h];rfl
@[simp] theorem zR (i:Int):(Cn.int i).d=.int i:=rfl
@[simp] theorem Cn_bl (i:Bool):(Cn.bl i).d=.bl i:=rfl
@[simp] theorem qO (i:List Nat):(Cn.str i).d=.str i:=rfl
@[simp] theorem Cn_non:Cn.non.d=.non:=rfl
@[simp] theorem add_int (a b:Int):qr .add (.int a) (.int b) s=.ok (.int (a+b)) s:=rfl
@[simp] theorem sub_int (a b:Int):qr .sub (.int a) (.int b) s=.ok (.int (a - b)) s:=rfl
theorem ad7 {a b:Int}(h:mulOk a b=true):qr .mul (.int a) (.int b) s=.ok (.int (a*b)) s:=by show(if mulOk a b then _ else _:M D) s=_;rw[if_pos h];rfl
theorem aq9 {a b:Int}(h:a.natAbs<2^64):mulOk a b=true:=by unfold mulOk;simp[h]
theorem aR9 {a b:Int}(h:b.natAbs<2^64):mulOk a b=true:=by unfold mulOk;simp[h]
theorem aA4 {a b:Int}(h:0<b):qr .mod (.int a) (.int b) s=.ok (.int (a % b)) s:=by show(if 0<b then _ else _:M D) s=_;rw[if_pos h];rfl
theorem bx3:(10:Int)^200<=(DIVL:Int):=by unfold DIVL;decide +kernel
theorem ap6 {a b:Int}(h:0<b)(y:b<10^200):qr .fdiv (.int a) (.int b) s=.ok (.int (a / b)) s:=by show(if 0<b/\b<(DIVL:Int)then _ else _:M D) s=_;rw[if_pos ⟨h,Int.lt_of_lt_of_le y bx3⟩];rfl
theorem aB4 {a b:Int}(h:0<=b/\b<=1000000/\a.natAbs<2^64):qr .pow (.int a) (.int b) s=.ok (.int (a^b.toNat)) s:=by show(if _ then _ else _:M D) s=_;rw[if_pos h];rfl
@[simp] theorem lt_int (a b:Int):qD .lt (.int a) (.int b) s=.ok (.bl (decide (a<b))) s:=rfl
@[simp] theorem le_int (a b:Int):qD .le (.int a) (.int b) s=.ok (.bl (decide (a<=b))) s:=rfl
@[simp] theorem gt_int (a b:Int):qD .gt (.int a) (.int b) s=.ok (.bl (decide (b<a))) s:=rfl
@[simp] theorem ge_int (a b:Int):qD .ge (.int a) (.int b) s=.ok (.bl (decide (b<=a))) s:=rfl
@[simp] theorem eq_int (a b:Int):qD .eq (.int a) (.int b) s=.ok (.bl (decide (a=b))) s:=rfl
@[simp] theorem ne_int (a b:Int):qD .ne (.int a) (.int b) s=.ok (.bl (!decide (a=b))) s:=rfl
@[simp] theorem alloc_eq (o:O):ac6 o s=.ok (.ref s.length) (s++[o]):=rfl
@[simp] theorem bs9 (l:List D):bi .len [.tup l] s=.ok (.int l.length) s:=rfl
@[simp] theorem as6 (l:List Nat):bi .len [.str l] s=.ok (.int l.length) s:=rfl
theorem bi6 {r:Nat}{l:List D}(h:s[r]?=some (.ro l)):bi .len [.ref r] s=.ok (.int l.length) s:=by simp only[bi,bi1,bx8,h]
@[simp] theorem bW2 (i:Int):bi .abs [.int i] s=.ok (.int (if i<0 then -i else i)) s:=rfl
@[simp] theorem ae6 (a b:Int):bi .min2 [.int a,.int b] s=.ok (.int (if b<a then b else a)) s:=rfl
@[simp] theorem bN6 (a b:Int):bi .max2 [.int a,.int b] s=.ok (.int (if b > a then b else a)) s:=rfl
@[simp] theorem bI3 (a:Int):bi .isInt [.int a] s=.ok (.bl true) s:=rfl
@[simp] theorem bx9 (a:Int):bi .isBool [.int a] s=.ok (.bl false) s:=rfl
@[simp] theorem bL6 (l:List D):bi .isTup [.tup l] s=.ok (.bl true) s:=rfl
theorem bR8 {r:Nat}{l:List D}{j:Nat}{d:D}(h:s[r]?=some (.ro l))(hj:l[j]?=some d):ixM (.ref r) (.int (j:Int)) s=.ok d s:=by
 have hl:j<l.length:=(ae.mp hj).1
 have e:l[j]=d:=(ae.mp hj).2
 simp[ixM,h,ixn,hl,e]
theorem aE4 {r:Nat}{l:List D}{j:Nat}{d:D}(h:s[r]?=some (.lst l))(hj:l[j]?=some d):ixM (.ref r) (.int (j:Int)) s=.ok d s:=by
 have hl:j<l.length:=(ae.mp hj).1
 have e:l[j]=d:=(ae.mp hj).2
 simp[ixM,h,ixn,hl,e]
theorem ix_tup {l:List D}{j:Nat}{d:D}(hj:l[j]?=some d):ixM (.tup l) (.int (j:Int)) s=.ok d s:=by
 have hl:j<l.length:=(ae.mp hj).1
 have e:l[j]=d:=(ae.mp hj).2
 simp[ixM,ixn,hl,e]
theorem ag4 {r:Nat}{l:List D}{v:D}(h:s[r]?=some (.lst l))(hl:l.length<LIM):meth .append (.ref r) [v] s=.ok .non (s.set r (.lst (l++[v]))):=by
 simp[meth,h,hl]
end
theorem az7 (s t:Sto)(b:Bool):∃ s',ab3 s (.bl b) t=.ok (.bl b) s':=by
 unfold ab3
 by_cases h:ao9 s t=true
 ·rw[if_pos h];exact⟨_,rfl⟩
 ·rw[if_neg h];exact⟨_,rfl⟩
def Yes (r:R D):Prop:=∃ s',r=.ok (.bl true) s'
theorem aS4 (s t:Sto):Yes (ab3 s (.bl true) t):=az7 s t true
theorem aG7 {a b:Int}{j:Nat}{d:D}(h:(ar7 a b)[j]?=some d):(j:Int)<b - a/\d=.int (a+j):=by
 have hj:=(ae.mp h).1
 simp only[ar7,aE,fx]at hj
 unfold ar7 at h
 rw[aJ,da hj]at h
 exact⟨by omega,(aC h).symm⟩
def bT7 (P:Pr)(k:Nat):Prop:=∀ ns:List Int,ns.length<=63->Yes ((aa1 P k).call "law" [.ref 0] [.ro (ns.map D.int)])
noncomputable def bx7:Option Int->D
 | none=>.non
 | some i=>.int i
@[simp] theorem bD4:bx7 none=.non:=rfl
@[simp] theorem bz1 (i:Int):bx7 (some i)=.int i:=rfl
@[simp] theorem aX2 (p:Option Int) (n:Nat):(bx7 p).bnd n=true:=by cases p<;>rfl
theorem aZ3 (p:Option Int)(r:Nat):bx7 p≠.ref r:=by cases p<;>nofun
@[simp] theorem by2 {s:Sto} {p:Option Int}:ab3 s (bx7 p) s=.ok (bx7 p) s:=zD (aX2 p) (aZ3 p)
noncomputable def cb3 (b:Nat×Nat):O:=.lst [.int b.1,.int b.2]
@[simp] theorem bO5 (b:Nat×Nat) (n:Nat):(cb3 b).bnd n=true:=rfl
noncomputable def tkW (many:Nat):Nat->Nat->Nat->Nat->Nat×Nat
 | 0,mix,num,_=>(num,mix)
 | n+1,mix,num,room=>if room<many then tkW many n ((mix*48271+7919) % 2147483647) (num*1073741789+(mix*48271+7919) % 2147483647 / 8*69621 % 1073741789) (room*1073741789)else(num,mix)
noncomputable def tk (b:Nat×Nat)(many:Nat):Nat×(Nat×Nat) :=
 if 0<b.1 then(b.1 % many,(b.1 / many,b.2))else let r:=tkW many 12 b.2 0 1;(r.1 % many,(b.1,r.2))
theorem bn5 {s t:Sto}{r:Nat}{o:O}(h:r<s.length):(s++t).set r o=s.set r o++t:=by rw[jB,if_pos h]
theorem zO {s t:Sto}{r:Nat}{o:O}(h:s[r]?=some o):(s++t)[r]?=some o:=by
 rw[aB (ae.mp h).1];exact h
theorem aq6 {s:Sto}{r:Nat}{o:O}(h:r<s.length):(s.set r o)[r]?=some o:=aU h
noncomputable def bd (b:Nat×Nat):Nat×(Nat×Nat) :=
 let x0:=tk b 3
 let x1:=tk x0.2 13
 let x2:=tk x1.2 1000000000
 let x3:=tk x2.2 1000000000000000000000000000000
 let i:=tk x3.2 4
 ([x0.1,x1.1,x2.1,x3.1].getD i.1 0,i.2)
section
variable {F:Fns} {ρ:Env} {s:Sto}
noncomputable def bQ7 (F:Fns)(tg:Tg)(e:E)(d:D)(ρ:Env)(s:Sto):R (Option D×Env):=match ac8 ρ tg d with
 | some ρ=>(ev F e ρ s).bind λ v s=>.ok (some v,ρ) s
 | none=>.bad
noncomputable def bS3 (F:Fns)(tg:Tg)(c e:E)(d:D)(ρ:Env)(s:Sto):R (Option D×Env):=match ac8 ρ tg d with
 | some ρ=>tru (ev F c ρ s) λ k s=>if k then(ev F e ρ s).bind λ v s=>.ok (some v,ρ) s else .ok (none,ρ) s
 | none=>.bad
@[simp] theorem bN9 (tg:Tg) (it:I) (e:E) (h:List (Option Nat)):evL F (.comp tg it e h) ρ s=(evI F it ρ s).bind λ q s0=>if q.its.length<=LIM then ah5 (λ s=>chk s0 s q.src) (bQ7 F tg e) q.its (ad9 ρ h) s0 else .bad:=rfl
@[simp] theorem by0 (tg:Tg) (it:I) (c e:E) (h:List (Option Nat)):evL F (.compIf tg it c e h) ρ s=(evI F it ρ s).bind λ q s0=>if q.its.length<=LIM then ah5 (λ s=>chk s0 s q.src) (bS3 F tg c e) q.its (ad9 ρ h) s0 else .bad:=rfl
@[simp] theorem bM6 (a h:E):ev F (.slU a h) ρ s=(ev F a ρ s).bind λ x s=>(ev F h ρ s).bind λ y s=>match y with|.int i=>slM x none (some i) s|_=>.bad:=rfl
@[simp] theorem bY8 (a h:E):ev F (.slL a h) ρ s=(ev F a ρ s).bind λ x s=>(ev F h ρ s).bind λ y s=>match y with|.int i=>slM x (some i) none s|_=>.bad:=rfl
end
theorem aj8 {k:Int}(h:k<=1000):k<=10^90:=i5 h (by decide)
theorem ai4 {l:List D}(h:∀ d∈l,∀ n,d.bnd n=true)(n:Nat):D.bndL n l=true:=by
 induction l with
 | nil=>rfl
 | cons d l ih=>unfold D.bndL;rw[h d (aw ..),ih λ x hx=>h x (ai _ hx)];rfl
theorem aO0 {k:Nat}(h:k<3)(s:Sto):ixM (.str [97,98,99]) (.int (k:Int)) s=.ok (.str [97+k]) s:=by
 match k,h with
 | 0,_=>rfl
 | 1,_=>rfl
 | 2,_=>rfl
theorem aN8 {a b:List Nat}{s:Sto}(h:a.length+b.length<=LIM):qr .add (.str a) (.str b) s=.ok (.str (a++b)) s:=by
 show(if a.length+b.length<=LIM then _ else _:M D) s=_;rw[if_pos h];rfl
theorem bx4 {a:List Nat}{k:Int}{s:Sto}(h:0<=k/\k<=1000000/\a.length*k.toNat<=LIM):qr .mul (.str a) (.int k) s=.ok (.str (rep k.toNat a)) s:=by
 show(if _ then _ else _:M D) s=_;rw[if_pos h];rfl
def Lts (L:Nat)(w:List Nat):Prop:=∀ c∈w,97<=c/\c<97+L
theorem rep_len (l:List Nat):∀ n,(rep n l).length=l.length*n
 | 0=>by simp[rep]
 | n+1=>by simp[rep,rep_len l n,dw];omega
noncomputable def bE7 (L:Nat)(d:D):Bool:=match d with
 | .str w=>decide (w.length<=200)&&w.all λ c=>decide (97<=c/\c<97+L)
 | _=>false
noncomputable def bx2 (s:Sto):D->Prop
 | .fn _=>False
 | .clo _ _=>False
 | .ref k=>∃ l,s[k]?=some (.lst l)
 | _=>True
@[simp] theorem bY2 {F:Fns} {ρ:Env} {s:Sto} (a:E):ev F (.neg a) ρ s=(ev F a ρ s).bind λ x s=>match x with|.int i=>.ok (.int (-i)) s|_=>.bad:=rfl
structure Dr where
 a:Nat
 l:Nat
 b:Nat
 t:Nat
noncomputable def Dr.d (x:Dr):D:=.tup [.int x.a,.str [x.l],.int x.b,.int x.t]
structure Mc where
 L:Nat
 R:Nat
 bg:List Nat
 en:List Nat
 ds:List Dr
noncomputable def qz (l:List Nat):List D:=l.map λ(k:Nat)=>D.int (k:Int)
noncomputable def sg (w:List Nat):List D:=w.map λ c=>.str [c]
noncomputable def Mc.ps (m:Mc):List D:=[.int m.L,.int m.R,.tup (qz m.bg),.tup (qz m.en),.tup (m.ds.map Dr.d)]
noncomputable def Mc.d (m:Mc):D:=.tup m.ps
structure Dr.Ok (m:Mc)(x:Dr):Prop where
 a:x.a<m.R
 l:97<=x.l/\x.l<97+m.L
 b:x.b<m.R
 t:x.t<4
structure Mc.Ok (m:Mc):Prop where
 L1:1<=m.L
 L3:m.L<=3
 R1:1<=m.R
 R5:m.R<=5
 bg:(∀ k∈m.bg,k<m.R)/\m.bg.Pairwise (· < ·)
 en:(∀ k∈m.en,k<m.R)/\m.en.Pairwise (· < ·)
 ds:(∀ x∈m.ds,x.Ok m)/\m.ds.length<=75
theorem aX9 {l:List Nat}:∀ d∈qz l,∀ n,d.bnd n=true:=λ d hd n=>by
 obtain⟨c,_,rfl⟩:=aW.mp hd;rfl
section
variable {P:Pr}
@[simp] theorem bS4 (a b:Nat) (s:Sto):qD .ne (.str [a]) (.str [b]) s=.ok (.bl (!decide (a=b))) s:=by
 show(match eqv s DEEP (.str [a]) (.str [b])with|some r=>R.ok (D.bl (!r)) s|none=>.bad)=_
 have:eqv s DEEP (.str [a]) (.str [b])=some ([a]==[b]):=rfl
 rw[this]
 have e:([a]==[b])=decide (a=b):=by rw[eF];simp
 rw[e]
@[simp] theorem bR1 (a b:Nat) (s:Sto):qD .eq (.str [a]) (.str [b]) s=.ok (.bl (decide (a=b))) s:=by
 show(match eqv s DEEP (.str [a]) (.str [b])with|some r=>R.ok (D.bl r) s|none=>.bad)=_
 have:eqv s DEEP (.str [a]) (.str [b])=some ([a]==[b]):=rfl
 rw[this]
 have e:([a]==[b])=decide (a=b):=by rw[eF];simp
 rw[e]
end
theorem good_of {L:Nat}{w:List Nat}(h:w.length<=200)(hw:Lts L w):bE7 L (.str w)=true:=by
 unfold bE7
 simp only[h,decide_true,fJ,aG,decide_eq_true_eq]
 exact hw
theorem aG1 (l:List D):∀ n,(aj0 n l).length=l.length*n
 | 0=>by simp[aj0]
 | n+1=>by simp[aj0,aG1 l n,dw];omega
theorem aT2 {a b:List D}{s:Sto}(h:a.length+b.length<=LIM):qr .add (.tup a) (.tup b) s=.ok (.tup (a++b)) s:=by
 show(if a.length+b.length<=LIM then _ else _:M D) s=_;rw[if_pos h];rfl
@[simp] theorem bV6 {F:Fns} {ρ:Env} {s:Sto} (a h B:E):ev F (.slLU a h B) ρ s=(ev F a ρ s).bind λ x s=>(ev F h ρ s).bind λ y s=>match y with|.int i=>(ev F B ρ s).bind (λ z s=>match z with|.int j=>slM x (some i) (some j) s|_=>.bad)|_=>.bad:=rfl
noncomputable def z8 (N:Int):O:=.lst [.int N]
theorem aH1 {s:Sto}{r:Nat}(h:∃ N,s[r]?=some (z8 N)):r<s.length:=by obtain⟨b,hb⟩:=h;exact(ae.mp hb).1
theorem ao7 {s:Sto}{r:Nat}{b:Int}(h:r<s.length):∃ y,(s.set r (z8 b))[r]?=some (z8 y):=⟨b,aq6 h⟩
theorem aj9 {P:Pr}[Has P ac7](n:Nat){s:Sto}{r:Nat}(hs:∃ N,s[r]?=some (z8 N))(many:Int)(h0:0<many)(h:many<=10^90) :
  ∃(k:Nat) (N:Int),(k:Int)<many/\(aa1 P (n+1)).call "_law_draw" [.ref r,.int many] s=.ok (.int k) (s.set r (z8 N)):=by
 obtain⟨N,hN⟩:=hs
 have G:(aa1 P (n+1)).call "_law_draw" [.ref r,.int many] s=_:=zL ac7 (n:=n) rfl
 have B:many<10^200:=by
  have:(10:Int)^90<10^200:=by decide +kernel
  omega
 have Y:=jC N (show many≠0 by omega)
 have J:=iQ N h0
 refine⟨(N % many).toNat,N / many,by omega,?_⟩
 rw[G]
 have y:s[r]?=some (.lst [.int N]):=hN
 simp -implicitDefEqProofs [ac7,ixM,y,ixn,aA4 h0,ap6 h0 B,setIx]
 rw[show max (N % many) 0=N % many by omega]
 exact aJ7 (λ _=>rfl) (by nofun) rfl
def bX9 (s:Sto)(x:R D):Prop:=∃ N:Int,x=.ok (.ref s.length) (s++[z8 N])
theorem bK9 {P:Pr}[Has P ah6](n:Nat)(ns:List Int)(k:Nat){s:Sto}{r:Nat}(hs:s[r]?=some (.ro (ns.map D.int))) :
  ∃ N:Int,(aa1 P (n+1)).call "_law_box" [.ref r,.int k] s=.ok (.ref s.length) (s++[z8 N]):=by
 have e0:(aa1 P (n+1)).call "_law_box" [.ref r,.int k] s=_:=zL ah6 (n:=n) rfl
 have h:bi .len [.ref r] s=.ok (.int ns.length) s:=by rw[bi6 hs,aE]
 have m1:∀ a:Int,mulOk 7919 a=true:=λ a=>aq9 (by decide)
 have m2:∀ a:Int,mulOk a 48271=true:=λ a=>aR9 (by decide)
 have Z:∀ a:Int,mulOk 104729 a=true:=λ a=>aq9 (by decide)
 have m4:∀ a:Int,mulOk a 2147483647=true:=λ a=>aR9 (by decide)
 have m5:∀ a:Int,mulOk 31 a=true:=λ a=>aq9 (by decide)
 have Y:∀ a:Int,mulOk (a % 2147483647) (a % 2147483647)=true:=λ a=>aq9 (by
  have h1:=jC a (show(2147483647:Int)≠0 by decide)
  have h2:=iQ a (show(0:Int)<2147483647 by decide)
  omega)
 have J:∀ N:Int,ab3 s (.ref s.length) (s++[.lst [.int N]])=.ok (.ref s.length) (s++[z8 N]):=λ N=>by
  have:=ay4 (s:=s) (t:=[]) (u:=[]) (o:=z8 N) rfl
  simp only[ci,ka,eA]at this
  exact this
 have B:∀ c:Int,bX9 s ((exs (aa1 P n) (.cons (.ite (.cmp .ge (.var 2) (.bin .pow (.cst (.int 10)) (.cst (.int 18)))) (.cons (.ret (.lst (.cons (.var 2) .nil))) .nil) .nil) (.cons (.asg (.one 3) (.cst (.int 0))) (.cons (.for_ (.one 4) (.rng1 (.cst (.int 128))) (.cons (.asg (.one 5) (.bin .mod (.bin .mul (.bin .add (.bin .add (.bin .add (.bin .mod (.var 2) (.cst (.int 2147483647))) (.bin .mul (.cst (.int 7919)) (.var 1))) (.bin .mul (.cst (.int 104729)) (.var 4))) (.cst (.int 97))) (.cst (.int 48271))) (.cst (.int 2147483647)))) (.cons (.asg (.one 3) (.bin .add (.bin .mul (.var 3) (.cst (.int 2147483647))) (.bin .mod (.bin .add (.bin .add (.bin .mul (.var 5) (.var 5)) (.bin .mul (.cst (.int 31)) (.var 4))) (.bin .fdiv (.var 2) (.cst (.int 2147483647)))) (.cst (.int 2147483647))))) .nil))) (.cons (.ret (.lst (.cons (.var 3) .nil))) .nil))))
   [some (.ref r),some (.int k),some (.int c),none,none,none] s).bind (fin s)):=by
  intro c
  by_cases hc:(10:Int)^18<=c
  ·have G:(1000000000000000000:Int)<=c:=hc
   exact⟨c,by simp -implicitDefEqProofs [aB4,G,J]⟩
  ·have G:¬(1000000000000000000:Int)<=c:=hc
   simp -implicitDefEqProofs [aB4,G]
   rw[ar1 (by decide) (by decide)]
   simp only[R.bind_ok]
   refine aq5 (W:=bX9 s) (λ j ρ t=>t=s/\∃(N:Int) (x y:Option D),ρ=[some (.ref r),some (.int k),some (.int c),some (.int N),x,y]) ⟨rfl,0,_,_,rfl⟩ (λ _ _ _ _ _=>rfl) ?_ ?_
   ·rintro j d ρ t hj ⟨rfl,N,x,y,rfl⟩
    obtain⟨_,rfl⟩:=aG7 hj
    conv=>arg 2;simp -implicitDefEqProofs [turn,ad7 (m1 _),ad7 (m2 _),ad7 (Z _),ad7 (m4 _),ad7 (m5 _),ad7 (Y _),aA4,ap6]
    exact⟨rfl,_,_,_,rfl⟩
   ·rintro ρ t ⟨rfl,N,x,y,rfl⟩
    exact⟨N,by simp -implicitDefEqProofs [J]⟩
 rw[e0]
 by_cases hk:k<ns.length
 ·have hx:ixM (.ref r) (.int k) s=.ok (.int (ns.getD k 0)) s:=bR8 hs (by simp[hk])
  obtain⟨N,e⟩:=B (if ns.getD k 0<0 then -ns.getD k 0 else ns.getD k 0)
  refine⟨N,?_⟩
  rw[<-e]
  simp -implicitDefEqProofs [ah6,h,hk,hx]
 ·obtain⟨N,e⟩:=B 0
  refine⟨N,?_⟩
  rw[<-e]
  simp -implicitDefEqProofs [ah6,h,hk]
theorem aU6 {s:Sto}{d:D}(h:bx2 s d)(w:List Nat):∃ b:Bool,qD .eq d (.str w) s=.ok (.bl b) s/\(b=true↔d=.str w):=by
 cases d with
 | str v=>exact⟨v==w,rfl,by
   rw[beq_iff_eq]
   constructor
   ·intro h;rw[h]
   ·intro h;cases h;rfl⟩
 | ref k =>
  obtain⟨l,e⟩:=h
  refine⟨false,?_,by constructor<;>intro h<;>cases h⟩
  have:eqv s DEEP (.ref k) (.str w)=some false:=by
   show ac9 s (.ref k) (.str w)=_
   unfold ac9 ax4
   simp only[kd,e];rfl
  simp only[qD,eqM,this]
 | fn _=>exact h.elim
 | clo _ _=>exact h.elim
 | _=>exact⟨false,rfl,by constructor<;>intro h<;>cases h⟩
@[simp] theorem bN3 {F:Fns} {ρ:Env} {s:Sto} (e:E):evI F (.enum (.seq e)) ρ s=(ev F e ρ s).bind λ d s=>(bd9 d s).bind λ q s=>.ok ⟨bs3 0 q.its,q.src⟩ s:=rfl
theorem qF (v w:List Nat)(s:Sto):qD .eq (.str v) (.str w) s=.ok (.bl (decide (v=w))) s:=by
 obtain⟨b,e,q⟩:=aU6 (s:=s) (d:=.str v) trivial w
 rw[e]
 congr 2
 rw[eF,q,decide_eq_true_iff]
 constructor
 ·intro h;cases h;rfl
 ·intro h;rw[h]
theorem qI {P:Pr}[Has P ac7](n:Nat){s t:Sto}{r:Nat}(B:r<s.length)(b:Int)(many:Int)(h0:0<many)(h:many<=10^90) :
  ∃(k:Nat) (y:Int),(k:Int)<many/\(aa1 P (n+1)).call "_law_draw" [.ref r,.int many] (s.set r (z8 b)++t)=.ok (.int k) (s.set r (z8 y)++t):=by
 obtain⟨k,y,J,G⟩:=aj9 (P:=P) n (s:=s.set r (z8 b)++t) (r:=r) ⟨b,zO (aq6 B)⟩ many h0 h
 refine⟨k,y,J,?_⟩
 rw[G,bn5 (by rw[br];exact B),eO]
theorem aQ5 {s t:Sto}{r:Nat}{b:Int}{l:List D}{v:D}(h:l.length<LIM):meth .append (.ref s.length) [v] (s.set r (z8 b)++(.lst l::t))=.ok .non (s.set r (z8 b)++(.lst (l++[v])::t)):=by
 rw[ag4 (l:=l) (by rw[aF (by simp)];simp) h]
 congr 1
 rw[jB,if_neg (by simp)]
 simp
noncomputable def ae4:Ss:=(.cons (.ite (.and (.cmp .gt (.var 5) (.cst (.int 0))) (.and (.cmp .lt (.var 6) (.cst (.int 3))) (.cmp .gt (.var 3) (.cst (.int 0))))) (.cons (.ex (.meth .append (.var 4) (.cons (.tup (.cons (.cst (.str [116,105,109,101,115])) (.cons (.bi .min2 (.cons (.var 7) (.cons (.bin .sub (.var 5) (.cst (.int 1))) .nil))) (.cons (.var 9) .nil)))) .nil))) (.cons (.asg (.one 3) (.bin .sub (.var 3) (.cst (.int 1)))) .nil)) (.cons (.ite (.and (.cmp .gt (.var 5) (.cst (.int 0))) (.cmp .lt (.var 6) (.cst (.int 5)))) (.cons (.ex (.meth .append (.var 4) (.cons (.tup (.cons (.cst (.str [112,97,105,114])) (.cons (.bi .min2 (.cons (.var 7) (.cons (.bin .sub (.var 5) (.cst (.int 1))) .nil))) (.cons (.bi .min2 (.cons (.var 8) (.cons (.bin .sub (.var 5) (.cst (.int 1))) .nil))) .nil)))) .nil))) .nil) (.cons (.ex (.meth .append (.var 4) (.cons (.tup (.cons (.cst (.str [108,101,116,116,101,114])) (.cons (.ix (.cst (.str [97,98,99])) (.bin .mod (.var 7) (.var 1))) .nil))) .nil))) .nil)) .nil)) .nil)
noncomputable def row (m:Nat)(f:Nat->Int):List D:=(aN m).map λ j=>.int (f j)
@[simp] theorem bP2 {m:Nat} {f:Nat->Int}:(row m f).length=m:=by unfold row;simp
theorem bv8 {l:List D}(s:Sto):aG3 (.tup l) s=.ok ⟨l,[]⟩ s:=rfl
theorem aG0 (n:Nat):(ar7 0 (n:Int)).length=n:=by simp[ar7]
theorem aj6 {n j:Nat}{d:D}(h:(ar7 0 (n:Int))[j]?=some d):j<n/\d=.int (j:Int):=by
 obtain⟨y,rfl⟩:=aG7 h
 exact⟨by omega,by rw[Int.zero_add]⟩
theorem bo1 {s t:Sto}{l:List D}{v:D}(h:l.length<LIM):meth .append (.ref s.length) [v] (s++.lst l::t)=.ok .non (s++.lst (l++[v])::t):=by
 rw[ag4 (l:=l) (by rw[aF (aj _)];simp) h,gI _ _ (aj _)]
 simp
noncomputable def prN (f g:Nat->Nat->Int)(i j:Nat):Nat->Int
 | 0=>3
 | k+1=>if f i k<3 then(let b:=(if g k j > f i k then g k j else f i k);if b<prN f g i j k then b else prN f g i j k)else prN f g i j k
noncomputable def pr (m:Nat)(f g:Nat->Nat->Int)(i j:Nat):Int:=prN f g i j m
noncomputable def bK3 (m:Nat)(f:Nat->Nat->Int):Sto:=(aN m).map λ i=>.lst (row m (f i))
@[simp] theorem bF3 {m:Nat} {f:Nat->Nat->Int}:(bK3 m f).length=m:=by unfold bK3;simp
noncomputable def cc7 (p m:Nat):List D:=(aN m).map λ i=>.ref (p+i)
@[simp] theorem bQ6 {F:Fns} {ρ:Env} {s:Sto} (a b:E):evI F (.zip (.seq a) (.seq b)) ρ s=(ev F a ρ s).bind λ x s=>(ev F b ρ s).bind λ y s=>(aJ8 x s).bind λ p s=>(aJ8 y s).bind λ q s=>.ok ⟨bO9 p.its q.its,p.src++q.src⟩ s:=rfl
theorem ix_str {l:List Nat}{j c:Nat}{s:Sto}(hj:l[j]?=some c):ixM (.str l) (.int (j:Int)) s=.ok (.str [c]) s:=by
 have hl:j<l.length:=(ae.mp hj).1
 have e:l[j]=c:=(ae.mp hj).2
 simp[ixM,ixn,hl,e]
noncomputable def shN (f:Nat->Nat->Int)(i j:Nat):Nat->Int
 | 0=>3
 | k+1=>let b:=max (max (f i k) (if f k k=1 then 2 else f k k)) (f k j);if b<shN f i j k then b else shN f i j k
noncomputable def sh (m:Nat)(f:Nat->Nat->Int)(i j:Nat):Int:=shN f i j m
theorem qW {s:Sto}{l:List D}{v:D}(h:l.length<LIM):meth .append (.ref s.length) [v] (s++[.lst l])=.ok .non (s++[.lst (l++[v])]):=bo1 (t:=[]) h
def EqG (m:Nat)(f g:Nat->Nat->Int):Prop:=∀ i j,i<m->j<m->f i j=g i j
inductive Stp where
 | let_ (c:Nat)|pair (i j:Nat)|sharp (i:Nat)
noncomputable def bN1:List Nat:=[108,101,116,116,101,114]
noncomputable def aB0:List Nat:=[112,97,105,114]
noncomputable def aj2:List Nat:=[116,105,109,101,115]
noncomputable def Stp.d:Stp->D
 | .let_ c=>.tup [.str [108,101,116,116,101,114],.str [c]]
 | .pair i j=>.tup [.str [112,97,105,114],.int i,.int j]
 | .sharp i=>.tup [.str [115,104,97,114,112],.int i]
theorem af9 {l:List D}(h:∀ d∈l,d.ncl=true):D.nclL l=true:=by
 induction l with
 | nil=>rfl
 | cons d l ih=>unfold D.nclL;rw[h d (aw ..),ih λ x hx=>h x (ai _ hx)];rfl
theorem bb9 {l:List Nat}:D.nclL (qz l)=true:=af9 λ d hd=>by obtain⟨x,_,rfl⟩:=aW.mp hd;rfl
theorem aX4 {l:List Int}:D.nclL (l.map D.int)=true:=af9 λ d hd=>by obtain⟨x,_,rfl⟩:=aW.mp hd;rfl
theorem bp0 {s:Sto}{r:Nat}{o:O}(h:s.all O.ncl=true)(ho:o.ncl=true):(s.set r o).all O.ncl=true:=by
 rw[aG]at h ⊢
 intro x hx
 rcases fh hx with h1|h1
 ·exact h x h1
 ·rw[h1];exact ho
section
variable {s:Sto} {r:Nat} {b:Int} {A B C:List D} {T:Sto}
end
section
variable {m:Nat} {f:Nat->Nat->Int} {x:Int}
end
noncomputable def bV7 (a c:Int)(vs:List Int):Stp->Int
 | .let_ _=>a
 | .pair i j=>vs.getD i 0+vs.getD j 0
 | .sharp i=>vs.getD i 0*c
noncomputable def vl (a c:Int)(l:List Stp):List Int:=l.foldl (λ vs x=>vs++[bV7 a c vs x]) []
theorem at8 {α:Type}{l:List α}{k:Nat}{x:α}(h:l[k]?=some x):l.take (k+1)=l.take k++[x]:=by
 rw[List.take_succ,h];rfl
noncomputable def TB:Int:=2^(2+104*99)
theorem ba3 {a b:Nat}(h:a<=b):(2:Int)^a<=2^b:=by
 have y:(2:Nat)^a<=2^b:=bX (by decide) h
 have:((2^a:Nat):Int)<=((2^b:Nat):Int):=by exact_mod_cast y
 simpa using this
theorem bG6 {v:Int}(h0:0<=v)(h:v<=TB+100000):v.natAbs<BIG:=by
 have B:TB+100000<2^11000:=by unfold TB;decide +kernel
 have y:(2:Nat)^11000<=BIG:=by unfold BIG;exact bX (by decide) (by decide)
 have G:((2^11000:Nat):Int)=(2:Int)^11000:=by push_cast;rfl
 omega
theorem bS8 {c:Int}(h0:0<=c)(h:c<=2^103):c.natAbs<BIG:=bG6 h0 (i5 h (by
 have:(2:Int)^103<=TB:=by unfold TB;exact ba3 (by omega)
 omega))
theorem bp1 {a b:Int}(y:a.natAbs<BIG)(h:b.natAbs<BIG):mulOk a b=true:=by
 unfold mulOk;simp[y,h]
section
variable {F:Fns} {ρ:Env} {s:Sto}
noncomputable def apV (F:Fns)(d:D)(l:List D)(s:Sto):R D:=match d with
 | .fn f=>F.call f l s
 | .clo id cs=>F.lam id cs l s
 | _=>.bad
theorem ar2 {i:Nat}{d:D}(es:Es)(h:ρ[i]?=some (some d)):ev F (.callV i es) ρ s=(evs F es ρ s).bind λ l s=>apV F d l s:=by
 show(evs F es ρ s).bind (λ l s=>match ρ[i]? with
  | some (some (.fn f))=>F.call f l s
  | some (some (.clo id cs))=>F.lam id cs l s
  | _=>.bad)=_
 rw[h]
 cases d<;>rfl
theorem aD5 {id:String}{y:List Nat}{cs:List D}(B:As)(h:ae1 ρ y=some cs):ag3 F (.lam id y B) ρ s=(ag3 F B ρ s).bind λ l s=>.ok (.clo id cs::l) s:=by
 show(match ae1 ρ y with
  | some cs=>(ag3 F B ρ s).bind λ l s=>R.ok (D.clo id cs::l) s
  | none=>.bad)=_
 rw[h]
end
theorem ah9 {s:Sto}{o:O}(h:s.all O.ncl=true)(ho:o.ncl=true):(s++[o]).all O.ncl=true:=by rw[List.all_append,h];simp[ho]
noncomputable def Stp.t (c:Int):Stp->D
 | .sharp i=>.tup [.str [116,105,109,101,115],.int i,.int c]
 | x=>x.d
theorem ax2 {s:Sto}{o:O}(ho:o.bnd s.length=true):ab3 s (.ref s.length) (s++[o])=.ok (.ref s.length) (s++[o]):=by
 have:=ay4 (s:=s) (t:=[]) (u:=[]) ho
 simpa using this
def InG (m:Nat)(f:Nat->Nat->Int):Prop:=∀ i j,i<m->j<m->0<=f i j/\f i j<=3
section
variable {P:Pr} [Has P qi] [Has P zE] [HasL P zo]
end
def cb2 (m:Nat)(f:Nat->Nat->Int):Prop:=EqG m (pr m f f) f
section
variable {P:Pr} [Has P qi] [Has P zE] [HasL P zo] [Has P jg]
variable [Has P an2] [Has P ak6] [HasL P jb] [HasC P "FREE" (.int 0)] [HasC P "UNBOUND" (.int 2)] [HasC P "NONE" (.int 3)]
end
section
variable {P:Pr} [Has P qi] [Has P zE] [HasL P zo] [Has P jg] [Has P jc]
end
inductive Rst where
 | let_ (c:Nat)|pair (i j:Nat)|times (i n:Nat)
noncomputable def Rst.d:Rst->D
 | .let_ c=>.tup [.str [108,101,116,116,101,114],.str [c]]
 | .pair i j=>.tup [.str [112,97,105,114],.int i,.int j]
 | .times i n=>.tup [.str [116,105,109,101,115],.int i,.int n]
theorem Rst.bnd (x:Rst)(n:Nat):x.d.bnd n=true:=by cases x<;>rfl
noncomputable def bQ0 (k:Nat):Rst->Prop
 | .let_ c=>97<=c/\c<100
 | .pair i j=>i<k/\j<k
 | .times i n=>i<k/\1<=n/\n<=10^30
def ab8 (l:List Rst):Prop:=∀ k x,l[k]?=some x->bQ0 k x
theorem ab8.nil:ab8 []:=λ k x h=>by cases h
theorem ab8.snoc {l:List Rst}{x:Rst}(h:ab8 l)(hx:bQ0 l.length x):ab8 (l++[x]):=λ k y e=>by
 by_cases hk:k<l.length
 ·rw[aB hk]at e;exact h k y e
 ·have B:=(ae.mp e).1
  simp at B
  have:k=l.length:=by omega
  subst this
  rw[aF (aj _),gu]at e
  cases e;exact hx
noncomputable def ar4:Ss->Ss:=λ t=>(.cons (.asg (.one 6) (.call "_law_draw" (.ex (.var 0) (.ex (.cst (.int 6)) .nil)))) (.cons (.asg (.one 7) (.call "_law_draw" (.ex (.var 0) (.ex (.bin .add (.var 5) (.cst (.int 1))) .nil)))) (.cons (.asg (.one 8) (.call "_law_draw" (.ex (.var 0) (.ex (.bin .add (.var 5) (.cst (.int 1))) .nil)))) (.cons (.asg (.one 9) (.bin .add (.cst (.int 1)) (.call "_law_draw" (.ex (.var 0) (.ex (.cst (.int 6)) .nil))))) (.cons (.ite (.cmp .eq (.call "_law_draw" (.ex (.var 0) (.ex (.cst (.int 3)) .nil))) (.cst (.int 2))) (.cons (.asg (.one 9) (.bin .add (.cst (.int 1)) (.call "_law_draw" (.ex (.var 0) (.ex (.bin .pow (.cst (.int 10)) (.cst (.int 30))) .nil))))) .nil) .nil) t)))))
noncomputable def aW7 (s:Sto)(r:Nat)(most z:Int)(x5 x6 x7 x8 x9:Option D):Env:=[some (.ref r),some (.int 3),some (.int most),some (.int z),some (.ref s.length),x5,x6,x7,x8,x9]
theorem aI9 {F:Fns}{s:Sto}{r:Nat}{b most z:Int}{k way one other many:Nat}{l:List Rst}(hl:l.length=k)(hk:k<1000)(h1:one<k+1)(h2:other<k+1)(hm:1<=many)(hm2:many<=10^30) :
  ∃(x:Rst) (z':Int),bQ0 k x/\exs F ae4 (aW7 s r most z (some (.int k)) (some (.int way)) (some (.int one)) (some (.int other)) (some (.int many))) (s.set r (z8 b)++[.lst (l.map Rst.d)])=.ok (.next (aW7 s r most z' (some (.int k)) (some (.int way)) (some (.int one)) (some (.int other)) (some (.int many)))) (s.set r (z8 b)++[.lst ((l++[x]).map Rst.d)]):=by
 have ap:∀ v,meth .append (.ref s.length) [v] (s.set r (z8 b)++[.lst (l.map Rst.d)])=.ok .non (s.set r (z8 b)++[.lst (l.map Rst.d++[v])]):=λ v=>aQ5 (by unfold LIM;rw[aE];omega)
 have h:∀ a:Nat,0<k->(if(k:Int) - 1<(a:Int)then(k:Int) - 1 else(a:Int))=((min a (k - 1):Nat):Int):=λ a _=>by omega
 unfold ae4 aW7
 by_cases hA:0<k/\(way:Int)<3/\(0:Int)<z
 ·obtain⟨y,B,J⟩:=hA
  have G:(0:Int)<(k:Int):=by omega
  refine⟨.times (min one (k - 1)) many,z - 1,⟨by omega,hm,hm2⟩,?_⟩
  simp -implicitDefEqProofs only[zl,zy,qB,ev_and,qm,zw,zN,zR,qO,zu,zv,R.bind_ok,gt_int,lt_int,G,B,J,decide_true,zX,if_true,ex_ex,qy,zI,zJ,ev_tup,ev_bi,ev_bin,sub_int,ae6,h one y,ap,zr,ex_asg,zt,qx,qv,bh,ql,bt]
  rfl
 ·have Y:ev F (.and (.cmp .gt (.var 5) (.cst (.int 0))) (.and (.cmp .lt (.var 6) (.cst (.int 3))) (.cmp .gt (.var 3) (.cst (.int 0))))) [some (.ref r),some (.int 3),some (.int most),some (.int z),some (.ref s.length),some (.int k),some (.int way),some (.int one),some (.int other),some (.int many)] (s.set r (z8 b)++[.lst (l.map Rst.d)])=.ok (.bl false) (s.set r (z8 b)++[.lst (l.map Rst.d)]):=by
   by_cases y:(0:Int)<(k:Int)
   ·by_cases B:(way:Int)<3
    ·have J:¬(0:Int)<z:=λ q=>hA ⟨by omega,B,q⟩
     simp -implicitDefEqProofs only[ev_and,qm,zw,zN,zR,zu,zv,R.bind_ok,gt_int,lt_int,y,B,J,decide_true,decide_false,zX,if_true]
    ·simp -implicitDefEqProofs only[ev_and,qm,zw,zN,zR,zu,zv,R.bind_ok,gt_int,lt_int,y,B,decide_true,decide_false,zX,if_true,if_false,bf]
   ·simp -implicitDefEqProofs only[ev_and,qm,zw,zN,zR,zu,zv,R.bind_ok,gt_int,y,decide_false,zX,if_false,bf]
  by_cases hB:0<k/\(way:Int)<5
  ·obtain⟨y,B⟩:=hB
   have G:(0:Int)<(k:Int):=by omega
   refine⟨.pair (min one (k - 1)) (min other (k - 1)),z,⟨by omega,by omega⟩,?_⟩
   rw[zl,qB,Y]
   simp -implicitDefEqProofs only[zX,if_false,bf,zl,zy,qB,ev_and,qm,zw,zN,zR,qO,zu,zv,R.bind_ok,gt_int,lt_int,G,B,decide_true,if_true,ex_ex,qy,zI,zJ,ev_tup,ev_bi,ev_bin,sub_int,ae6,h one y,h other y,ap,zr,bt]
   rfl
  ·have c2:ev F (.and (.cmp .gt (.var 5) (.cst (.int 0))) (.cmp .lt (.var 6) (.cst (.int 5)))) [some (.ref r),some (.int 3),some (.int most),some (.int z),some (.ref s.length),some (.int k),some (.int way),some (.int one),some (.int other),some (.int many)] (s.set r (z8 b)++[.lst (l.map Rst.d)])=.ok (.bl false) (s.set r (z8 b)++[.lst (l.map Rst.d)]):=by
    by_cases y:(0:Int)<(k:Int)
    ·have B:¬(way:Int)<5:=λ q=>hB ⟨by omega,q⟩
     simp -implicitDefEqProofs only[ev_and,qm,zw,zN,zR,zu,zv,R.bind_ok,gt_int,lt_int,y,B,decide_true,decide_false,zX,if_true]
    ·simp -implicitDefEqProofs only[ev_and,qm,zw,zN,zR,zu,zv,R.bind_ok,gt_int,y,decide_false,zX,if_false,bf]
   have Z:((one:Int) % 3)=((one % 3:Nat):Int):=by omega
   refine⟨.let_ (97+one % 3),z,⟨by omega,by omega⟩,?_⟩
   rw[zl,qB,Y]
   simp -implicitDefEqProofs only[zX,if_false,bf,zl,zy,qB,c2,ex_ex,qy,zI,zJ,ev_tup,ev_ix,ev_bin,zw,zN,zR,qO,zu,zv,R.bind_ok,aA4 (show(0:Int)<3 by decide),Z,aO0 (show one % 3<3 by omega),ap,zr,bt]
   rfl
def bY1 (s:Sto)(r most:Nat)(x:R D):Prop:=∃(l:List Rst) (b:Int),ab8 l/\1<=l.length/\l.length<=most/\x=.ok (.tup (l.map Rst.d)) (s.set r (z8 b))
theorem aS1 {P:Pr}[Has P ac7][Has P ac2](n:Nat){s:Sto}{r:Nat}(hs:∃ b,s[r]?=some (z8 b))(most:Nat)(h0:1<=most)(hm:most<=500)(z:Int):bY1 s r most ((aa1 P (n+2)).call "_law_recipe" [.ref r,.int 3,.int most,.int z] s):=by
 have e0:(aa1 P (n+2)).call "_law_recipe" [.ref r,.int 3,.int most,.int z] s=_:=zL ac2 (n:=n+1) rfl
 have body:ac2.body=.cons (.asg (.one 4) (.lst .nil)) (.cons (.for_ (.one 5) (.rng1 (.bin .add (.cst (.int 1)) (.call "_law_draw" (.ex (.var 0) (.ex (.var 2) .nil))))) (ar4 ae4)) (.cons (.ret (.mk .tuple (.seq (.var 4)))) .nil)):=rfl
 have B:=aH1 hs
 obtain⟨b0,a1⟩:=hs
 have es:s.set r (z8 b0)=s:=by
  rw[show z8 b0=s[r]from((ae.mp a1).2).symm,List.set_getElem_self]
 obtain⟨d,b1,hd,ed⟩:=qI (P:=P) n (t:=[.lst []]) B b0 most (by omega) (aj8 (by omega))
 rw[es]at ed
 have key:=ai8 (ok:=λ s1=>chk (s.set r (z8 b1)++[O.lst []]) s1 []) (g:=turn (aa1 P (n+1)) (.one 5) (ar4 ae4)) (λ k ρ t=>∃(l:List Rst) (b:Int) (z:Int) (Z x6 x7 x8 J:Option D),ab8 l/\l.length=k/\ρ=aW7 s r most z Z x6 x7 x8 J/\t=s.set r (z8 b)++[.lst (l.map Rst.d)]) (ar7 0 ((d+1:Nat):Int)) 0 (aW7 s r most z none none none none none) (s.set r (z8 b1)++[O.lst []]) ⟨[],b1,z,none,none,none,none,none,.nil,rfl,rfl,rfl⟩ (λ _ _ _ _ _=>rfl) (by
  rintro k dd ρ t hk ⟨l,b,z,Z,x6,x7,x8,J,hl,h,rfl,rfl⟩
  have a2:=(aj6 hk).1
  rw[(aj6 hk).2,cw]at *
  obtain⟨way,c1,_,f1⟩:=qI (P:=P) n (t:=[.lst (l.map Rst.d)]) B b 6 (by decide) (by decide)
  obtain⟨one,c2,h1,f2⟩:=qI (P:=P) n (t:=[.lst (l.map Rst.d)]) B c1 ((k:Int)+1) (by omega) (aj8 (by omega))
  obtain⟨other,c3,h2,f3⟩:=qI (P:=P) n (t:=[.lst (l.map Rst.d)]) B c2 ((k:Int)+1) (by omega) (aj8 (by omega))
  obtain⟨q4,c4,h4,f4⟩:=qI (P:=P) n (t:=[.lst (l.map Rst.d)]) B c3 6 (by decide) (by decide)
  obtain⟨q5,c5,h5,f5⟩:=qI (P:=P) n (t:=[.lst (l.map Rst.d)]) B c4 3 (by decide) (by decide)
  obtain⟨q6,c6,h6,f6⟩:=qI (P:=P) n (t:=[.lst (l.map Rst.d)]) B c5 (10^30) (by decide) (by decide)
  have G:∀ s:Sto,qr .pow (.int 10) (.int 30) s=.ok (.int (10^30)) s:=λ s=>aB4 (by decide)
  obtain⟨many,Y,hm1,hm2,eh⟩:∃(many:Nat) (Y:Int),1<=many/\many<=10^30/\turn (aa1 P (n+1)) (.one 5) (ar4 ae4) (.int k) (aW7 s r most z Z x6 x7 x8 J) (s.set r (z8 b)++[.lst (l.map Rst.d)])=exs (aa1 P (n+1)) ae4 (aW7 s r most z (some (.int k)) (some (.int way)) (some (.int one)) (some (.int other)) (some (.int many))) (s.set r (z8 Y)++[.lst (l.map Rst.d)]):=by
   unfold turn ar4 aW7
   generalize ae4=rt
   by_cases h52:(q5:Int)=2
   ·refine⟨q6+1,c6,by omega,by omega,?_⟩
    simp -implicitDefEqProofs only[zt,qx,qv,bh,zl,zy,ex_asg,ev_call,jd,qZ,zw,ev_bin,zN,zR,zu,zv,R.bind_ok,f1,f2,f3,f4,add_int,ql,zr,qB,qm,f5,eq_int,h52,decide_true,zX,if_true,G,f6,show((1:Int)+(q6:Int))=((q6+1:Nat):Int)by omega]
   ·refine⟨q4+1,c5,by omega,?_,?_⟩
    ·have:q4+1<=6:=by omega
     exact ao this (by decide)
    ·simp -implicitDefEqProofs only[zt,qx,qv,bh,zl,zy,ex_asg,ev_call,jd,qZ,zw,ev_bin,zN,zR,zu,zv,R.bind_ok,f1,f2,f3,f4,add_int,ql,zr,qB,qm,f5,eq_int,h52,decide_false,bf,zX,if_false,show((1:Int)+(q4:Int))=((q4+1:Nat):Int)by omega]
  obtain⟨x,z',hx,et⟩:=aI9 (F:=aa1 P (n+1)) (s:=s) (r:=r) (b:=Y) (most:=most) (z:=z) (k:=k) (way:=way) (one:=one) (other:=other) (many:=many) (l:=l) h (by omega) (by omega) (by omega) hm1 hm2
  exact⟨_,_,.inl (eh.trans et),l++[x],Y,z',_,_,_,_,_,hl.snoc (by rw[h];exact hx),by simp[h],rfl,rfl⟩)
 obtain⟨ρ',s',ek,l,b,z',Z,x6,x7,x8,J,hl,h,rfl,rfl⟩:=key
 rw[aG0,cw]at h
 have a0:(s.set r (z8 b)++[O.lst (l.map Rst.d)])[s.length]?=some (.lst (l.map Rst.d)):=by rw[aF (by simp)];simp
 refine⟨l,b,hl,by omega,by omega,?_⟩
 rw[e0,body,show(cV some [D.ref r,.int 3,.int most,.int z]++ar ac2.vs none)=[some (D.ref r),some (.int 3),some (.int most),some (.int z),none,none,none,none,none,none]from rfl]
 simp -implicitDefEqProofs only[zl,zy,ex_asg,ev_lst,zJ,R.bind_ok,alloc_eq,zt,qx,qv,bh,ql,zr,ex_for,evI_rng1,ev_bin,zN,zR,ev_call,jd,qZ,zw,zu,zv,ed,add_int,show((1:Int)+(d:Int))=((d+1:Nat):Int)by omega]
 rw[ar1 (by unfold W62;omega) (by unfold W62;omega)]
 simp only[R.bind_ok]
 rw[show([some (D.ref r),some (.int 3),some (.int most),some (.int z),some (.ref s.length),none,none,none,none,none]:Env)=aW7 s r most z none none none none none from rfl,ek]
 unfold aW7
 simp -implicitDefEqProofs only[R.bind_ok,zr,zl,zy,ex_ret,ev_mk,evL_seq,zw,zu,zv,bo2,a0,mk,nxt_ret,fin_ret]
 refine al2 (λ m=>?_) (by nofun) rfl
 unfold D.bnd
 exact ai4 (λ x hx n=>by obtain⟨y,_,rfl⟩:=aW.mp hx;exact y.bnd n) m
theorem rl0 {ch:Nat}{s:Sto}:ixM (Rst.let_ ch).d (.int 0) s=.ok (.str bN1) s:=rfl
theorem rl1 {ch:Nat}{s:Sto}:ixM (Rst.let_ ch).d (.int 1) s=.ok (.str [ch]) s:=rfl
theorem rp0 {i j:Nat}{s:Sto}:ixM (Rst.pair i j).d (.int 0) s=.ok (.str aB0) s:=rfl
theorem rp1 {i j:Nat}{s:Sto}:ixM (Rst.pair i j).d (.int 1) s=.ok (.int i) s:=rfl
theorem rp2 {i j:Nat}{s:Sto}:ixM (Rst.pair i j).d (.int 2) s=.ok (.int j) s:=rfl
theorem rt0 {i n:Nat}{s:Sto}:ixM (Rst.times i n).d (.int 0) s=.ok (.str aj2) s:=rfl
theorem rt1 {i n:Nat}{s:Sto}:ixM (Rst.times i n).d (.int 1) s=.ok (.int i) s:=rfl
theorem rt2 {i n:Nat}{s:Sto}:ixM (Rst.times i n).d (.int 2) s=.ok (.int n) s:=rfl
noncomputable def ao4 (vs:List Nat):Rst->Nat
 | .let_ _=>1
 | .pair i j=>vs.getD i 0+vs.getD j 0
 | .times i n=>vs.getD i 0*n
noncomputable def zP (l:List Rst):List Nat:=l.foldl (λ vs x=>vs++[ao4 vs x]) []
theorem aO6 {l:List Rst}{x:Rst}:zP (l++[x])=zP l++[ao4 (zP l) x]:=by unfold zP;rw[dM];rfl
theorem ak1 {l:List Rst}{k:Nat}{x:Rst}(h:l[k]?=some x):zP (l.take (k+1))=zP (l.take k)++[ao4 (zP (l.take k)) x]:=by rw[at8 h,aO6]
theorem qY {l:List Rst}:∀ k,k<=l.length->(zP (l.take k)).length=k
 | 0,_=>by simp[zP]
 | k+1,h=>by
  rw[ak1 (am (show k<l.length by omega)),aL,qY k (by omega)];rfl
theorem ay0:∀(l:List Rst) (vs:List Nat),∃ t,l.foldl (λ vs x=>vs++[ao4 vs x]) vs=vs++t
 | [],vs=>⟨[],by simp⟩
 | x::l,vs=>by
  obtain⟨t,e⟩:=ay0 l (vs++[ao4 vs x])
  exact⟨ao4 vs x::t,by rw[bU,e];simp⟩
theorem qu {l:List Rst}{k i:Nat}(hk:k<=l.length)(h:i<k):(zP (l.take k)).getD i 0=(zP l).getD i 0:=by
 obtain⟨t,e⟩:=ay0 (l.drop k) (zP (l.take k))
 have:zP l=zP (l.take k)++t:=by
  rw[<-e]
  conv=>lhs;rw[<-gJ k l]
  unfold zP;rw[dM]
 have hl:=qY (l:=l) k hk
 rw[this,aM,aM,aB (by omega)]
theorem aq0 {l:List Rst}{k:Nat}{x:Rst}(h:l[k]?=some x):(zP l).getD k 0=ao4 (zP (l.take k)) x:=by
 have hk:=(ae.mp h).1
 rw[<-qu (k:=k+1) (by omega) (cZ k),ak1 h]
 have hl:=qY (l:=l) k (by omega)
 rw[aM,aF (by omega),hl,gu];rfl
theorem aq8 {l:List Rst}(hl:ab8 l):∀ k,k<l.length->1<=(zP l).getD k 0/\(zP l).getD k 0<=2^(101*k):=by
 intro k
 induction k using eG with
 | _ k ih =>
  intro hk
  have hx:=am hk
  have hok:=hl k _ hx
  rw[aq0 hx]
  generalize l[k]=x at hok
  cases x with
  | let_ c=>exact⟨aj _,Nat.one_le_two_pow⟩
  | pair i j =>
   obtain⟨y,hj⟩:=hok
   show 1<=(zP (l.take k)).getD i 0+(zP (l.take k)).getD j 0/\(zP (l.take k)).getD i 0+(zP (l.take k)).getD j 0<=_
   rw[qu (by omega) y,qu (by omega) hj]
   have B:=ih i y (by omega)
   have G:=ih j hj (by omega)
   obtain⟨h,rfl⟩:∃ h,k=h+1:=⟨k - 1,by omega⟩
   have p1:2^(101*i)<=2^(101*h):=bX (by decide) (by omega)
   have J:2^(101*j)<=2^(101*h):=bX (by decide) (by omega)
   have p3:2^(101*(h+1))=2^(101*h)*2^101:=by rw[show 101*(h+1)=101*h+101 by omega,Nat.pow_add]
   have p4:2^(101*h)*2<=2^(101*h)*2^101:=ig _ (by decide)
   rw[p3]
   omega
  | times i m =>
   obtain⟨y,hm1,hm2⟩:=hok
   show 1<=(zP (l.take k)).getD i 0*m/\(zP (l.take k)).getD i 0*m<=_
   rw[qu (by omega) y]
   have B:=ih i y (by omega)
   obtain⟨h,rfl⟩:∃ h,k=h+1:=⟨k - 1,by omega⟩
   have p1:2^(101*i)<=2^(101*h):=bX (by decide) (by omega)
   have p3:2^(101*(h+1))=2^(101*h)*2^101:=by rw[show 101*(h+1)=101*h+101 by omega,Nat.pow_add]
   rw[p3]
   exact⟨Nat.mul_pos (by omega) (by omega),Nat.mul_le_mul (ao B.2 p1) (ao hm2 (by decide))⟩
theorem aX3 {l:List Rst}(hl:ab8 l)(G:l.length<=500){k:Nat}(hk:k<l.length):((((zP l).getD k 0:Nat):Int)).natAbs<BIG:=by
 have y:=(aq8 hl k hk).2
 have h:2^(101*k)<=2^50600:=bX (by decide) (by omega)
 have B:2^50600<BIG:=by unfold BIG;exact Nat.pow_lt_pow_right (by decide) (by decide)
 rw[Int.natAbs_natCast]
 omega
theorem br0 {n:Nat}(h:n<=10^30):((n:Int)).natAbs<BIG:=bS8 (by omega) (by
 have:((n:Nat):Int)<=((10^30:Nat):Int):=by exact_mod_cast h
 exact i5 this (by decide +kernel))
section
variable {P:Pr} [Has P aa8] [Has P qN] [HasL P z7] [HasL P qb] [HasL P qa]
end
theorem az6 {F:Fns}{ρ:Env}{s:Sto}:ev F (.neg (.cst (.int 1))) ρ s=.ok (.int (-1)) s:=rfl
theorem aD4 {s:Sto}{r:Nat}{l:List D}{d:D}(h:s[r]?=some (.lst l))(hd:l[l.length - 1]?=some d):ixM (.ref r) (.int (-1)) s=.ok d s:=by
 have hl:=(ae.mp hd).1
 have hx:ixn l.length (-1)=some (l.length - 1):=by
  unfold ixn
  rw[if_neg (by decide),if_pos (by omega)]
  congr 1;omega
 simp only[ixM,h,hx,Option.bind_some,hd]
section
variable {P:Pr} [Has P aa8] [Has P qN] [HasL P z7] [HasL P qb] [HasL P qa] [Has P jj] [Has P qH]
end
theorem ap4 {l:List Rst}{k i:Nat}(hk:k<=l.length)(h:i<k):(qz (zP (l.take k)))[i]?=some (.int (((zP (l.take k)).getD i 0:Nat):Int)):=by
 have:=qY (l:=l) k hk
 unfold qz
 rw[aJ,aM,am (by omega)];rfl
theorem aB2 {P:Pr}[Has P ab4](n:Nat){l:List Rst}(hl:ab8 l)(h5:l.length<=500)(s:Sto) :
  (aa1 P (n+1)).call "_law_lengths" [.tup (l.map Rst.d)] s=.ok (.ref s.length) (s++[.lst (qz (zP l))]):=by
 have J:(aa1 P (n+1)).call "_law_lengths" [.tup (l.map Rst.d)] s=_:=zL ab4 (n:=n) rfl
 rw[J,show(cV some [D.tup (l.map Rst.d)]++ar ab4.vs none)=[some (D.tup (l.map Rst.d)),none,none]from rfl]
 simp -implicitDefEqProofs only[ab4]
 simp -implicitDefEqProofs only[zl,zy,ex_asg,ev_lst,zJ,R.bind_ok,alloc_eq,zt,qx,qv,bh,ql,zr,ex_for,evI_seq,zw,zu,zv,bv8]
 rw[R.bind_assoc]
 refine aH9 (λ k ρ t=>∃(x:Option D),ρ=[some (D.tup (l.map Rst.d)),some (.ref s.length),x]/\t=s++[.lst (qz (zP (l.take k)))]) ⟨none,rfl,rfl⟩ (λ _ _ _ _ _=>rfl) ?_ ?_
 ·rintro k d ρ t hk ⟨x,rfl,rfl⟩
  rw[aJ]at hk
  obtain⟨v,hv,hd⟩:∃ v,l[k]?=some v/\Rst.d v=d:=by
   cases e:l[k]? with
   | none=>rw[e]at hk;cases hk
   | some v=>rw[e]at hk;exact⟨v,rfl,aC hk⟩
  subst hd
  have B:=(ae.mp hv).1
  have hok:=hl k v hv
  have n1:=qY (l:=l) k (by omega)
  have L1:(qz (zP (l.take k))).length<LIM:=by unfold qz LIM;rw[aE];omega
  have g0:(s++[O.lst (qz (zP (l.take k)))])[s.length]?=some (.lst (qz (zP (l.take k)))):=by rw[aF (aj _)];simp
  refine bv6 (ρ:=[some (D.tup (l.map Rst.d)),some (.ref s.length),some v.d]) (s:=s++[.lst (qz (zP (l.take (k+1))))]) ?_ ⟨_,rfl,rfl⟩
  rw[ak1 hv]
  unfold turn
  cases v with
  | let_ ch =>
   simp -implicitDefEqProofs only[zt,qx,qv,bh,zl,zy,qB,qm,ev_ix,zw,zN,zR,qO,zu,zv,R.bind_ok,rl0,qF,show(bN1=[108,101,116,116,101,114])=True from eq_self _,decide_true,zX,if_true,ex_ex,qy,zI,zJ,qW L1,zr]
   unfold qz
   rw[bt]
   rfl
  | pair i j =>
   obtain⟨h,G⟩:=hok
   have y:ixM (.ref s.length) (.int (i:Int)) (s++[O.lst (qz (zP (l.take k)))])=_:=aE4 g0 (ap4 (by omega) h)
   have Y:ixM (.ref s.length) (.int (j:Int)) (s++[O.lst (qz (zP (l.take k)))])=_:=aE4 g0 (ap4 (by omega) G)
   simp -implicitDefEqProofs only[zt,qx,qv,bh,zl,zy,qB,qm,ev_ix,zw,zN,zR,qO,zu,zv,R.bind_ok,rp0,rp1,rp2,qF,show(aB0=[108,101,116,116,101,114])=False by decide,show(aB0=[112,97,105,114])=True from eq_self _,decide_true,decide_false,bf,zX,if_true,if_false,ex_ex,qy,zI,zJ,ev_bin,y,Y,add_int,qW L1,zr]
   unfold qz
   rw[bt,<-Int.natCast_add]
   rfl
  | times i m =>
   obtain⟨h,hm1,hm2⟩:=hok
   have y:ixM (.ref s.length) (.int (i:Int)) (s++[O.lst (qz (zP (l.take k)))])=_:=aE4 g0 (ap4 (by omega) h)
   have Z:mulOk (((zP (l.take k)).getD i 0:Nat):Int) (m:Int)=true:=by rw[qu (by omega) h];exact bp1 (aX3 hl h5 (by omega)) (br0 hm2)
   simp -implicitDefEqProofs only[zt,qx,qv,bh,zl,zy,qB,qm,ev_ix,zw,zN,zR,qO,zu,zv,R.bind_ok,rt0,rt1,rt2,qF,show(aj2=[108,101,116,116,101,114])=False by decide,show(aj2=[112,97,105,114])=False by decide,decide_false,bf,zX,if_false,ex_ex,qy,zI,zJ,ev_bin,y,ad7 Z,qW L1,zr]
   unfold qz
   rw[bt,<-gx]
   rfl
 ·rintro ρ t ⟨x,rfl,rfl⟩
  rw[aE,jr]
  simp -implicitDefEqProofs only[zr,zl,zy,ex_ret,zw,zu,zv,R.bind_ok,nxt_ret,fin_ret]
  exact ax2 (by unfold O.bnd;exact ai4 aX9 _)
noncomputable def bS5:Ss:=(.cons (.ex (.meth .append (.var 3) (.cons (.tup (.cons (.cst (.str [112,97,105,114])) (.cons (.var 4) (.cons (.bin .sub (.var 4) (.call "_law_draw" (.ex (.var 0) (.ex (.bin .add (.bi .min2 (.cons (.var 4) (.cons (.cst (.int 1)) .nil))) (.cst (.int 1))) .nil)))) .nil)))) .nil))) .nil)
theorem ba8 {P:Pr}[Has P ac7][Has P ac1](n:Nat){s:Sto}{r:Nat}(hs:∃ b,s[r]?=some (z8 b))(most:Nat)(h0:1<=most)(hm:most<=200):bY1 s r most ((aa1 P (n+2)).call "_law_tall" [.ref r,.int 3,.int most] s):=by
 have e0:(aa1 P (n+2)).call "_law_tall" [.ref r,.int 3,.int most] s=_:=zL ac1 (n:=n+1) rfl
 have body:ac1.body=.cons (.asg (.one 3) (.lst (.cons (.tup (.cons (.cst (.str [108,101,116,116,101,114])) (.cons (.ix (.cst (.str [97,98,99])) (.call "_law_draw" (.ex (.var 0) (.ex (.var 1) .nil)))) .nil))) .nil))) (.cons (.for_ (.one 4) (.rng1 (.call "_law_draw" (.ex (.var 0) (.ex (.var 2) .nil)))) bS5) (.cons (.ret (.mk .tuple (.seq (.var 3)))) .nil)):=rfl
 have hr:=aH1 hs
 obtain⟨c,b1,hc,e1⟩:=aj9 (P:=P) n hs 3 (by decide) (by decide)
 obtain⟨d,b2,hd,e2⟩:=qI (P:=P) n (t:=[.lst ([Rst.let_ (97+c)].map Rst.d)]) hr b1 most (by omega) (aj8 (by omega))
 have key:=ai8 (ok:=λ s1=>chk (s.set r (z8 b2)++[O.lst ([Rst.let_ (97+c)].map Rst.d)]) s1 []) (g:=turn (aa1 P (n+1)) (.one 4) bS5) (λ k ρ t=>∃(l:List Rst) (b:Int) (x:Option D),ab8 l/\l.length=k+1/\ρ=[some (D.ref r),some (.int 3),some (.int (most:Int)),some (.ref s.length),x]/\t=s.set r (z8 b)++[.lst (l.map Rst.d)]) (ar7 0 (d:Int)) 0 [some (D.ref r),some (.int 3),some (.int (most:Int)),some (.ref s.length),none] (s.set r (z8 b2)++[O.lst ([Rst.let_ (97+c)].map Rst.d)]) ⟨[.let_ (97+c)],b2,none,ab8.nil.snoc (x:=.let_ (97+c)) ⟨by omega,by omega⟩,rfl,rfl,rfl⟩ (λ _ _ _ _ _=>rfl) (by
  rintro k dd ρ t hk ⟨l,b,x,hl,h,rfl,rfl⟩
  have a0:=(aj6 hk).1
  rw[(aj6 hk).2]
  rw[cw]at h ⊢
  have Z:(if(1:Int)<(k:Int)then(1:Int)else(k:Int))+1=((min k 1+1:Nat):Int):=by omega
  obtain⟨q,G,hq,f1⟩:=qI (P:=P) n (t:=[.lst (l.map Rst.d)]) hr b ((min k 1+1:Nat):Int) (by omega) (aj8 (by omega))
  have Y:(k:Int) - (q:Int)=((k - q:Nat):Int):=by omega
  have ap:∀ v,meth .append (.ref s.length) [v] (s.set r (z8 G)++[.lst (l.map Rst.d)])=.ok .non (s.set r (z8 G)++[.lst (l.map Rst.d++[v])]):=λ v=>aQ5 (by unfold LIM;rw[aE];omega)
  refine⟨[some (D.ref r),some (.int 3),some (.int (most:Int)),some (.ref s.length),some (.int (k:Int))],s.set r (z8 G)++[.lst ((l++[Rst.pair k (k - q)]).map Rst.d)],.inl ?_,l++[Rst.pair k (k - q)],G,_,hl.snoc (x:=.pair k (k - q)) ⟨by omega,by omega⟩,by simp[h],rfl,rfl⟩
  unfold turn bS5
  simp -implicitDefEqProofs only[zt,qx,qv,bh,zl,zy,ex_ex,qy,zI,zJ,ev_tup,zN,qO,zR,zw,ev_bin,ev_call,jd,qZ,ev_bi,zu,zv,R.bind_ok,ae6,add_int,Z,f1,sub_int,Y,ap,zr,bt]
  rfl)
 obtain⟨ρ',s',ek,l,b,x,hl,h,rfl,rfl⟩:=key
 rw[aG0,cw]at h
 have J:(s.set r (z8 b)++[O.lst (l.map Rst.d)])[s.length]?=some (.lst (l.map Rst.d)):=by rw[aF (by simp)];simp
 refine⟨l,b,hl,by omega,by omega,?_⟩
 rw[e0,body,show(cV some [D.ref r,.int 3,.int most]++ar ac1.vs none)=[some (D.ref r),some (.int 3),some (.int (most:Int)),none,none]from rfl]
 simp -implicitDefEqProofs only[zl,zy,ex_asg,ev_lst,zI,zJ,ev_tup,zN,qO,ev_ix,ev_call,jd,qZ,zw,zu,zv,R.bind_ok,e1,aO0 (show c<3 by omega),alloc_eq,br,zt,qx,qv,bh,ql,zr,ex_for,evI_rng1]
 have B:[Rst.let_ (97+c)].map Rst.d=[D.tup [.str [108,101,116,116,101,114],.str [97+c]]]:=by simp only[aI,cr,Rst.d]
 rw[B]at e2 ek
 rw[e2]
 simp -implicitDefEqProofs only[R.bind_ok]
 rw[ar1 (by unfold W62;omega) (by unfold W62;omega)]
 simp -implicitDefEqProofs only[R.bind_ok]
 rw[ek]
 simp -implicitDefEqProofs only[R.bind_ok,zr,zl,zy,ex_ret,ev_mk,evL_seq,zw,zu,zv,bo2,J,mk,nxt_ret,fin_ret]
 refine al2 (λ m=>?_) (by nofun) rfl
 unfold D.bnd
 exact ai4 (λ x hx n=>by obtain⟨y,_,rfl⟩:=aW.mp hx;exact y.bnd n) m
theorem bh6 {s:Sto}{r q:Nat}{C:List D}(y:s[r]?=some (.lst C))(h:s[q]?=some (.lst [])):qD .ne (.ref r) (.ref q) s=.ok (.bl (!decide (C=[]))) s:=by
 have:eqv s DEEP (.ref r) (.ref q)=some (decide (C=[])):=by
  show(match s[r]?,s[q]? with
   | some (O.lst l),some (O.lst m)=>if l.length=m.length then eqL (eqv s 29) l m else some false
   | _,_=>none)=_
  rw[y,h]
  cases C with
  | nil=>rfl
  | cons a l=>simp
 show(match eqv s DEEP (.ref r) (.ref q)with|some r=>R.ok (D.bl (!r)) s|none=>.bad)=_
 rw[this]
theorem bm0 {s:Sto}{r:Nat}{l:List D}{d:D}(h:s[r]?=some (.lst (l++[d]))):meth .pop (.ref r) [] s=.ok d (s.set r (.lst l)):=by
 simp[meth,h]
theorem bZ3 {s:Sto}{a b:Nat}{l m:List D}(y:s[a]?=some (.lst l))(B:s[b]?=some (.lst m))(h:l.length+m.length<=LIM):qr .add (.ref a) (.ref b) s=.ok (.ref s.length) (s++[.lst (l++m)]):=by
 simp[qr,y,B,h]
theorem cc4 {s:Sto}{a:Nat}{l:List D}{k:Nat}(B:s[a]?=some (.lst l))(h:k<=1000000)(y:l.length*k<=LIM):qr .mul (.ref a) (.int (k:Int)) s=.ok (.ref s.length) (s++[.lst (aj0 k l)]):=by
 have e:(0:Int)<=(k:Int)/\(k:Int)<=1000000/\l.length*((k:Int)).toNat<=LIM:=⟨by omega,by omega,by simpa using y⟩
 simp only[qr,B,if_pos e,alloc_eq]
 rw[cR]
theorem aS7 {s:Sto}{o:O}:(s++[o])[s.length]?=some o:=by rw[aF (aj _)];simp
theorem aP3 (n i:Nat):aj0 n [D.int (i:Int)]=qz (ar n i):=by
 induction n with
 | zero=>rfl
 | succ n ih=>show[D.int (i:Int)]++aj0 n _=_;rw[ih,bC];rfl
theorem ae9 (a b:List Nat):qz (a++b)=qz a++qz b:=by unfold qz;exact bt
theorem bB4 (a b:List Nat):sg (a++b)=sg a++sg b:=by unfold sg;exact bt
theorem aD7 (a:List Nat):(qz a).length=a.length:=by unfold qz;exact aE _
theorem bA6 (a:List Nat):(sg a).length=a.length:=by unfold sg;exact aE _
theorem aV0 {s0 s:Sto}{r:Nat}{o:O}(h:∃ t,s=s0++t)(y:s0.length<=r):∃ t,s.set r o=s0++t:=by
 obtain⟨t,rfl⟩:=h
 exact⟨t.set (r - s0.length) o,by rw[gI _ _ y]⟩
theorem ag5 {s0 s t:Sto}(h:∃ t,s=s0++t):∃ t',s++t=s0++t':=by
 obtain⟨t',rfl⟩:=h
 exact⟨t'++t,by rw[bL]⟩
end DV
end
local macro_rules | `(tactic| tbr_iter [$xs,*]) => `(tactic| simp -implicitDefEqProofs only [DV.zl, DV.zy, DV.ex_asg, DV.qB, DV.ex_ret, DV.ex_ex, DV.ex_for, DV.ex_whl, DV.ex_setIx, DV.ex_cont, DV.ex_pass, DV.ex_und, DV.zw, DV.zN, DV.ev_bin, DV.ev_not, DV.qm, DV.ev_and, DV.ev_or, DV.ev_ite, DV.ev_tup, DV.ev_lst, DV.ev_ix, DV.ev_call, DV.ev_bi, DV.ev_mk, DV.ev_mkD, DV.ev_mks, DV.ev_mkDs, DV.qy, DV.ev_isN, DV.ev_notN, DV.zJ, DV.zI, DV.qZ, DV.jd, DV.evI_seq, DV.evI_rng1, DV.evL_seq, DV.Cn_bl, DV.zR, DV.Cn_non, DV.qO, DV.R.bind_ok, DV.zt, DV.bindT_tup, DV.setVs_nil, DV.setVs_cons, DV.qx, DV.qv, DV.unsetV_s, DV.unsetV_0, DV.zu, DV.zv, Option.map_some, Option.bind_some, DV.ql, DV.zr, DV.nxt_ret, DV.nxt_cont, DV.fin_ret, DV.fin_next, DV.add_int, DV.sub_int, DV.lt_int, DV.le_int, DV.gt_int, DV.ge_int, DV.eq_int, DV.ne_int, DV.alloc_eq, DV.zX, if_true, if_false, Bool.false_eq_true, decide_true, decide_false, Bool.not_true, Bool.not_false, $[$xs:term],*])
noncomputable section
namespace DV
section
variable {α:Type} (d:α) (fl:Nat->α) (fp:α->α->α) (ft:α->Nat->α)
noncomputable def foV (vs:List α):Rst->α
 | .let_ c=>fl c
 | .pair i j=>fp (vs.getD i d) (vs.getD j d)
 | .times i n=>ft (vs.getD i d) n
noncomputable def foR (l:List Rst):List α:=l.foldl (λ vs x=>vs++[foV d fl fp ft vs x]) []
theorem aH7 {l:List Rst}{k:Nat}{x:Rst}(h:l[k]?=some x):foR d fl fp ft (l.take (k+1))=foR d fl fp ft (l.take k)++[foV d fl fp ft (foR d fl fp ft (l.take k)) x]:=by
 rw[at8 h];unfold foR;rw[dM];rfl
theorem aC1 {l:List Rst}:∀ k,k<=l.length->(foR d fl fp ft (l.take k)).length=k
 | 0,_=>by simp[foR]
 | k+1,h=>by
  rw[aH7 d fl fp ft (am (show k<l.length by omega)),aL,aC1 k (by omega)];rfl
theorem aI3:∀(l:List Rst) (vs:List α),∃ t,l.foldl (λ vs x=>vs++[foV d fl fp ft vs x]) vs=vs++t
 | [],vs=>⟨[],by simp⟩
 | x::l,vs=>by
  obtain⟨t,e⟩:=aI3 l (vs++[foV d fl fp ft vs x])
  exact⟨foV d fl fp ft vs x::t,by rw[bU,e];simp⟩
theorem ao5 {l:List Rst}{k i:Nat}(hk:k<=l.length)(h:i<k):(foR d fl fp ft (l.take k)).getD i d=(foR d fl fp ft l).getD i d:=by
 obtain⟨t,e⟩:=aI3 d fl fp ft (l.drop k) (foR d fl fp ft (l.take k))
 have:foR d fl fp ft l=foR d fl fp ft (l.take k)++t:=by
  rw[<-e]
  conv=>lhs;rw[<-gJ k l]
  unfold foR;rw[dM]
 have hl:=aC1 d fl fp ft (l:=l) k hk
 rw[this,aM,aM,aB (by omega)]
theorem aP7 {l:List Rst}{k:Nat}{x:Rst}(h:l[k]?=some x):(foR d fl fp ft l).getD k d=foV d fl fp ft (foR d fl fp ft (l.take k)) x:=by
 have hk:=(ae.mp h).1
 rw[<-ao5 d fl fp ft (k:=k+1) (by omega) (cZ k),aH7 d fl fp ft h]
 have hl:=aC1 d fl fp ft (l:=l) k (by omega)
 rw[aM,aF (by omega),hl,gu];rfl
theorem bV9 {l:List Rst}{k c:Nat}(h:l[k]?=some (.let_ c)):(foR d fl fp ft l).getD k d=fl c:=aP7 d fl fp ft h
theorem bT8 {l:List Rst}{k i j:Nat}(h:l[k]?=some (.pair i j))(y:i<k)(hj:j<k):(foR d fl fp ft l).getD k d=fp ((foR d fl fp ft l).getD i d) ((foR d fl fp ft l).getD j d):=by
 have hk:=(ae.mp h).1
 rw[aP7 d fl fp ft h,<-ao5 d fl fp ft (k:=k) (by omega) y,<-ao5 d fl fp ft (k:=k) (by omega) hj];rfl
theorem bQ4 {l:List Rst}{k i n:Nat}(h:l[k]?=some (.times i n))(y:i<k):(foR d fl fp ft l).getD k d=ft ((foR d fl fp ft l).getD i d) n:=by
 have hk:=(ae.mp h).1
 rw[aP7 d fl fp ft h,<-ao5 d fl fp ft (k:=k) (by omega) y];rfl
end
theorem bi4 {l:List Rst}{k i j:Nat}(h:l[k]?=some (.pair i j))(y:i<k)(hj:j<k):(zP l).getD k 0=(zP l).getD i 0+(zP l).getD j 0:=by
 have hk:=(ae.mp h).1
 rw[aq0 h,show ao4 (zP (l.take k)) (.pair i j)=(zP (l.take k)).getD i 0+(zP (l.take k)).getD j 0 from rfl,qu (by omega) y,qu (by omega) hj]
theorem bi3 {l:List Rst}{k i n:Nat}(h:l[k]?=some (.times i n))(y:i<k):(zP l).getD k 0=(zP l).getD i 0*n:=by
 have hk:=(ae.mp h).1
 rw[aq0 h,show ao4 (zP (l.take k)) (.times i n)=(zP (l.take k)).getD i 0*n from rfl,qu (by omega) y]
theorem bB1 {l:List Rst}{k c:Nat}(h:l[k]?=some (.let_ c)):(zP l).getD k 0=1:=by rw[aq0 h];rfl
noncomputable def wds (l:List Rst):List (List Nat):=foR [] (λ c=>[c]) (·++·) (λ w n=>rep n w) l
noncomputable def wd (l:List Rst)(k:Nat):List Nat:=(wds l).getD k []
theorem bO1 {l:List Rst}{k c:Nat}(h:l[k]?=some (.let_ c)):wd l k=[c]:=bV9 _ _ _ _ h
theorem bM7 {l:List Rst}{k i j:Nat}(h:l[k]?=some (.pair i j))(y:i<k)(hj:j<k):wd l k=wd l i++wd l j:=bT8 _ _ _ _ h y hj
theorem bM9 {l:List Rst}{k i n:Nat}(h:l[k]?=some (.times i n))(y:i<k):wd l k=rep n (wd l i):=bQ4 _ _ _ _ h y
theorem aH2 {l:List Rst}(hl:ab8 l):∀ k,k<l.length->(wd l k).length=(zP l).getD k 0:=by
 intro k
 induction k using eG with
 | _ k ih =>
  intro hk
  have hx:=am hk
  have hok:=hl k _ hx
  generalize l[k]=x at hok hx
  cases x with
  | let_ c=>rw[bO1 hx,bB1 hx];rfl
  | pair i j=>rw[bM7 hx hok.1 hok.2,bi4 hx hok.1 hok.2,aL,ih i hok.1 (by have:=hok.1;omega),ih j hok.2 (by have:=hok.2;omega)]
  | times i n=>rw[bM9 hx hok.1,bi3 hx hok.1,rep_len,ih i hok.1 (by have:=hok.1;omega)]
noncomputable def be1:E:=(.cmp .ne (.var 1) (.lst .nil))
noncomputable def ba2:Ss:=(.cons (.asg (.one 3) (.ix (.var 0) (.meth .pop (.var 1) .nil))) (.cons (.ite (.cmp .eq (.ix (.var 3) (.cst (.int 0))) (.cst (.str [108,101,116,116,101,114]))) (.cons (.ex (.meth .append (.var 2) (.cons (.ix (.var 3) (.cst (.int 1))) .nil))) .nil) (.cons (.ite (.cmp .eq (.ix (.var 3) (.cst (.int 0))) (.cst (.str [112,97,105,114]))) (.cons (.asg (.one 1) (.bin .add (.var 1) (.lst (.cons (.ix (.var 3) (.cst (.int 2))) (.cons (.ix (.var 3) (.cst (.int 1))) .nil))))) .nil) (.cons (.asg (.one 1) (.bin .add (.var 1) (.bin .mul (.lst (.cons (.ix (.var 3) (.cst (.int 1))) .nil)) (.ix (.var 3) (.cst (.int 2)))))) .nil)) .nil)) .nil))
theorem aY4:ab9.body=(.cons (.asg (.one 1) (.lst (.cons (.bin .sub (.bi .len (.cons (.var 0) .nil)) (.cst (.int 1))) .nil))) (.cons (.asg (.one 2) (.lst .nil)) (.cons (.whl be1 ba2) (.cons (.ret (.join (.cst (.str [])) (.var 2))) .nil)))):=rfl
structure Wt (s0 s:Sto)(r q:Nat)(W u:List Nat):Prop where
 pre:∃ t,s=s0++t
 q0:s0.length<=q
 r0:s0.length<=r
 rq:r≠q
 gr:s[r]?=some (.lst (qz W))
 gq:s[q]?=some (.lst (sg u))
theorem bu7 {F:Fns}{l:List Rst}(hl:ab8 l){s0:Sto}{q:Nat}:∀ k,k<l.length->∀(s:Sto) (r:Nat) (W u:List Nat) (J:Option D),Wt s0 s r q (W++[k]) u->W.length+(zP l).getD k 0<=5000->u.length+(zP l).getD k 0<=5000 ->
  ∃(s':Sto) (r':Nat) (y3:Option D),Wt s0 s' r' q W (u++wd l k)/\whl (ev F be1) (exs F ba2) [some (.tup (l.map Rst.d)),some (.ref r),some (.ref q),J] s=whl (ev F be1) (exs F ba2) [some (.tup (l.map Rst.d)),some (.ref r'),some (.ref q),y3] s':=by
 intro k
 induction k using eG with
 | _ k ih =>
  intro hk s r W u J h hW hu
  have hx:=am hk
  have hok:=hl k _ hx
  generalize l[k]=x at hok hx
  have y:∀ t,ixM (.tup (l.map Rst.d)) (.int (k:Int)) t=.ok x.d t:=λ t=>ix_tup (by rw[aJ,hx];rfl)
  have hr:=(ae.mp h.gr).1
  have hq:=(ae.mp h.gq).1
  have hc:ev F be1 [some (.tup (l.map Rst.d)),some (.ref r),some (.ref q),J] s=.ok (.bl true) (s++[.lst []]):=by
   unfold be1
   tbr_iter [bh6 (zO h.gr) aS7,show(qz (W++[k])=[])=False by rw[ae9];simp[qz]]
  have h9:s[r]?=some (O.lst (qz W++[D.int (k:Int)])):=by have:=h.gr;rwa [ae9]at this
  have hp:meth .pop (.ref r) [] (s++[O.lst []])=.ok (.int (k:Int)) ((s++[O.lst []]).set r (.lst (qz W))):=bm0 (zO h9)
  generalize G:(s++[O.lst []]).set r (.lst (qz W))=s2 at hp
  have l2:s2.length=s.length+1:=by rw[<-G];simp
  have B:Wt s0 s2 r q W u:=by
   refine⟨?_,h.q0,h.r0,h.rq,?_,?_⟩
   ·rw[<-G];exact aV0 (ag5 h.pre) h.r0
   ·rw[<-G];exact aq6 (by simp;omega)
   ·rw[<-G,aY h.rq];exact zO h.gq
  cases x with
  | let_ c =>
   refine⟨s2.set q (O.lst (sg (u++[c]))),r,some (Rst.let_ c).d,⟨aV0 B.pre h.q0,h.q0,h.r0,h.rq,?_,?_⟩,ap5 hc ?_⟩
   ·rw[aY (bO h.rq)];exact B.gr
   ·rw[bO1 hx];exact aq6 (by omega)
   ·unfold ba2
    tbr_iter [hp,y,rl0,rl1,qF,show(bN1=[108,101,116,116,101,114])=True from eq_self _,ag4 B.gq (by rw[bA6];unfold LIM;omega),bB4]
    rfl
  | pair i j =>
   obtain⟨Y,hj⟩:=hok
   rw[bi4 hx Y hj]at hW hu
   have b1:=(aq8 hl i (by omega)).1
   have b2:=(aq8 hl j (by omega)).1
   have g1:(s2++[O.lst [D.int (j:Int),D.int (i:Int)]]++[O.lst (qz W++[D.int (j:Int),D.int (i:Int)])])[(s2++[O.lst [D.int (j:Int),D.int (i:Int)]]).length]?=some (.lst (qz (W++[j]++[i]))):=by
    rw[aS7,ae9,ae9,bL];rfl
   have w3:Wt s0 (s2++[O.lst [D.int (j:Int),D.int (i:Int)]]++[O.lst (qz W++[D.int (j:Int),D.int (i:Int)])]) (s2++[O.lst [D.int (j:Int),D.int (i:Int)]]).length q (W++[j]++[i]) u:=⟨ag5 (ag5 B.pre),h.q0,by have:=h.r0;simp;omega,by simp;omega,g1,zO (zO B.gq)⟩
   obtain⟨s4,r4,y4,w4,e4⟩:=ih i Y (by omega) _ _ _ _ (some (Rst.pair i j).d) w3 (by simp only[aL,aV,ci];omega) (by omega)
   obtain⟨s5,r5,Z,w5,e5⟩:=ih j hj (by omega) _ _ _ _ y4 w4 (by omega) (by rw[aL,aH2 hl i (by omega)];omega)
   refine⟨s5,r5,Z,by rw[bM7 hx Y hj,<-bL];exact w5,?_⟩
   rw[<-e5,<-e4]
   refine ap5 hc ?_
   unfold ba2
   have ha:=bZ3 (s:=s2++[O.lst [D.int (j:Int),D.int (i:Int)]]) (a:=r) (b:=s2.length) (zO B.gr) aS7 (by rw[aD7];unfold LIM;simp;omega)
   tbr_iter [hp,y,rp0,rp1,rp2,qF,show(aB0=[108,101,116,116,101,114])=False by decide,show(aB0=[112,97,105,114])=True from eq_self _,ha]
  | times i n =>
   obtain⟨Y,a0,a1⟩:=hok
   rw[bi3 hx Y]at hW hu
   have b1:=(aq8 hl i (by omega)).1
   have bn:n<=(zP l).getD i 0*n:=Nat.le_mul_of_pos_left n (by omega)
   have rl:(aj0 n [D.int (i:Int)]).length=n:=by rw[aG1];simp
   have go:∀ m s r u J,Wt s0 s r q (W++ar m i) u->W.length+m+(zP l).getD i 0<=5001->u.length+(zP l).getD i 0*m<=5000->m<=n ->
     ∃(s':Sto) (r':Nat) (y3:Option D),Wt s0 s' r' q W (u++rep m (wd l i))/\whl (ev F be1) (exs F ba2) [some (.tup (l.map Rst.d)),some (.ref r),some (.ref q),J] s=whl (ev F be1) (exs F ba2) [some (.tup (l.map Rst.d)),some (.ref r'),some (.ref q),y3] s':=by
    intro m
    induction m with
    | zero=>intro s r u J hw _ _ _;exact⟨s,r,J,by simpa [rep]using hw,rfl⟩
    | succ m ihm =>
     intro s r u J hw hb hu hm
     rw[List.replicate_succ',<-bL]at hw
     rw[j6]at hu
     obtain⟨s4,r4,y4,w4,e4⟩:=ih i Y (by omega) _ _ _ _ J hw (by simp only[aL,gA];omega) (by omega)
     obtain⟨s5,r5,Z,w5,e5⟩:=ihm s4 r4 (u++wd l i) y4 w4 (by omega) (by rw[aL,aH2 hl i (by omega)];omega) (by omega)
     exact⟨s5,r5,Z,by rw[show rep (m+1) (wd l i)=wd l i++rep m (wd l i)from rfl,<-bL];exact w5,e4.trans e5⟩
   have g1:(s2++[O.lst [D.int (i:Int)]]++[O.lst (aj0 n [D.int (i:Int)])]++[O.lst (qz W++aj0 n [D.int (i:Int)])])[(s2++[O.lst [D.int (i:Int)]]++[O.lst (aj0 n [D.int (i:Int)])]).length]?=some (.lst (qz (W++ar n i))):=by
    rw[aS7,ae9,aP3]
   have a2:(zP l).getD i 0+n<=(zP l).getD i 0*n+1:=by
    obtain⟨a,ha⟩:∃ a,(zP l).getD i 0=a+1:=⟨_,(fS b1).symm⟩
    obtain⟨b,hb⟩:∃ b,n=b+1:=⟨_,(fS a0).symm⟩
    rw[ha,hb,Nat.add_mul,dw];omega
   obtain⟨s5,r5,Z,w5,e5⟩:=go n _ _ u (some (Rst.times i n).d) ⟨ag5 (ag5 (ag5 B.pre)),h.q0,by have:=h.r0;simp;omega,by simp;omega,g1,zO (zO (zO B.gq))⟩ (by omega) (by omega) (aj _)
   refine⟨s5,r5,Z,by rw[bM9 hx Y];exact w5,?_⟩
   rw[<-e5]
   refine ap5 hc ?_
   unfold ba2
   have hm:=cc4 (s:=s2++[O.lst [D.int (i:Int)]]) (a:=s2.length) (k:=n) aS7 (by omega) (by unfold LIM;simp;omega)
   have ha:=bZ3 (s:=s2++[O.lst [D.int (i:Int)]]++[O.lst (aj0 n [D.int (i:Int)])]) (a:=r) (b:=(s2++[O.lst [D.int (i:Int)]]).length) (zO (zO B.gr)) aS7 (by rw[aD7,rl];unfold LIM;omega)
   tbr_iter [hp,y,rt0,rt1,rt2,qF,show(aj2=[108,101,116,116,101,114])=False by decide,show(aj2=[112,97,105,114])=False by decide,hm,ha]
theorem aS0:∀ u:List Nat,ah1 (sg u)=some (u.map λ c=>[c])
 | []=>rfl
 | a::u=>by show(ah1 (sg u)).map ([a]::·)=_;rw[aS0 u];rfl
theorem bz2:∀ u:List Nat,(u.map λ c=>[c]).flatten=u
 | []=>rfl
 | a::u=>by rw[aI,bZ,bz2 u];rfl
theorem bu6 {s:Sto}{q:Nat}{u:List Nat}(h:s[q]?=some (.lst (sg u)))(y:u.length<=LIM):aw7 (.str []) (.ref q) s=.ok (.str u) s:=by
 simp only[aw7,h,aS0,bz2,if_pos y]
theorem bl2 {F:Fns}{ρ:Env}{s:Sto}(o e:E):ev F (.join o e) ρ s=(ev F o ρ s).bind λ x s=>(ev F e ρ s).bind λ y s=>aw7 x y s:=rfl
theorem aX8 {P:Pr}[Has P ab9](n:Nat){l:List Rst}(h1:1<=l.length)(hl:ab8 l)(hL:(zP l).getD (l.length - 1) 0<=2500)(s:Sto) :
  (aa1 P (n+1)).call "_law_word" [.tup (l.map Rst.d)] s=.ok (.str (wd l (l.length - 1))) s:=by
 have Z:(aa1 P (n+1)).call "_law_word" [.tup (l.map Rst.d)] s=_:=zL ab9 (n:=n) rfl
 have Y:Wt s (s++[O.lst [D.int ((l.length - 1:Nat):Int)]]++[O.lst []]) s.length (s++[O.lst [D.int ((l.length - 1:Nat):Int)]]).length ([]++[l.length - 1]) []:=⟨⟨_,bL _ _ _⟩,by simp,aj _,by simp,zO (by rw[aS7];rfl),by rw[aS7];rfl⟩
 obtain⟨s',J,G,y,e'⟩:=bu7 (F:=aa1 P n) hl (l.length - 1) (by omega) _ _ _ _ none Y (by rw[ci];omega) (by rw[ci];omega)
 rw[eA]at y
 have h:whl (ev (aa1 P n) be1) (exs (aa1 P n) ba2) [some (.tup (l.map Rst.d)),some (.ref J),some (.ref (s++[O.lst [D.int ((l.length - 1:Nat):Int)]]).length),G] s'=.ok (.next [some (.tup (l.map Rst.d)),some (.ref J),some (.ref (s++[O.lst [D.int ((l.length - 1:Nat):Int)]]).length),G]) (s'++[.lst []]):=by
  refine bq1 ?_
  unfold be1
  tbr_iter [bh6 (zO y.gr) aS7,show(qz []=([]:List D))=True from eq_self _]
 have B:((l.length:Int) - 1)=((l.length - 1:Nat):Int):=by omega
 rw[Z,aY4,show(cV some [D.tup (l.map Rst.d)]++ar ab9.vs none)=[some (D.tup (l.map Rst.d)),none,none,none]from rfl]
 tbr_iter [bs9,aE,B]
 rw[e',h]
 have hw:=aH2 hl (l.length - 1) (by omega)
 tbr_iter [bl2,bu6 (zO y.gq) (show(wd l (l.length - 1)).length<=LIM by rw[hw];unfold LIM;omega)]
 obtain⟨t,rfl⟩:=y.pre
 rw[bL]
 exact qC (λ _=>rfl) (by nofun)
theorem be3 {s:Sto}{n:Nat}{a:List Nat}:eqv s n (.str a) (.str a)=some true:=by
 cases n with
 | zero=>show ac9 s (.str a) (.str a)=_;simp[ac9,ax4]
 | succ n=>show ac9 s (.str a) (.str a)=_;simp[ac9,ax4]
section
variable {P:Pr} [Has P ah6] [Has P ac7] [Has P ac2] [Has P ab4] [Has P aH3] [Has P ab9] [Has P ac1] [Has P aw3]
 [Has P aa8] [Has P qN] [HasL P z7] [HasL P qb] [HasL P qa] [Has P jj] [Has P qH]
end
section
variable {P:Pr} [Has P ah6] [Has P ac7] [Has P ac2] [Has P ab4] [Has P aH3] [Has P ab9] [Has P ac1] [Has P aw3]
 [Has P aa8] [Has P qN] [HasL P z7] [HasL P qb] [HasL P qa] [Has P jj] [Has P qH]
end
noncomputable def minO:Option Int->Option Int->Option Int
 | none,x=>x
 | some a,none=>some a
 | some a,some b=>if b<a then some b else some a
noncomputable def Dr.turn (x:Dr):Dr:=⟨x.b,x.l,x.a,x.t⟩
noncomputable def Mc.turn (m:Mc):Mc:=⟨m.L,m.R,m.en,m.bg,m.ds.map Dr.turn⟩
section
variable {P:Pr} [Has P qi]
end
section
variable {P:Pr} [Has P qi] [Has P qR] [Has P zV] [Has P z5] [Has P zx] [HasL P zm]
end
section
variable {P:Pr} [Has P qi] [Has P qR] [Has P jf] [Has P zV] [Has P z5] [Has P zx] [HasL P zm] [Has P je] [HasL P zZ] [Has P qp] [HasL P zK] [Has P qt]
end
section
variable {P:Pr} [Has P qi] [Has P qR] [Has P jf] [Has P zV] [Has P z5] [Has P zx] [HasL P zm] [Has P je] [HasL P zZ] [Has P qp] [HasL P zK] [Has P qt]
 [Has P bS9] [Has P bG4] [Has P bk1] [Has P aR0] [Has P bC4] [Has P aX5] [Has P ay6] [Has P aS6]
end
section
variable {P:Pr} [Has P ai9] [Has P aw0] [Has P qd]
variable [Has P qi] [Has P qR] [Has P jf] [Has P zV] [Has P z5] [Has P zx] [HasL P zm] [Has P je] [HasL P zZ] [Has P qp] [HasL P zK] [Has P qt] [Has P br3]
end
section
variable {P:Pr} [Has P ac7]
variable [Has P aA1]
end
section
variable {m:Nat} (hm:1<=m) {g:Nat->Nat->Int} (hg:InG m g) (hst:cb2 m g)
include hm hg hst
end
section
variable {P:Pr} [Has P ac7] [Has P qi] [Has P zE] [HasL P zo] [Has P jg] [Has P an2] [Has P ak6] [HasL P jb] [HasC P "FREE" (.int 0)] [HasC P "UNBOUND" (.int 2)] [HasC P "NONE" (.int 3)] [Has P jc] [Has P az4] [Has P bp4]
variable [Has P ah6] [Has P aA1] [Has P aV4]
end
theorem al6 {P:Pr}{n:Nat}{x:String}{d:D}[HasC P x d](ρ:Env)(s:Sto):ev (aa1 P n) (.glob x) ρ s=.ok d s:=by
 show(match(aa1 P n).con x with|some d=>R.ok d s|none=>.bad)=_
 rw[bs7 (v:=d)]
noncomputable def un (i j:Nat):Int:=if i=j then 0 else 3
section
variable {m:Nat} (hm:1<=m)
end
section
variable {P:Pr} [Has P qi] [Has P ag1] [HasL P qM] [HasC P "FREE" (.int 0)] [HasC P "NONE" (.int 3)]
variable [Has P ae8] [Has P zE] [HasL P zo]
variable [Has P ag9] [HasC P "sign_product" (.fn "sign_product")]
end
section
variable {P:Pr} [Has P al4] [Has P bj4] [Has P aR5]
end
section
variable {P:Pr} [Has P ah6] [Has P ac7] [Has P aA1] [Has P bG0] [Has P al4] [Has P bj4] [Has P aR5] [Has P bu5] [Has P aP4] [Has P qi] [Has P ae8] [Has P ag1] [HasL P qM] [Has P zE] [HasL P zo] [Has P ag9] [HasC P "FREE" (.int 0)] [HasC P "NONE" (.int 3)] [HasC P "sign_product" (.fn "sign_product")]
end
section
variable {P:Pr} [HasC P "FREE" (.int 0)] [HasC P "SOME" (.int 1)] [HasC P "NONE" (.int 3)] [Has P aT5]
variable [Has P qi] [Has P aM5] [HasL P av7]
variable [Has P qR] [Has P jf] [Has P zV] [Has P z5] [Has P zx] [HasL P zm] [Has P je] [HasL P zZ] [Has P qp] [HasL P zK] [Has P qt] [Has P av8]
variable [Has P ai9] [Has P aw0] [Has P qd] [Has P aL6]
end
theorem aB3 (w:List Nat)(b:Nat):∀ a,rep (a+b) w=rep a w++rep b w
 | 0=>by rw[cw];rfl
 | a+1=>by rw[Nat.succ_add];show w++rep (a+b) w=(w++rep a w)++rep b w;rw[aB3 w b a,bL]
theorem bL8 (w:List Nat):rep 1 w=w:=a7 w
section
variable {P:Pr} [Has P qi] [Has P qR] [Has P jf] [Has P je] [HasL P zZ] [Has P qp] [HasL P zK] [Has P ae8] [Has P aA2] [HasC P "product" (.fn "product")]
end
noncomputable def RsB (k:Nat):Rst->Prop
 | .let_ _=>True
 | .pair i j=>i<k/\j<k
 | .times i _=>i<k
def aZ5 (l:List Rst):Prop:=∀ k x,l[k]?=some x->RsB k x
theorem ab8.b {l:List Rst}(h:ab8 l):aZ5 l:=λ k x e=>by
 have:=h k x e
 cases x
 ·trivial
 ·exact this
 ·exact this.1
theorem aK7 {P:Pr}[Has P aa8](n:Nat){l:List Rst}(hl:l.length<=5100)(hk:aZ5 l){s:Sto}{J:D}{src:List Nat}(hsr:∀ r∈src,r<s.length)(Z:∀ t,aG3 J (s++t)=.ok ⟨l.map Rst.d,src⟩ (s++t))(d1 G B:D)(W:Nat->D)(hW:∀ k n,(W k).bnd n=true)
  (h1:∀ k ch,l[k]?=some (.let_ ch)->apV (aa1 P n) d1 [.str [ch]] (s++[.lst ((aN k).map W)])=.ok (W k) (s++[.lst ((aN k).map W)]))
  (h2:∀ k i j,l[k]?=some (.pair i j)->apV (aa1 P n) G [W i,W j] (s++[.lst ((aN k).map W)])=.ok (W k) (s++[.lst ((aN k).map W)]))
  (h3:∀ k i m,l[k]?=some (.times i m)->apV (aa1 P n) B [W i,.int (m:Nat)] (s++[.lst ((aN k).map W)])=.ok (W k) (s++[.lst ((aN k).map W)])) :
  (aa1 P (n+1)).call "folded" [J,d1,G,B] s=.ok (.ref s.length) (s++[.lst ((aN l.length).map W)]):=by
 have e0:(aa1 P (n+1)).call "folded" [J,d1,G,B] s=_:=zL aa8 (n:=n) rfl
 rw[e0,show(cV some [J,d1,G,B]++ar aa8.vs none)=[some J,some d1,some G,some B,none,none]from rfl]
 simp -implicitDefEqProofs only[aa8]
 simp -implicitDefEqProofs only[zl,zy,ex_asg,ev_lst,zJ,R.bind_ok,alloc_eq,zt,qx,qv,bh,ql,zr,ex_for,evI_seq,zw,zu,zv]
 rw[Z]
 simp only[R.bind_ok]
 rw[R.bind_assoc]
 refine aH9 (λ k ρ t=>∃(x:Option D),ρ=[some J,some d1,some G,some B,some (.ref s.length),x]/\t=s++[.lst ((aN k).map W)]) ⟨none,rfl,rfl⟩ (λ _ _ _ _ h=>?_) ?_ ?_
 ·obtain⟨_,_,rfl⟩:=h
  unfold chk
  exact aG.mpr λ r hr=>by rw[aB (hsr r hr),aB (hsr r hr)];simp
 ·rintro k d ρ t hkk ⟨x,rfl,rfl⟩
  rw[aJ]at hkk
  obtain⟨v,hv,hd⟩:∃ v,l[k]?=some v/\Rst.d v=d:=by
   cases e:l[k]? with
   | none=>rw[e]at hkk;cases hkk
   | some v=>rw[e]at hkk;exact⟨v,rfl,aC hkk⟩
  subst hd
  have a0:=(ae.mp hv).1
  have hok:=hk k v hv
  have L1:((aN k).map W).length<LIM:=by unfold LIM;rw[aE,fx];omega
  have g0:(s++[O.lst ((aN k).map W)])[s.length]?=some (.lst ((aN k).map W)):=by rw[aF (aj _)];simp
  have gW:∀ i,i<k->ixM (.ref s.length) (.int (i:Int)) (s++[O.lst ((aN k).map W)])=.ok (W i) (s++[O.lst ((aN k).map W)]):=λ i Y=>aE4 g0 (by rw[aJ,da Y];rfl)
  refine bv6 (ρ:=[some J,some d1,some G,some B,some (.ref s.length),some v.d]) (s:=s++[.lst ((aN (k+1)).map W)]) ?_ ⟨_,rfl,rfl⟩
  rw[jz,bt]
  unfold turn
  cases v with
  | let_ ch =>
   have y:=h1 k ch hv
   simp -implicitDefEqProofs only[zt,qx,qv,bh,zl,zy,qB,qm,ev_ix,zw,zN,zR,qO,zu,zv,R.bind_ok,rl0,qF,show(bN1=[108,101,116,116,101,114])=True from eq_self _,decide_true,zX,if_true,ex_ex,qy,zI,zJ]
   rw[ar2 (d:=d1) _ rfl]
   simp -implicitDefEqProofs only[zI,zJ,ev_ix,zw,zN,zR,zu,zv,R.bind_ok,rl1,y]
   rw[qW L1];rfl
  | pair i j =>
   obtain⟨Y,hj⟩:=hok
   have y:=h2 k i j hv
   simp -implicitDefEqProofs only[zt,qx,qv,bh,zl,zy,qB,qm,ev_ix,zw,zN,zR,qO,zu,zv,R.bind_ok,rp0,qF,show(aB0=[108,101,116,116,101,114])=False by decide,show(aB0=[112,97,105,114])=True from eq_self _,decide_true,decide_false,bf,zX,if_true,if_false,ex_ex,qy,zI,zJ]
   rw[ar2 (d:=G) _ rfl]
   simp -implicitDefEqProofs only[zI,zJ,ev_ix,zw,zN,zR,zu,zv,R.bind_ok,rp1,rp2,gW i Y,gW j hj,y]
   rw[qW L1];rfl
  | times i m =>
   have Y:=hok
   have y:=h3 k i m hv
   simp -implicitDefEqProofs only[zt,qx,qv,bh,zl,zy,qB,qm,ev_ix,zw,zN,zR,qO,zu,zv,R.bind_ok,rt0,qF,show(aj2=[108,101,116,116,101,114])=False by decide,show(aj2=[112,97,105,114])=False by decide,decide_false,bf,zX,if_false,ex_ex,qy,zI,zJ]
   rw[ar2 (d:=B) _ rfl]
   simp -implicitDefEqProofs only[zI,zJ,ev_ix,zw,zN,zR,zu,zv,R.bind_ok,rt1,rt2,gW i Y,y]
   rw[qW L1];rfl
 ·rintro ρ t ⟨x,rfl,rfl⟩
  rw[aE]
  simp -implicitDefEqProofs only[zr,zl,zy,ex_ret,zw,zu,zv,R.bind_ok,nxt_ret,fin_ret]
  exact ax2 (by unfold O.bnd;exact ai4 (λ d hd n=>by obtain⟨x,_,rfl⟩:=aW.mp hd;exact hW x n) _)
section
variable {P:Pr} [Has P aa8] [Has P qN] [HasL P z7] [HasL P qb] [HasL P qa] [Has P ag6]
end
section
variable {P:Pr} [Has P qi] [Has P qR] [Has P jf] [Has P zV] [Has P z5] [Has P zx] [HasL P zm] [Has P je] [HasL P zZ] [Has P qp] [HasL P zK] [Has P ae8] [Has P aA2] [HasC P "product" (.fn "product")] [HasC P "power" (.fn "power")] [Has P aa8] [Has P ah2] [HasL P qP]
theorem bc6 {α:Type}{n:Nat}(h:1<=n)(W:Nat->α):((aN n).map W)[((aN n).map W).length - 1]?=some (W (n - 1)):=by
 rw[aE,fx,aJ,da (by omega)];rfl
theorem aM8 {s:Sto}(hs:s.all O.ncl=true){W:Nat->D}(h:∀ k,(W k).ncl=true)(k:Nat):(s++[O.lst ((aN k).map W)]).all O.ncl=true :=
 ah9 hs (af9 λ d hd=>by obtain⟨x,_,rfl⟩:=aW.mp hd;exact h x)
theorem aV3 {l:List Rst}{s:Sto}:∀ t,aG3 (.tup (l.map Rst.d)) (s++t)=.ok ⟨l.map Rst.d,[]⟩ (s++t):=λ _=>rfl
end
noncomputable def Stp.r (c:Nat):Stp->Rst
 | .let_ x=>.let_ x
 | .pair i j=>.pair i j
 | .sharp i=>.times i c
section
variable {P:Pr} [Has P ag6] [Has P zV] [Has P an1]
variable [Has P qi] [Has P qR] [Has P jf] [Has P z5] [Has P zx] [HasL P zm] [Has P je] [HasL P zZ] [Has P qp] [HasL P zK] [Has P ae8] [Has P aA2] [HasC P "product" (.fn "product")] [HasC P "power" (.fn "power")] [Has P aa8] [Has P ah2] [HasL P qP] [Has P ah7]
end
noncomputable def bg (w:List Nat):List Nat:=w.take 2001
theorem bQ9 (w:List Nat):bg (bg w)=bg w:=by unfold bg;rw[g6];rfl
theorem bE0 (v w:List Nat):bg (bg v++bg w)=bg (v++w):=by
 unfold bg
 rw[js,js,g6,g6,bq]
 by_cases h:v.length<=2001
 ·rw[show min (2001 - min 2001 v.length) 2001=2001 - v.length by omega];simp
 ·rw[show min (2001 - min 2001 v.length) 2001=2001 - v.length by omega];simp
theorem bH9 {w:List Nat}(h:1<=w.length){many:Nat}(y:1<=many):bg (rep (min many (2000 / (bg w).length+1)) (bg w))=bg (rep many w):=by
 by_cases hw:w.length<=2000
 ·have e:bg w=w:=bS (by omega)
  rw[e]
  by_cases hm:many<=2000 / w.length+1
  ·rw[jD hm]
  ·rw[fT (by omega)]
   obtain⟨t,rfl⟩:∃ t,many=(2000 / w.length+1)+t:=⟨many - (2000 / w.length+1),by omega⟩
   rw[aB3 w t (2000 / w.length+1)]
   unfold bg
   rw[cE]
   rw[rep_len,dw,Nat.mul_one]
   have:=Nat.div_add_mod 2000 w.length
   have:=Nat.mod_lt 2000 (show w.length > 0 by omega)
   omega
 ·have e:(bg w).length=2001:=by unfold bg;rw[bq];omega
  rw[e,show 2000 / 2001+1=1 from rfl,fT y,bL8,bQ9]
  obtain⟨t,rfl⟩:∃ t,many=1+t:=⟨many - 1,by omega⟩
  rw[aB3,bL8]
  unfold bg
  rw[cE (by omega)]
section
variable {P:Pr} [HasC P "MOST_WRITTEN" (.int 2000)] [Has P ad5] [Has P aa4]
theorem aF3 (n:Nat)(w:List Nat)(s:Sto):(aa1 P (n+1)).call "begun" [.str w] s=.ok (.str (bg w)) s:=by
 have B:(aa1 P (n+1)).call "begun" [.str w] s=_:=zL ad5 (n:=n) rfl
 have g1:=λ ρ s=>al6 (P:=P) (n:=n) (x := "MOST_WRITTEN") (d:=.int 2000) ρ s
 have y:∀ s,slM (.str w) none (some ((2000:Int)+1)) s=.ok (.str (bg w)) s:=λ s=>by
  show R.ok (D.str (ay5 w none (some ((2000:Int)+1)))) s=_
  congr 2
  unfold ay5 loB hiB sbd
  dsimp only
  rw[if_pos (by decide),Nat.sub_zero,e9]
  unfold bg
  rw[show((2000:Int)+1).toNat=2001 from rfl]
  by_cases h:w.length<=2001
  ·rw[fT h,bS (aj _),bS h]
  ·rw[jD (by omega)]
 rw[B,show(cV some [D.str w]++ar ad5.vs none)=[some (.str w)]from rfl,show ad5.body=(.cons (.ret (.slU (.var 0) (.bin .add (.glob "MOST_WRITTEN") (.cst (.int 1))))) .nil)from rfl]
 tbr_iter [bM6,g1,y]
 exact zD (λ _=>rfl) (by nofun)
theorem am5 (n:Nat){w:List Nat}(h:1<=w.length){many:Nat}(Y:1<=many)(s:Sto):(aa1 P (n+2)).call "begun_times" [.str (bg w),.int (many:Int)] s=.ok (.str (bg (rep many w))) s:=by
 have Z:(aa1 P (n+2)).call "begun_times" [.str (bg w),.int (many:Int)] s=_:=zL aa4 (n:=n+1) rfl
 have g1:=λ ρ s=>al6 (P:=P) (n:=n+1) (x := "MOST_WRITTEN") (d:=.int 2000) ρ s
 have a0:1<=(bg w).length:=by unfold bg;rw[bq];omega
 have G:(bg w).length<=2001:=by unfold bg;rw[bq];omega
 have hd:qr .fdiv (.int 2000) (.int ((bg w).length:Int)) s=.ok (.int ((2000 / (bg w).length:Nat):Int)) s:=by
  rw[ap6 (by omega) (Int.lt_of_le_of_lt (show((bg w).length:Int)<=2001 by omega) (by decide))];rfl
 have B:(if(2000 / (bg w).length:Nat)+1<(many:Int)then((2000 / (bg w).length:Nat):Int)+1 else(many:Int))=((min many (2000 / (bg w).length+1):Nat):Int):=by
  split<;>omega
 have hq:2000 / (bg w).length<=2000:=Nat.div_le_self _ _
 have y:∀ s,qr .mul (.str (bg w)) (.int ((min many (2000 / (bg w).length+1):Nat):Int)) s=.ok (.str (rep (min many (2000 / (bg w).length+1)) (bg w))) s:=λ s=>by
  have hx:(bg w).length*min many (2000 / (bg w).length+1)<=10000:=by
   refine ao (ig _ (fN _ _)) ?_
   rw[dw,Nat.mul_one]
   have:=Nat.mul_div_le 2000 (bg w).length
   omega
  have J:min many (2000 / (bg w).length+1)<=2001:=ao (fN _ _) (Nat.succ_le_succ hq)
  generalize min many (2000 / (bg w).length+1)=M at hx J ⊢
  rw[bx4 ⟨by omega,by omega,by rw[cR];unfold LIM;omega⟩,cR]
 have e1:=aF3 (P:=P) n (rep (min many (2000 / (bg w).length+1)) (bg w)) s
 rw[bH9 h Y]at e1
 rw[Z,show(cV some [D.str (bg w),D.int (many:Int)]++ar aa4.vs none)=[some (.str (bg w)),some (.int (many:Int)),none]from rfl,show aa4.body=(.cons (.asg (.one 2) (.bin .add (.bin .fdiv (.glob "MOST_WRITTEN") (.bi .len (.cons (.var 0) .nil))) (.cst (.int 1)))) (.cons (.ret (.call "begun" (.ex (.bin .mul (.var 0) (.bi .min2 (.cons (.var 1) (.cons (.var 2) .nil)))) .nil))) .nil))from rfl]
 tbr_iter [g1,as6,hd,ae6,B,y,e1]
 exact zD (λ _=>rfl) (by nofun)
def bj1 (l:List Rst):Prop:=∀(k i n:Nat),l[k]?=some (Rst.times i n)->1<=n
theorem bS2 {l:List Rst}(hk:aZ5 l)(hn:bj1 l):∀ k,k<l.length->1<=(wd l k).length:=by
 intro k
 induction k using eG with
 | _ k ih =>
  intro h
  cases e:l[k]? with
  | none=>rw[am h]at e;cases e
  | some x =>
   have hb:=hk k x e
   cases x with
   | let_ c=>rw[bO1 e];simp
   | pair i j=>rw[bM7 e hb.1 hb.2,aL];have:=ih i hb.1 (cu hb.1 h);omega
   | times i n =>
    have B:=hn k i n e
    have y:=ih i hb (cu hb h)
    rw[bM9 e hb,rep_len]
    exact ao y (Nat.le_mul_of_pos_right _ B)
variable [HasC P "begun_times" (.fn "begun_times")] [Has P aa8] [Has P ab2] [HasL P aa7] [HasL P aa6]
theorem aF2 (n:Nat){l:List Rst}(hl:l.length<=5100)(h1:1<=l.length)(hk:aZ5 l)(hn:bj1 l){s:Sto}(hs:s.all O.ncl=true){y:D}{src:List Nat}(hsr:∀ r∈src,r<s.length)(G:∀ t,aG3 y (s++t)=.ok ⟨l.map Rst.d,src⟩ (s++t)) :
  ex (aa1 P (n+3)) (.asg (.one 1) (.ix (.callC "folded" (.ex (.var 0) (.lam "last_word.1" [] (.lam "last_word.0" [] (.ex (.glob "begun_times") .nil))))) (.neg (.cst (.int 1))))) [some y,none] s=.ok (.next [some y,some (.str (bg (wd l (l.length - 1))))]) (s++[.lst ((aN l.length).map λ k=>D.str (bg (wd l k)))]):=by
 have B:=aM8 hs (W:=λ k=>.str (bg (wd l k))) (λ k=>rfl)
 have hf:=aK7 (P:=P) (n+2) hl hk hsr G (.clo "last_word.1" []) (.clo "last_word.0" []) (.fn "begun_times") (λ k=>.str (bg (wd l k))) (λ _ n=>rfl)
  (λ k ch hv=>by
   refine(aO1 aa6 (n:=n+1) rfl rfl (by rw[B k];rfl)).trans ?_
   rw[show wd l k=[ch]from bO1 hv]
   exact zD (λ _=>rfl) (by nofun))
  (λ k i j hv=>by
   refine(aO1 aa7 (n:=n+1) rfl rfl (by rw[B k];rfl)).trans ?_
   obtain⟨h,hj⟩:=hk k _ hv
   have e1:=aF3 (P:=P) n (bg (wd l i)++bg (wd l j)) (s++[.lst ((aN k).map λ k=>D.str (bg (wd l k)))])
   rw[bE0]at e1
   have hb:∀ v:List Nat,(bg v).length<=2001:=λ v=>by unfold bg;rw[bq];omega
   have Z:∀ s,qr .add (.str (bg (wd l i))) (.str (bg (wd l j))) s=.ok (.str (bg (wd l i)++bg (wd l j))) s:=λ s=>aN8 (by have:=hb (wd l i);have:=hb (wd l j);unfold LIM;omega)
   rw[bM7 hv h hj]
   show(ev (aa1 P (n+1)) (.call "begun" (.ex (.bin .add (.var 0) (.var 1)) .nil)) [some (.str (bg (wd l i))),some (.str (bg (wd l j)))] _).bind (ab3 _)=_
   tbr_iter [Z,e1]
   exact zD (λ _=>rfl) (by nofun))
  (λ k i q hv=>by
   have h:=hk k _ hv
   rw[bM9 hv h]
   have J:=(ae.mp hv).1
   exact am5 (P:=P) n (bS2 hk hn i (cu h J)) (hn k i q hv) _)
 have g1:=λ ρ s=>al6 (P:=P) (n:=n+3) (x := "begun_times") (d:=.fn "begun_times") ρ s
 have Y:=aD4 (aS7 (s:=s)) (bc6 h1 λ k=>D.str (bg (wd l k)))
 simp -implicitDefEqProofs only[ex_asg,ev_ix,be0,jd,zw,zu,zv,R.bind_ok]
 rw[aD5 (cs:=[]) _ rfl,aD5 (cs:=[]) _ rfl]
 simp -implicitDefEqProofs only[jd,qZ,g1,R.bind_ok,hf]
 rw[if_pos (by rw[B l.length];rfl)]
 tbr_iter [az6,Y]
theorem av3 (n:Nat){l:List Rst}(hl:l.length<=5100)(B:1<=l.length)(hk:aZ5 l)(hn:bj1 l){s:Sto}(hs:s.all O.ncl=true){h:D}{src:List Nat}(hsr:∀ r∈src,r<s.length)(y:∀ t,aG3 h (s++t)=.ok ⟨l.map Rst.d,src⟩ (s++t))(hw:(wd l (l.length - 1)).length<=2000) :
  (aa1 P (n+4)).call "last_word" [h] s=.ok (.str (wd l (l.length - 1))) s:=by
 have G:(aa1 P (n+4)).call "last_word" [h] s=_:=zL ab2 (n:=n+3) rfl
 have e1:=aF2 (P:=P) n hl B hk hn hs hsr y
 have J:=λ ρ s=>al6 (P:=P) (n:=n+3) (x := "MOST_WRITTEN") (d:=.int 2000) ρ s
 have eb:bg (wd l (l.length - 1))=wd l (l.length - 1):=bS (by omega)
 rw[eb]at e1
 rw[G,show(cV some [h]++ar ab2.vs none)=[some h,none]from rfl,show ab2.body=(.cons (.asg (.one 1) (.ix (.callC "folded" (.ex (.var 0) (.lam "last_word.1" [] (.lam "last_word.0" [] (.ex (.glob "begun_times") .nil))))) (.neg (.cst (.int 1))))) (.cons (.ite (.cmp .gt (.bi .len (.cons (.var 1) .nil)) (.glob "MOST_WRITTEN")) (.cons .raise .nil) .nil) (.cons (.ret (.var 1)) .nil)))from rfl,zl,e1]
 tbr_iter [as6,J,show((2000:Int)<((wd l (l.length - 1)).length:Int))=False from eq_false (by omega)]
 exact qC (λ _=>rfl) (by nofun)
theorem at6 [Has P ab0](n:Nat){l:List Rst}(hl:l.length<=5100)(y:1<=l.length)(hk:aZ5 l)(hn:bj1 l){s:Sto}(hs:s.all O.ncl=true)(hw:(wd l (l.length - 1)).length<=2000) :
  (aa1 P (n+5)).call "long_word" [.tup (l.map Rst.d)] s=.ok (.str (wd l (l.length - 1))) s:=by
 have B:(aa1 P (n+5)).call "long_word" [.tup (l.map Rst.d)] s=_:=zL ab0 (n:=n+4) rfl
 have e1:=av3 (P:=P) n hl y hk hn hs (src:=[]) (λ _ h=>by cases h) (aV3 (l:=l)) hw
 rw[B,show(cV some [D.tup (l.map Rst.d)]++ar ab0.vs none)=[some (.tup (l.map Rst.d))]from rfl,show ab0.body=(.cons (.ret (.call "last_word" (.ex (.var 0) .nil))) .nil)from rfl]
 tbr_iter [e1]
 exact zD (λ _=>rfl) (by nofun)
variable [Has P ag6] [Has P zV] [Has P an1] [Has P al3]
end
class HasX (P:Pr)(f:String)(d:Xf):Prop where
 at_:P.xf f=some d
class HasT (P:Pr)(f:String)(d:Tf):Prop where
 no:P.df f=none
 at_:P.tf f=some d
class HasE (P:Pr)(c:String)(ts:List String):Prop where
 at_:P.xc c=true
 ts:∀ t∈ts,P.xt t=true
theorem ax6 {P:Pr}{f:String}(d:Xf)[h:HasX P f d]{n:Nat}{l:List D}{s:Sto}(hl:l.length=d.ps):(aa1 P (n+1)).xcall f l s=xB (aa1 P n) d.body (l.map some++ar d.vs none) s:=by
 show(match P.xf f with|some d=>if l.length=d.ps then xB (aa1 P n) d.body (l.map some++ar d.vs none) s else none|none=>none)=_
 rw[h.at_]
 exact if_pos hl
theorem bl1 {P:Pr}{f:String}(d:Tf)[h:HasT P f d]{n:Nat}{l:List D}{s:Sto}(hl:l.length=d.ps):(aa1 P (n+1)).call f l s=bj9 (aa1 P n) d l s:=by
 have e:(aa1 P (n+1)).call f l s=match P.df f with
   | some d=>if l.length=d.ps then(exs (aa1 P n) d.body (l.map some++ar d.vs none) s).bind λ c s'=>match c with
     | .ret v=>ab3 s v s'
     | .next _=>ab3 s .non s'
     | _=>.bad else .bad
   | none=>match P.tf f with
    | some d=>if l.length=d.ps then bj9 (aa1 P n) d l s else .bad
    | none=>.bad:=rfl
 rw[e,h.no]
 show(match P.tf f with|some d=>if l.length=d.ps then bj9 (aa1 P n) d l s else .bad|none=>.bad)=_
 rw[h.at_]
 exact if_pos hl
theorem bq3 {P:Pr}{n:Nat}:(aa1 P n).xc=P.xc/\(aa1 P n).xt=P.xt:=by cases n<;>exact⟨rfl,rfl⟩
noncomputable def aa9:Xf:=⟨1,1,.seq (.asg (.one 1) (.ix (.callC "folded" (.ex (.var 0) (.lam "last_word.1" [] (.lam "last_word.0" [] (.ex (.glob "begun_times") .nil))))) (.neg (.cst (.int 1))))) (.iteT (.cmp .gt (.bi .len (.cons (.var 1) .nil)) (.glob "MOST_WRITTEN")) (.rais "TooLong") .no)⟩
noncomputable def ab5:Xf:=⟨1,0,.call "last_word" (.ex (.var 0) .nil)⟩
noncomputable def aa3:Tf:=⟨1,1,.cons (.ex (.call "long_word" (.ex (.var 0) .nil))) .nil,.call "long_word" (.ex (.var 0) .nil), "TooLong",1,.ret (.not (.isi ["NoMaking", "NotSteady", "TooMuch"])),.cons (.ret (.cst (.bl false))) .nil⟩
section
variable {P:Pr} [HasC P "MOST_WRITTEN" (.int 2000)] [Has P ad5] [Has P aa4] [HasC P "begun_times" (.fn "begun_times")] [Has P aa8] [Has P ab2] [HasL P aa7] [HasL P aa6] [HasX P "last_word" aa9] [HasE P "TooLong" ["NoMaking", "NotSteady", "TooMuch"]]
theorem aC5 (n:Nat){l:List Rst}(hl:l.length<=5100)(B:1<=l.length)(hk:aZ5 l)(hn:bj1 l){s:Sto}(hs:s.all O.ncl=true){h:D}{src:List Nat}(hsr:∀ r∈src,r<s.length)(y:∀ t,aG3 h (s++t)=.ok ⟨l.map Rst.d,src⟩ (s++t))(hw:2000<(wd l (l.length - 1)).length) :
  (aa1 P (n+4)).xcall "last_word" [h] s=some ("TooLong",s++[.lst ((aN l.length).map λ k=>D.str (bg (wd l k)))]):=by
 have G:(aa1 P (n+4)).xcall "last_word" [h] s=_:=ax6 aa9 (n:=n+3) rfl
 have e1:=aF2 (P:=P) n hl B hk hn hs hsr y
 have J:=λ ρ s=>al6 (P:=P) (n:=n+3) (x := "MOST_WRITTEN") (d:=.int 2000) ρ s
 have eb:(bg (wd l (l.length - 1))).length=2001:=by unfold bg;rw[bq];omega
 have hx:(aa1 P (n+3)).xc "TooLong"=true:=by rw[bq3.1];exact HasE.at_ ["NoMaking", "NotSteady", "TooMuch"]
 generalize bg (wd l (l.length - 1))=w at e1 eb
 have e2:∀ s,ev (aa1 P (n+3)) (.cmp .gt (.bi .len (.cons (.var 1) .nil)) (.glob "MOST_WRITTEN")) [some h,some (.str w)] s=.ok (.bl true) s:=λ s=>by
  tbr_iter [as6,J,eb,show((2000:Int)<((2001:Nat):Int))=True from eq_true (by decide)]
 rw[G,show(cV some [h]++ar aa9.vs none)=[some h,none]from rfl,show aa9.body=.seq (.asg (.one 1) (.ix (.callC "folded" (.ex (.var 0) (.lam "last_word.1" [] (.lam "last_word.0" [] (.ex (.glob "begun_times") .nil))))) (.neg (.cst (.int 1))))) (.iteT (.cmp .gt (.bi .len (.cons (.var 1) .nil)) (.glob "MOST_WRITTEN")) (.rais "TooLong") .no)from rfl]
 unfold xB
 rw[e1]
 show xB (aa1 P (n+3)) (.iteT (.cmp .gt (.bi .len (.cons (.var 1) .nil)) (.glob "MOST_WRITTEN")) (.rais "TooLong") .no) [some h,some (.str w)] _=_
 unfold xB
 rw[e2]
 exact if_pos hx
variable [Has P ab0] [HasX P "long_word" ab5] [HasT P "_law_refused" aa3]
theorem aA5 (n:Nat){l:List Rst}(hl:l.length<=5100)(y:1<=l.length)(hk:aZ5 l)(hn:bj1 l){s:Sto}(hs:s.all O.ncl=true)(hw:2000<(wd l (l.length - 1)).length) :
  (aa1 P (n+5)).xcall "long_word" [.tup (l.map Rst.d)] s=some ("TooLong",s++[.lst ((aN l.length).map λ k=>D.str (bg (wd l k)))]):=by
 have B:(aa1 P (n+5)).xcall "long_word" [.tup (l.map Rst.d)] s=_:=ax6 ab5 (n:=n+4) rfl
 have e1:=aC5 (P:=P) n hl y hk hn hs (src:=[]) (λ _ h=>by cases h) (aV3 (l:=l)) hw
 rw[B]
 exact e1
theorem ay1 (n:Nat){l:List Rst}(hl:l.length<=5100)(G:1<=l.length)(hk:aZ5 l)(hn:bj1 l){s:Sto}(hs:s.all O.ncl=true)(hw:2000<(wd l (l.length - 1)).length) :
  (aa1 P (n+6)).call "_law_refused" [.tup (l.map Rst.d)] s=.ok (.bl true) s:=by
 have J:(aa1 P (n+6)).call "_law_refused" [.tup (l.map Rst.d)] s=_:=bl1 aa3 (n:=n+5) rfl
 have e1:xB (aa1 P (n+5)) aa3.xb ([.tup (l.map Rst.d)].map some++ar aa3.vs none) s=_:=aA5 (P:=P) n hl G hk hn hs hw
 rw[J]
 unfold bj9
 rw[e1]
 have y:=HasE.ts (P:=P) (c := "TooLong") (ts:=["NoMaking", "NotSteady", "TooMuch"])
 have hx:(aa1 P (n+5)).xc "TooLong"=true:=by rw[bq3.1];exact HasE.at_ ["NoMaking", "NotSteady", "TooMuch"]
 have B:aa3.h.ok (aa1 P (n+5)).xt=true:=by
  rw[bq3.2]
  exact aG.mpr y
 show(if "TooLong"=aa3.c/\(aa1 P (n+5)).xc "TooLong"=true/\aa3.h.ok (aa1 P (n+5)).xt=true then ab3 s (.bl (aa3.h.val "TooLong")) _ else .bad)=_
 rw[if_pos ⟨rfl,hx,B⟩]
 exact qC (d:=.bl true) (λ _=>rfl) (by nofun)
variable [Has P ab4] [Has P ab9] [Has P ac3]
theorem aK4 (n:Nat){l:List Rst}(Y:l.length<=500)(B:1<=l.length)(hk:ab8 l){s:Sto}(hs:s.all O.ncl=true) :
  (aa1 P (n+7)).call "_law_right" [.tup (l.map Rst.d)] s=.ok (.bl true) s:=by
 have Z:(aa1 P (n+7)).call "_law_right" [.tup (l.map Rst.d)] s=_:=zL ac3 (n:=n+6) rfl
 have e1:=aB2 (P:=P) (n+5) hk Y s
 have J:(s++[O.lst (qz (zP l))]).all O.ncl=true:=ah9 hs bb9
 have y:=qY (l:=l) l.length (aj _)
 rw[jr]at y
 have G:ixM (.ref s.length) (.int (-1)) (s++[O.lst (qz (zP l))])=.ok (.int (((zP l).getD (l.length - 1) 0:Nat):Int)) (s++[O.lst (qz (zP l))]):=aD4 aS7 (by
  unfold qz
  rw[aE,y,aJ,aM,am (by omega)];rfl)
 have a0:=aH2 hk (l.length - 1) (by omega)
 have hn:bj1 l:=λ k i n e=>(hk k _ e).2.1
 rw[Z,show(cV some [D.tup (l.map Rst.d)]++ar ac3.vs none)=[some (.tup (l.map Rst.d))]from rfl,show ac3.body=(.cons (.ite (.cmp .gt (.ix (.call "_law_lengths" (.ex (.var 0) .nil)) (.neg (.cst (.int 1)))) (.cst (.int 2000))) (.cons (.ret (.call "_law_refused" (.ex (.var 0) .nil))) .nil) .nil) (.cons (.ret (.cmp .eq (.call "long_word" (.ex (.var 0) .nil)) (.call "_law_word" (.ex (.var 0) .nil)))) .nil))from rfl]
 by_cases h:(2000:Int)<(((zP l).getD (l.length - 1) 0:Nat):Int)
 ·have e2:=ay1 (P:=P) n (l:=l) (by omega) B hk.b hn J (by omega)
  tbr_iter [e1,az6,G,h,e2]
  exact qC (λ _=>rfl) (by nofun)
 ·have e2:=at6 (P:=P) (n+1) (l:=l) (by omega) B hk.b hn J (by omega)
  have e3:=aX8 (P:=P) (n+5) B hk (show(zP l).getD (l.length - 1) 0<=2500 by omega) (s++[O.lst (qz (zP l))])
  have e4:∀ s:Sto,qD .eq (.str (wd l (l.length - 1))) (.str (wd l (l.length - 1))) s=.ok (.bl true) s:=λ s=>by
   show(match eqv s DEEP (.str (wd l (l.length - 1))) (.str (wd l (l.length - 1)))with|some r=>R.ok (D.bl r) s|none=>.bad)=_
   rw[be3]
  tbr_iter [e1,az6,G,h,e2,e3,e4]
  exact qC (λ _=>rfl) (by nofun)
end
noncomputable def ai1 (c p:Nat):List Rst:=[.let_ c,.let_ 98,.times 0 p,.times 1 (2000 - p),.pair 2 3,.pair 4 1]
theorem aC3 {c p:Nat}(hc:97<=c/\c<100)(hp:1<=p/\p<=1999):ab8 (ai1 c p):=by
 have h0:ab8 [.let_ c]:=ab8.nil.snoc hc
 have y:ab8 [.let_ c,.let_ 98]:=h0.snoc (x:=.let_ 98) ⟨by decide,by decide⟩
 have h:ab8 [.let_ c,.let_ 98,.times 0 p]:=y.snoc (x:=.times 0 p) ⟨by simp,hp.1,by omega⟩
 have G:ab8 [.let_ c,.let_ 98,.times 0 p,.times 1 (2000 - p)]:=h.snoc (x:=.times 1 (2000 - p)) ⟨by simp,by omega,by omega⟩
 have B:ab8 [.let_ c,.let_ 98,.times 0 p,.times 1 (2000 - p),.pair 2 3]:=G.snoc (x:=.pair 2 3) ⟨by simp,by simp⟩
 exact B.snoc (x:=.pair 4 1) ⟨by simp,by simp⟩
theorem bf0 {c p:Nat}(hc:97<=c/\c<100)(hp:1<=p/\p<=1999):ab8 ((ai1 c p).take 5):=λ k x e=>aC3 hc hp k x (by
 have hk:=(ae.mp e).1
 have h:k<5:=by simpa [ai1]using hk
 rw[e8,if_pos h]at e;exact e)
noncomputable def i39:S:=.ite (.cmp .eq (.call "_law_draw" (.ex (.var 2) (.ex (.cst (.int 8)) .nil))) (.cst (.int 3))) (.cons (.asg (.one 3) (.call "_law_tall" (.ex (.var 2) (.ex (.cst (.int 3)) (.ex (.cst (.int 59)) .nil))))) .nil) .nil
noncomputable def r39:Ss:=.cons (.ite (.not (.call "_law_right" (.ex (.var 7) .nil))) (.cons (.ret (.cst (.bl false))) .nil) .nil) .nil
noncomputable def f39:S:=.for_ (.one 7) (.seq (.lst (.cons (.var 3) (.cons (.slU (.var 6) (.cst (.int 5))) (.cons (.var 6) (.cons (.bin .add (.var 3) (.tup (.cons (.var 4) .nil))) (.cons (.bin .add (.var 6) (.tup (.cons (.var 4) .nil))) .nil))))))) r39
noncomputable def b39:Ss:=.cons (.asg (.one 2) (.call "_law_box" (.ex (.var 0) (.ex (.var 1) .nil)))) (.cons (.asg (.one 3) (.call "_law_recipe" (.ex (.var 2) (.ex (.cst (.int 3)) (.ex (.cst (.int 10)) (.ex (.cst (.int 4)) .nil)))))) (.cons i39 (.cons (.asg (.one 4) (.tup (.cons (.cst (.str [108,101,116,116,101,114])) (.cons (.ix (.cst (.str [97,98,99])) (.call "_law_draw" (.ex (.var 2) (.ex (.cst (.int 3)) .nil)))) .nil)))) (.cons (.asg (.one 5) (.bin .add (.cst (.int 1)) (.call "_law_draw" (.ex (.var 2) (.ex (.cst (.int 1999)) .nil))))) (.cons (.asg (.one 6) (.tup (.cons (.var 4) (.cons (.tup (.cons (.cst (.str [108,101,116,116,101,114])) (.cons (.cst (.str [98])) .nil))) (.cons (.tup (.cons (.cst (.str [116,105,109,101,115])) (.cons (.cst (.int 0)) (.cons (.var 5) .nil)))) (.cons (.tup (.cons (.cst (.str [116,105,109,101,115])) (.cons (.cst (.int 1)) (.cons (.bin .sub (.cst (.int 2000)) (.var 5)) .nil)))) (.cons (.tup (.cons (.cst (.str [112,97,105,114])) (.cons (.cst (.int 2)) (.cons (.cst (.int 3)) .nil)))) (.cons (.tup (.cons (.cst (.str [112,97,105,114])) (.cons (.cst (.int 4)) (.cons (.cst (.int 1)) .nil)))) .nil)))))))) (.cons f39 .nil))))))
theorem bC0:ab7.body=(.cons (.for_ (.one 1) (.rng1 (.bin .add (.bi .min2 (.cons (.cst (.int 8)) (.cons (.bi .len (.cons (.var 0) .nil)) .nil))) (.cst (.int 1)))) b39) (.cons (.ret (.cst (.bl true))) .nil)):=rfl
section
variable {P:Pr} [HasC P "MOST_WRITTEN" (.int 2000)] [Has P ad5] [Has P aa4] [HasC P "begun_times" (.fn "begun_times")] [Has P aa8] [Has P ab2] [HasL P aa7] [HasL P aa6] [HasX P "last_word" aa9] [HasE P "TooLong" ["NoMaking", "NotSteady", "TooMuch"]] [Has P ab0] [HasX P "long_word" ab5] [HasT P "_law_refused" aa3] [Has P ab4] [Has P ab9] [Has P ac3]
 [Has P ah6] [Has P ac7] [Has P ac2] [Has P ac1] [Has P ab7]
theorem bC8 (n:Nat){s:Sto}{r:Nat}(hs:∃ b,s[r]?=some (z8 b)){l:List Rst}(hl:ab8 l)(h1:1<=l.length)(h6:l.length<=60)(Z x1 J Y x6 x7:Option D) :
  ∃(y:List Rst) (b:Int),ab8 y/\1<=y.length/\y.length<=60/\ex (aa1 P (n+7)) i39 [Z,x1,some (.ref r),some (.tup (l.map Rst.d)),J,Y,x6,x7] s=.ok (.next [Z,x1,some (.ref r),some (.tup (y.map Rst.d)),J,Y,x6,x7]) (s.set r (z8 b)):=by
 obtain⟨v,b,hv,e⟩:=aj9 (P:=P) (n+6) hs 8 (by decide) (by decide)
 have hr:=aH1 hs
 by_cases h:(v:Int)=3
 ·obtain⟨y,b',B,G,a0,e'⟩:=ba8 (P:=P) (n+5) (s:=s.set r (z8 b)) (ao7 hr) 59 (by decide) (by decide)
  rw[eO,show(((59:Nat):Int))=59 from rfl]at e'
  refine⟨y,b',B,G,by omega,?_⟩
  unfold i39
  tbr_iter [e,h,e']
 ·refine⟨l,b,hl,h1,h6,?_⟩
  unfold i39
  tbr_iter [e,h]
theorem bH6 (n:Nat){s:Sto}(hs:s.all O.ncl=true){l:List Rst}(hl:ab8 l)(h1:1<=l.length)(h6:l.length<=60){c p:Nat}(hc:97<=c/\c<100)(hp:1<=p/\p<=1999)(G x1 J B x7:Option D) :
  ∃(y:Option D) (u:Sto),u.all O.ncl=true/\(∃ o,u=s++[o])/\ex (aa1 P (n+7)) f39 [G,x1,J,some (.tup (l.map Rst.d)),some (Rst.let_ c).d,B,some (.tup ((ai1 c p).map Rst.d)),x7] s=.ok (.next [G,x1,J,some (.tup (l.map Rst.d)),some (Rst.let_ c).d,B,some (.tup ((ai1 c p).map Rst.d)),y]) u:=by
 have ls:∀ x∈[l,(ai1 c p).take 5,ai1 c p,l++[Rst.let_ c],ai1 c p++[Rst.let_ c]],ab8 x/\1<=x.length/\x.length<=500:=by
  intro x hx
  simp only[ay,bG,or_false]at hx
  rcases hx with rfl|rfl|rfl|rfl|rfl
  ·exact⟨hl,h1,by omega⟩
  ·exact⟨bf0 hc hp,by simp[ai1],by simp[ai1]⟩
  ·exact⟨aC3 hc hp,by simp[ai1],by simp[ai1]⟩
  ·exact⟨hl.snoc hc,by simp,by simp;omega⟩
  ·exact⟨(aC3 hc hp).snoc hc,by simp,by simp[ai1]⟩
 have sl:∀ s:Sto,slM (.tup ((ai1 c p).map Rst.d)) none (some 5) s=.ok (.tup (((ai1 c p).take 5).map Rst.d)) s:=λ s=>rfl
 have a1:∀ s:Sto,qr .add (.tup (l.map Rst.d)) (.tup [(Rst.let_ c).d]) s=.ok (.tup ((l++[Rst.let_ c]).map Rst.d)) s:=λ s=>by
  rw[aT2 (by unfold LIM;simp;omega),bt];rfl
 have a2:∀ s:Sto,qr .add (.tup ((ai1 c p).map Rst.d)) (.tup [(Rst.let_ c).d]) s=.ok (.tup ((ai1 c p++[Rst.let_ c]).map Rst.d)) s:=λ s=>by
  rw[aT2 (by unfold LIM;simp[ai1]),bt];rfl
 have nO:(O.lst ([l,(ai1 c p).take 5,ai1 c p,l++[Rst.let_ c],ai1 c p++[Rst.let_ c]].map λ x=>D.tup (x.map Rst.d))).ncl=true:=af9 λ d hd=>by
  obtain⟨x,_,rfl⟩:=aW.mp hd
  exact af9 λ d hd=>by obtain⟨y,_,rfl⟩:=aW.mp hd;cases y<;>rfl
 have Z:=ah9 hs nO
 generalize hE:ai1 c p=e at *
 generalize hZ:[l,e.take 5,e,l++[Rst.let_ c],e++[Rst.let_ c]]=zs at *
 have g0:(s++[O.lst (zs.map λ x=>D.tup (x.map Rst.d))])[s.length]?=some (.lst (zs.map λ x=>D.tup (x.map Rst.d))):=by simp
 generalize Y:s++[O.lst (zs.map λ x=>D.tup (x.map Rst.d))]=U at *
 have key:=ai8 (ok:=λ s1=>chk U s1 [s.length]) (g:=turn (aa1 P (n+7)) (.one 7) r39) (λ i ρ u=>u=U/\∃ y,ρ=[G,x1,J,some (.tup (l.map Rst.d)),some (Rst.let_ c).d,B,some (.tup (e.map Rst.d)),y]) (zs.map λ x=>D.tup (x.map Rst.d)) 0 [G,x1,J,some (.tup (l.map Rst.d)),some (Rst.let_ c).d,B,some (.tup (e.map Rst.d)),x7] U ⟨rfl,_,rfl⟩ (λ _ _ _ _ h=>by rw[h.1];simp[chk]) (by
  rintro i d ρ u hi ⟨rfl,y,rfl⟩
  obtain⟨x,hx,rfl⟩:=aW.mp (bp hi)
  obtain⟨q1,q2,q3⟩:=ls x hx
  have e1:=aK4 (P:=P) n q3 q2 q1 Z
  refine⟨[G,x1,J,some (.tup (l.map Rst.d)),some (Rst.let_ c).d,B,some (.tup (e.map Rst.d)),some (.tup (x.map Rst.d))],u,.inl ?_,rfl,_,rfl⟩
  unfold turn r39
  tbr_iter [e1])
 obtain⟨ρ',s',ek,rfl,y,rfl⟩:=key
 refine⟨y,s',Z,⟨_,Y.symm⟩,?_⟩
 have sq:aG3 (.ref s.length) s'=.ok ⟨zs.map λ x=>D.tup (x.map Rst.d),[s.length]⟩ s':=by simp only[aG3,g0]
 have hL:s++[O.lst [D.tup (l.map Rst.d),.tup ((e.take 5).map Rst.d),.tup (e.map Rst.d),.tup ((l++[Rst.let_ c]).map Rst.d),.tup ((e++[Rst.let_ c]).map Rst.d)]]=s':=by rw[<-Y,<-hZ];rfl
 unfold f39
 tbr_iter [show ∀ ρ s,ev (aa1 P (n+7)) (.slU (.var 6) (.cst (.int 5))) ρ s=(aM1 ρ 6 s).bind λ x s=>slM x none (some 5) s from λ _ _=>rfl,sl,a1,a2,hL,sq]
 exact ek
theorem bU0 (n:Nat):bT7 P (n+8):=by
 intro ns hl
 have e0:(aa1 P (n+8)).call "law" [.ref 0] [.ro (ns.map D.int)]=_:=zL ab7 (n:=n+7) rfl
 rw[e0,bC0,show(cV some [D.ref 0]++ar ab7.vs none)=[some (.ref 0),none,none,none,none,none,none,none]from rfl]
 have a6:([.ro (ns.map D.int)]:Sto)[0]?=some (.ro (ns.map D.int)):=rfl
 have Z:bi .len [.ref 0] [.ro (ns.map D.int)]=.ok (.int ns.length) [.ro (ns.map D.int)]:=by rw[bi6 a6,aE]
 have hk:(if(ns.length:Int)<8 then(ns.length:Int)else 8)+1=((min ns.length 8+1:Nat):Int):=by omega
 tbr_iter [Z,ae6,hk]
 rw[ar1 (by unfold W62;omega) (by unfold W62;omega)]
 simp only[R.bind_ok]
 rw[R.bind_assoc]
 refine aq5 (W:=Yes) (λ j ρ t=>t[0]?=some (.ro (ns.map D.int))/\t.all O.ncl=true/\∃ x1 x2 x3 x4 x5 x6 Y,ρ=[some (.ref 0),x1,x2,x3,x4,x5,x6,Y]) ⟨rfl,by
   simp only[dg,j8,fI];exact aX4,_,_,_,_,_,_,_,rfl⟩ (λ _ _ _ _ _=>rfl) ?_ ?_
 ·rintro j d ρ t hj ⟨ht,hn,x1,x2,x3,x4,x5,x6,Y,rfl⟩
  have hd:=(aj6 hj).2
  subst hd
  have b1:0<t.length:=(ae.mp ht).1
  obtain⟨G,h⟩:=bK9 (P:=P) (n+6) ns j ht
  have B:∃ b,(t++[z8 G])[t.length]?=some (z8 b):=⟨G,by simp⟩
  have a3:(t++[z8 G]).all O.ncl=true:=ah9 hn rfl
  have hr:t.length<(t++[z8 G]).length:=aH1 B
  have a0:(t++[z8 G])[0]?=some (.ro (ns.map D.int)):=zO ht
  generalize t++[z8 G]=S at h B a3 hr a0
  generalize t.length=r at *
  have a5:r≠0:=by omega
  obtain⟨l,b2,b0,a4,b6,e2⟩:=aS1 (P:=P) (n+5) B 10 (by decide) (by decide) 4
  rw[show(((10:Nat):Int))=10 from rfl]at e2
  obtain⟨l',b3,a2,J,a1,e3⟩:=bC8 (P:=P) n (s:=S.set r (z8 b2)) (ao7 hr) b0 a4 (by omega) (some (.ref 0)) (some (.int (j:Int))) x4 x5 x6 Y
  rw[eO]at e3
  obtain⟨c,b4,hc,e4⟩:=aj9 (P:=P) (n+6) (s:=S.set r (z8 b3)) (ao7 hr) 3 (by decide) (by decide)
  rw[eO]at e4
  obtain⟨p,b5,hp,e5⟩:=aj9 (P:=P) (n+6) (s:=S.set r (z8 b4)) (ao7 hr) 1999 (by decide) (by decide)
  rw[eO]at e5
  obtain⟨y,u,hu,⟨o,eu⟩,e6⟩:=bH6 (P:=P) n (s:=S.set r (z8 b5)) (bp0 a3 rfl) a2 J a1 (c:=97+c) (p:=1+p) (by omega) (by omega) (some (.ref 0)) (some (.int (j:Int))) (some (.ref r)) (some (.int ((1+p:Nat):Int))) Y
  have hE:D.tup ((ai1 (97+c) (1+p)).map Rst.d)=.tup [.tup [.str [108,101,116,116,101,114],.str [97+c]],.tup [.str [108,101,116,116,101,114],.str [98]],.tup [.str [116,105,109,101,115],.int 0,.int ((1+p:Nat):Int)],.tup [.str [116,105,109,101,115],.int 1,.int (2000 - ((1+p:Nat):Int))],.tup [.str [112,97,105,114],.int 2,.int 3],.tup [.str [112,97,105,114],.int 4,.int 1]]:=by
   have:((2000 - (1+p):Nat):Int)=2000 - ((1+p:Nat):Int):=by omega
   unfold ai1
   rw[<-this];rfl
  rw[hE]at e6
  have hL:(Rst.let_ (97+c)).d=.tup [.str [108,101,116,116,101,114],.str [97+c]]:=rfl
  rw[hL]at e6
  refine bv6 (ρ:=[some (.ref 0),some (.int (j:Int)),some (.ref r),some (.tup (l'.map Rst.d)),some (.tup [.str [108,101,116,116,101,114],.str [97+c]]),some (.int ((1+p:Nat):Int)),some (.tup [.tup [.str [108,101,116,116,101,114],.str [97+c]],.tup [.str [108,101,116,116,101,114],.str [98]],.tup [.str [116,105,109,101,115],.int 0,.int ((1+p:Nat):Int)],.tup [.str [116,105,109,101,115],.int 1,.int (2000 - ((1+p:Nat):Int))],.tup [.str [112,97,105,114],.int 2,.int 3],.tup [.str [112,97,105,114],.int 4,.int 1]]),y]) (s:=u) ?_ ⟨?_,hu,_,_,_,_,_,_,_,rfl⟩
  ·unfold turn b39
   tbr_iter [h,e2,e3,e4,aO0 (show c<3 by omega),e5,show(1:Int)+(p:Int)=((1+p:Nat):Int)from by omega,e6]
  ·rw[eu,aB (by rw[br];omega),aY a5]
   exact a0
 ·rintro ρ t ⟨ht,hn,x1,x2,x3,x4,x5,x6,Y,rfl⟩
  tbr_iter []
  exact aS4 _ _
end
end DV
end
local macro_rules | `(tactic| walk_at "sc") => `(tactic| exact ⟨rfl, rfl, rfl, by decide +kernel, rfl, by decide +kernel, by decide +kernel⟩)
local macro_rules | `(tactic| walk_at "df") => `(tactic| (dsimp only; exact ⟨_, _, _, _, _, _, _, _, _, _, by k_is, by k_is, by k_is, by k_is⟩))
noncomputable section
namespace My
open PySem L2
noncomputable def top (i:Nat):Stmt:=PySem.Challenge.pw_leasttolls_k39_long_words_written.main.body.getD i (.Pass ⟨0,0,0,0⟩)
theorem ca0:aJ2 ["letter"]:=λ params h _ _ _ _ _ _ _ _ us hl=>by
 obtain⟨args,rfl,ha⟩:=jh h
 revert us
 refine bd1 ?_
 intro y
 rcases args with _|⟨⟨a0,_,_⟩,_|⟨_,_⟩⟩
 all_goals simp only[aI,cr,jE,and_true,and_false,reduceCtorEq]at ha
 obtain rfl:=ha
 exact⟨rfl,λ _ _=>rfl⟩
theorem bZ1:aJ2 ["one", "other"]:=λ params h _ _ _ _ _ _ _ _ us hl=>by
 obtain⟨args,rfl,ha⟩:=jh h
 revert us
 refine bd2 ?_
 intro y G
 rcases args with _|⟨⟨a0,_,_⟩,_|⟨⟨B,_,_⟩,_|⟨_,_⟩⟩⟩
 all_goals simp only[aI,cr,jE,and_true,and_false,reduceCtorEq]at ha
 obtain⟨rfl,rfl⟩:=ha
 exact⟨rfl,λ _ _=>rfl⟩
noncomputable def ah0:List Str:=["last_word"]
noncomputable abbrev aF1:Stmt:=top 7
noncomputable abbrev aN9:Stmt:=top 10
noncomputable abbrev ad6:Stmt:=top 11
noncomputable abbrev ac5:Stmt:=top 12
noncomputable abbrev ac4:Stmt:=top 14
noncomputable abbrev ao3:Stmt:=top 16
noncomputable abbrev al1:Stmt:=top 17
noncomputable abbrev ag0:Stmt:=top 18
noncomputable abbrev ae3:Stmt:=top 19
noncomputable abbrev ai6:Stmt:=top 20
noncomputable abbrev ad1:Stmt:=top 21
noncomputable abbrev ah4:Stmt:=top 22
noncomputable abbrev ak9:Stmt:=top 23
noncomputable abbrev av9:Stmt:=top 24
noncomputable def tb:List (String×lF×Stmt):=[("folded",DV.aa8,aF1),("begun",DV.ad5,aN9),("begun_times",DV.aa4,ad6),("last_word",DV.ab2,ac5),("long_word",DV.ab0,ac4),("_law_box",DV.ah6,ao3),("_law_draw",DV.ac7,al1),("_law_recipe",DV.ac2,ag0),("_law_lengths",DV.ab4,ae3),("_law_word",DV.ab9,ai6),("_law_right",DV.ac3,ah4),("_law_tall",DV.ac1,ak9),("law",DV.ab7,av9)]
noncomputable def bR4:List (String×ku):=[("MOST_WRITTEN",.int (2000)),("begun_times",.fn "begun_times")]
noncomputable def cb7:List (String×lE):=[("last_word.0",DV.aa7),("last_word.1",DV.aa6)]
noncomputable def tbl:List (String×lF):=tb.map λ p=>(p.1,p.2.1)
noncomputable def xtb:List (String×DV.Xf):=[("last_word",DV.aa9),("long_word",DV.ab5)]
noncomputable def ttb:List (String×DV.Tf):=[("_law_refused",DV.aa3)]
noncomputable def dl:List (String×Stmt):=[("last_word",ac5),("long_word",ac4),("_law_refused",ad1)]
noncomputable def xcs:List String:=["TooLong"]
noncomputable def xts:List String:=["NoMaking", "NotSteady", "TooMuch"]
noncomputable def P:kI:=⟨λ f=>tbl.lookup f,λ f=>cb7.lookup f,λ x=>bR4.lookup x,λ f=>xtb.lookup f,λ f=>ttb.lookup f,λ c=>xcs.contains c,λ c=>xts.contains c⟩
instance:DV.HasX P "last_word" DV.aa9:=⟨rfl⟩
instance:DV.HasX P "long_word" DV.ab5:=⟨rfl⟩
instance:DV.HasT P "_law_refused" DV.aa3:=⟨rfl,rfl⟩
instance:DV.HasE P "TooLong" ["NoMaking", "NotSteady", "TooMuch"]:=⟨rfl,by decide⟩
instance:DV.HasL P DV.aa7:=⟨rfl⟩
instance:DV.HasL P DV.aa6:=⟨rfl⟩
instance:DV.HasC P "MOST_WRITTEN" (.int (2000)):=⟨rfl⟩
instance:DV.HasC P "begun_times" (.fn "begun_times"):=⟨rfl⟩
instance:DV.Has P DV.aa8:=⟨rfl⟩
instance:DV.Has P DV.ad5:=⟨rfl⟩
instance:DV.Has P DV.aa4:=⟨rfl⟩
instance:DV.Has P DV.ab2:=⟨rfl⟩
instance:DV.Has P DV.ab0:=⟨rfl⟩
instance:DV.Has P DV.ah6:=⟨rfl⟩
instance:DV.Has P DV.ac7:=⟨rfl⟩
instance:DV.Has P DV.ac2:=⟨rfl⟩
instance:DV.Has P DV.ab4:=⟨rfl⟩
instance:DV.Has P DV.ab9:=⟨rfl⟩
instance:DV.Has P DV.ac3:=⟨rfl⟩
instance:DV.Has P DV.ac1:=⟨rfl⟩
instance:DV.Has P DV.ab7:=⟨rfl⟩
theorem ba6:DT ah0 P "folded" DV.aa8 aF1:=⟨["steps", "of_letter", "of_pair", "of_times", "values", "step"],["steps", "of_letter", "of_pair", "of_times"],by walk_at "sc",rfl,rfl,λ _ _ _ _ _ _=>bd4 (λ _ _ _ _=>rfl),.inl (by decide +kernel)⟩
theorem bn7:DT ah0 P "begun" DV.ad5 aN9:=⟨["word"],["word"],by walk_at "sc",rfl,rfl,λ _ _ _ _ _ _=>bd1 (λ _=>rfl),.inl (by decide +kernel)⟩
theorem ap9:DT ah0 P "begun_times" DV.aa4 ad6:=⟨["word", "many", "enough"],["word", "many"],by walk_at "sc",rfl,rfl,λ _ _ _ _ _ _=>bd2 (λ _ _=>rfl),.inl (by decide +kernel)⟩
theorem aA0:DT ah0 P "last_word" DV.ab2 ac5:=⟨["steps", "word"],["steps"],by walk_at "sc",rfl,rfl,λ _ _ _ _ _ _=>bd1 (λ _=>rfl),.inr ⟨by decide,[("last_word.0",DV.aa7,["one", "other"],[]),("last_word.1",DV.aa6,["letter"],[])],by decide +kernel,by decide +kernel,λ p hp=>by
 simp only[ay,bG,or_false]at hp
 rcases hp with rfl|rfl
 ·exact⟨rfl,bZ1⟩
 ·exact⟨rfl,ca0⟩⟩⟩
theorem aD1:DT ah0 P "long_word" DV.ab0 ac4:=⟨["recipe"],["recipe"],by walk_at "sc",rfl,rfl,λ _ _ _ _ _ _=>bd1 (λ _=>rfl),.inl (by decide +kernel)⟩
theorem aJ1:DT ah0 P "_law_box" DV.ah6 ao3:=⟨["_law_script", "_law_at", "_law_cell", "_law_number", "_law_j", "_law_part"],["_law_script", "_law_at"],by walk_at "sc",rfl,rfl,λ _ _ _ _ _ _=>bd2 (λ _ _=>rfl),.inl (by decide +kernel)⟩
theorem aD2:DT ah0 P "_law_draw" DV.ac7 al1:=⟨["_law_box_here", "_law_many", "_law_found"],["_law_box_here", "_law_many"],by walk_at "sc",rfl,rfl,λ _ _ _ _ _ _=>bd2 (λ _ _=>rfl),.inl (by decide +kernel)⟩
theorem ap0:DT ah0 P "_law_recipe" DV.ac2 ag0:=⟨["_law_box_here", "_law_letters", "_law_most", "_law_times", "_law_steps", "_law_k", "_law_way", "_law_one", "_law_other", "_law_many"],["_law_box_here", "_law_letters", "_law_most", "_law_times"],by walk_at "sc",rfl,rfl,λ _ _ _ _ _ _=>bd4 (λ _ _ _ _=>rfl),.inl (by decide +kernel)⟩
theorem am7:DT ah0 P "_law_lengths" DV.ab4 ae3:=⟨["_law_recipe_here", "_law_found", "_law_step"],["_law_recipe_here"],by walk_at "sc",rfl,rfl,λ _ _ _ _ _ _=>bd1 (λ _=>rfl),.inl (by decide +kernel)⟩
theorem ay9:DT ah0 P "_law_word" DV.ab9 ai6:=⟨["_law_recipe_here", "_law_waiting", "_law_word_here", "_law_step"],["_law_recipe_here"],by walk_at "sc",rfl,rfl,λ _ _ _ _ _ _=>bd1 (λ _=>rfl),.inl (by decide +kernel)⟩
theorem aw4:DT ah0 P "_law_right" DV.ac3 ah4:=⟨["_law_recipe_here"],["_law_recipe_here"],by walk_at "sc",rfl,rfl,λ _ _ _ _ _ _=>bd1 (λ _=>rfl),.inl (by decide +kernel)⟩
theorem aB6:DT ah0 P "_law_tall" DV.ac1 ak9:=⟨["_law_box_here", "_law_letters", "_law_most", "_law_steps", "_law_k"],["_law_box_here", "_law_letters", "_law_most"],by walk_at "sc",rfl,rfl,λ _ _ _ _ _ _=>bd3 (λ _ _ _=>rfl),.inl (by decide +kernel)⟩
theorem bg9:FnScope ["_law_script", "_law_k", "_law_box_here", "_law_recipe_here", "_law_letter", "_law_part", "_law_edge", "_law_one"] ["_law_script"] (defScope av9):=by walk_at "sc"
theorem bL9:mSs ⟨["_law_script", "_law_k", "_law_box_here", "_law_recipe_here", "_law_letter", "_law_part", "_law_edge", "_law_one"],defScope av9,λ _ _ _=>false⟩ DV.ab7.body (zC av9)=true:=by decide +kernel
theorem bC5:bX5 "law" av9 ["_law_script"]:=λ _ _ _ _ _ _=>bd1 λ _=>rfl
theorem bV2:DT ah0 P "law" DV.ab7 av9:=⟨_,_,bg9,rfl,rfl,bC5,.inl bL9⟩
theorem aC4:DTB ah0 P "last_word" DV.aa9.ps DV.aa9.vs (λ h S=>mX h DV.aa9.body S) ac5:=⟨["steps", "word"],["steps"],by walk_at "sc",rfl,rfl,λ _ _ _ _ _ _=>bd1 (λ _=>rfl),.inr ⟨by decide,[("last_word.0",DV.aa7,["one", "other"],[]),("last_word.1",DV.aa6,["letter"],[])],by decide +kernel,by decide +kernel,λ p hp=>by
 simp only[ay,bG,or_false]at hp
 rcases hp with rfl|rfl
 ·exact⟨rfl,bZ1⟩
 ·exact⟨rfl,ca0⟩⟩⟩
theorem aA9:DTB ah0 P "long_word" DV.ab5.ps DV.ab5.vs (λ h S=>mX h DV.ab5.body S) ac4:=⟨["recipe"],["recipe"],by walk_at "sc",rfl,rfl,λ _ _ _ _ _ _=>bd1 (λ _=>rfl),.inl (by decide +kernel)⟩
theorem am8:DTB ah0 P "_law_refused" DV.aa3.ps DV.aa3.vs (λ h S=>mT h DV.aa3 S) ad1:=⟨["_law_recipe_here", "e"],["_law_recipe_here"],by walk_at "sc",rfl,rfl,λ _ _ _ _ _ _=>bd1 (λ _=>rfl),.inl (by decide +kernel)⟩
theorem bT0:∀ p∈tb,DT ah0 P p.1 p.2.1 p.2.2:=by
 intro p hp
 unfold tb at hp
 simp only[ay,bG,or_false]at hp
 rcases hp with rfl|rfl|rfl|rfl|rfl|rfl|rfl|rfl|rfl|rfl|rfl|rfl|rfl
 ·exact ba6
 ·exact bn7
 ·exact ap9
 ·exact aA0
 ·exact aD1
 ·exact aJ1
 ·exact aD2
 ·exact ap0
 ·exact am7
 ·exact ay9
 ·exact aw4
 ·exact aB6
 ·exact bV2
theorem bD1 {l:cI}{w:World}{K:ac}{h:Heap}{mg:Str->Option Value}{fa:Addr}(X:K.In h)(G:h.Ns aS mg)(B:mg "law"=some (.ref fa))(hD:∀ p∈tb,bO3 K p.1 p.2.2)(hz:∀ x∈bNames,bV K aS x=some none)
  {y:Tok} (gc_MOST_WRITTEN:bV K aS "MOST_WRITTEN"=some (some (.int (2000) y)))
  (hT:∀ x∈ah0,(a8 K x).isSome=true) (tnd:decide (((bm3 ah0 K).map (·.1)).Nodup)=true) (hDx:∀ p∈dl,bO3 K p.1 p.2) (hcl:bw8 K xcs xts=true)
  : ∃ Z:bv,(∀(s:af) (v:Value),jG s Z ⟨[v],[]⟩ [("_law_script",v)])/\∀ base:Heap,K.In base->base.Ns aS mg->BM mg base->bw4 K ah0 base->FnOk l.prog w K mg base CX0 46 fa Z ["_law_script"] (spB ah0 K):=by
 have J:PrOk (aT6 ah0 P K) (bv3 ah0 K) P mg:=by
  refine⟨λ f d h=>aI1 (tbl:=tbl) (λ p hp=>?_) f d h,λ x d h=>aU8 (tbl:=bR4) ?_ x d h,λ x hx=>PySem.W.mg_none_of X G (hz x hx),bW3 X G,bU6,of_decide_eq_true tnd,az3 (tbl:=xtb) (λ p hp=>?_),az3 (tbl:=ttb) (λ p hp=>?_),(aW6 X G hcl).1,(aW6 X G hcl).2.1,(aW6 X G hcl).2.2⟩
  ·obtain⟨r,Y,rfl⟩:=aW.mp hp
   exact good_of X G hT (hD r Y) (bT0 r Y)
  ·intro p hp
   unfold bR4 at hp
   simp only[ay,bG,or_false]at hp
   rcases hp with rfl|rfl
   ·exact bp8 (bP X G gc_MOST_WRITTEN)
   ·obtain⟨_,_,_,_,_,_,_,_,_,_,a,l,_⟩:=hD ("begun_times",DV.aa4,ad6) (by unfold tb;simp)
    exact bG5 X G a l
  ·unfold xtb at hp
   simp only[ay,bG,or_false]at hp
   rcases hp with rfl|rfl
   ·exact ah8 X G hT (hDx ("last_word",ac5) (by unfold dl;simp)) aC4
   ·exact ah8 X G hT (hDx ("long_word",ac4) (by unfold dl;simp)) aA9
  ·unfold ttb at hp
   simp only[ay,bG,or_false]at hp
   subst hp
   ·exact ah8 X G hT (hDx ("_law_refused",ad1) (by unfold dl;simp)) am8
 obtain⟨f,od,an,sl,oc,kV,dc,pm,cd,ct,a,l0,c,k⟩:=hD ("law",DV.ab7,av9) (by unfold tb;simp)
 have e:=B.symm.trans (bP X G a)
 cases e
 have F:=bj7 (st:=av9) l0 c k
 refine⟨_,λ s v=>.of_eq rfl,λ base _ _ bm hk=>(bB9 J (bj6 hT bm hk) 14 (bo5 J (bj6 hT bm hk) 14) (d:=DV.ab7) (f := "law") rfl ⟨F,bP X G a,F.binds bC5⟩ bg9 rfl rfl bL9 aM4).imp (λ vs H Q E q=>bK1 (λ ns h=>DV.bU0 (P:=P) 7 ns h) vs H Q E (aX7 hT q))⟩
end My
end
open PySem PySem.W PyProof.Rows
set_option maxRecDepth 100000 in
set_option maxHeartbeats 0 in
theorem PySem.Challenge.cw_leasttolls_k39_long_words_written_holds : PySem.Challenge.rw_leasttolls_k39_long_words_written.Holds := by
 refine My.GT.2 ?_
 delta My.GT
 dsimp only
 k_fill
 refine L2.aM7 (l:=PySem.Challenge.rw_leasttolls_k39_long_words_written) (n:=63) (k:=46) (x := "_law_script") (sp:=L2.spB My.ah0) My.ah0 rfl (by decide) rfl ⟨rfl,by decide,by decide⟩ (λ w h Y=>⟨PySem.W.km_in_of Y,PySem.W.km_tabs_of Y⟩) (λ w=>?R) (λ w=>?NT) ?F (λ K H a ns hl hB hS hF=>L2.bD3 hl hB hS hF)
 case R=>kernel_rfl
 case NT=>kernel_rfl
 case F =>
  intro w mg fa h KX G hmg
  refine' My.bD1 KX G hmg ?hD ?hz ?gc_MOST_WRITTEN ?hT ?tnd ?hDx ?hcl
  case hD =>
   intro p hp
   unfold My.tb at hp
   simp only[ay,bG,or_false]at hp
   rcases hp with rfl|rfl|rfl|rfl|rfl|rfl|rfl|rfl|rfl|rfl|rfl|rfl|rfl
   all_goals walk_at "df"
  case hz =>
   intro x hx
   unfold L2.bNames at hx
   simp only[ay,bG,or_false]at hx
   rcases hx with rfl|rfl|rfl|rfl|rfl|rfl|rfl|rfl|rfl|rfl|rfl|rfl|rfl|rfl|rfl|rfl|rfl|rfl<;>k_is
  (case gc_MOST_WRITTEN=>k_is)
  case hT =>
   intro x hx
   simp only[My.ah0,ay,bG,or_false]at hx
   subst hx<;>kernel_rfl
  (case tnd=>kernel_rfl)
  case hDx =>
   intro p hp
   unfold My.dl at hp
   simp only[ay,bG,or_false]at hp
   rcases hp with rfl|rfl|rfl
   all_goals walk_at "df"
  (case hcl=>kernel_rfl)
