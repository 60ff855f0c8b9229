import PyProof.Rows.All
import Wide.All
import OpenK.AllK
import Wide.FinOn
import PyProof.EqAt
import PyProof.EqKinds
import PyProof.TupleCall
import PyProof.MinMaxWalk
import PyProof.WalkInts
import PyProof.NeKinds
import PyProof.SliceStr2
import PyProof.StrBlockI
import PyProof.MaxThree
import PyProof.ZipIter
import PyProof.Draws
import PyProof.EnumMake
import PyProof.ListMulRoad
import PyProof.Rows.StrRev
import PyProof.DictItems
import PyProof.ListRange
import PyProof.AutoIntG2
import PyProof.FactsAll.int_6
import KE.KMinKey
import KE.IntBitsLaws
import KE.KIntText
import PyProof.CallStr
import PyProof.StrBlockL
import PyProof.StrLawsChain
import PyProof.StrLawsTight
import PyProof.Rows.StrItems
import PySem.Challenge.RW_leasttolls_k67_machines_written
set_option Elab.async false
set_option linter.all false
set_option maxRecDepth 100000
set_option maxHeartbeats 4000000
open PySem.W renaming Frag->ac,tabIn->be,kia_one->bz,mg_of->bP,kitOne->bW,nsIn->b8,keepIn->cg,CodeHd->cj,fnOf->cF,envX->cH,OpenLaw->cJ,findIn->cR,kla_fn->cU,codeIn->eK,methodObj->eT,fnX->e6,cellsFrom_some->fK,instObj->ga,lookIn->gD,tabObj->gJ,kitx_tuple->h9,specialIn->io,kitx_list->ip,kitx_dict->iq,plainGet->iL,codeHdIn->iT,takesIn->i8,TabsAt->jt,noTabs->ju,WalkO->jw,mroIn->jy
open PySem renaming Shared->ae,wpAny_bind->af,wpAny_pure->ay,sizeLine->aC,mem_of_lookup->aF,Program->aI,cellsFrom->aJ,Around->aQ,bootBuiltins->bf,mainGlobals->bh,starEach->br,wpAny_newObj_type->bE,wpAny_truthy_bool->bG,wpAny_field->bH,FuncData->bI,wpAny_mono->bN,wpAny_callSpecial?_slot->bO,binaryOp->bR,Arguments->bT,NameKind->bX,compareOp->cb,wpAny_call_entry->cc,assignEach->cf,wpAny_seqItems->cq,wpAny_setField_rec->cr,wpAny_passesOwn->cw,pushCells_keeps->cK,foldedSetIterable->cP,sysModules->cQ,call_meets->cT,isTrue->db,wpAny_Call_Name_kw->dg,IsPair->dj,tupleKind_room_in1->dk,sliceBounds->dt,wpAny_pyIter_list->dz,bindArgs->dA,typeIs_str->dP,pushCells->dR,wpAny_holding->dW,relabel->dX,wpAny_updateSeq_pair->dY,backTo->d5,letOwnedTupleGo->d6,swapsWith->eD,newFunctionEnv->eN,wpAny_binaryOp_repeat_ref->eP,sizeLine_eq->eV,InCallC->eW,Paired->fi,behindInMarks->fj,IsPart->fo,attributeBase->ft,wpAny_comprehension_free->fu,wpAny_onRaise->fv,noFill_tuple_add->fB,builtinsNs->fI,assign->fJ,name_of_addr->fL,getItem->fM,wpAny_typeOf->fN,typeIs_int->fS,codeAny_compStart_list->fU,wpAny_rule->fV,wpAny_execs_nil->gg,wpAny_storeName_local->gk,codeAny_call_function->gm,wpAny_storeName_cell->gC,strIterType->gH,tupleKind->gN,storeName->gO,codeAny->gP,callerA->gQ,valueAt->gT,wpAny_standAt->g8,swappedStores->g9,seq_tuple_add->hC,wpAny_pyIter_tuple->hZ,wpAny_assign_Name->il,codeAny_mono->ir,concat_meets->iu,wpAny_sequenceKey->iw,seqIndex_neg->iy,slot_list_getitem->iz,notedBy->iB,pyIter->iK,wpAny_pyIter_zip->iW,seqSlot_of->iX,seqIndex_of->iZ,wpAny_letGo->i6,holding->jf,BindsTo->jg,Keyword->jh,argBest->jj,call->jk,wpAny_Name->jl,pyNext->jm,Result->jn,PlainAttrs->jp,lastMarks->jB,Within->jF,rawInt->jG,Builtin->jI
open List renaming getElem?_eq_some_iff->ag,getElem?_eq_getElem->ak,mem_cons_of_mem->ao,size_toArray->aq,length_map->ar,mem_cons_self->au,mem_cons->az,replicate->aA,map_cons->aB,length_append->aD,mem_map->aE,getElem?_map->aG,length_cons->aL,not_mem_nil->aM,mem_of_getElem?->aN,getElem?_append_left->aP,append_assoc->aR,range->aS,getElem?_append_right->aU,all_eq_true->aV,append_nil->aW,lookup_cons->aY,getElem?_set_self->aZ,getElem?_set_ne->bj,mem_singleton->bn,mem_append_right->bo,length_take->bu,getD_eq_getElem?_getD->bv,mem_append->bw,length_set->bA,replicate_succ->bD,mem_map_of_mem->bF,map_append->bM,mem_range->bQ,filterMap_cons->bS,getElem?_eq_none->bU,map_map->bV,filterMap_eq_map'->b9,filterMap_map->ci,length_nil->cx,flatten_cons->cy,getElem?_of_mem->cB,length_eq_zero_iff->cE,map_nil->cG,find?_cons->cL,all_cons->cM,length_singleton->cN,mem_iff_getElem->cV,getElem_mem->cX,set_set->cY,getElem?_range->c5,map->c7,of_mem_zip->c9,foldl_cons->da,mem_filterMap->de,getElem?_take->dm,getElem?_drop->dq,reverse_cons->dC,forIn_nil->dE,drop_zero->dG,getElem?_toArray->dH,singleton_append->dJ,set_append_right->dL,length_drop->dN,cons_append->dQ,mem_of_mem_drop->d4,nodup_cons->d7,nil_append->d8,forIn_cons->d9,map_congr_left->eA,drop_eq_getElem_cons->eR,pairwise_iff_getElem->eS,ext_getElem?->fe,any_cons->fw,sum_cons->fy,take_append_getElem->fz,getElem?_replicate->fA,head_eq_of_cons_eq->fF,tail_eq_of_cons_eq->fG,take_of_length_le->fZ,range_succ_eq_map->f6,drop_eq_nil_of_le->f8,mem_filter->gd,filterMap_append->gx,mem_append_left->gB,filterMap->gG,mem_of_mem_take->gI,length_pos_iff->gY,all_nil->iE,length_range->iJ,any_eq_true->iR,zipIdx_cons->iU,take_length->iY,zipIdx_nil->ja,range_succ->jc,set_append->je,foldl->jq,take->jD,length->jO,lookup->jP
open PySem.Heap renaming get?_push_of_some->ah,lt_size->aH,get?_push_size->aK,size_push->bB,SameBut->bL,ExtBut->eZ,get?_update_other->fR,get?_update_self->gq
open Bool renaming and_eq_true->ai,false_ne_true->aO,or_eq_true->bt,false_eq_true->di,or_eq_false_iff->dZ,not_eq_true'->e9,or_false->fq,and_true->fx,eq_iff_iff->gj,and_eq_true_iff->gz,true_and->hJ,false_or->jz
open Nat renaming le_trans->aj,le_refl->am,ne_of_lt->aw,lt_of_lt_of_le->ax,lt_irrefl->bC,ne_of_gt->b7,zero_le->cz,lt_succ_self->cW,add_comm->dD,le_succ->d0,le_of_lt->eB,le_of_succ_le->eX,lt_succ_of_lt->eY,lt_trichotomy->e8,lt_trans->fW,zero_add->fY,pow_le_pow_right->gK,mul_le_mul_right->gM,succ_mul->iA,add_zero->iG,le_succ_of_le->iH,sub_self->iI,min_le_right->iM,le_of_not_lt->iQ,mul_add->i7,mul_comm->jH,lt_or_ge->jL
open Option.some renaming inj->av
open PySem.Builtin.SmallTypes renaming nextOf->aX,ownedTupleIsFree->bK,ownedTupleHandOut->c0
open PyProof.Rows renaming slot_tuple_getitem->bp,callWith_type1->cO,kindOf->dM,envOfC->eJ,AllBare->eU,subscriptTail_builtinR->fO,entry_tuple_getitem->gU,tupleItemsOf_->hG,args_tuple_getitem->ib,IntsAre->ji,tail_any->jo
open PySem.Builtin.Str renaming strSliceIndices->bq,tooLong->dI,occurrences->fH,strKind->g6
open PySem.Str renaming ofString->bJ,length->fP
open False renaming elim->bZ
open PySem.F renaming slot_tuple_iterator_next->cn,slot_str_split->cI,args_tuple_add_2->c6,args_str_split_2->c8,slot_int_rmul->dh,entry_tuple_add->dr,plainAttrs_list->du,entry_str_split->dv,slot_tuple_add->dB,slot_tuple_mul->dF,args_tuple_iterator_next_1->ee,slot_zip_next->ef,entry_tuple_iterator_next->eC,slot_dict_getitem->eQ,slot_tuple_rmul->fC,plainAttrs_str->f9,slot_list_append->gu,slot_list_extend->gv,slot_str_join->gy,args_int_rmul_2->gF,slot_int_index->gW,entry_int_rmul->gX,fills_int_mul->ic,args_zip_next_1->iD,entry_zip_next->iV
open PySem.Builtin.Slice renaming slicePlaces->cu,sliceAdjust->cZ,sliceApplied->eM,slicePartIndex->i9,sliceFields->jv
open Int renaming toNat_natCast->cA,mul_le_mul_of_nonneg_left->d3,toNat_of_nonneg->et,natCast_nonneg->eG,fdiv_eq_ediv_of_nonneg->eI,one_mul->fc,ofNat_lt->iC,le_refl->i5,natCast_mul->jb,sub_zero->jK,zero_add->jM
open PySem.Builtin.Tuple renaming tupleExact->cC,tupleItemsOf->cS,tupleTooMany->eO,tupleIsExact->jr
open PySem.Builtin.List renaming listTooLong->cD
open Ne renaming symm->dw
open PySem.Txt renaming split->dS,slice->ed
open List.Nodup renaming length_le_of_subset->dU
open Array renaming length_toList->eg,append_assoc->hX,toList->ik
open PySem.Calls renaming Name_function_global->eF,callWith_builtin->fT
open Option renaming isSome_map->e7,isSome_iff_exists->fm,map_eq_some_iff->fX,isSome_some->ie,getD_none->iP
open PySem.W.OpenLaw renaming wellSaid->fh
open Classical renaming propDecidable->fD
open PySem.Obj renaming mapSeq->fQ,data_mapFields->ig
open PySem.SeqAt renaming EqAt->f7,RcNeAt->jJ,RcAt->jV
open PySem.SeqAt.EqAt renaming same->gi,int_str->hU,str_int->hV,of_refs->ii
open PySem.Around renaming frames_deeper->gE
open PySem.Heap.SameBut renaming update->gZ
open PySem.Paired renaming length->g7,snoc->jR
open PyProof.Rows.IsTup renaming new->iO
open PySem.PassesOwn renaming never->jd
open PySem.Builtin renaming bitAnd->js
open PySem.Value renaming isStrOf->jx,isInt->jN
open PySem.Builtin.Range renaming rangeSize->jA
open PySem.StrLaws renaming found_one->jC
open PySem.W.OpenRow renaming toRowW->jE
open PySem.Heap.Ns renaming new->jQ
open List.Pairwise renaming filter->jS
open PySem.Heap.IsSliceOf renaming new->jT
open PySem.Walks renaming list->jU
noncomputable section
namespace L2
open PySem PySem.Spec PyProof.Rows
theorem head_of {l:cJ}{q:aI}{loose:List Str}{H:PySem.W.Hook}{N:Nat}{d:DefRec}{h:List (Str×Expr)}
  (left:PySem.W.LeftO l.row.prog q loose (fun s=>PySem.W.xlAt q [] s&&PySem.W.recOk (PySem.W.RowW.records (jE l.row)) s) H.obs H.val N)
  (y:PySem.W.defOf q l.row.name=some (d,h)) (C:l.row.prog.theDef l.row.name=some (d.params,d.body,d.scope)) (hk:PySem.W.kwWritten? d.params.kwonlyargs d.params.kw_defaults=some h) (z:(!l.row.writes||l.row.records.isEmpty)=true)
  (k1:l.row.wellSaid=true) (ok:(PySem.W.chainsOk q&&PySem.W.opensWell l.row.prog&&(PySem.W.frees l.row.toRowW&&l.row.within.isEmpty))=true) (hb:l.row.prog.bare) (hw:l.row.toRowW.promised)
  (call:jw q loose (PySem.W.XL q []) H.says l.row.toRowW d h fun f vs=>jk f vs):l.row.Holds :=
 PySem.W.holds_open left H.of H.keeps (fun s e=>PySem.W.xl_of s (gz.mp e).1) PySem.W.XL.keeps y C hk (fun s e=>PySem.W.recFacts_of (gz.mp e).2) z k1 ok hb hw call
end L2
end
noncomputable section
namespace My
open PySem L2
noncomputable def nmS:Stmt->Bool
 | .Assign [.Name x _] _ _=>decide (x=("__name__":Str))
 | _=>false
noncomputable def vq:aI:={ PySem.Challenge.pw_leasttolls_k67_machines_written with main:={ (PySem.Challenge.pw_leasttolls_k67_machines_written).main with body:=(PySem.Challenge.pw_leasttolls_k67_machines_written).main.body.filter fun s=>!nmS s } }
inductive IsL:cJ->Prop|mk:IsL PySem.Challenge.rw_leasttolls_k67_machines_written
theorem bC1 {l:cJ}(h:IsL l):PySem.Challenge.rw_leasttolls_k67_machines_written=l:=by cases h;rfl
noncomputable def lwp:{ l:cJ // IsL l }:=by
 refine⟨?p,?h⟩
 case h =>
  have e:PySem.Challenge.rw_leasttolls_k67_machines_written=?p:=by
   conv=>lhs;reduce
  exact e▸IsL.mk
theorem ws1:fh lwp.1=true:=by k_qdec
theorem ws:fh PySem.Challenge.rw_leasttolls_k67_machines_written=true:=by
 rw[bC1 lwp.2];exact ws1
end My
end
section
open PySem PySem.W PyProof.Rows
local macro_rules | `(tactic| o_head $H) => `(tactic| refine L2.head_of (q := My.vq) (loose := []) (H := $H) (N := 4000) (fun w => by kernel_rfl) (by rfl) (by rfl) (by rfl) rfl (by assumption) (by decide +kernel) ⟨rfl, rfl, rfl, rfl, rfl, by decide +kernel⟩ ?_ ?_)
set_option maxRecDepth 100000 in
set_option maxHeartbeats 0 in
noncomputable def My.GT:{ G:Prop // G->PySem.Challenge.rw_leasttolls_k67_machines_written.Holds }:=by
 refine⟨?G,?h⟩
 case h =>
  intro g
  w_on;refine holds_law My.ws fun said=>?_;k_head;(focus w_witness2)
  exact g
end
noncomputable section
namespace L2
open PySem PySem.Spec PyProof.Rows
noncomputable abbrev Key:=Sum Int Str
noncomputable def aM9:Key->Value->Bool
 | .inl k,v=>jN k v
 | .inr x,v=>jx x v
noncomputable def bX7 (w:World):Key->Int
 | .inl k=>hashInt k
 | .inr x=>hashStr w x
theorem zp:∀ {k:Key} {v:Value},aM9 k v=true->(∃ i t,k=Sum.inl i/\v=Value.int i t)\/(∃ x t,k=Sum.inr x/\v=Value.str x t)
 | .inl i,v,h=>by
  obtain⟨t,e⟩:=Value.isInt_shape (k:=i) (v:=v) h
  exact .inl ⟨i,t,rfl,e⟩
 | .inr x,v,h=>by
  obtain⟨t,e⟩:=Value.isStrOf_shape (x:=x) (v:=v) h
  exact .inr ⟨x,t,rfl,e⟩
theorem aR2 (i:Int)(t:Tok):aM9 (.inl i) (.int i t)=true:=by simp[aM9,jN]
theorem aU0 (x:Str)(t:Tok):aM9 (.inr x) (.str x t)=true:=by simp[aM9,jx]
theorem bG3 (a b:Int):decide ((Sum.inl a:Key)=Sum.inl b)=(a==b):=by
 by_cases e:a=b
 ·subst e;simp
 ·have h:¬(Sum.inl a:Key)=Sum.inl b:=fun q=>e (Sum.inl.inj q)
  rw[decide_eq_false h]
  exact(beq_eq_false_iff_ne.mpr e).symm
theorem bz7 (a b:Str):decide ((Sum.inr a:Key)=Sum.inr b)=decide (a=b):=by
 by_cases e:a=b
 ·subst e;simp
 ·have h:¬(Sum.inr a:Key)=Sum.inr b:=fun q=>e (Sum.inr.inj q)
  rw[decide_eq_false h,decide_eq_false e]
theorem by0 (a:Int)(b:Str):decide ((Sum.inl a:Key)=Sum.inr b)=false:=decide_eq_false (fun q=>nomatch q)
theorem bB1 (a:Str)(b:Int):decide ((Sum.inr a:Key)=Sum.inl b)=false:=decide_eq_false (fun q=>nomatch q)
noncomputable def zA (prog:aI)(w:World):PySem.KeyKind prog w Key where
 is:=aM9
 hash:=bX7 w
 inj:=fun v a b ha hb=>by
  rcases zp ha with⟨i,t,rfl,rfl⟩|⟨x,t,rfl,rfl⟩
  ·rcases zp hb with⟨j,u,rfl,e⟩|⟨y,u,rfl,e⟩
   ·injection e with e1 _;rw[e1]
   ·exact nomatch e
  ·rcases zp hb with⟨j,u,rfl,e⟩|⟨y,u,rfl,e⟩
   ·exact nomatch e
   ·injection e with e1 _;rw[e1]
 byValue:=fun k v h=>by
  rcases zp h with⟨i,t,rfl,rfl⟩|⟨x,t,rfl,rfl⟩<;>rfl
 pyHash:=fun hv h=>by
  rcases zp hv with⟨i,t,rfl,rfl⟩|⟨x,t,rfl,rfl⟩
  ·exact wpAny_pyHash_int h
  ·exact wpAny_pyHash_str h
 eqBool:=fun hu hv h=>by
  rcases zp hu with⟨i,t,rfl,rfl⟩|⟨x,t,rfl,rfl⟩
  ·rcases zp hv with⟨j,u,rfl,rfl⟩|⟨y,u,rfl,rfl⟩
   ·rw[bG3]at h;exact wpAny_eqBool_int h
   ·rw[by0]at h;exact hU i t y u _ _ _ _ h
  ·rcases zp hv with⟨j,u,rfl,rfl⟩|⟨y,u,rfl,rfl⟩
   ·rw[bB1]at h;exact hV x t j u _ _ _ _ h
   ·rw[bz7]at h;exact wpAny_eqBool_str h
 «strs»:=fun k x t v h=>by
  rcases zp h with⟨i,u,rfl,e⟩|⟨y,u,rfl,e⟩
  ·exact nomatch e
  ·injection e with e1 _
   subst e1
   cases v<;>rfl
theorem aE3 (prog:aI)(w:World)(i:Int)(t:Tok):(zA prog w).is (.inl i) (.int i t)=true:=aR2 i t
theorem aC4 (prog:aI)(w:World)(x:Str)(t:Tok):(zA prog w).is (.inr x) (.str x t)=true:=aU0 x t
inductive V where
 | non|bl (b:Bool)|int (i:Int)|str (x:Str)|byt (b:Array UInt8)|flt (b:UInt64)|ref (a:Addr)|ty (n:String)
 deriving DecidableEq
noncomputable def RelV:V->Value->Prop
 | .non,u=>u=Value.none
 | .bl b,u=>u=Value.bool b
 | .int i,u=>∃ t,u=Value.int i t
 | .str x,u=>∃ t,u=Value.str x t
 | .byt b,u=>∃ t,u=Value.bytes b t
 | .flt b,u=>∃ t,u=Value.float b t
 | .ref a,u=>u=Value.ref a
 | .ty n,u=>u=Value.type n
abbrev Vals:List V->List Value->Prop:=fi RelV
theorem Vals.length {h:List V}{us:List Value}(r:Vals h us):h.length=us.length:=g7 r
theorem Vals.get:∀ {h:List V} {us:List Value} {i:Nat} {x:V},Vals h us->h[i]?=some x->∃ u,us[i]?=some u/\RelV x u
 | _,_,_,_,.nil,e=>by simp at e
 | _,_,0,_,.cons r _,e=>by simp at e;subst e;exact⟨_,rfl,r⟩
 | _,_,i+1,x,.cons _ t,e=>by
  obtain⟨u,z,y⟩:=Vals.get (i:=i) (x:=x) t (by simpa using e)
  exact⟨u,by simpa using z,y⟩
theorem Vals.set {x:V}{u:Value}(r:RelV x u):∀ {h:List V} {us:List Value} (i:Nat),Vals h us->Vals (h.set i x) (us.set i u)
 | _,_,_,.nil=>.nil
 | _,_,0,.cons _ t=>.cons r t
 | _,_,i+1,.cons q t=>.cons q (Vals.set r i t)
theorem Vals.append:∀ {h ys:List V} {us ws:List Value},Vals h us->Vals ys ws->Vals (h++ys) (us++ws)
 | _,_,_,_,.nil,s=>s
 | _,_,_,_,.cons r t,s=>.cons r (Vals.append t s)
theorem Vals.take:∀ {h:List V} {us:List Value} (n:Nat),Vals h us->Vals (h.take n) (us.take n)
 | _,_,0,_=>.nil
 | _,_,_+1,.nil=>.nil
 | _,_,n+1,.cons r t=>.cons r (Vals.take n t)
theorem Vals.drop:∀ {h:List V} {us:List Value} (n:Nat),Vals h us->Vals (h.drop n) (us.drop n)
 | _,_,0,r=>r
 | _,_,_+1,.nil=>.nil
 | _,_,n+1,.cons _ t=>Vals.drop n t
noncomputable def aK4:Option V->Option Value->Prop
 | some v,some u=>RelV v u
 | none,none=>True
 | _,_=>False
def KV {κ:Type}:List (κ×V)->List (κ×Value)->Prop:=fi fun(p:κ×V) (q:κ×Value)=>p.1=q.1/\RelV p.2 q.2
noncomputable def kV:Key->V
 | .inl i=>.int i
 | .inr x=>.str x
inductive HO where
 | lst (xs:List V)
 | tup (xs:List V)
 | dK (kvs:List (Key×V))|dT (kvs:List (List Key×V))
 | set (S:Int->Bool) (n:Nat)
 | ins (C dx:Addr) (fs:List (Str×V))
 | own (x:Addr)
 | xd (fs:List (Str×V))
 | met (f x:Addr)
 | rng (lo hi:Int)
 | frz (o:Obj) (u:HO)
 | tbl (ps:Array Value)
 | ext (φ:Heap->Prop)
noncomputable abbrev Hp:=Addr->Option HO
noncomputable def upd (H:Hp)(a:Addr)(o:HO):Hp:=fun b=>if b=a then some o else H b
theorem zo {H:Hp}{a:Addr}{o:HO}:upd H a o a=some o:=by unfold upd;rw[if_pos rfl]
theorem zm {H:Hp}{a b:Addr}{o:HO}(h:b≠a):upd H a o b=H b:=by unfold upd;rw[if_neg h]
theorem bR4 {H:Hp}{a b:Addr}{o u:HO}(h:H a=some o)(h':H b=some u)(d:o≠u):a≠b:=by
 intro e;subst e;rw[h]at h';exact d (av h')
theorem zq {H:Hp}{a b:Addr}{o:HO}(h:H a=some o)(h':H b=none):a≠b:=by
 intro e;subst e;rw[h]at h';cases h'
section
variable (P:aI) (w:World)
noncomputable def ac7 (H:Hp)(h:Heap)(a:Addr):HO->Prop
 | .lst xs=>xs.length<=aC/\∃(its:List Value) (n:Nat),Vals xs its/\h.get? a=some { cls:=.type "list",data:=.seq its.toArray n }
 | .tup xs=>xs.length<=aC/\∃ its:List Value,Vals xs its/\IsTup h a its.toArray
 | .dK kvs=>kvs.length<=aC/\(a==cQ)=false/\∃ vs,KV kvs vs/\h.DictOf (zA P w) a vs
 | .dT kvs=>kvs.length<=aC/\(a==cQ)=false/\∃ xs:List (List Key×Addr×Value),
   fi (fun(p:List Key×V) (q:List Key×Addr×Value)=>p.1=q.1/\H q.2.1=some (.tup (p.1.map kV))/\RelV p.2 q.2.2) kvs xs /\
   ∃ o es ep,h.get? a=some o/\o.ExactDict/\o.data=.dict es ep/\es.toList=xs.map (entryOfKey (gN (zA P w)))/\(xs.map (·.1)).Nodup
 | .set S n=>h.SetOf (intKind P w) a S n
 | .ins C dx fs=>H dx=some (.own a)/\fs.length<=1000/\dx≠a/\h.get? a=some (ga C dx) /\
   ∃ mA,h.Ns1 dx mA/\(∀ f,aK4 (fs.lookup f) (mA f))/\jF mA (fs.map (·.1))
 | .own _=>∃ o,h.get? a=some o
 | .xd fs=>∃ mA,h.Ns1 a mA/\∀ f,aK4 (fs.lookup f) (mA f)
 | .rng lo hi=>∃ t u v,h.get? a=some { cls:=.type "range",data:=.fields #[.int lo t,.int hi u,.int 1 v] }
 | .frz o u=>h.get? a=some o/\ac7 H h a u
 | .tbl ps=>h.get? a=some { cls:=.none,data:=.fields ps }
 | .met f x=>h.get? a=some (eT (.ref f) (.ref x))
 | .ext φ=>φ h/\(∃ o,h.get? a=some o)/\∀ h1 h2:Heap,φ h1->(∀ o,h1.get? a=some o->h2.get? a=some o)->φ h2
def HOk (H:Hp)(h:Heap):Prop:=∀ a o,H a=some o->ac7 P w H h a o
end
section
variable {P:aI} {w:World} {H H':Hp} {h h':Heap} {a:Addr} {o:HO}
theorem ac7.lt (x:ac7 P w H h a o):a<h.objs.size:=by
 cases o with
 | lst xs=>obtain⟨_,_,_,_,e⟩:=x;exact aH e
 | tup xs=>obtain⟨_,_,_,p⟩:=x;exact p.lt
 | dK kvs=>obtain⟨_,_,_,_,o,_,_,e,_⟩:=x;exact aH e
 | dT kvs=>obtain⟨_,_,_,_,o,_,_,e,_⟩:=x;exact aH e
 | set S n=>obtain⟨o,_,_,_,e,_⟩:=x;exact aH e
 | ins C dx fs=>obtain⟨_,_,_,e,_⟩:=x;exact aH e
 | own y=>obtain⟨_,e⟩:=x;exact aH e
 | xd fs=>obtain⟨_,⟨_,_,_,e,_⟩,_⟩:=x;exact aH e
 | rng lo hi=>obtain⟨_,_,_,e⟩:=x;exact aH e
 | frz ob u=>obtain⟨e,_⟩:=x;exact aH e
 | tbl ps=>exact aH (show h.get? a=some _ from x)
 | met f y=>exact aH (show h.get? a=some _ from x)
 | ext φ=>obtain⟨_,⟨_,e⟩,_⟩:=x;exact aH e
theorem fi.mapP {α β:Type}{F G:α->β->Prop}:∀ {h:List α} {l₂:List β},fi F h l₂->(∀ a b,F a b->G a b)->fi G h l₂
 | _,_,.nil,_=>.nil
 | _,_,.cons r t,f=>.cons (f _ _ r) (fi.mapP t f)
theorem ac7.stay (x:ac7 P w H h a o)(k:∀ b u,(b=a\/H b=some (.own a))->h.get? b=some u->h'.get? b=some u)
  (ho:∀ b,H b=some (.own a)->H' b=some (.own a)) (ht:∀ b G,H b=some (.tup G)->H' b=some (.tup G)):ac7 P w H' h' a o:=by
 induction o with
 | lst G=>obtain⟨z,its,n,r,e⟩:=x;exact⟨z,its,n,r,k _ _ (.inl rfl) e⟩
 | tup G=>obtain⟨z,its,r,ob,e,c⟩:=x;exact⟨z,its,r,ob,k _ _ (.inl rfl) e,c⟩
 | dK kvs=>obtain⟨z,y,vs,r,ob,es,F,e,c⟩:=x;exact⟨z,y,vs,r,ob,es,F,k _ _ (.inl rfl) e,c⟩
 | dT kvs =>
  obtain⟨z,y,G,r,ob,es,F,e,c⟩:=x
  exact⟨z,y,G,fi.mapP r fun p q z=>⟨z.1,ht _ _ z.2.1,z.2.2⟩,ob,es,F,k _ _ (.inl rfl) e,c⟩
 | set S n=>obtain⟨ob,es,F,t,e,c⟩:=x;exact⟨ob,es,F,t,k _ _ (.inl rfl) e,c⟩
 | ins C dx fs =>
  obtain⟨d,z,ne,e,J,⟨od,es,F,e2,c⟩,r⟩:=x
  exact⟨ho _ d,z,ne,k _ _ (.inl rfl) e,J,⟨od,es,F,k _ _ (.inr d) e2,c⟩,r⟩
 | own y=>obtain⟨ob,e⟩:=x;exact⟨ob,k _ _ (.inl rfl) e⟩
 | xd fs=>obtain⟨J,⟨od,es,F,e,c⟩,r⟩:=x;exact⟨J,⟨od,es,F,k _ _ (.inl rfl) e,c⟩,r⟩
 | rng lo hi=>obtain⟨t,u,v,e⟩:=x;exact⟨t,u,v,k _ _ (.inl rfl) e⟩
 | frz ob u ih=>obtain⟨e,q⟩:=x;exact⟨k _ _ (.inl rfl) e,ih q⟩
 | tbl ps =>
  have e:h.get? a=some { cls:=.none,data:=.fields ps }:=x
  show h'.get? a=some { cls:=.none,data:=.fields ps }
  exact k a _ (.inl rfl) e
 | met f y =>
  have e:h.get? a=some (eT (.ref f) (.ref y)):=x
  show h'.get? a=some (eT (.ref f) (.ref y))
  exact k a _ (.inl rfl) e
 | ext φ=>obtain⟨p,⟨o,e⟩,st⟩:=x;exact⟨st _ _ p fun o q=>k _ _ (.inl rfl) q,⟨o,k _ _ (.inl rfl) e⟩,st⟩
theorem HOk.lt (x:HOk P w H h)(e:H a=some o):a<h.objs.size:=(x a o e).lt
theorem HOk.fresh (x:HOk P w H h)(e:h.objs.size<=a):H a=none:=by
 cases q:H a with
 | none=>rfl
 | some u=>exact absurd (ax (x.lt q) e) (bC _)
theorem HOk.kept (x:HOk P w H h)(k:∀ b u,h.get? b=some u->h'.get? b=some u):HOk P w H h':=fun a o e =>
 (x a o e).stay (fun b u _ q=>k b u q) (fun _ q=>q) fun _ _ q=>q
theorem HOk.laid (x:HOk P w H h)(k:∀ b u,h.get? b=some u->h'.get? b=some u)(y:h.objs.size<=a)(new:ac7 P w (upd H a o) h' a o):HOk P w (upd H a o) h':=fun b u e=>by
 have hn:=x.fresh y
 by_cases hb:b=a
 ·subst hb;rw[zo]at e;cases e;exact new
 ·rw[zm hb]at e
  exact(x b u e).stay (fun c v _ q=>k c v q) (fun c q=>by rw[zm (zq q hn)];exact q) fun c z q=>by rw[zm (zq q hn)];exact q
end
def Rd (H:Hp)(a:Addr)(u:HO):Prop:=H a=some u\/∃ o,H a=some (.frz o u)
theorem Rd.ok {P:aI}{w:World}{H:Hp}{h:Heap}{a:Addr}{u:HO}(r:Rd H a u)(x:HOk P w H h):ac7 P w H h a u:=by
 rcases r with r|⟨o,r⟩
 ·exact x a u r
 ·obtain⟨_,q⟩:=x a _ r
  exact q
noncomputable def Mut:Option HO->Prop
 | some (.lst _)=>True
 | some (.dK _)=>True
 | some (.dT _)=>True
 | some (.set _ _)=>True
 | some (.ins _ _ _)=>True
 | some (.ext _)=>True
 | _=>False
section
variable {P:aI} {w:World} {H:Hp} {h h':Heap} {x e:Addr} {o':HO}
theorem HOk.write (ok:HOk P w H h)(mu:Mut (H x))(he:e=x\/H e=some (.own x))(k:∀ b u,b≠e->h.get? b=some u->h'.get? b=some u)(heo:∃ u,h'.get? e=some u)
  (new:ac7 P w (upd H x o') h' x o'):HOk P w (upd H x o') h':=fun b u q=>by
 have C:∀ c y,H c=some (.own y)->c≠x:=fun c y r z=>by subst z;rw[r]at mu;exact mu
 have F:∀ c G,H c=some (.tup G)->c≠x:=fun c G r z=>by subst z;rw[r]at mu;exact mu
 by_cases hb:b=x
 ·subst hb;rw[zo]at q;cases q;exact new
 ·rw[zm hb]at q
  by_cases hbe:b=e
  ·have J:H b=some (.own x):=by
    rcases he with z|z
    ·exact absurd (hbe.trans z) hb
    ·rw[hbe];exact z
   rw[q]at J;cases J
   obtain⟨v,hv⟩:=heo
   exact⟨v,by rw[hbe];exact hv⟩
  ·refine(ok b u q).stay (fun c v hc r=>k c v ?_ r) (fun c r=>by rw[zm (C c b r)];exact r) fun c G r=>by rw[zm (F c G r)];exact r
   rcases hc with rfl|hc
   ·exact hbe
   ·rintro rfl
    rcases he with z|z
    ·exact C c b hc z
    ·rw[hc]at z;cases z;exact hb rfl
end
structure Un (fs ex:List Addr)(H H':Hp)(h h':Heap):Prop where
 keep:∀ b o,h.get? b=some o->H b=none->b ∉ fs->b ∉ ex->h'.get? b=some o
 slot:∀ b o,h.get? b=some o->H b=none->b∈fs->b ∉ ex->∃ sl,h'.get? b=some { o with slots:=sl }
 free:∀ b o,h.get? b=some o->H b=none->b ∉ ex->H' b=none
 there:∀ b o,h.get? b=some o->b ∉ ex->∃ o',h'.get? b=some o'
 tups:∀ b xs,H b=some (.tup xs)->H' b=some (.tup xs)
 frzs:∀ b o u,H b=some (.frz o u)->H' b=some (.frz o u)
 tbls:∀ b ps,H b=some (.tbl ps)->∃ more,H' b=some (.tbl (ps++more))
section
variable {fs fs' ex ex':List Addr} {H H1 H2:Hp} {h h1 h2 h':Heap} {a x e:Addr} {o:HO}
theorem Un.any (u:Un fs ex H H1 h h1){b:Addr}{ob:Obj}(q:h.get? b=some ob)(n:H b=none)(hx:b ∉ ex):∃ sl,h1.get? b=some { ob with slots:=sl }:=by
 by_cases hb:b∈fs
 ·exact u.slot b ob q n hb hx
 ·exact⟨ob.slots,u.keep b ob q n hb hx⟩
theorem Un.kept (k:∀ b u,h.get? b=some u->h'.get? b=some u):Un fs ex H H h h' :=
 ⟨fun b ob q _ _ _=>k b ob q,fun b ob q _ _ _=>⟨ob.slots,k b ob q⟩,fun _ _ _ n _=>n,fun b ob q _=>⟨ob,k b ob q⟩,fun _ _ q=>q,fun _ _ _ q=>q,fun _ ps q=>⟨#[],by rw[q];simp⟩⟩
theorem Un.refl:Un fs ex H H h h:=Un.kept fun _ _ q=>q
theorem Un.laid (k:∀ b u,h.get? b=some u->h'.get? b=some u)(y:h.objs.size<=a)(hn:H a=none):Un fs ex H (upd H a o) h h' where
 keep:=fun b u q _ _ _=>k b u q
 slot:=fun b u q _ _ _=>⟨u.slots,k b u q⟩
 free:=fun b u q n _=>by rw[zm (aw (ax (aH q) y))];exact n
 there:=fun b u q _=>⟨u,k b u q⟩
 tups:=fun b z q=>by rw[zm (zq q hn)];exact q
 frzs:=fun b u z q=>by rw[zm (zq q hn)];exact q
 tbls:=fun b ps q=>⟨#[],by rw[zm (zq q hn),q];simp⟩
theorem Un.write (mu:Mut (H x))(he:e=x\/H e=some (.own x))(k:∀ b u,b≠e->h.get? b=some u->h'.get? b=some u)(heo:∃ u,h'.get? e=some u):Un fs ex H (upd H x o) h h':=by
 have hx:∀ b,H b=none->b≠x:=fun b n z=>by subst z;rw[n]at mu;exact mu
 have hb:∀ b,H b=none->b≠e:=fun b n z=>by
  subst z
  rcases he with r|r
  ·exact hx b n r
  ·rw[n]at r;cases r
 have y:∀ b u,H b=some u->¬ Mut (some u)->b≠x:=fun b u q C z=>by subst z;rw[q]at mu;exact C mu
 refine⟨fun b u q n _ _=>k b u (hb b n) q,fun b u q n _ _=>⟨u.slots,k b u (hb b n) q⟩,fun b u q n _=>by rw[zm (hx b n)];exact n,fun b u q _=>?_,
  fun b F q=>by rw[zm (y b _ q fun z=>z)];exact q,fun b u F q=>by rw[zm (y b _ q fun z=>z)];exact q,fun b ps q=>⟨#[],by rw[zm (y b _ q fun z=>z),q];simp⟩⟩
 by_cases hbe:b=e
 ·subst hbe;exact heo
 ·exact⟨u,k b u hbe q⟩
end
noncomputable def trk (h:Heap)(H:Hp):List Addr:=(aS h.objs.size).filter fun a=>(H a).isSome
noncomputable def aY1 (h:Heap)(H:Hp):Heap:=PySem.W.hideAll h (trk h H)
theorem aS1 (h:Heap)(H:Hp):(aY1 h H).objs.size=h.objs.size:=PySem.W.hideAll_size _ _
theorem aj0 {h:Heap}{H:Hp}{b:Addr}{o:Obj}(e:h.get? b=some o)(n:H b=none):(aY1 h H).get? b=some o :=
 PySem.W.hideAll_get _ e fun y=>by
  have q:(H b).isSome=true:=(gd.mp y).2
  rw[n]at q;simp at q
theorem bp5 {h:Heap}{H:Hp}{b:Addr}{o:Obj}(e:(aY1 h H).get? b=some o):h.get? b=some o/\H b=none:=by
 have e':h.get? b=some o:=PySem.W.of_hideAll (trk h H) e
 refine⟨e',?_⟩
 cases q:H b with
 | none=>rfl
 | some x =>
  have y:b∈trk h H:=gd.mpr ⟨bQ.mpr (aH e'),by simp[q]⟩
  have z:(aY1 h H).get? b=none:=PySem.W.hideAll_none (trk h H) y
  rw[z]at e;cases e
noncomputable def bl9 (g h:Heap)(L:Addr):List (Addr×Obj):=(aS h.objs.size).filterMap fun a=>if a=L\/(g.get? a).isSome=true then none else(h.get? a).map fun o=>(a,o)
noncomputable def rest (g h:Heap)(L d:Addr):List (Addr×Obj):=(bl9 g h L).filter fun p=>decide (p.1≠d)
structure Mod (K:ac)(mg:Str->Option Value)(base:Heap):Prop where
 kin:K.In base
 glob:base.Ns bh mg
 blt:∃ mb,base.Ns fI mb/\∀ x:Str,x ≠ "__name__"->mb x=bf x
 nolimit:base.NoLimit
structure Cx where
 prog:aI
 w:World
 K:ac
 mg:Str->Option Value
 base:Heap
 A:aQ
 N:List Str
 s₀:ae
 H₀:Hp
 env:Env
 outer:List Env
 stack:List Env
 ex:List Addr
 fn:Str->Bool
 calm:Bool
 pn:List (Addr×Obj)
 xe:Value->ae->Prop
noncomputable def frs (l:List Env):List Addr:=l.filterMap (·.frame)
noncomputable abbrev Cx.fs (X:Cx):List Addr:=frs X.outer
def Vis (sc:Scope)(x:Str):Prop:=sc.names.lookup x=some .local\/sc.names.lookup x=some .cell\/sc.names.lookup x=some .free
def Loc (sc:Scope)(x:Str):Prop:=sc.names.lookup x=some .local\/sc.names.lookup x=some .cell
def Look (env:Env)(h:Heap)(m:Str->Option Value)(x:Str)(u:Value):Prop :=
 (env.kindOf x=some .local/\m x=some u)\/((env.kindOf x=some .cell\/env.kindOf x=some .free)/\∃ c,env.cells.lookup x=some c/\h.IsCell c (some u))
structure Cx.Ok (X:Cx):Prop where
 mod:Mod X.K X.mg X.base
 kind:X.env.scope.kind=.function
 glob:X.env.globals=bh
 blt:X.env.builtins=fI
 above:X.s₀.heap.objs.size<=X.env.locals
 inj:∀ x y c,X.env.cells.lookup x=some c->X.env.cells.lookup y=some c->x=y
 has:∀ x,(X.env.kindOf x=some .cell\/X.env.kindOf x=some .free)->∃ c,X.env.cells.lookup x=some c
 cab:∀ x c,X.fn x=true->X.env.cells.lookup x=some c->X.s₀.heap.objs.size<=c
 hd:X.calm=true->X.A.handled=none
 frames:X.A.frames=some X.stack
 stk:X.stack=X.outer\/(X.stack=X.env::X.outer/\X.env.frame=some X.env.locals)
 exf:∀ b∈X.ex,b≠X.env.locals/\∀ x c,X.env.cells.lookup x=some c->c≠b
 bs:∀ b o,X.base.get? b=some o->X.s₀.heap.get? b=some o/\X.H₀ b=none
 bsz:X.base.objs.size<=X.s₀.heap.objs.size
 noex:∀ b o,X.base.get? b=some o->b ∉ X.ex
 exfs:∀ b∈X.ex,b ∉ X.fs
 funs:X.s₀.heap.FunFrames X.base X.outer
 frf:∀ b∈X.fs,X.H₀ b=none
structure Inv (X:Cx)(pins:List (Addr×Obj))(σ:List (Option V))(H:Hp)(s:ae):Prop where
 ok:X.Ok
 os:s.os=X.s₀.os
 bare:eU s.gens
 base:Un X.fs X.ex X.H₀ H X.s₀.heap s.heap
 loc:∃ m,s.heap.Ns X.env.locals m/\∀(i:Nat) (x:Str) (v:V),X.N[i]?=some x->σ[i]?=some (some v)->Vis X.env.scope x->∃ u,RelV v u/\Look X.env s.heap m x u
 cell:∀ x c,X.env.cells.lookup x=some c->∃ v,s.heap.IsCell c v
 free:H X.env.locals=none
 freeC:∀ x c,X.env.cells.lookup x=some c->H c=none
 pin:∀ p∈X.pn++pins,s.heap.get? p.1=some p.2/\H p.1=none/\p.1≠X.env.locals/\p.1 ∉ X.fs/\∀ v,p.2.data≠.cell v
 hok:HOk X.prog X.w H s.heap
 len:σ.length=X.N.length
section
variable {X:Cx} {pins:List (Addr×Obj)} {σ:List (Option V)} {H H':Hp} {s:ae} {h':Heap}
theorem Cx.Ok.nofr (ok:X.Ok){b:Addr}{o:Obj}(e:X.base.get? b=some o):b ∉ X.fs:=fun hb=>by
 have:=(ok.funs.mem hb).1
 rw[e]at this;cases this
theorem Inv.bs (I:Inv X pins σ H s):∀ b o,X.base.get? b=some o->s.heap.get? b=some o/\H b=none:=fun b o e =>
 ⟨I.base.keep b o (I.ok.bs b o e).1 (I.ok.bs b o e).2 (I.ok.nofr e) (I.ok.noex b o e),I.base.free b o (I.ok.bs b o e).1 (I.ok.bs b o e).2 (I.ok.noex b o e)⟩
theorem Inv.bk (I:Inv X pins σ H s):∀ b o,X.base.get? b=some o->s.heap.get? b=some o:=fun b o e=>(I.bs b o e).1
theorem Inv.mod (I:Inv X pins σ H s):Mod X.K X.mg X.base:=I.ok.mod
theorem Inv.kIn (I:Inv X pins σ H s):X.K.In s.heap:=I.ok.mod.kin.keeps I.bk
theorem Inv.nolimit (I:Inv X pins σ H s):s.heap.NoLimit:=I.ok.mod.nolimit.keeps I.bk
theorem Inv.lt (I:Inv X pins σ H s):X.env.locals<s.heap.objs.size:=let⟨_,hn,_⟩:=I.loc;hn.lt
theorem Inv.sz (I:Inv X pins σ H s):X.s₀.heap.objs.size<=s.heap.objs.size:=aj I.ok.above (eB I.lt)
theorem Inv.nofs (I:Inv X pins σ H s){a:Addr}(h:s.heap.objs.size<=a):a ∉ X.fs:=fun hb=>by
 obtain⟨_,o,ho,_⟩:=I.ok.funs.mem hb
 exact absurd (ax (aH ho) (aj I.sz h)) (bC _)
theorem Inv.cne (I:Inv X pins σ H s):∀ x c,X.env.cells.lookup x=some c->c≠X.env.locals:=fun x c e z=>by
 obtain⟨v,o,ho,hd⟩:=I.cell x c e
 obtain⟨m,⟨C,es,F,y,h,_⟩,_⟩:=I.loc
 rw[z,y]at ho;cases ho;rw[h]at hd;cases hd
theorem Inv.funs (I:Inv X pins σ H s):s.heap.FunFrames X.base X.outer:=by
 have all:∀(l:List Env),(∀ b∈frs l,b∈X.fs)->X.s₀.heap.FunFrames X.base l->s.heap.FunFrames X.base l:=by
  intro l
  induction l with
  | nil=>intro _ _;trivial
  | cons env r ih =>
   intro hs hl
   obtain⟨hk,⟨L,o,hf,hn,ho,hd⟩,hr⟩:=hl
   have h:L∈X.fs:=hs L (by unfold frs;rw[bS,hf];exact au)
   obtain⟨sl,e⟩:=I.base.slot L o ho (I.ok.frf L h) h fun z=>I.ok.exfs L z h
   exact⟨hk,⟨L,_,hf,hn,e,hd⟩,ih (fun b hb=>hs b (by unfold frs;rw[bS,hf];exact ao _ hb)) hr⟩
 exact all X.outer (fun _ hb=>hb) I.ok.funs
theorem Inv.stack (I:Inv X pins σ H s):s.heap.FunFrames X.base X.stack:=by
 rcases I.ok.stk with e|⟨e,hf⟩
 ·rw[e];exact I.funs
 ·rw[e]
  obtain⟨m,hn,_⟩:=I.loc
  refine .cons (by rw[I.ok.kind];decide) hf hn ?_ I.funs
  exact Heap.get?_none_of_le (aj I.ok.bsz I.ok.above)
theorem Inv.stkSub (I:Inv X pins σ H s):∀ b∈frs X.stack,b∈X.env.locals::X.fs:=fun b hb=>by
 rcases I.ok.stk with e|⟨e,hf⟩
 ·rw[e]at hb;exact ao _ hb
 ·rw[e]at hb
  unfold frs at hb
  rw[bS,hf]at hb
  exact hb
theorem Inv.stkFree (I:Inv X pins σ H s):∀ b∈frs X.stack,H b=none:=fun b hb=>by
 rcases az.mp (I.stkSub b hb)with e|hb
 ·rw[e];exact I.free
 ·obtain⟨_,o,ho,_⟩:=I.ok.funs.mem hb
  exact I.base.free b o ho (I.ok.frf b hb) fun z=>I.ok.exfs b z hb
theorem Inv.step {g':Array GenState}{t':Nat}{d':Drawn}{ch:List Addr}(I:Inv X pins σ H s)
  (C:∀ b∈ch,(b∈X.ex\/X.s₀.heap.objs.size<=b)/\b≠X.env.locals/\(∀ x c,X.env.cells.lookup x=some c->c≠b)/\∀ p∈X.pn++pins,p.1≠b)
  (keep:∀ b o,b≠X.env.locals->b ∉ X.fs->b ∉ ch->s.heap.get? b=some o->H b=none->h'.get? b=some o)
  (slot:∀ b o,b≠X.env.locals->b∈X.fs->b ∉ ch->s.heap.get? b=some o->H b=none->∃ sl,h'.get? b=some { o with slots:=sl }) (free:∀ b o,b ∉ ch->s.heap.get? b=some o->H b=none->H' b=none)
  (there:∀ b o,b ∉ ch->s.heap.get? b=some o->∃ Y,h'.get? b=some Y)
  (tups:∀ b G,H b=some (.tup G)->H' b=some (.tup G)) (frzs:∀ b o u,H b=some (.frz o u)->H' b=some (.frz o u)) (tbls:∀ b ps,H b=some (.tbl ps)->∃ Z,H' b=some (.tbl (ps++Z)))
  (ns:∀ m,s.heap.Ns X.env.locals m->h'.Ns X.env.locals m) (hok:HOk X.prog X.w H' h') (hg:eU g') :
  Inv X pins σ H' { s with heap:=h',gens:=g',drawn:=d',toks:=t' }:=by
 have J:∀ b o,X.s₀.heap.get? b=some o->b≠X.env.locals:=fun b o e=>aw (ax (aH e) I.ok.above)
 have F:∀ b o,X.s₀.heap.get? b=some o->b ∉ X.ex->b ∉ ch:=fun b o e hx hb=>by
  rcases(C b hb).1 with z|z
  ·exact hx z
  ·exact absurd (ax (aH e) z) (bC _)
 have h:∀ x c,X.env.cells.lookup x=some c->∀ v,s.heap.IsCell c v->h'.IsCell c v:=fun x c e v ⟨o,ho,hd⟩=>by
  have y:c ∉ ch:=fun z=>(C c z).2.2.1 x c e rfl
  by_cases hc:c∈X.fs
  ·obtain⟨sl,q⟩:=slot c o (I.cne x c e) hc y ho (I.freeC x c e)
   exact⟨_,q,hd⟩
  ·exact⟨o,keep c o (I.cne x c e) hc y ho (I.freeC x c e),hd⟩
 refine⟨I.ok,I.os,hg,⟨fun b o e n hb hx=>?_,fun b o e n hb hx=>?_,fun b o e n hx=>?_,fun b o e hx=>?_,fun b G e=>tups b G (I.base.tups b G e),fun b o G e=>frzs b o G (I.base.frzs b o G e),fun b ps e=>?_⟩,?_,fun x c e=>?_,?_,fun x c e=>?_,fun p hp=>?_,hok,I.len⟩
 ·exact keep b o (J b o e) hb (F b o e hx) (I.base.keep b o e n hb hx) (I.base.free b o e n hx)
 ·obtain⟨sl,e1⟩:=I.base.slot b o e n hb hx
  obtain⟨a0,e2⟩:=slot b _ (J b o e) hb (F b o e hx) e1 (I.base.free b o e n hx)
  exact⟨a0,e2⟩
 ·obtain⟨Y,e1⟩:=I.base.there b o e hx
  exact free b Y (F b o e hx) e1 (I.base.free b o e n hx)
 ·obtain⟨Y,e1⟩:=I.base.there b o e hx
  exact there b Y (F b o e hx) e1
 ·obtain⟨m1,e1⟩:=I.base.tbls b ps e
  obtain⟨m2,e2⟩:=tbls b _ e1
  exact⟨m1++m2,by rw[e2,hX]⟩
 ·obtain⟨m,hn,hl⟩:=I.loc
  refine⟨m,ns m hn,fun i x v e1 e2 e3=>?_⟩
  obtain⟨u,r,l⟩:=hl i x v e1 e2 e3
  refine⟨u,r,?_⟩
  rcases l with l|⟨k,c,e,z⟩
  ·exact .inl l
  ·exact .inr ⟨k,c,e,h x c e _ z⟩
 ·obtain⟨v,z⟩:=I.cell x c e
  exact⟨v,h x c e v z⟩
 ·obtain⟨m,⟨o,_,_,ho,_⟩,_⟩:=I.loc
  exact free _ o (fun z=>(C _ z).2.1 rfl) ho I.free
 ·obtain⟨v,o,ho,hd⟩:=I.cell x c e
  exact free c o (fun z=>(C c z).2.2.1 x c e rfl) ho (I.freeC x c e)
 ·obtain⟨e,n,ne,nf,d⟩:=I.pin p hp
  have y:p.1 ∉ ch:=fun z=>(C p.1 z).2.2.2 p hp rfl
  exact⟨keep p.1 p.2 ne nf y e n,free p.1 p.2 y e n,ne,nf,d⟩
theorem Inv.un {t':Nat}(I:Inv X pins σ H s)(u:Un X.fs [] H H' s.heap h')(hok:HOk X.prog X.w H' h'):Inv X pins σ H' { s with heap:=h',toks:=t' }:=by
 obtain⟨m,⟨o,es,Z,ho,r⟩,_⟩:=id I.loc
 obtain⟨sl,G⟩:=u.any ho I.free (by simp)
 exact I.step (g':=s.gens) (d':=s.drawn) (ch:=[]) (fun _ z=>nomatch z) (fun b o _ hb _ e n=>u.keep b o e n hb (by simp)) (fun b o _ hb _ e n=>u.slot b o e n hb (by simp)) (fun b o _ e n=>u.free b o e n (by simp)) (fun b o _ e=>u.there b o e (by simp)) u.tups u.frzs u.tbls (fun m' F=>by
  obtain⟨Y,C,y,h,J⟩:=F
  rw[ho]at h;cases h
  exact⟨_,C,y,G,J⟩) hok I.bare
theorem Inv.call {g':Array GenState}{t':Nat}{d':Drawn}{ch:List Addr}(I:Inv X pins σ H s)(u:Un (frs X.stack) ch H H' s.heap h')(hok:HOk X.prog X.w H' h')(hg:eU g')
  (y:∀ b∈ch,(b∈X.ex\/X.s₀.heap.objs.size<=b)/\b≠X.env.locals/\(∀ x c,X.env.cells.lookup x=some c->c≠b)/\∀ p∈X.pn++pins,p.1≠b) :
  Inv X pins σ H' { s with heap:=h',gens:=g',drawn:=d',toks:=t' }:=by
 obtain⟨m,⟨o,es,Z,ho,r⟩,_⟩:=id I.loc
 obtain⟨sl,G⟩:=u.any ho I.free fun z=>(y _ z).2.1 rfl
 exact I.step (ch:=ch) y (fun b o G hb hc e n=>u.keep b o e n (fun z=>(az.mp (I.stkSub b z)).elim G hb) hc) (fun b o _ _ hc e n=>u.any e n hc) (fun b o hc e n=>u.free b o e n hc) (fun b o hc e=>u.there b o e hc) u.tups u.frzs u.tbls (fun m' J=>by
  obtain⟨o',C,F,h,Y⟩:=J
  rw[ho]at h;cases h
  exact⟨_,C,F,G,Y⟩) hok hg
theorem Inv.turned {t':Nat}{it:Addr}(I:Inv X pins σ H s)(k:∀ b o,b≠it->s.heap.get? b=some o->h'.get? b=some o)(hn:H it=none)(y:it≠X.env.locals)
  (Y:it∈X.ex\/X.s₀.heap.objs.size<=it) (J:∀ x c,X.env.cells.lookup x=some c->c≠it) (G:∀ p∈X.pn++pins,p.1≠it):Inv X pins σ H { s with heap:=h',toks:=t' }:=by
 have h:∀ b u,H b=some u->b≠it:=fun b u e z=>by rw[z,hn]at e;cases e
 refine I.step (g':=s.gens) (d':=s.drawn) (ch:=[it]) (fun b hb=>?_) (fun b o _ _ hc e _=>k b o (fun z=>hc (by simp[z])) e) (fun b o _ _ hc e _=>⟨o.slots,k b o (fun z=>hc (by simp[z])) e⟩) (fun _ _ _ _ n=>n)
  (fun b o hc e=>⟨o,k b o (fun z=>hc (by simp[z])) e⟩) (fun _ _ e=>e) (fun _ _ _ e=>e) (fun b ps e=>⟨#[],by rw[e];simp⟩) (fun m C=>?_) (fun b u e=>?_) I.bare
 ·have e:b=it:=by simpa using hb
  subst e
  exact⟨Y,y,J,G⟩
 ·obtain⟨o,es,F,ho,r⟩:=C
  exact⟨o,es,F,k _ o (dw y) ho,r⟩
 ·refine(I.hok b u e).stay (fun c v hc q=>k c v ?_ q) (fun _ q=>q) fun _ _ q=>q
  rcases hc with z|z
  ·rw[z];exact h b u e
  ·exact h c _ z
theorem Inv.tok (I:Inv X pins σ H s)(t:Nat):Inv X pins σ H { s with toks:=t }:=I.un (h':=s.heap) (t':=t) Un.refl I.hok
theorem Inv.kept {t':Nat}(I:Inv X pins σ H s)(k:∀ b u,s.heap.get? b=some u->h'.get? b=some u):Inv X pins σ H { s with heap:=h',toks:=t' }:=I.un (Un.kept k) (I.hok.kept k)
theorem Inv.laid {a:Addr}{o:HO}{t':Nat}(I:Inv X pins σ H s)(k:∀ b u,s.heap.get? b=some u->h'.get? b=some u)(h:s.heap.objs.size<=a)(new:ac7 X.prog X.w (upd H a o) h' a o) :
  Inv X pins σ (upd H a o) { s with heap:=h',toks:=t' }:=I.un (Un.laid k h (I.hok.fresh h)) (I.hok.laid k h new)
theorem Inv.write {x e:Addr}{o:HO}{t':Nat}(I:Inv X pins σ H s)(mu:Mut (H x))(he:e=x\/H e=some (.own x))(k:∀ b u,b≠e->s.heap.get? b=some u->h'.get? b=some u)(heo:∃ u,h'.get? e=some u)
  (new:ac7 X.prog X.w (upd H x o) h' x o):Inv X pins σ (upd H x o) { s with heap:=h',toks:=t' }:=I.un (Un.write mu he k heo) (I.hok.write mu he k heo new)
theorem Inv.pins_of {y:List (Addr×Obj)}(I:Inv X pins σ H s)(h:∀ p∈y,s.heap.get? p.1=some p.2/\H p.1=none/\p.1≠X.env.locals/\p.1 ∉ X.fs/\∀ v,p.2.data≠.cell v):Inv X y σ H s :=
 ⟨I.ok,I.os,I.bare,I.base,I.loc,I.cell,I.free,I.freeC,fun p C=>(bw.mp C).elim (fun z=>I.pin p (gB _ z)) (h p),I.hok,I.len⟩
theorem aF1 {N:List Str}(hN:N.Nodup){i j:Nat}{x:Str}(a:N[i]?=some x)(b:N[j]?=some x):i=j:=by
 obtain⟨y,e1⟩:=ag.mp a
 obtain⟨h,e2⟩:=ag.mp b
 exact(List.getElem_inj hN).mp (e1.trans e2.symm)
theorem aw6 {M:Model}{A:aQ}{E:Value->ae->Prop}{i:Nat}{x:Str}{v:V}{u:Value}{Q:Unit->ae->Prop}(I:Inv X pins σ H s)(hN:X.N.Nodup)(Y:X.N[i]?=some x)(hx:Loc X.env.scope x)(r:RelV v u)
  (h:∀ s',Inv X pins (σ.set i (some v)) H s'->(∃ a,bL a s.heap s'.heap/\(a=X.env.locals\/X.env.cells.lookup x=some a))->Q () s') (hf:X.fn x=true\/X.env.scope.names.lookup x=some .local:=by first|exact .inl rfl|exact .inr rfl|assumption):wpAny M A (gO X.env x u) Q E s:=by
 obtain⟨m,hn,hl⟩:=id I.loc
 have Z:(X.env.scope.kind==.class||(X.env.scope.kind==.module&&X.env.locals != X.env.globals))=false:=by rw[I.ok.kind];rfl
 have a2:i < σ.length:=by rw[I.len];exact(ag.mp Y).1
 have cne:=I.cne
 have C:∀ {a:Addr} {h':Heap},(∃ o,s.heap.get? a=some o/\H a=none)->bL a s.heap h'->HOk X.prog X.w H h':=fun {a h'} ha hs b ob e=>by
  obtain⟨_,_,F⟩:=ha
  refine(I.hok b ob e).stay (fun c w' hc q=>(hs.2 c ?_).trans q) (fun _ q=>q) fun _ _ q=>q
  rintro rfl
  rcases hc with rfl|hc
  ·rw[F]at e;cases e
  ·rw[F]at hc;cases hc
 rcases hx with hk|hk
 ·refine gk hk hn (fun h' a4 hs=>?_) Z
  obtain⟨oL,_,_,a3,_⟩:=id hn
  refine h _ ⟨I.ok,I.os,I.bare,⟨fun b o e n hb hx=>?_,fun b o e n hb hx=>?_,I.base.free,fun b o e hx=>?_,I.base.tups,I.base.frzs,I.base.tbls⟩,⟨_,a4,fun j y v' e1 e2 e3=>?_⟩,fun y c e=>?_,I.free,I.freeC,fun p hp=>?_,C ⟨oL,a3,I.free⟩ hs,by simpa using I.len⟩ ⟨_,hs,.inl rfl⟩
  ·exact(hs.2 b (aw (ax (aH e) I.ok.above))).trans (I.base.keep b o e n hb hx)
  ·obtain⟨sl,e1⟩:=I.base.slot b o e n hb hx
   exact⟨sl,(hs.2 b (aw (ax (aH e) I.ok.above))).trans e1⟩
  ·obtain⟨o',e1⟩:=I.base.there b o e hx
   exact⟨o',(hs.2 b (aw (ax (aH e) I.ok.above))).trans e1⟩
  ·by_cases hj:j=i
   ·subst hj
    rw[Y]at e1;cases e1
    rw[aZ a2]at e2
    cases e2
    exact⟨u,r,.inl ⟨hk,by simp⟩⟩
   ·rw[bj (dw hj)]at e2
    obtain⟨u',r',q⟩:=hl j y v' e1 e2 e3
    refine⟨u',r',?_⟩
    rcases q with⟨k,e⟩|⟨k,c,e,z⟩
    ·refine .inl ⟨k,?_⟩
     have:y≠x:=fun e=>hj (aF1 hN e1 (e▸Y))
     simp[this,e]
    ·exact .inr ⟨k,c,e,z.sameBut hs (cne y c e)⟩
  ·obtain⟨w',z⟩:=I.cell y c e
   exact⟨w',z.sameBut hs (cne y c e)⟩
  ·obtain⟨e,n,ne,nf,d⟩:=I.pin p hp
   exact⟨(hs.2 p.1 ne).trans e,n,ne,nf,d⟩
 ·have G:X.fn x=true:=by
   rcases hf with z|z
   ·exact z
   ·rw[z]at hk;cases hk
  obtain⟨c,hc⟩:=I.ok.has x (.inl hk)
  obtain⟨w',z⟩:=I.cell x c hc
  refine gC I.ok.kind hk hc z (fun h' a0 hs=>?_)
  obtain⟨oc,J,a1⟩:=id z
  refine h { s with heap:=h' } ⟨I.ok,I.os,I.bare,⟨fun b o e n hb hx=>?_,fun b o e n hb hx=>?_,I.base.free,fun b o e hx=>?_,I.base.tups,I.base.frzs,I.base.tbls⟩,⟨m,hn.sameBut hs (dw (cne x c hc)),fun j y v' e1 e2 e3=>?_⟩,fun y c' e=>?_,I.free,I.freeC,fun p hp=>?_,C ⟨oc,J,I.freeC x c hc⟩ hs,by simpa using I.len⟩ ⟨c,hs,.inr hc⟩
  ·exact(hs.2 b (aw (ax (aH e) (I.ok.cab x c G hc)))).trans (I.base.keep b o e n hb hx)
  ·obtain⟨sl,e1⟩:=I.base.slot b o e n hb hx
   exact⟨sl,(hs.2 b (aw (ax (aH e) (I.ok.cab x c G hc)))).trans e1⟩
  ·obtain⟨o',e1⟩:=I.base.there b o e hx
   exact⟨o',(hs.2 b (aw (ax (aH e) (I.ok.cab x c G hc)))).trans e1⟩
  ·by_cases hj:j=i
   ·subst hj
    rw[Y]at e1;cases e1
    rw[aZ a2]at e2
    cases e2
    exact⟨u,r,.inr ⟨.inl hk,c,hc,a0⟩⟩
   ·rw[bj (dw hj)]at e2
    obtain⟨u',r',q⟩:=hl j y v' e1 e2 e3
    refine⟨u',r',?_⟩
    rcases q with q|⟨k,c',e,z'⟩
    ·exact .inl q
    ·refine .inr ⟨k,c',e,z'.sameBut hs ?_⟩
     rintro rfl
     exact hj (aF1 hN e1 (I.ok.inj _ _ _ e hc▸Y))
  ·by_cases hcc:c'=c
   ·subst hcc;exact⟨_,a0⟩
   ·obtain⟨w2,z2⟩:=I.cell y c' e
    exact⟨w2,z2.sameBut hs hcc⟩
  ·obtain⟨e,n,ne,nf,d⟩:=I.pin p hp
   refine⟨(hs.2 p.1 ?_).trans e,n,ne,nf,d⟩
   intro q
   rw[q,J]at e
   have q':oc=p.2:=av e
   exact d w' (by rw[<-q'];exact a1)
theorem aF6 {M:Model}{A:aQ}{E:Value->ae->Prop}{i:Nat}{x:Str}{v:V}{u:Value}{Q:Unit->ae->Prop}(I:Inv X pins σ H s)(hN:X.N.Nodup)(z:X.N[i]?=some x)(hx:Loc X.env.scope x)(r:RelV v u)
  (h:∀ s',Inv X pins (σ.set i (some v)) H s'->Q () s') (hf:X.fn x=true\/X.env.scope.names.lookup x=some .local:=by first|exact .inl rfl|exact .inr rfl|assumption):wpAny M A (gO X.env x u) Q E s :=
 aw6 I hN z hx r (fun s' y _=>h s' y) hf
theorem Inv.call' {s':ae}{ch:List Addr}(I:Inv X pins σ H s)(ho:s'.os=s.os)(u:Un (frs X.stack) ch H H' s.heap s'.heap)(hok:HOk X.prog X.w H' s'.heap)(hg:eU s'.gens)
  (h:∀ b∈ch,(b∈X.ex\/X.s₀.heap.objs.size<=b)/\b≠X.env.locals/\(∀ x c,X.env.cells.lookup x=some c->c≠b)/\∀ p∈X.pn++pins,p.1≠b):Inv X pins σ H' s':=by
 obtain⟨h',g',d',t',y⟩:=s'
 have e:y=s.os:=ho
 subst e
 exact I.call (g':=g') (t':=t') (d':=d') u hok hg h
end
abbrev XK:=Value->Option Addr->Hp->Prop
noncomputable abbrev St:=List (Option V)
abbrev VK:=V->Hp->Prop
abbrev TE:=St->Hp->VK->Prop
abbrev TT:=St->Hp->(Bool->Hp->Prop)->Prop
abbrev TA:=St->Hp->(List V->Hp->Prop)->Prop
structure Ends where
 nx:St->Hp->Prop
 rt:VK
 bk:St->Hp->Prop:=fun _ _=>False
 ct:St->Hp->Prop:=fun _ _=>False
abbrev TS:=Ends->St->Hp->Prop
def EP (X:Cx)(pins:List (Addr×Obj))(σ:St)(Q:VK)(u:Value)(s':ae):Prop:=∃ v H',Inv X pins σ H' s'/\RelV v u/\Q v H'
def TP (X:Cx)(pins:List (Addr×Obj))(σ:St)(Q:Bool->Hp->Prop)(b:Bool)(s':ae):Prop:=∃ H',Inv X pins σ H' s'/\Q b H'
def AP (X:Cx)(pins:List (Addr×Obj))(σ:St)(Q:List V->Hp->Prop)(us:List Value)(s':ae):Prop:=∃ vs H',Inv X pins σ H' s'/\Vals vs us/\Q vs H'
def SP (X:Cx)(pins:List (Addr×Obj))(D:Ends)(f:Flow)(s':ae):Prop :=
 match f with
 | .next=>∃ σ' H',Inv X pins σ' H' s'/\D.nx σ' H'
 | .brk=>∃ σ' H',Inv X pins σ' H' s'/\D.bk σ' H'
 | .cont=>∃ σ' H',Inv X pins σ' H' s'/\D.ct σ' H'
 | .ret u=>∃ v σ' H',Inv X pins σ' H' s'/\RelV v u/\D.rt v H'
def PE (X:Cx)(e:Expr)(t:TE):Prop :=
 ∀(pins:List (Addr×Obj)) (s:ae) (σ:St) (H:Hp) (Q:VK),Inv X pins σ H s->t σ H Q->wpAny (model X.prog X.w) X.A (eval e X.env) (EP X pins σ Q) X.xe s
def PT (X:Cx)(e:Expr)(t:TT):Prop :=
 ∀(pins:List (Addr×Obj)) (s:ae) (σ:St) (H:Hp) (Q:Bool->Hp->Prop),Inv X pins σ H s->t σ H Q->wpAny (model X.prog X.w) X.A (db e X.env (eval e X.env)) (TP X pins σ Q) X.xe s
def PW (X:Cx)(e:Expr)(t:TT):Prop :=
 ∀(whole:Sem Value) (pins:List (Addr×Obj)) (s:ae) (σ:St) (H:Hp) (Q:Bool->Hp->Prop),Inv X pins σ H s->t σ H Q->wpAny (model X.prog X.w) X.A (db e X.env whole) (TP X pins σ Q) X.xe s
theorem PW.pt {X:Cx}{e:Expr}{t:TT}(h:PW X e t):PT X e t:=h _
def PA (X:Cx)(es:List Expr)(t:TA):Prop :=
 ∀(pos:Pos) (pins:List (Addr×Obj)) (s:ae) (σ:St) (H:Hp) (Q:List V->Hp->Prop),Inv X pins σ H s->t σ H Q->wpAny (model X.prog X.w) X.A (spliced (d5 pos (br es X.env))) (AP X pins σ Q) X.xe s
def PS (X:Cx)(st:Stmt)(t:TS):Prop :=
 ∀(pins:List (Addr×Obj)) (s:ae) (σ:St) (H:Hp) (D:Ends),Inv X pins σ H s->t D σ H->wpAny (model X.prog X.w) X.A (exec st X.env) (SP X pins D) X.xe s
def PSs (X:Cx)(st:List Stmt)(t:TS):Prop :=
 ∀(pins:List (Addr×Obj)) (s:ae) (σ:St) (H:Hp) (D:Ends),Inv X pins σ H s->t D σ H->wpAny (model X.prog X.w) X.A (execs st X.env) (SP X pins D) X.xe s
theorem thn {α:Type}{t:Sem α}{Q y:α->ae->Prop}{M:Model}{A:aQ}{E:Value->ae->Prop}{s:ae}(h:wpAny M A t Q E s)(z:∀ a s,Q a s->y a s):wpAny M A t y E s:=bN h z fun _ _ x=>x
section
variable {X:Cx}
theorem bin {a b:Expr}{G tb:TE}(ha:PE X a G)(hb:PE X b tb){z:List (Addr×Obj)}{s:ae}{σ:St}{H:Hp}{R:V->V->Hp->Prop}(I:Inv X z σ H s)(h:G σ H fun x F=>tb σ F fun y C=>R x y C)
  {α:Type} {Q:α->ae->Prop} {f:Value->Value->Sem α}
  (hf:∀ v u s2 x y C,Inv X z σ C s2->RelV x v->RelV y u->R x y C->wpAny (model X.prog X.w) X.A (f v u) Q X.xe s2) :
  wpAny (model X.prog X.w) X.A (eval a X.env) (fun v s₁=>wpAny (model X.prog X.w) X.A (eval b X.env) (fun u s₂=>wpAny (model X.prog X.w) X.A (f v u) Q X.xe s₂) X.xe s₁) X.xe s:=by
 refine thn (ha z s σ H _ I h) fun v s1 ⟨x,F,I1,r1,J⟩=>?_
 refine thn (hb z s1 σ F _ I1 J) fun u s2 ⟨y,C,Y,Z,q2⟩=>?_
 exact hf v u s2 x y C Y r1 Z q2
def bU8 (i:Nat):TE:=fun σ H Q=>∃ v,σ[i]?=some (some v)/\Q v H
def tC (v:V):TE:=fun _ H Q=>Q v H
theorem bz8 {i:Nat}{x:Str}{pos:Pos}(hN:X.N[i]?=some x)(hv:Vis X.env.scope x)(hd:(x==("__debug__":Str))=false:=by decide)(z:(x==("__classdict__":Str))=false:=by decide):PE X (.Name x pos) (bU8 i):=by
 intro y s σ H Q I h
 obtain⟨v,e,h⟩:=h
 obtain⟨m,hn,hl⟩:=I.loc
 obtain⟨u,r,l⟩:=hl i x v hN e hv
 have fin:EP X y σ Q u s:=⟨v,H,I,r,h⟩
 rcases l with⟨hk,C⟩|⟨hk,c,hc,hcell⟩
 ·exact jl (wpAny_loadName_local I.ok.kind hk hn C fin) hd
 ·rcases hk with hk|hk
  ·exact jl (wpAny_loadName_cell I.ok.kind hk hc hcell fin) hd
  ·exact jl (wpAny_loadName_free I.ok.kind hk hc hcell fin z) hd
theorem bE4 {i j pos}:PE X (.Constant (.int i) j pos) (tC (.int i)):=fun _ _ _ H _ I h=>wpAny_Constant_int ⟨.int i,H,I.tok _,⟨_,rfl⟩,h⟩
theorem bS6 {b j pos}:PE X (.Constant (.bool b) j pos) (tC (.bl b)):=fun _ _ _ H _ I h=>Constant_bool ⟨.bl b,H,I,rfl,h⟩
theorem bw4 {j pos}:PE X (.Constant .none j pos) (tC .non):=fun _ _ _ H _ I h=>Constant_none ⟨.non,H,I,rfl,h⟩
theorem bh7 {x j pos}:PE X (.Constant (.str x) j pos) (tC (.str x)):=fun _ _ _ H _ I h=>Calls.Constant_str ⟨.str x,H,I.tok _,⟨_,rfl⟩,h⟩
def Gl (X:Cx)(x:Str):Prop:=X.env.kindOf x=some .globalImplicit
theorem aA2 {E:Value->ae->Prop}{y:List (Addr×Obj)}{s:ae}{σ:St}{H:Hp}{x:Str}{u:Value}{pos:Pos}{Q:Value->ae->Prop}(I:Inv X y σ H s)(hg:Gl X x)(z:X.mg x=some u)(h:Q u s)
  (hd:(x==("__debug__":Str))=false:=by decide):wpAny (model X.prog X.w) X.A (eval (.Name x pos) X.env) Q E s :=
 eF I.ok.kind hg (Calls.loadGlobal_global (by rw[I.ok.glob];exact I.mod.glob.keeps I.bk) z h) hd
theorem au7 {E:Value->ae->Prop}{y:List (Addr×Obj)}{s:ae}{σ:St}{H:Hp}{x:Str}{u:Value}{pos:Pos}{Q:Value->ae->Prop}(I:Inv X y σ H s)(hg:Gl X x)(F:X.mg x=none)(hv:bf x=some u)(h:Q u s)
  (hn:x ≠ "__name__":=by decide) (hd:(x==("__debug__":Str))=false:=by decide):wpAny (model X.prog X.w) X.A (eval (.Name x pos) X.env) Q E s:=by
 obtain⟨G,C,z⟩:=I.mod.blt
 exact eF I.ok.kind hg (Calls.loadGlobal_builtin (by rw[I.ok.glob];exact I.mod.glob.keeps I.bk) F (by rw[I.ok.blt];exact C.keeps I.bk) ((z x hn).trans hv) h) hd
theorem br3 {x:Str}{v:V}{u:Value}{pos:Pos}(hg:Gl X x)(y:X.mg x=some u)(r:RelV v u)(hd:(x==("__debug__":Str))=false:=by decide):PE X (.Name x pos) (tC v) :=
 fun _ _ _ H _ I h=>aA2 I hg y ⟨v,H,I,r,h⟩ hd
theorem bp7 {x:Str}{v:V}{u:Value}{pos:Pos}(hg:Gl X x)(y:X.mg x=none)(hv:bf x=some u)(r:RelV v u)(hn:x ≠ "__name__":=by decide)(hd:(x==("__debug__":Str))=false:=by decide):PE X (.Name x pos) (tC v) :=
 fun _ _ _ H _ I h=>au7 I hg y hv ⟨v,H,I,r,h⟩ hn hd
variable {a b:Expr} {ta tb:TE} {pos:Pos}
def tB (t:TE):TT:=fun σ H Q=>t σ H fun x H1=>∃ c,x=.bl c/\Q c H1
theorem bG5 {e:Expr}{t:TE}(h:PE X e t)(he:∀ y,db e X.env y=(do let v <- y;standAt e.pos;jf [v] (truthy v)):=by intro _;rfl):PT X e (tB t):=by
 intro z s σ H Q I hw
 refine isTrue_plain (thn (h z s σ H _ I hw) fun v s1 ⟨x,G,F,r1,C⟩=>?_) (he _)
 obtain⟨d,rfl,q⟩:=C
 cases r1
 exact bG ⟨G,F,q⟩
variable {tA tB':TT} {rest:List Expr}
def bW1 (t u:TT):TT:=fun σ H Q=>t σ H fun c H1=>if c=true then u σ H1 Q else Q false H1
def tOr (t u:TT):TT:=fun σ H Q=>t σ H fun c H1=>if c=true then Q true H1 else u σ H1 Q
def bV4 (t:TT):TT:=fun σ H Q=>t σ H fun c H1=>Q (!c) H1
theorem bn5 (ha:PT X a tA):PW X (.BoolOp .And [a] pos) tA:=by
 intro z y s σ H Q I h
 refine isTrue_and (thn (ha y s σ H Q I h) fun c s1 e=>?_)
 cases c with
 | true=>exact isTrue_and_nil e
 | false=>exact e
theorem bw5 (ha:PT X a tA):PW X (.BoolOp .Or [a] pos) tA:=by
 intro z y s σ H Q I h
 refine isTrue_or (thn (ha y s σ H Q I h) fun c s1 e=>?_)
 cases c with
 | false=>exact isTrue_or_nil e
 | true=>exact e
theorem bf9 (ha:PT X a tA)(hb:PW X (.BoolOp .And (b::rest) pos) tB'):PW X (.BoolOp .And (a::b::rest) pos) (bW1 tA tB'):=by
 intro G y s σ H Q I h
 refine isTrue_and (thn (ha y s σ H _ I h) fun c s1 ⟨F,C,z⟩=>?_)
 cases c with
 | true=>exact hb G y s1 σ F Q C z
 | false=>exact⟨F,C,z⟩
theorem bJ1 (ha:PT X a tA)(hb:PW X (.BoolOp .Or (b::rest) pos) tB'):PW X (.BoolOp .Or (a::b::rest) pos) (tOr tA tB'):=by
 intro G y s σ H Q I h
 refine isTrue_or (thn (ha y s σ H _ I h) fun c s1 ⟨F,C,z⟩=>?_)
 cases c with
 | true=>exact⟨F,C,z⟩
 | false=>exact hb G y s1 σ F Q C z
theorem bB0 (ha:PT X a tA):PT X (.UnaryOp .Not a pos) (bV4 tA):=by
 intro y s σ H Q I h
 exact isTrue_not (ha y s σ H (fun c z=>Q (!c) z) I h)
def bB8 (ta tb:TE):TE:=fun σ H Q=>ta σ H fun x H1=>∃ c,x=.bl c/\if c=true then tb σ H1 Q else Q (.bl false) H1
def bV8 (ta tb:TE):TE:=fun σ H Q=>ta σ H fun x H1=>∃ c,x=.bl c/\if c=true then Q (.bl true) H1 else tb σ H1 Q
def bD2 (ta:TE):TE:=fun σ H Q=>ta σ H fun x H1=>∃ c,x=.bl c/\Q (.bl (!c)) H1
theorem bj8 {op}{t:TE}(h:PE X a t):PE X (.BoolOp op [a] pos) t:=fun y s σ H Q I hw=>BoolOp_one (h y s σ H Q I hw)
theorem bg6 (ha:PE X a ta)(hb:PE X (.BoolOp .And (b::rest) pos) tb):PE X (.BoolOp .And (a::b::rest) pos) (bB8 ta tb):=by
 intro y s σ H Q I h
 refine BoolOp_and (thn (ha y s σ H _ I h) fun v s1 ⟨x,F,C,r1,z⟩=>?_)
 obtain⟨c,rfl,z⟩:=z
 cases r1
 refine bG ?_
 cases c with
 | true=>exact hb y s1 σ F Q C z
 | false=>exact⟨.bl false,F,C,rfl,z⟩
theorem bD3 (ha:PE X a ta)(hb:PE X (.BoolOp .Or (b::rest) pos) tb):PE X (.BoolOp .Or (a::b::rest) pos) (bV8 ta tb):=by
 intro y s σ H Q I h
 refine BoolOp_or (thn (ha y s σ H _ I h) fun v s1 ⟨x,F,C,r1,z⟩=>?_)
 obtain⟨c,rfl,z⟩:=z
 cases r1
 refine bG ?_
 cases c with
 | false=>exact hb y s1 σ F Q C z
 | true=>exact⟨.bl true,F,C,rfl,z⟩
theorem bw0 (ha:PE X a ta):PE X (.UnaryOp .Not a pos) (bD2 ta):=by
 intro y s σ H Q I h
 refine UnaryOp_ (thn (ha y s σ H _ I h) fun v s1 ⟨x,F,C,r1,z⟩=>?_)
 obtain⟨c,rfl,z⟩:=z
 cases r1
 exact not_of (bG ⟨.bl (!c),F,C,rfl,z⟩)
def tIf (t:TT)(ta tb:TE):TE:=fun σ H Q=>t σ H fun c H1=>if c=true then ta σ H1 Q else tb σ H1 Q
theorem bc6 {c:Expr}(hc:PT X c tA)(ha:PE X a ta)(hb:PE X b tb):PE X (.IfExp c a b pos) (tIf tA ta tb):=by
 intro y s σ H Q I h
 refine wpAny_IfExp (thn (hc y s σ H _ I h) fun d s1 ⟨F,C,z⟩=>?_)
 cases d with
 | true=>exact ha y s1 σ F Q C z
 | false=>exact hb y s1 σ F Q C z
end
def SqL (K:ac)(H:Hp)(a:Addr)(xs:List V):Prop :=
 Rd H a (.lst xs) \/
  ∃(o:Obj) (its:Array Value) (n:Nat),K.lookup a=some o/\o.cls=.type "list"/\o.dict=none/\o.data=.seq its n/\its.size<=aC/\Vals xs its.toList
def SqT (K:ac)(H:Hp)(a:Addr)(xs:List V):Prop :=
 Rd H a (.tup xs) \/
  ∃(o:Obj) (its:Array Value) (n:Nat),K.lookup a=some o/\o.cls=.type "tuple"/\o.data=.seq its n/\its.size<=aC/\Vals xs its.toList
noncomputable def bY4:Value->Option V
 | .none=>some .non
 | .bool b=>some (.bl b)
 | .int i _=>some (.int i)
 | .str x _=>some (.str x)
 | .bytes b _=>some (.byt b)
 | .float b _=>some (.flt b)
 | .ref a=>some (.ref a)
 | .type n=>some (.ty n)
 | _=>none
theorem RelV.abs {x:V}{u:Value}(r:RelV x u):bY4 u=some x:=by
 cases x with
 | non=>cases r;rfl
 | bl _=>cases r;rfl
 | int _=>obtain⟨t,rfl⟩:=r;rfl
 | str _=>obtain⟨t,rfl⟩:=r;rfl
 | byt _=>obtain⟨t,rfl⟩:=r;rfl
 | flt _=>obtain⟨t,rfl⟩:=r;rfl
 | ref _=>cases r;rfl
 | ty _=>cases r;rfl
theorem RelV.inj {x y:V}{u:Value}(r:RelV x u)(q:RelV y u):x=y:=av (r.abs.symm.trans q.abs)
theorem Vals.inj:∀ {h ys:List V} {us:List Value},Vals h us->Vals ys us->h=ys
 | _,_,_,.nil,.nil=>rfl
 | _,_,_,.cons r t,.cons r' t'=>by rw[r.inj r',Vals.inj t t']
section
variable {X:Cx} {pins:List (Addr×Obj)} {σ:St} {H:Hp} {s:ae} {a:Addr} {xs ys:List V}
theorem SqL.of {K:ac}(h:H a=some (.lst xs)):SqL K H a xs:=.inl (.inl h)
theorem SqT.of {K:ac}(h:H a=some (.tup xs)):SqT K H a xs:=.inl (.inl h)
theorem Inv.list (I:Inv X pins σ H s)(h:SqL X.K H a xs):∃ its:List Value,Vals xs its/\PlainL s.heap a its.toArray/\xs.length<=aC:=by
 rcases h with h|⟨o,its,n,hk,hc,hd,hs,hz,r⟩
 ·obtain⟨z,its,n,r,e⟩:=h.ok I.hok
  exact⟨its,r,⟨_,n,e,rfl,rfl,rfl⟩,z⟩
 ·refine⟨its.toList,r,⟨o,n,I.kIn a o hk,hc,hd,by simpa using hs⟩,?_⟩
  have e:=r.length
  simp only[eg]at e
  omega
theorem Inv.tuple (I:Inv X pins σ H s)(h:SqT X.K H a xs):∃ its:List Value,Vals xs its/\IsTup s.heap a its.toArray/\xs.length<=aC:=by
 rcases h with h|⟨o,its,n,hk,hc,hs,hz,r⟩
 ·obtain⟨z,its,r,p⟩:=h.ok I.hok
  exact⟨its,r,p,z⟩
 ·refine⟨its.toList,r,⟨o,I.kIn a o hk,hc,n,by simpa using hs⟩,?_⟩
  have e:=r.length
  simp only[eg]at e
  omega
theorem Inv.list_inj (I:Inv X pins σ H s)(h:SqL X.K H a xs)(h':SqL X.K H a ys):xs=ys:=by
 obtain⟨its,r,⟨o,n,e,_,_,d⟩,_⟩:=I.list h
 obtain⟨its',y,⟨z,C,e',_,_,d'⟩,_⟩:=I.list h'
 rw[e]at e';cases e'
 rw[d]at d'
 injection d' with d1 _
 have:its=its':=by simpa using congrArg ik d1
 subst this
 exact r.inj y
theorem Inv.tuple_inj (I:Inv X pins σ H s)(h:SqT X.K H a xs)(h':SqT X.K H a ys):xs=ys:=by
 obtain⟨its,r,⟨o,e,_,n,d⟩,_⟩:=I.tuple h
 obtain⟨its',y,⟨z,e',_,C,d'⟩,_⟩:=I.tuple h'
 rw[e]at e';cases e'
 rw[d]at d'
 injection d' with d1 _
 have:its=its':=by simpa using congrArg ik d1
 subst this
 exact r.inj y
end
noncomputable abbrev Cx.wish (X:Cx)(E:Value->ae->Prop):Cx:={ X with xe:=E }
noncomputable abbrev Cx.nox (X:Cx):Cx:=X.wish fun _ _=>False
theorem Cx.Ok.wish {X:Cx}(ok:X.Ok)(E:Value->ae->Prop):(X.wish E).Ok :=
 ⟨ok.mod,ok.kind,ok.glob,ok.blt,ok.above,ok.inj,ok.has,ok.cab,ok.hd,ok.frames,ok.stk,ok.exf,ok.bs,ok.bsz,ok.noex,ok.exfs,ok.funs,ok.frf⟩
theorem Cx.Ok.unwish {X:Cx}{E:Value->ae->Prop}(ok:(X.wish E).Ok):X.Ok :=
 ⟨ok.mod,ok.kind,ok.glob,ok.blt,ok.above,ok.inj,ok.has,ok.cab,ok.hd,ok.frames,ok.stk,ok.exf,ok.bs,ok.bsz,ok.noex,ok.exfs,ok.funs,ok.frf⟩
section
variable {X:Cx} {pins:List (Addr×Obj)} {σ:St} {H:Hp} {s:ae} {E:Value->ae->Prop}
theorem Inv.wish (I:Inv X pins σ H s)(E:Value->ae->Prop):Inv (X.wish E) pins σ H s:=⟨I.ok.wish E,I.os,I.bare,I.base,I.loc,I.cell,I.free,I.freeC,I.pin,I.hok,I.len⟩
theorem Inv.unwish (I:Inv (X.wish E) pins σ H s):Inv X pins σ H s:=⟨I.ok.unwish,I.os,I.bare,I.base,I.loc,I.cell,I.free,I.freeC,I.pin,I.hok,I.len⟩
theorem SP.unwish {D:Ends}{f:Flow}{s':ae}(h:SP (X.wish E) pins D f s'):SP X pins D f s':=by
 cases f with
 | next=>obtain⟨σ',H',I,q⟩:=h;exact⟨σ',H',I.unwish,q⟩
 | brk=>obtain⟨σ',H',I,q⟩:=h;exact⟨σ',H',I.unwish,q⟩
 | cont=>obtain⟨σ',H',I,q⟩:=h;exact⟨σ',H',I.unwish,q⟩
 | ret u=>obtain⟨v,σ',H',I,r,q⟩:=h;exact⟨v,σ',H',I.unwish,r,q⟩
theorem PSs.nox {st:List Stmt}{t:TS}(h:PSs X.nox st t):PSs X st t:=fun y s σ H D I hw =>
 bN (h y s σ H D (I.wish _) hw) (fun _ _ q=>q.unwish) fun _ _ z=>bZ z
end
section
variable {X:Cx} {st:Stmt} {rest:List Stmt} {t u:TS} {e:Expr} {te:TE} {pos:Pos}
def by2:TS:=fun D σ H=>D.nx σ H
noncomputable def bT9 (t u:TS):TS:=fun D σ H=>t { D with nx:=u D } σ H
theorem aT6:PSs X [] by2:=fun _ _ σ H _ I h=>gg ⟨σ,H,I,h⟩
theorem aI0 (C:PS X st t)(z:PSs X rest u):PSs X (st::rest) (bT9 t u):=by
 intro y s σ H D I h
 refine wpAny_execs_cons (thn (C y s σ H { D with nx:=u D } I h) fun f s1 q=>?_)
 cases f with
 | next =>
  obtain⟨σ',H',F,q⟩:=q
  exact z y s1 σ' H' D F q
 | ret v=>exact q
 | brk=>exact q
 | cont=>exact q
theorem Inv.quiet {h:List (Addr×Obj)}{σ:St}{H:Hp}{s:ae}(I:Inv X h σ H s):interactive X.env=false:=by simp[interactive,I.ok.kind]
def bF6 (te:TE):TS:=fun D σ H=>te σ H fun _ H1=>D.nx σ H1
theorem bs0 (he:PE X e te)(hs:eD e none pos.line X.env=pure false:=by rfl):PS X (.Expr e pos) (bF6 te):=by
 intro y s σ H D I h
 exact wpAny_Expr_any (thn (he y s σ H _ I h) fun v s1 ⟨x,F,C,r1,z⟩=>⟨σ,F,C,z⟩) I.quiet hs
def bT8 (te:TE):TS:=fun D σ H=>te σ H D.rt
theorem bf7 (he:PE X e te):PS X (.Return (some e) pos) (bT8 te):=by
 intro y s σ H D I h
 exact wpAny_Return_some (thn (he y s σ H _ I h) fun v s1 ⟨x,F,C,r1,z⟩=>⟨x,σ,F,C,r1,z⟩)
def bU0 (c:TT)(t u:TS):TS:=fun D σ H=>c σ H fun b H1=>if b=true then t D σ H1 else u D σ H1
theorem bS2 {c:Expr}{a b:List Stmt}{C:TT}(hc:PT X c C)(ha:PSs X a t)(hb:PSs X b u):PS X (.If c a b pos) (bU0 C t u):=by
 intro y s σ H D I h
 refine wpAny_If (thn (hc y s σ H _ I h) fun d s1 ⟨G,F,z⟩=>?_)
 cases d with
 | true=>exact ha y s1 σ G D F z
 | false=>exact hb y s1 σ G D F z
def bK6:TS:=fun _ _ _=>False
theorem bb7:PS X st bK6:=fun _ _ _ _ _ _ h=>h.elim
end
abbrev TG:=V->St->Hp->(St->Hp->Prop)->Prop
abbrev TGs:=List V->St->Hp->(St->Hp->Prop)->Prop
def PG (X:Cx)(target:Expr)(t:TG):Prop :=
 ∀(pins:List (Addr×Obj)) (s:ae) (σ:St) (H:Hp) (v:V) (u:Value) (Q:St->Hp->Prop),Inv X pins σ H s->RelV v u->t v σ H Q ->
  wpAny (model X.prog X.w) X.A (fJ target X.env u) (fun _ s'=>∃ σ' H',Inv X pins σ' H' s'/\Q σ' H') X.xe s
def PGs (X:Cx)(ts:List Expr)(t:TGs):Prop :=
 ∀(pins:List (Addr×Obj)) (s:ae) (σ:St) (H:Hp) (vs:List V) (us:List Value) (Q:St->Hp->Prop),Inv X pins σ H s->Vals vs us->t vs σ H Q ->
  wpAny (model X.prog X.w) X.A (assignInOrder ((cf ts X.env).map (·.2)) us) (fun _ s'=>∃ σ' H',Inv X pins σ' H' s'/\Q σ' H') X.xe s
abbrev bL9:=V->V->V->Hp->(Hp->Prop)->Prop
def bT1 (X:Cx)(t:bL9):Prop :=
 ∀(pins:List (Addr×Obj)) (s:ae) (σ:St) (H:Hp) (o i v:V) (ov iv u:Value) (Q:Hp->Prop),Inv X pins σ H s->RelV o ov->RelV i iv->RelV v u->t o i v H Q ->
  wpAny (model X.prog X.w) X.A (setItem ov iv u) (fun _ s'=>∃ H',Inv X pins σ H' s'/\Q H') X.xe s
section
variable {X:Cx} {pos:Pos}
def au1 (i:Nat):TG:=fun v σ H Q=>Q (σ.set i (some v)) H
theorem aW6 {i:Nat}{x:Str}(hN:X.N.Nodup)(C:X.N[i]?=some x)(hx:Loc X.env.scope x)(hf:X.fn x=true\/X.env.scope.names.lookup x=some .local:=by first|exact .inl rfl|exact .inr rfl|assumption):PG X (.Name x pos) (au1 i):=by
 intro y s σ H v u Q I r h
 exact il (aF6 I hN C hx r (fun s' z=>⟨_,H,z,h⟩) hf)
def bV6:TGs:=fun vs σ H Q=>vs=[]/\Q σ H
def bE9 (t:TG)(u:TGs):TGs:=fun vs σ H Q=>∃ v r,vs=v::r/\t v σ H fun σ' H'=>u r σ' H' Q
theorem bn2:PGs X [] bV6:=by
 intro y s σ H vs us Q I r h
 obtain⟨e,h⟩:=h
 subst e
 cases r
 exact assignInOrder_nil ⟨σ,H,I,h⟩
theorem bb9 {e:Expr}{es:List Expr}{t:TG}{u:TGs}(G:PG X e t)(F:PGs X es u)
  (hs:(cf (e::es) X.env).map (·.2)=fJ e X.env::(cf es X.env).map (·.2):=by rfl):PGs X (e::es) (bE9 t u):=by
 intro y s σ H vs us Q I r h
 obtain⟨v,Y,e1,h⟩:=h
 subst e1
 cases r with
 | cons r rr =>
  rw[hs]
  refine assignInOrder_cons (thn (G y s σ H _ _ _ I r h) fun _ s1 ⟨σ1,C,J,z⟩=>?_)
  exact F y s1 σ1 C _ _ Q J rr z
def bS3 (K:ac)(n:Nat)(t:TGs):TG:=fun v σ H Q=>∃ a xs,v=.ref a/\SqT K H a xs/\xs.length=n/\t xs σ H Q
theorem bH2 {es:List Expr}{k:Nat}{t:TGs}{n:Nat}(hc:X.calm=true)(h:PGs X es t)
  (hn:(cf es X.env).length=n:=by rfl) (z:(cf es X.env).findIdx? (·.1)=none:=by rfl):PG X (.Tuple es k pos) (bS3 X.K n t):=by
 intro y s σ H v u Q I r hw
 obtain⟨a,G,e1,hq,hl,hw⟩:=hw
 subst e1
 cases r
 obtain⟨its,C,ht,hz⟩:=I.tuple hq
 refine assign_Tuple_tuple (I.ok.hd hc) ht (by simp[hn,<-hl,C.length]) z fun h' hx=>?_
 have F:Inv X y σ H { s with heap:=h' }:=I.kept (t':=s.toks) fun b o e=>hx b o (aw (aH e)) e
 exact h y _ σ H G _ Q F (by simpa using C) hw
def bV0 (to ti:TE)(t:bL9):TG:=fun v σ H Q=>to σ H fun o H1=>ti σ H1 fun i H2=>t o i v H2 fun H3=>Q σ H3
theorem bA6 {o i:Expr}{J G:TE}{t:bL9}(ho:PE X o J)(hi:PE X i G)(hs:bT1 X t)
  (ha:∀ v,fJ (.Subscript o i pos) X.env v=(do
   let C <- jf [v] (eval o X.env)
   let F <- jf [v,C] (eval i X.env)
   standAt pos
   jf [v,C,F] (setItem C F v)
   release [v,C,F] []):=by intro _;rfl):PG X (.Subscript o i pos) (bV0 J G t):=by
 intro z s σ H v u Q I r h
 rw[ha]
 refine af (dW (thn (ho z s σ H _ I h) fun C s1 ⟨x,H1,I1,r1,Y⟩=>?_))
 refine af (dW (thn (hi z s1 σ H1 _ I1 Y) fun F s2 ⟨y,H2,Z,r2,q2⟩=>?_))
 refine af (g8 (af (dW (thn (hs z s2 σ H2 x y v C F u _ Z r1 r2 r q2) fun _ s3 ⟨H3,I3,q3⟩=>?_))))
 exact wpAny_release ⟨σ,H3,I3,q3⟩
def bd4 (te:TE)(g:TG):TS:=fun D σ H=>te σ H fun x H1=>g x σ H1 D.nx
theorem bh0 {tg e:Expr}{z:TE}{g:TG}(he:PE X e z)(hg:PG X tg g)(hs:swapsWithSole [tg] e pos.line X.env=pure false:=by rfl)(hw:g9 [tg] e X.env=pure none:=by rfl)
  (F:(cf [tg] X.env).map (·.2)=[fJ tg X.env]:=by rfl):PS X (.Assign [tg] e pos) (bd4 z g):=by
 intro y s σ H D I h
 refine wpAny_Assign_stores (thn (he y s σ H _ I h) fun v s1 ⟨x,J,G,r1,C⟩=>?_) hs hw
 rw[F]
 exact thn (hg y s1 σ J x v _ G r1 C) fun _ s2 q=>q
theorem bi5 {i:Nat}{x:Str}{e:Expr}{F:TE}{z:Pos}(hN:X.N.Nodup)(Z:X.N[i]?=some x)(hx:Loc X.env.scope x)(he:PE X e F)(hs:eD e (some (.Name x z)) pos.line X.env=pure false:=by rfl)(hf:X.fn x=true\/X.env.scope.names.lookup x=some .local:=by first|exact .inl rfl|exact .inr rfl|assumption) :
  PS X (.Assign [.Name x z] e pos) (bd4 F (au1 i)):=by
 intro C s σ H D I h
 refine wpAny_Assign_Name (thn (he C s σ H _ I h) fun v s1 ⟨y,H1,Y,r1,J⟩=>?_) hs
 exact aF6 Y hN Z hx r1 (fun s2 G=>⟨_,H1,G,J⟩) hf
end
section
variable {X:Cx} {pos:Pos}
def bh2 (c:TT)(tb:TS):TS:=fun D σ H=>∃ W:Nat->St->Hp->Prop,(∃ m,W m σ H)/\∀ m σ H,W m σ H ->
 c σ H fun b H1=>if b=true then ∃ N:St->Hp->Prop,(∀ σ' H',N σ' H'->∃ m',m'<m/\W m' σ' H')/\tb { D with nx:=N,ct:=N,bk:=D.nx } σ H1 else D.nx σ H1
theorem bf0 {c:Expr}{body:List Stmt}{tc:TT}{tb:TS}(hp:PassesOwn (model X.prog X.w) X.A X.env X.xe)(hc:PT X c tc)(hb:PSs X body tb):PS X (.While c body [] pos) (bh2 tc tb):=by
 intro y s σ H D I h
 obtain⟨W,⟨m0,w0⟩,turn⟩:=h
 refine wpAny_While (codeAny_whileLoop (fun n s'=>∃ σ' H',Inv X y σ' H' s'/\W n σ' H') ?_ m0 ⟨σ,H,I,w0⟩)
 rintro n s1 ⟨σ1,Z,I1,w1⟩
 refine cw hp (thn (hc y s1 σ1 Z _ I1 (turn n σ1 Z w1)) fun b s2 ⟨H2,Y,q2⟩=>?_)
 cases b with
 | true =>
  obtain⟨N,hN,q2⟩:=q2
  rw[if_pos rfl]
  refine cw hp (thn (hb y s2 σ1 H2 _ Y q2) fun f s3 q3=>?_)
  cases f with
  | next =>
   obtain⟨σ3,z,J,G⟩:=q3
   obtain⟨m',F,C⟩:=hN σ3 z G
   exact⟨m',F,σ3,z,J,C⟩
  | cont =>
   obtain⟨σ3,z,J,G⟩:=q3
   obtain⟨m',F,C⟩:=hN σ3 z G
   exact⟨m',F,σ3,z,J,C⟩
  | brk=>exact q3
  | ret v=>exact q3
 | false =>
  rw[if_neg aO]
  exact gg ⟨σ1,H2,Y,q2⟩
end
structure It where
 go:Nat->Hp->Prop
 yld:Nat->Hp->V->Hp->Prop
 stop:Nat->Hp->Prop
def FpOk (X:Cx)(pins:List (Addr×Obj))(H:Hp)(b:Addr):Prop :=
 H b=none/\b≠X.env.locals/\b ∉ X.fs/\(b∈X.ex\/X.s₀.heap.objs.size<=b)/\(∀ x c,X.env.cells.lookup x=some c->c≠b)/\∀ p∈X.pn++pins,p.1≠b
theorem Inv.fpOk {X:Cx}{h:List (Addr×Obj)}{σ:St}{H H':Hp}{s:ae}{b:Addr}(I:Inv X h σ H s)(hb:s.heap.objs.size<=b)(hn:H' b=none):FpOk X h H' b:=by
 refine⟨hn,b7 (ax I.lt hb),I.nofs hb,.inr (aj I.sz hb),fun x c e z=>?_,fun p y z=>?_⟩
 ·obtain⟨v,q⟩:=I.cell x c e
  exact absurd (ax q.lt (by rw[z];exact hb)) (bC _)
 ·exact absurd (ax (aH (I.pin p y).1) (by rw[z];exact hb)) (bC _)
structure Turn (P:aI)(w:World)(K:ac)(tg:Expr)(J:It)(fp:List Addr)(it:Addr)(tn:Nat->Heap->Prop):Prop where
 mem:it∈fp
 obj:∀ i h,tn i h->∀ b∈fp,∃ o,h.get? b=some o/\∀ v,o.data≠.cell v
 keep:∀ i h h',tn i h->(∀ b∈fp,∀ o,h.get? b=some o->h'.get? b=some o)->tn i h'
 item:∀(X:Cx),X.prog=P->X.w=w->X.K=K->X.calm=true->∀(i:Nat) (pins:List (Addr×Obj)) (s:ae) (σ:St) (H:Hp) (E:Value->ae->Prop),Inv X pins σ H s->(∀ b∈fp,FpOk X pins H b)->tn i s.heap->J.go i H ->
  wpAny (model P w) X.A (jm (.ref it)) (fun r s1=>∃ u,r=some u /\
   wpAny (model P w) X.A (d6 tg (.ref it) u) (fun _ s2=>∃ x H',Inv X pins σ H' s2/\RelV x u/\J.yld i H x H'/\tn (i+1) s2.heap/\∀ b∈fp,H' b=none) E s1) E s
 done:∀(X:Cx),X.prog=P->X.w=w->X.K=K->X.calm=true->∀(i:Nat) (pins:List (Addr×Obj)) (s:ae) (σ:St) (H:Hp) (E:Value->ae->Prop),Inv X pins σ H s->(∀ b∈fp,FpOk X pins H b)->tn i s.heap->J.stop i H ->
  wpAny (model P w) X.A (jm (.ref it)) (fun r s1=>r=none/\Inv X pins σ H s1) E s
 self:∀(A:aQ) (i:Nat) (s:ae) (Q:Value->ae->Prop) (E:Value->ae->Prop),tn i s.heap->Q (.ref it) s->wpAny (model P w) A (iK (.ref it)) Q E s
abbrev TI:=St->Hp->(It->Hp->Prop)->Prop
def PIE (X:Cx)(pins:List (Addr×Obj))(σ:St)(tg:Expr)(R:It->Hp->Prop)(itv:Value)(s2:ae):Prop :=
 ∃(it:Addr) (fp:List Addr) (tn:Nat->Heap->Prop) (J:It) (H':Hp),itv=.ref it/\Inv X pins σ H' s2/\Turn X.prog X.w X.K tg J fp it tn/\tn 0 s2.heap/\(∀ b∈fp,FpOk X pins H' b)/\R J H'
def PI (X:Cx)(tg iter:Expr)(wi:TI):Prop :=
 ∀(pins:List (Addr×Obj)) (s:ae) (σ:St) (H:Hp) (R:It->Hp->Prop),Inv X pins σ H s->wi σ H R ->
  wpAny (model X.prog X.w) X.A (eval iter X.env) (fun v s1=>wpAny (model X.prog X.w) X.A (iK v) (PIE X pins σ tg R) X.xe s1) X.xe s
theorem ba8 {M : Model} {A : Around} {E : Value -> Shared -> Prop} {s : Shared} {tg : Expr} {it : Addr} {u : Value} {o : Obj} {n : String} {vs : Array Value} {Q : Unit -> Shared -> Prop} (ho : s.heap.get? it = some o) (hc : o.cls = .type n) (hd : o.data = .fields vs)
    (hn : ["enumerate", "zip", "dict_itemiterator", "dict_reverseitemiterator", "odict_iterator", "itertools.zip_longest", "itertools.pairwise"].contains n = false) (hQ : Q () s) : wpAny M A (d6 tg (.ref it) u) Q E s := by
  unfold d6
  cases tg <;> first
    | exact ay hQ
    | (cases u <;> first
        | exact ay hQ
        | (refine af (wpAny_load ho ?_)
           rw[hc, hd]
           show wpAny M A (if(["enumerate", "zip", "dict_itemiterator", "dict_reverseitemiterator", "odict_iterator", "itertools.zip_longest", "itertools.pairwise"].contains n && vs[0]? == some (jG _)) = true then _ else _) Q E s
           rw[if_neg (by intro h; rw[hn, Bool.false_and]at h; cases h)]
           exact ay hQ))
noncomputable def Itl (K:ac)(a:Addr):It :=
 ⟨fun i H=>∃ xs x,SqL K H a xs/\xs[i]?=some x,fun i H x H'=>H'=H/\∀ xs,SqL K H a xs->xs[i]?=some x,fun i H=>∃ xs,SqL K H a xs/\xs.length<=i⟩
noncomputable def Itt (K:ac)(a:Addr):It :=
 ⟨fun i H=>∃ xs x,SqT K H a xs/\xs[i]?=some x,fun i H x H'=>H'=H/\∀ xs,SqT K H a xs->xs[i]?=some x,fun i H=>∃ xs,SqT K H a xs/\xs.length<=i⟩
noncomputable def Itr (lo:Int)(n:Nat):It:=⟨fun i _=>i<n,fun i H x H'=>H'=H/\x=.int (lo+i),fun i _=>n<=i⟩
theorem aQ0 {P:aI}{w:World}{K:ac}{tg:Expr}(a it:Addr):Turn P w K tg (Itl K a) [it] it (fun i h=>h.IsListIter it a i) where
 mem:=by simp
 obj:=fun i h st b hb=>by
  have e:b=it:=by simpa using hb
  subst e
  obtain⟨o,e,c,d⟩:=st
  exact⟨o,e,fun v z=>by rw[d]at z;cases z⟩
 keep:=fun i h h' st k=>st.at fun o e=>k it (by simp) o e
 item:=by
  intro X hP hw J hc i y s σ H E I hf st hg
  subst hP hw J
  obtain⟨xs,x,hq,hx⟩:=hg
  obtain⟨its,F,p,hz⟩:=I.list hq
  obtain⟨u,hu,ru⟩:=F.get hx
  obtain⟨f0,Z,f2,f3,G,Y⟩:=hf it (by simp)
  refine wpAny_pyNext_list_item st p.isList (x:=u) (by simpa using hu) fun h' C sb=>?_
  have I1:Inv X y σ H { s with heap:=h' }:=I.turned (t':=s.toks) (fun b o hb e=>(sb.2 b hb).trans e) f0 Z f3 G Y
  obtain⟨o,e,c,d⟩:=id C
  exact⟨u,rfl,ba8 (s:={ s with heap:=h' }) e c d (by decide) ⟨x,H,I1,ru,⟨rfl,fun ys hy=>by rw[I.list_inj hy hq];exact hx⟩,C,fun b hb=>(hf b hb).1⟩⟩
 done:=by
  intro X hP hw J hc i y s σ H E I hf st hg
  subst hP hw J
  obtain⟨xs,hq,hx⟩:=hg
  obtain⟨its,F,p,hz⟩:=I.list hq
  obtain⟨f0,Z,f2,f3,G,Y⟩:=hf it (by simp)
  have hl:=F.length
  exact wpAny_pyNext_list_end (I.ok.hd hc) st p.isList (by simp;omega) fun h' eb=>⟨rfl,I.turned (t':=s.toks) (fun b o hb e=>eb b o hb e) f0 Z f3 G Y⟩
 self:=fun _ _ _ _ _ st h=>wpAny_pyIter_listiter st h
theorem aK1 {P:aI}{w:World}{K:ac}{tg:Expr}(a it:Addr):Turn P w K tg (Itt K a) [it] it (fun i h=>h.IsTupleIter it a i) where
 mem:=by simp
 obj:=fun i h st b hb=>by
  have e:b=it:=by simpa using hb
  subst e
  obtain⟨o,e,c,d⟩:=st
  exact⟨o,e,fun v z=>by rw[d]at z;cases z⟩
 keep:=fun i h h' st k=>st.at fun o e=>k it (by simp) o e
 item:=by
  intro X hP hw J hc i y s σ H E I hf st hg
  subst hP hw J
  obtain⟨xs,x,hq,hx⟩:=hg
  obtain⟨its,F,p,hz⟩:=I.tuple hq
  obtain⟨u,hu,ru⟩:=F.get hx
  obtain⟨f0,Z,f2,f3,G,Y⟩:=hf it (by simp)
  refine wpAny_pyNext_tuple_item st (show s.heap.IsTuple a its.toArray from p) (x:=u) (by simpa using hu) fun h' C sb=>?_
  have I1:Inv X y σ H { s with heap:=h' }:=I.turned (t':=s.toks) (fun b o hb e=>(sb.2 b hb).trans e) f0 Z f3 G Y
  obtain⟨o,e,c,d⟩:=id C
  exact⟨u,rfl,ba8 (s:={ s with heap:=h' }) e c d (by decide) ⟨x,H,I1,ru,⟨rfl,fun ys hy=>by rw[I.tuple_inj hy hq];exact hx⟩,C,fun b hb=>(hf b hb).1⟩⟩
 done:=by
  intro X hP hw J hc i y s σ H E I hf st hg
  subst hP hw J
  obtain⟨xs,hq,hx⟩:=hg
  obtain⟨its,F,p,hz⟩:=I.tuple hq
  obtain⟨f0,Z,f2,f3,G,Y⟩:=hf it (by simp)
  have hl:=F.length
  exact wpAny_pyNext_tuple_end (I.ok.hd hc) st (show s.heap.IsTuple a its.toArray from p) (by simp;omega) fun h' eb=>⟨rfl,I.turned (t':=s.toks) (fun b o hb e=>eb b o hb e) f0 Z f3 G Y⟩
 self:=fun _ _ _ _ _ st h=>wpAny_pyIter_tupleiter st h
theorem aL4 {P:aI}{w:World}{K:ac}{tg:Expr}(it:Addr)(F:Int)(n:Nat):Turn P w K tg (Itr F n) [it] it (fun i h=>IsRangeIter h it (F+(i:Nat)*1) ((n:Int) - (i:Nat)) 1) where
 mem:=by simp
 obj:=fun i h st b hb=>by
  have e:b=it:=by simpa using hb
  subst e
  exact⟨_,st,fun v z=>by
   have z':Data.fields _=Data.cell v:=z
   cases z'⟩
 keep:=fun i h h' st k=>k it (by simp) _ st
 item:=by
  intro X hP hw J hc i y s σ H E I hf st hg
  subst hP hw J
  obtain⟨f0,Z,f2,f3,G,Y⟩:=hf it (by simp)
  have W:=Walks.range (prog:=X.prog) (w:=X.w) (I.ok.hd hc) it F 1 n
  refine W.item i s _ _ hg st fun v h' tk hv C kk=>?_
  obtain⟨t,rfl⟩:=hv
  have I1:Inv X y σ H { s with heap:=h',toks:=tk }:=I.turned (fun b o hb e=>kk b o (by simpa using hb) e) f0 Z f3 G Y
  refine⟨_,rfl,ba8 (s:={ s with heap:=h',toks:=tk }) (n := "range_iterator") C rfl rfl (by decide) ⟨.int (F+i),H,I1,⟨t,?_⟩,⟨rfl,rfl⟩,C,fun b hb=>(hf b hb).1⟩⟩
  rw[Int.mul_one]
 done:=by
  intro X hP hw J hc i y s σ H E I hf st hg
  subst hP hw J
  obtain⟨f0,Z,f2,f3,G,Y⟩:=hf it (by simp)
  exact wpAny_pyNext_range_end (I.ok.hd hc) st (by have:n<=i:=hg;omega) fun h' eb=>⟨rfl,I.turned (t':=s.toks) (fun b o hb e=>eb b o hb e) f0 Z f3 G Y⟩
 self:=fun _ _ _ _ _ st h=>wpAny_pyIter_rangeiter st h
section
variable {X:Cx} {tg:Expr}
def br0 (K:ac)(tl:TE):TI:=fun σ H R=>tl σ H fun x H1=>∃ a,x=.ref a/\(∃ xs,SqL K H1 a xs)/\R (Itl K a) H1
def bT2 (K:ac)(tl:TE):TI:=fun σ H R=>tl σ H fun x H1=>∃ a,x=.ref a/\(∃ xs,SqT K H1 a xs)/\R (Itt K a) H1
theorem bn1 {l:Expr}{C:TE}(hl:PE X l C):PI X tg l (br0 X.K C):=by
 intro y s σ H R I h
 refine thn (hl y s σ H _ I h) fun v s1 ⟨x,G,z,r1,F⟩=>?_
 obtain⟨a,e,⟨Y,hq⟩,q⟩:=F
 subst e
 cases r1
 obtain⟨its,J,p,hz⟩:=z.list hq
 refine dz p.isList ?_
 refine⟨s1.heap.objs.size,[s1.heap.objs.size],_,_,G,rfl,z.kept (t':=s1.toks) fun b o e=>ah _ e,aQ0 a _,⟨_,aK _ rfl,rfl,rfl⟩,fun b hb=>?_,q⟩
 have e:b=s1.heap.objs.size:=by simpa using hb
 subst e
 exact z.fpOk (am _) (z.hok.fresh (am _))
theorem bE3 {l:Expr}{C:TE}(hl:PE X l C):PI X tg l (bT2 X.K C):=by
 intro y s σ H R I h
 refine thn (hl y s σ H _ I h) fun v s1 ⟨x,G,z,r1,F⟩=>?_
 obtain⟨a,e,⟨Y,hq⟩,q⟩:=F
 subst e
 cases r1
 obtain⟨its,J,p,hz⟩:=z.tuple hq
 refine hZ (show s1.heap.IsTuple a its.toArray from p) ?_
 refine⟨s1.heap.objs.size,[s1.heap.objs.size],_,_,G,rfl,z.kept (t':=s1.toks) fun b o e=>ah _ e,aK1 a _,⟨_,aK _ rfl,rfl,rfl⟩,fun b hb=>?_,q⟩
 have e:b=s1.heap.objs.size:=by simpa using hb
 subst e
 exact z.fpOk (am _) (z.hok.fresh (am _))
theorem ba9 {z:List (Addr×Obj)}{σ:St}{H:Hp}{s:ae}{R:It->Hp->Prop}{E:Value->ae->Prop}{h y:Int}{t u v:Tok}{tk:Nat}(I:Inv X z σ H s)(Y:-(2^62)<=h)(J:h<2^62)(G:-(2^62)<=y)(F:y<2^62)
  (q:R (Itr h (y - h).toNat) H):wpAny (model X.prog X.w) X.A (iK (.ref s.heap.objs.size)) (PIE X z σ tg R) E { s with heap:=s.heap.push { cls:=.type "range",data:=.fields #[.int h t,.int y u,.int 1 v] },toks:=tk }:=by
 refine wpAny_pyIter_range (IsRange.new ..) (small_one Y J G F) ?_
 have C:Inv X z σ H { s with heap:=s.heap.push { cls:=.type "range",data:=.fields #[.int h t,.int y u,.int 1 v] },toks:=tk }:=I.kept fun b o e=>ah _ e
 refine⟨(s.heap.push { cls:=.type "range",data:=.fields #[.int h t,.int y u,.int 1 v] }).objs.size,[(s.heap.push { cls:=.type "range",data:=.fields #[.int h t,.int y u,.int 1 v] }).objs.size],_,_,H,rfl,
  C.kept (t':=tk) fun b o e=>ah _ e,aL4 _ h (y - h).toNat,?_,fun b hb=>?_,q⟩
 ·have e1:h+((0:Nat):Int)*1=h:=by simp
  have e2:(((y - h).toNat:Nat):Int) - ((0:Nat):Int)=jA h y 1:=by rw[rangeSize_one];split<;>omega
  show IsRangeIter _ _ (h+((0:Nat):Int)*1) ((((y - h).toNat:Nat):Int) - ((0:Nat):Int)) 1
  rw[e1,e2]
  exact aK _ rfl
 ·have e:b=(s.heap.push { cls:=.type "range",data:=.fields #[.int h t,.int y u,.int 1 v] }).objs.size:=by simpa using hb
  subst e
  exact C.fpOk (am _) (C.hok.fresh (am _))
def bK1 (ta:TA):TI:=fun σ H R=>ta σ H fun vs H1=>∃ j:Int,vs=[.int j]/\-(2^62)<=j/\j<2^62/\R (Itr 0 j.toNat) H1
theorem aQ6 {a:Expr}{C:TA}{p pos:Pos}(hg:Gl X "range")(F:X.mg "range"=none)(ha:PA X [a] C)(hs:br [a] X.env=[(false,eval a X.env)]:=by rfl):PI X tg (.Call (.Name "range" p) [a] [] pos) (bK1 C):=by
 intro y s σ H R I h
 refine Call_ (au7 I hg F boot_range (cO (thn (ha pos y s σ H _ I h) fun us s1 ⟨vs,J,G,r1,z⟩=>?_) hs rfl))
 obtain⟨j,e,z,q2,q⟩:=z
 subst e
 cases r1 with
 | cons r rr =>
  cases rr
  obtain⟨t,rfl⟩:=r
  exact call_range_1 (ba9 G (by omega) (by omega) z q2 (by simpa using q))
def bU6 (wi:TI)(g:TG)(tb:TS):TS:=fun D σ H=>wi σ H fun J H1=>∃ W:Nat->Nat->St->Hp->Prop,(∃ m,W 0 m σ H1)/\∀ i m σ H,W i m σ H ->
 (J.stop i H/\D.nx σ H)\/(J.go i H/\∃ N:St->Hp->Prop,(∀ σ' H',N σ' H'->∃ m',m'<m/\W (i+1) m' σ' H')/\∀ x H',J.yld i H x H'->g x σ H' fun σ2 H2=>tb { D with nx:=N,ct:=N,bk:=D.nx } σ2 H2)
noncomputable def ax1 (fp:List Addr)(h:Heap):List (Addr×Obj):=fp.filterMap fun b=>(h.get? b).map fun o=>(b,o)
theorem qq {y:List Addr}{h:Heap}{b:Addr}{o:Obj}(hb:b∈y)(e:h.get? b=some o):(b,o)∈ax1 y h:=de.mpr ⟨b,hb,by rw[e];rfl⟩
theorem aQ4 {y:List Addr}{h:Heap}{p:Addr×Obj}(z:p∈ax1 y h):p.1∈y/\h.get? p.1=some p.2:=by
 obtain⟨b,hb,e⟩:=de.mp z
 cases q:h.get? b with
 | none=>rw[q]at e;cases e
 | some o =>
  rw[q]at e
  have e':(b,o)=p:=av e
  subst e'
  exact⟨hb,q⟩
theorem Inv.pinned {h:List (Addr×Obj)}{σ:St}{H:Hp}{s:ae}{y:List Addr}(I:Inv X h σ H s)(hf:∀ b∈y,FpOk X h H b)(ho:∀ b∈y,∃ o,s.heap.get? b=some o/\∀ v,o.data≠.cell v):Inv X (h++ax1 y s.heap) σ H s :=
 I.pins_of fun p F=>(bw.mp F).elim (fun z=>I.pin p (bo _ z)) fun z=>by
  obtain⟨hb,e⟩:=aQ4 z
  obtain⟨C,G,J,_⟩:=hf p.1 hb
  obtain⟨o,e',d⟩:=ho p.1 hb
  rw[e]at e';cases e'
  exact⟨e,C,G,J,d⟩
theorem Inv.unpinned {h y:List (Addr×Obj)}{σ:St}{H:Hp}{s:ae}(I:Inv X (h++y) σ H s):Inv X h σ H s:=I.pins_of fun p z=>I.pin p (bo _ (gB _ z))
theorem bJ7 {iter:Expr}{body:List Stmt}{wi:TI}{g:TG}{tb:TS}{pos:Pos}(hp:PassesOwn (model X.prog X.w) X.A X.env X.xe)(hc:X.calm=true)(hi:PI X tg iter wi)(hg:PG X tg g)(hb:PSs X body tb)
  (hs:∀ x,cP iter X.env x=pure x:=by intro _;rfl):PS X (.For tg iter body [] pos) (bU6 wi g tb):=by
 intro y s σ H D I h
 refine wpAny_For (thn (hi y s σ H _ I h) fun v s1 h1=>thn h1 fun a5 s2 h2=>?_) hs
 obtain⟨it,fp,tn,J,H2,e,I2,T,a2,f2,W,⟨m0,w0⟩,turn⟩:=h2
 subst e
 have z:∀ {H':Hp},(∀ b∈fp,H' b=none)->∀ b∈fp,FpOk X y H' b:=fun hn b hb=>⟨hn b hb,(f2 b hb).2⟩
 refine codeAny_forLoop_any (fun n s'=>∃ i σ' H',Inv X y σ' H' s'/\tn i s'.heap/\(∀ b∈fp,H' b=none)/\W i n σ' H') ?_ m0 ⟨0,σ,H2,I2,a2,fun b hb=>(f2 b hb).1,w0⟩
 rintro n s3 ⟨i,σ3,H3,I3,a1,a0,w3⟩
 rcases turn i n σ3 H3 w3 with⟨stop,qn⟩|⟨go,N,hN,step⟩
 ·refine cw hp (thn (T.done X rfl rfl rfl hc i y s3 σ3 H3 X.xe I3 (z a0) a1 stop) fun r s4 ⟨hr,I4⟩=>?_)
  subst hr
  exact gg ⟨σ3,H3,I4,qn⟩
 ·refine cw hp (thn (T.item X rfl rfl rfl hc i y s3 σ3 H3 X.xe I3 (z a0) a1 go) fun r s4 ⟨u,hr,h4⟩=>?_)
  subst hr
  refine cw hp (thn h4 fun _ s5 ⟨x,H5,I5,r5,y5,Z,a3⟩=>?_)
  have a4:=I5.pinned (z a3) (T.obj _ _ Z)
  refine cw hp (thn (hg _ s5 σ3 H5 x u _ a4 r5 (step x H5 y5)) fun _ s6 ⟨σ6,H6,I6,q6⟩=>?_)
  refine cw hp (thn (hb _ s6 σ6 H6 _ I6 q6) fun f s7 Y=>?_)
  have F:∀ {σ7:St} {G:Hp},Inv X (y++ax1 fp s5.heap) σ7 G s7->N σ7 G->∃ m,m<n/\∃ i σ' H',Inv X y σ' H' s7/\tn i s7.heap/\(∀ b∈fp,H' b=none)/\W i m σ' H':=fun {σ7 G} C n7=>by
   obtain⟨m',hm,w7⟩:=hN σ7 G n7
   refine⟨m',hm,i+1,σ7,G,C.unpinned,T.keep _ _ _ Z fun b hb o e=>(C.pin (b,o) (bo _ (bo _ (qq hb e)))).1,fun b hb=>?_,w7⟩
   obtain⟨o,e,d⟩:=T.obj _ _ Z b hb
   exact(C.pin (b,o) (bo _ (bo _ (qq hb e)))).2.1
  cases f with
  | next=>obtain⟨σ7,G,C,n7⟩:=Y;exact F C n7
  | cont=>obtain⟨σ7,G,C,n7⟩:=Y;exact F C n7
  | brk=>obtain⟨σ7,G,C,Y⟩:=Y;exact⟨σ7,G,C.unpinned,Y⟩
  | ret v=>obtain⟨x7,σ7,G,C,r7,Y⟩:=Y;exact⟨x7,σ7,G,C.unpinned,r7,Y⟩
end
abbrev R2:=V->V->Hp->VK->Prop
def OpR (X:Cx)(f:Value->Value->Sem Value)(r:R2):Prop :=
 ∀(pins:List (Addr×Obj)) (s:ae) (σ:St) (H:Hp) (x y:V) (v u:Value) (Q:VK),Inv X pins σ H s->RelV x v->RelV y u->r x y H Q ->
  wpAny (model X.prog X.w) X.A (f v u) (EP X pins σ Q) X.xe s
def ac8 (X:Cx)(f:Value)(r:List V->Hp->VK->Prop):Prop :=
 ∀(pins:List (Addr×Obj)) (s:ae) (σ:St) (H:Hp) (xs:List V) (us:List Value) (Q:VK),Inv X pins σ H s->Vals xs us->r xs H Q ->
  wpAny (model X.prog X.w) X.A (call f us) (EP X pins σ Q) X.xe s
def tOp (r:R2)(ta tb:TE):TE:=fun σ H Q=>ta σ H fun x H1=>tb σ H1 fun y H2=>r x y H2 Q
def rI (C:Int->Int->Prop)(g:Int->Int->V):R2:=fun x y H Q=>∃ i j,x=.int i/\y=.int j/\C i j/\Q (g i j) H
def rI0 (g:Int->Int->V):R2:=fun x y H Q=>∃ i j,x=.int i/\y=.int j/\Q (g i j) H
section
variable {X:Cx} {a b c:Expr} {ta tb tc:TE} {pos:Pos}
theorem bM8 (ha:PE X a ta)(hb:PE X b tb){z:List (Addr×Obj)}{s:ae}{σ:St}{H:Hp}{R:V->V->Hp->Prop}(I:Inv X z σ H s)
  (h:ta σ H fun x F=>tb σ F fun y C=>R x y C) {Q:Value->ae->Prop} {f:Value->Value->Sem Value}
  (hf:∀ v u s2 x y C,Inv X z σ C s2->RelV x v->RelV y u->R x y C->wpAny (model X.prog X.w) X.A (f v u) Q X.xe s2) :
  wpAny (model X.prog X.w) X.A (eval a X.env) (fun v Z=>wpAny (model X.prog X.w) X.A (eval b X.env) (fun u s₂=>wpAny (model X.prog X.w) X.A (f v u) Q X.xe s₂) X.xe Z) X.xe s:=by
 refine thn (ha z s σ H _ I h) fun v s1 ⟨x,F,I1,r1,G⟩=>?_
 refine thn (hb z s1 σ F _ I1 G) fun u s2 ⟨y,C,J,Y,q2⟩=>?_
 exact hf v u s2 x y C J r1 Y q2
theorem bQ4 {op:Operator}{r:R2}(ho:OpR X (bR op) r)(ha:PE X a ta)(hb:PE X b tb):PE X (.BinOp a op b pos) (tOp r ta tb):=by
 intro z s σ H Q I h
 exact wpAny_BinOp (bM8 ha hb I h fun v u s2 x y F G J C q=>ho z s2 σ F x y v u Q G J C q)
theorem opI {f:Value->Value->Sem Value}{C:Int->Int->Prop}{g:Int->Int->Int}
  (z:∀(i j:Int) (t u:Tok) (s:ae) (Q:Value->ae->Prop) (E:Value->ae->Prop),C i j->Q (.int (g i j) s.toks) { s with toks:=s.toks+1 }->wpAny (model X.prog X.w) X.A (f (.int i t) (.int j u)) Q E s) :
  OpR X f (rI C fun i j=>.int (g i j)):=by
 intro F s σ H x y v u Q I G J h
 obtain⟨i,j,rfl,rfl,hc,q⟩:=h
 obtain⟨t,rfl⟩:=G
 obtain⟨t',rfl⟩:=J
 exact z i j t t' s _ _ hc ⟨.int (g i j),H,I.tok _,⟨_,rfl⟩,q⟩
theorem bU5 {f:Value->Value->Sem Value}{g:Int->Int->Int}
  (z:∀(i j:Int) (t u:Tok) (s:ae) (Q:Value->ae->Prop) (E:Value->ae->Prop),Q (.int (g i j) s.toks) { s with toks:=s.toks+1 }->wpAny (model X.prog X.w) X.A (f (.int i t) (.int j u)) Q E s) :
  OpR X f (rI0 fun i j=>.int (g i j)):=by
 intro C s σ H x y v u Q I F G h
 obtain⟨i,j,rfl,rfl,q⟩:=h
 obtain⟨t,rfl⟩:=F
 obtain⟨t',rfl⟩:=G
 exact z i j t t' s _ _ ⟨.int (g i j),H,I.tok _,⟨_,rfl⟩,q⟩
theorem bL8 {f:Value->Value->Sem Value}{g:Int->Int->Bool}
  (z:∀(i j:Int) (t u:Tok) (s:ae) (Q:Value->ae->Prop) (E:Value->ae->Prop),Q (.bool (g i j)) s->wpAny (model X.prog X.w) X.A (f (.int i t) (.int j u)) Q E s) :
  OpR X f (rI0 fun i j=>.bl (g i j)):=by
 intro C s σ H x y v u Q I F G h
 obtain⟨i,j,rfl,rfl,q⟩:=h
 obtain⟨t,rfl⟩:=F
 obtain⟨t',rfl⟩:=G
 exact z i j t t' s _ _ ⟨.bl (g i j),H,I,rfl,q⟩
def bU7 (i j:Int):Prop:=0<=j/\j<=1000000/\i.natAbs<2^64
def bL7 (i j:Int):Prop:=(-(2^64)<i/\i<2^64)\/(-(2^64)<j/\j<2^64)
theorem bL7.ok {i j:Int}(h:bL7 i j):IntMulOk i j:=by
 rcases h with⟨z,y⟩|⟨z,y⟩
 ·exact .of_left (intBits_le_64 z y)
 ·exact .of_right (intBits_le_64 z y)
theorem aM0 (k:Nat):(0:Int)<=2^k:=by
 rw[two_pow_cast]
 exact eG _
theorem bF5:OpR X (bR .Add) (rI0 fun i j=>.int (i+j)):=bU5 fun _ _ _ _ _ _ _ q=>add_int q
theorem bz1:OpR X (bR .Sub) (rI0 fun i j=>.int (i - j)):=bU5 fun _ _ _ _ _ _ _ q=>sub_int q
theorem bw8:OpR X (bR .Mod) (rI (fun _ j=>0<j) fun i j=>.int (i % j)):=opI fun i j _ _ _ _ _ hc q=>by
 have h:(0:Int)<j:=hc
 exact mod_int' (by omega) (by rw[Int.fmod_eq_emod_of_nonneg i (by omega)];exact q)
theorem bE5:OpR X (bR .Pow) (rI bU7 fun i j=>.int (i^j.toNat)):=opI fun _ _ _ _ _ _ _ hc q=>pow_int_small hc.1 hc.2.1 hc.2.2 q
theorem bF3:OpR X (bR .LShift) (rI bU7 fun i j=>.int (i*2^j.toNat)):=opI fun _ _ _ _ _ _ _ hc q=>lshift_int_small hc.1 hc.2.1 hc.2.2 q
theorem bC6:OpR X (bR .RShift) (rI (fun _ j=>0<=j) fun i j=>.int (i / 2^j.toNat)):=opI fun i j _ _ _ _ _ hc q =>
 rshift_int hc (by rw[eI i (aM0 _)];exact q)
end
section
variable {X:Cx} {a b c:Expr} {ta tb tc:TE} {pos:Pos}
theorem bO1:OpR X (cb .Lt) (rI0 fun i j=>.bl (decide (i<j))):=bL8 fun _ _ _ _ _ _ _ q=>lt_int q
theorem bR7:OpR X (cb .LtE) (rI0 fun i j=>.bl (decide (i<=j))):=bL8 fun _ _ _ _ _ _ _ q=>le_int q
theorem bM5:OpR X (cb .Gt) (rI0 fun i j=>.bl (decide (j<i))):=bL8 fun _ _ _ _ _ _ _ q=>gt_int q
theorem bP2:OpR X (cb .GtE) (rI0 fun i j=>.bl (decide (j<=i))):=bL8 fun _ _ _ _ _ _ _ q=>ge_int q
theorem br6 {op:CmpOp}{r:R2}(ho:OpR X (cb op) r)(ha:PE X a ta)(hb:PE X b tb)(J:fj op b=false):PE X (.Compare a [op] [b] pos) (tOp r ta tb):=by
 intro z s σ H Q I h
 exact wpAny_Compare1 (bM8 ha hb I h fun v u s2 x y F G Y C q=>ho z s2 σ F x y v u Q G Y C q) J
def bt9 (t:TE):TT:=fun σ H Q=>t σ H fun x H'=>∃ k,x=.bl k/\Q k H'
theorem bs9 {op:CmpOp}{r:R2}(ho:OpR X (cb op) r)(ha:PE X a ta)(hb:PE X b tb)(J:fj op b=false):PT X (.Compare a [op] [b] pos) (bt9 (tOp r ta tb)):=by
 intro C s σ H Q I h
 refine wpAny_isTrue_Compare1 (thn (ha C s σ H _ I h) fun v s1 ⟨x,H1,I1,r1,F⟩=>thn (hb C s1 σ H1 _ I1 F) fun u s2 ⟨y,H2,G,Y,q2⟩ =>
  thn (ho C s2 σ H2 x y v u _ G r1 Y q2) fun c s3 ⟨z,Z,I3,r3,k,e,q3⟩=>?_) J
 subst e
 cases r3
 exact bG ⟨Z,I3,q3⟩
def aV2 (r r':R2)(ta tb tc:TE):TE:=fun σ H Q=>ta σ H fun x H1=>tb σ H1 fun y H2=>r x y H2 fun z H3=>∃ k,z=.bl k /\
 (if k=true then tc σ H3 fun w' H4=>r' y w' H4 Q else Q (.bl false) H3)
theorem aY3 {op F:CmpOp}{r r':R2}(ho:OpR X (cb op) r)(G:OpR X (cb F) r')(ha:PE X a ta)(hb:PE X b tb)(hc:PE X c tc)
  (hm:jB [op,F] [b,c]=false:=by with_unfolding_all rfl):PE X (.Compare a [op,F] [b,c] pos) (aV2 r r' ta tb tc):=by
 intro C s σ H Q I h
 refine Compare_chain (thn (ha C s σ H _ I h) fun v s1 ⟨x,H1,I1,r1,q1⟩=>chain_link (thn (hb C s1 σ H1 _ I1 q1) fun u s2 ⟨y,H2,I2,J,q2⟩ =>
  thn (ho C s2 σ H2 x y v u _ I2 r1 J q2) fun d s3 ⟨z,Y,Z,r3,k,e,q3⟩=>?_)) hm
 subst e
 cases r3
 refine bG ?_
 cases k with
 | false=>exact ite_ff ⟨.bl false,Y,Z,rfl,q3⟩
 | true=>exact ite_tt (chain_last (thn (hc C s3 σ Y _ Z q3) fun w' s4 ⟨z',H4,I4,r4,q4⟩=>G C s4 σ H4 y z' u w' Q I4 J r4 q4))
theorem aZ2 {op F:CmpOp}{r r':R2}(ho:OpR X (cb op) r)(G:OpR X (cb F) r')(ha:PE X a ta)(hb:PE X b tb)(hc:PE X c tc)
  (hm:jB [op,F] [b,c]=false:=by with_unfolding_all rfl):PT X (.Compare a [op,F] [b,c] pos) (bt9 (aV2 r r' ta tb tc)):=by
 intro C s σ H Q I h
 refine isTrue_chain (thn (ha C s σ H _ I h) fun v s1 ⟨x,H1,I1,r1,q1⟩=>test_link (thn (hb C s1 σ H1 _ I1 q1) fun u s2 ⟨y,H2,I2,J,q2⟩ =>
  thn (ho C s2 σ H2 x y v u _ I2 r1 J q2) fun d s3 ⟨z,Y,Z,r3,k,e,q3⟩=>?_)) hm
 subst e
 cases r3
 refine bG ?_
 cases k with
 | false =>
  obtain⟨k',e',q'⟩:=q3
  cases e'
  exact ite_ff ⟨Y,Z,q'⟩
 | true =>
  refine ite_tt (test_last (thn (hc C s3 σ Y _ Z q3) fun w' s4 ⟨z',H4,I4,r4,q4⟩=>thn (G C s4 σ H4 y z' u w' _ I4 J r4 q4) fun d' s5 ⟨z2,H5,I5,r5,k2,e2,q5⟩=>?_))
  subst e2
  cases r5
  exact bG ⟨H5,I5,q5⟩
theorem al5:(aC:Nat)<2^63:=by rw[eV];decide
theorem aL8:OpR X (bR .Add) (fun x y H Q=>∃ i j,x=.str i/\y=.str j/\i.length+j.length<=aC/\Q (.str (i++j)) H):=by
 intro z s σ H x y v u Q I F C h
 obtain⟨i,j,rfl,rfl,hz,q⟩:=h
 obtain⟨t,rfl⟩:=F
 obtain⟨t',rfl⟩:=C
 exact add_str (fun t' tk=>⟨.str (i++j),H,I.tok _,⟨_,rfl⟩,q⟩) hz
theorem af6 {x:V}{us:List Value}(r:Vals [x] us):∃ u,us=[u]/\RelV x u:=by
 cases r with
 | cons r1 r2=>cases r2;exact⟨_,rfl,r1⟩
theorem bl1 {x y:V}{us:List Value}(r:Vals [x,y] us):∃ u w',us=[u,w']/\RelV x u/\RelV y w':=by
 cases r with
 | cons r1 r2 =>
  cases r2 with
  | cons r3 r4=>cases r4;exact⟨_,_,rfl,r1,r3⟩
theorem be7:ac8 X (.builtin "abs") (fun z H Q=>∃ i,z=[.int i]/\Q (.int (if i<0 then -i else i)) H):=by
 intro y s σ H z us Q I r h
 obtain⟨i,rfl,q⟩:=h
 obtain⟨u,rfl,t,rfl⟩:=af6 r
 exact call_abs_int fun u tk=>⟨.int (if i<0 then -i else i),H,I.tok _,⟨_,rfl⟩,q⟩
theorem aU1 (hc:X.calm=true):ac8 X (.builtin "max") (fun z H Q=>∃ i j,z=[.int i,.int j]/\Q (.int (if j > i then j else i)) H):=by
 intro y s σ H z us Q I r h
 obtain⟨i,j,rfl,q⟩:=h
 obtain⟨u,w',rfl,⟨t,rfl⟩,⟨t',rfl⟩⟩:=bl1 r
 refine max_two_ints (I.ok.hd hc) fun h' tk k=>⟨_,H,I.kept k,?_,q⟩
 by_cases hj:j > i
 ·rw[if_pos hj,if_pos hj];exact⟨_,rfl⟩
 ·rw[if_neg hj,if_neg hj];exact⟨_,rfl⟩
theorem aS5 (hc:X.calm=true):ac8 X (.builtin "min") (fun z H Q=>∃ i j,z=[.int i,.int j]/\Q (.int (if j<i then j else i)) H):=by
 intro y s σ H z us Q I r h
 obtain⟨i,j,rfl,q⟩:=h
 obtain⟨u,w',rfl,⟨t,rfl⟩,⟨t',rfl⟩⟩:=bl1 r
 refine min_two_ints (I.ok.hd hc) fun h' tk k=>⟨_,H,I.kept k,?_,q⟩
 by_cases hj:j<i
 ·rw[if_pos hj,if_pos hj];exact⟨_,rfl⟩
 ·rw[if_neg hj,if_neg hj];exact⟨_,rfl⟩
theorem aV0:ac8 X (.type "int") (fun y H Q=>(∃ i,y=[.int i]/\Q (.int i) H)\/∃ k,y=[.bl k]/\Q (.int (if k then 1 else 0)) H):=by
 intro z s σ H y us Q I r h
 rcases h with⟨i,rfl,q⟩|⟨k,rfl,q⟩
 ·obtain⟨u,rfl,t,rfl⟩:=af6 r
  exact call_int_int ⟨.int i,H,I,⟨_,rfl⟩,q⟩
 ·obtain⟨u,rfl,r1⟩:=af6 r
  cases r1
  exact call_int_bool ⟨.int (if k then 1 else 0),H,I.tok _,⟨_,rfl⟩,q⟩
end
structure ObjM (h:Heap)(x dx C:Addr)(mA:Str->Option Value):Prop where
 obj:h.get? x=some (ga C dx)
 ns:h.Ns1 dx mA
 ne:dx≠x
theorem aO9 {h:Heap}{G:Addr}{F:Str->Option Value}(n:h.Ns1 G F):∃ od,h.get? G=some od/\∀ name,gD name od=some (F name):=by
 obtain⟨o,es,Z,ho,hd,hk,_,J⟩:=n
 refine⟨o,ho,fun name=>?_⟩
 have e:=J name
 unfold nsFind findBy at e
 rw[<-Array.find?_toList]at e
 unfold gD
 rw[hd]
 dsimp only
 split
 ·rename_i y q
  rw[q]at e
  exact congrArg some e
 ·rename_i q
  rw[q]at e
  have a:es.toList.any (·.refKey)=false:=by
   rw[List.any_eq_false]
   intro y hy
   obtain⟨z,t,C⟩:=hk y (Array.mem_toList_iff.mp hy)
   simp[DictEntry.refKey,C]
  have Y:¬ es.toList.any (·.refKey)=true:=by rw[a];exact aO
  rw[if_neg Y]
  exact congrArg some e
theorem ObjM.look {h:Heap}{x z C:Addr}{y:Str->Option Value}(I:ObjM h x z C y):∃ od,PySem.W.InstAt h x (ga C z) C (some od)/\∀ name,gD name od=some (y name) :=
 let⟨od,ho,hl⟩:=aO9 I.ns
 ⟨od,⟨I.obj,rfl,rfl,ho⟩,hl⟩
section
variable {prog:aI} {w:World} {A:aQ} {E:Value->ae->Prop} {s:ae} {K:ac} {x dx C f:Addr} {mA:Str->Option Value} {name:Str} {v:Value}
end
theorem aK4.some_of {v:V}{o:Option Value}(r:aK4 (some v) o):∃ u,o=some u/\RelV v u:=by
 cases o with
 | none=>exact(show False from r).elim
 | some u=>exact⟨u,rfl,r⟩
section
variable {P:aI} {w:World} {H H':Hp} {h h':Heap} {a C dx:Addr} {fs fs':List (Str×V)}
theorem bn8 (hok:HOk P w H h)(e:H a=some (.ins C dx fs)):∃ y,ObjM h a dx C y/\(∀ f,aK4 (fs.lookup f) (y f))/\jF y (fs.map (·.1))/\fs.length<=1000/\H dx=some (.own a):=by
 obtain⟨d,z,ne,ob,y,n,r,q⟩:=(show ac7 P w H h a (.ins C dx fs)from hok a _ e)
 exact⟨y,⟨ob,n,ne⟩,r,q,z,d⟩
end
structure Cls (K:ac)(C:Addr):Prop where
 pg:iL K C Str.empty=true
 hd:PySem.W.hasDictIn K C=true
 po:PySem.W.plainOver K C=true
 sa:cR K (.ref C) "__setattr__"=some (some (.builtin "object.__setattr__"))
theorem Cls.get {K:ac}{C:Addr}(c:Cls K C)(f:Str):iL K C f=true:=c.pg
section
variable {X:Cx} {pins:List (Addr×Obj)} {σ:St} {H:Hp} {s:ae} {a C dx:Addr} {fs:List (Str×V)} {f:Str} {v:V} {A:aQ} {E:Value->ae->Prop}
end
section
variable {X:Cx} {o e value:Expr} {f:Str} {pos pos' tpos:Pos} {ta tv:TE}
end
section
variable {X:Cx} {pins:List (Addr×Obj)} {σ:St} {H:Hp} {s:ae} {A:aQ} {E:Value->ae->Prop} {Q:Value->ae->Prop} {c:Value} {b:Bool}
inductive TyOf (K:ac)(H:Hp):V->Value->Prop where
 | non:TyOf K H .non (.type "NoneType")
 | bl (x:Bool):TyOf K H (.bl x) (.type "bool")
 | int (i:Int):TyOf K H (.int i) (.type "int")
 | str (x:Str):TyOf K H (.str x) (.type "str")
 | flt (x:UInt64):TyOf K H (.flt x) (.type "float")
 | lst {a:Addr} {xs:List V} (e:H a=some (.lst xs)):TyOf K H (.ref a) (.type "list")
 | frz {a:Addr} {o:Obj} {xs:List V} (e:H a=some (.frz o (.lst xs))):TyOf K H (.ref a) (.type "list")
 | tup {a:Addr} {xs:List V} (e:H a=some (.tup xs)):TyOf K H (.ref a) (.type "tuple")
 | dK {a:Addr} {kvs:List (Key×V)} (e:H a=some (.dK kvs)):TyOf K H (.ref a) (.type "dict")
 | dT {a:Addr} {kvs:List (List Key×V)} (e:H a=some (.dT kvs)):TyOf K H (.ref a) (.type "dict")
 | ins {a C dx:Addr} {fs:List (Str×V)} (e:H a=some (.ins C dx fs)) (cl:Cls K C) (ha:cR K (.ref C) "__class__"=some (some (.builtin "object.__class__")))
   (hn:io K (.builtin "object.__class__") "__get__"=some (some (.builtin "getset_descriptor.__get__"))) (htk:i8 K (.builtin "object.__class__")=some true)
   (hm:jy K C (.type "object")=some true):TyOf K H (.ref a) (.ref C)
theorem qh {x:V}{u t:Value}(I:Inv X pins σ H s)(F:RelV x u)(ty:TyOf X.K H x t)(e:bW X.K t c=some b)(h:∀ tk,Q (.bool b) { s with toks:=tk }) :
  wpAny (model X.prog X.w) A (call (.builtin "isinstance") [u,c]) Q E s:=by
 cases ty with
 | non=>cases(show u=Value.none from F);exact bz PySem.W.kitx_none I.kIn True.intro e (fun z=>nomatch z) h
 | bl y=>cases(show u=Value.bool y from F);exact bz PySem.W.kitx_bool I.kIn True.intro e (fun z=>nomatch z) h
 | int i=>obtain⟨t,q⟩:=(show ∃ t,u=Value.int i t from F);cases q;exact bz PySem.W.kitx_int I.kIn True.intro e (fun z=>nomatch z) h
 | str y=>obtain⟨t,q⟩:=(show ∃ t,u=Value.str y t from F);cases q;exact bz PySem.W.kitx_str I.kIn True.intro e (fun z=>nomatch z) h
 | flt y=>obtain⟨t,q⟩:=(show ∃ t,u=Value.float y t from F);cases q;exact bz PySem.W.kitx_float I.kIn True.intro e (fun z=>nomatch z) h
 | @lst a Y ea =>
  cases(show u=Value.ref a from F)
  obtain⟨_,_,n,_,G⟩:=(show ac7 X.prog X.w H s.heap a (.lst Y)from I.hok a _ ea)
  exact bz ip I.kIn ⟨_,G,rfl⟩ e (fun z=>nomatch z) h
 | @frz a ob Y ea =>
  cases(show u=Value.ref a from F)
  obtain⟨_,_,_,n,_,G⟩:=(show ac7 X.prog X.w H s.heap a (.frz ob (.lst Y))from I.hok a _ ea)
  exact bz ip I.kIn ⟨_,G,rfl⟩ e (fun z=>nomatch z) h
 | @tup a Y ea =>
  cases(show u=Value.ref a from F)
  obtain⟨_,_,_,p⟩:=(show ac7 X.prog X.w H s.heap a (.tup Y)from I.hok a _ ea)
  obtain⟨o,G,Z,_⟩:=p
  exact bz h9 I.kIn ⟨o,G,Z⟩ e (fun z=>nomatch z) h
 | @dK a kvs ea =>
  cases(show u=Value.ref a from F)
  obtain⟨_,_,vs,_,p⟩:=(show ac7 X.prog X.w H s.heap a (.dK kvs)from I.hok a _ ea)
  obtain⟨o,es,ep,G,Z,_⟩:=p
  exact bz iq I.kIn ⟨o,G,Z.1⟩ e (fun z=>nomatch z) h
 | @dT a kvs ea =>
  cases(show u=Value.ref a from F)
  obtain⟨_,_,Y,_,o,es,ep,G,Z,_⟩:=(show ac7 X.prog X.w H s.heap a (.dT kvs)from I.hok a _ ea)
  exact bz iq I.kIn ⟨o,G,Z.1⟩ e (fun z=>nomatch z) h
 | @ins a C dx fs ea cl ha hn htk hm =>
  cases(show u=Value.ref a from F)
  obtain⟨mA,O,_⟩:=bn8 I.hok ea
  obtain⟨od,J,_⟩:=O.look
  exact bz (PySem.W.kitx_own (cl.get _) cl.hd ha hn htk hm) I.kIn J e (fun z=>nomatch z) h
end
structure Room (k:Nat)(A:aQ):Prop where
 hd:A.handled=none
 dp:A.depth+3*k+5<recursionLimit
 un:A.units+16*k+200<cLine
theorem Room.mono {j k:Nat}{A:aQ}(r:Room k A)(h:j<=k):Room j A:=⟨r.hd,by have:=r.dp;omega,by have:=r.un;omega⟩
theorem Room.deeper {k:Nat}{A:aQ}(r:Room (k+1) A)(env:Env):Room k (A.deeper env) :=
 ⟨r.hd,by have:=r.dp;show A.depth+1+3*k+5<_;omega,by have:=r.un;show A.units+3+16*k+200<_;omega⟩
theorem Room.in1 {k:Nat}{A:aQ}(r:Room (k+1) A):Room k A.in1 :=
 ⟨r.hd,by have:=r.dp;show A.depth+3*k+5<_;omega,by have:=r.un;show A.units+1+16*k+200<_;omega⟩
theorem Room.depth {k:Nat}{A:aQ}(r:Room k A):A.depth<recursionLimit:=by have:=r.dp;omega
theorem Room.units {k:Nat}{A:aQ}(r:Room k A):A.units+64<cLine:=by have:=r.un;omega
theorem Room.units0 {k:Nat}{A:aQ}(r:Room k A):A.units<cLine:=by have:=r.un;omega
def bg8:TA:=fun _ H Q=>Q [] H
def au2 (ta:TE)(tr:TA):TA:=fun σ H Q=>ta σ H fun x H1=>tr σ H1 fun xs H2=>Q (x::xs) H2
section
variable {X:Cx} {e:Expr} {es:List Expr} {te:TE} {t:TA} {pos:Pos}
theorem ad9:PA X [] bg8:=fun _ _ _ _ H Q I h=>Calls.spliced_nil ⟨[],H,I,.nil,h⟩
theorem zH (ha:PE X e te)(hr:PA X es t)(hs:br (e::es) X.env=(false,eval e X.env)::br es X.env:=by rfl):PA X (e::es) (au2 te t):=by
 intro pos y s σ H Q I h
 rw[hs]
 show wpAny _ _ (spliced ((false,eval e X.env)::d5 pos (br es X.env))) _ _ s
 refine Calls.spliced_cons (thn (ha y s σ H _ I h) fun u s1 ⟨x,Z,G,r1,z⟩=>?_)
 exact thn (hr pos y s1 σ Z _ G z) fun us s2 ⟨Y,F,C,J,q2⟩=>⟨x::Y,F,C,.cons r1 J,q2⟩
def bV3 (t:TA):TE:=fun σ H Q=>t σ H fun xs H1=>xs.length<=aC/\∀ p,H1 p=none->Q (.ref p) (upd H1 p (.tup xs))
def bW9 (t:TA):TE:=fun σ H Q=>t σ H fun xs H1=>xs.length<=aC/\∀ p,H1 p=none->Q (.ref p) (upd H1 p (.lst xs))
theorem bG1 {x1}(h:PA X es t):PE X (.Tuple es x1 pos) (bV3 t):=by
 intro y s σ H Q I hq
 refine wpAny_Tuple_spliced (thn (h pos y s σ H _ I hq) fun us s1 ⟨G,F,C,r,z,q⟩=>⟨by rw[<-r.length];exact z,?_⟩)
 have hf:F s1.heap.objs.size=none:=C.hok.fresh (am _)
 refine⟨.ref s1.heap.objs.size,upd F s1.heap.objs.size (.tup G),C.laid (t':=s1.toks) (fun b u e=>ah _ e) (am _) ?_,rfl,q _ hf⟩
 exact⟨z,us,r,⟨_,aK _ rfl,rfl,_,rfl⟩⟩
theorem bj7 (h:PA X es t):PE X (.List es pos) (bW9 t):=by
 intro y s σ H Q I hq
 refine wpAny_List_spliced (thn (h pos y s σ H _ I hq) fun us s1 ⟨G,F,C,r,z,q⟩=>⟨by rw[<-r.length];exact z,?_⟩)
 have hf:F s1.heap.objs.size=none:=C.hok.fresh (am _)
 refine⟨.ref s1.heap.objs.size,upd F s1.heap.objs.size (.lst G),C.laid (t':=s1.toks) (fun b u e=>ah _ e) (am _) ?_,rfl,q _ hf⟩
 exact⟨z,us,0,r,aK _ rfl⟩
end
abbrev Sp:=List V->Hp->VK->XK->Prop
abbrev CXT:=List Env->Hp->ae->XK->Value->ae->Prop
structure Env0 (P:aI)(w:World)(K:ac)(mg:Str->Option Value)(base:Heap)(A:aQ)(outer:List Env)(s:ae)(H:Hp):Prop where
 frames:A.frames=some outer
 mod:Mod K mg base
 bs:∀ b o,base.get? b=some o->s.heap.get? b=some o/\H b=none
 bsz:base.objs.size<=s.heap.objs.size
 funs:s.heap.FunFrames base outer
 frf:∀ b∈frs outer,H b=none
 hok:HOk P w H s.heap
 bare:eU s.gens
def CE (outer:List Env)(P:aI)(w:World)(H:Hp)(s:ae)(Q:VK)(u:Value)(s':ae):Prop :=
 ∃ v H',s'.os=s.os/\eU s'.gens/\Un (frs outer) [] H H' s.heap s'.heap/\HOk P w H' s'.heap/\RelV v u/\Q v H'
def CR (CX:CXT)(outer:List Env)(P:aI)(w:World)(H:Hp)(s:ae)(Q:VK)(E:XK)(r:jn)(s':ae):Prop :=
 match r with
 | .ok (.ret u)=>CE outer P w H s Q u s'
 | .ok _=>False
 | .error e=>CX outer H s E e s'
structure FnOk (P:aI)(w:World)(K:ac)(mg:Str->Option Value)(base:Heap)(CX:CXT)(k:Nat)(f:Addr)(fd:bI)(ps:List Str)(sp:Sp):Prop where
 len:∀ vs H Q E,sp vs H Q E->vs.length=ps.length
 run:∀(A:aQ) (outer:List Env) (s:ae) (H:Hp) (args:Args) (us:List Value) (vs:List V) (Q:VK) (E:XK),Room k A->Env0 P w K mg base A outer s H->jg s fd args (ps.zip us)->Vals vs us->sp vs H Q E ->
  gP (model P w) A (.call (.ref f) args) (CR CX outer P w H s Q E) s
theorem FnOk.imp {P:aI}{w:World}{K:ac}{C:Str->Option Value}{base:Heap}{G:CXT}{k:Nat}{f:Addr}{J:bI}{ps:List Str}{sp z:Sp}(F:FnOk P w K C base G k f J ps sp)
  (h:∀ vs H Q E,z vs H Q E->sp vs H Q E):FnOk P w K C base G k f J ps z :=
 ⟨fun vs H Q E q=>F.len vs H Q E (h _ _ _ _ q),fun A y s H args us vs Q E hr he hb hv hs=>F.run A y s H args us vs Q E hr he hb hv (h _ _ _ _ hs)⟩
section
variable {X:Cx} {pins:List (Addr×Obj)} {σ:St} {H:Hp} {s s':ae}
theorem Inv.env0 (I:Inv X pins σ H s):Env0 X.prog X.w X.K X.mg X.base X.A X.stack s H :=
 ⟨I.ok.frames,I.ok.mod,I.bs,aj I.ok.bsz I.sz,I.stack,I.stkFree,I.hok,I.bare⟩
theorem Inv.after {Q:VK}{u:Value}(I:Inv X pins σ H s)(h:CE X.stack X.prog X.w H s Q u s'):EP X pins σ Q u s':=by
 obtain⟨v,H',os,bare,un,hok,r,q⟩:=h
 obtain⟨C,g,d,t,y⟩:=s'
 obtain rfl:y=s.os:=os
 exact⟨v,H',I.call (h':=C) (g':=g) (d':=d) (t':=t) (ch:=[]) un hok bare (fun b z=>absurd z (by simp)),r,q⟩
end
def aK2 (sp:Sp)(dvs:List V)(E:XK)(t:TA):TE:=fun σ H Q=>t σ H fun vs H1=>sp (vs++dvs) H1 Q E
def Binds (K:ac)(fd:bI)(ps:List Str)(ds:List Value):Prop :=
 ∀(s:ae) (us:List Value),K.In s.heap->(us++ds).length=ps.length->jg s fd ⟨us,[]⟩ (ps.zip (us++ds))
theorem Binds.all {K:ac}{y:bI}{ps:List Str}(h:∀ us:List Value,us.length=ps.length->dA y ⟨us,[]⟩=pure (ps.zip us)):Binds K y ps []:=fun s us _ hl=>by
 rw[aW]at hl ⊢
 exact .of_eq (h us hl)
def aJ4 (CX:CXT)(X:Cx)(E:XK):Prop:=∀(pins:List (Addr×Obj)) (σ:St) (H:Hp) (s:ae) (e:Value) (s':ae),Inv X pins σ H s->CX X.stack H s E e s'->X.xe e s'
section
variable {X:Cx} {CX:CXT} {k:Nat} {f C:Addr} {fd:bI} {ps:List Str} {sp:Sp} {dvs:List V} {ds:List Value} {E:XK} {x m:Str} {p pos apos:Pos} {e o:Expr} {es:List Expr} {ta:TE} {t:TA}
theorem bh6 {y:List (Addr×Obj)}{σ:St}{H:Hp}{s:ae}{Q:VK}{us:List Value}{vs:List V}(F:FnOk X.prog X.w X.K X.mg X.base CX k f fd ps sp)(hr:Room k X.A)(hb:Binds X.K fd ps ds)(hd:Vals dvs ds)(hx:aJ4 CX X E)
  (I:Inv X y σ H s) (r:Vals vs us) (h:sp (vs++dvs) H Q E):wpAny (model X.prog X.w) X.A (call (.ref f) us) (EP X y σ Q) X.xe s:=by
 have z:Vals (vs++dvs) (us++ds):=r.append hd
 have hl:(us++ds).length=ps.length:=by rw[<-z.length];exact F.len _ _ _ _ h
 refine wpAny_call (ir (F.run X.A X.stack s H ⟨us,[]⟩ (us++ds) (vs++dvs) Q E hr I.env0 (hb s us I.kIn hl) z h) fun r s' hq=>?_)
 cases r with
 | error e=>exact hx y σ H s e s' I hq
 | ok fl =>
  cases fl with
  | ret u=>exact I.after hq
  | next=>exact bZ hq
  | brk=>exact bZ hq
  | cont=>exact bZ hq
theorem bo8 (F:FnOk X.prog X.w X.K X.mg X.base CX k f fd ps sp)(hr:Room k X.A)(hg:Gl X x)(J:X.mg x=some (.ref f))(hk:cg X.K (.ref f)=true)(hb:Binds X.K fd ps ds)(hd:Vals dvs ds)(hx:aJ4 CX X E)
  (ha:PA X (e::es) t) (z:(x==("__debug__":Str))=false:=by decide) (he:br (e::es) X.env=(false,eval e X.env)::br es X.env:=by rfl) (C:(d5 pos (br es X.env)).any (·.1)=false:=by rfl) :
  PE X (.Call (.Name x p) (e::es) [] pos) (aK2 sp dvs E t):=by
 intro y s σ H Q I h
 refine dg (aA2 I hg J ?_ z)
 refine PySem.W.callWith_K (h₀:=X.base) I.ok.mod.kin hk (thn (ha pos y s σ H _ I h) fun us s1 ⟨vs,Y,G,r,q⟩=>⟨G.kIn,?_⟩) he C
 exact bh6 F hr hb hd hx G r q
theorem bc4 (F:FnOk X.prog X.w X.K X.mg X.base CX k f fd ps sp)(hr:Room k X.A)(hg:Gl X x)(C:X.mg x=some (.ref f))(hk:cg X.K (.ref f)=true)(hb:Binds X.K fd ps ds)(hd:Vals dvs ds)(hx:aJ4 CX X E)
  (y:(x==("__debug__":Str))=false:=by decide):PE X (.Call (.Name x p) [] [] pos) (aK2 sp dvs E bg8):=by
 intro z s σ H Q I h
 refine dg (aA2 I hg C ?_ y)
 exact PySem.W.callWith_K0 I.kIn hk (bh6 (us:=[]) F hr hb hd hx I .nil h)
structure Mk (K:ac)(C f:Addr):Prop where
 makes:PySem.W.makesIn K C=true
 init:cR K (.ref C) "__init__"=some (some (.ref f))
 fn:PySem.W.isFn K (.ref f)=true
 kp:cg K (.ref C)=true
end
section
variable {X:Cx} {CX:CXT} {k:Nat} {f C:Addr} {fd:bI} {ps ks:List Str} {sp:Sp} {E:XK} {x m:Str} {p pos apos kpos:Pos} {e o:Expr} {es:List Expr} {kws:List jh} {te ta:TE} {t tk:TA} {nm:Option Str}
variable {g:List Value->List Value->List Value} {gV:List V->List V->List V}
end
structure FnScope (N P:List Str)(sc:Scope):Prop where
 kind:sc.kind=.function
 co:sc.isCoroutine=false
 gen:sc.isGenerator=false
 nd:N.Nodup
 pre:N.take P.length=P
 par:∀ x∈P,sc.names.lookup x=some .local\/sc.names.lookup x=some .cell
 nofree:∀ y∈sc.names,y.2≠.free
theorem ay3 {dM:Str->Option bX}{x:Str}:∀ {binds:List (Str×Value)} {m:Str->Option Value},(∀ v,(x,v) ∉ binds)->bindL dM binds m x=m x
 | [],_,_=>rfl
 | (n,v)::r,m,h=>by
  unfold bindL
  rw[ay3 fun w hw=>h w (ao _ hw)]
  split
  ·have:x≠n:=by rintro rfl;exact h v au
   simp[this]
  ·rfl
theorem au6 {dM:Str->Option bX}{x:Str}:∀ {binds:List (Str×Value)} {m:Str->Option Value},(∀ v,(x,v) ∉ binds)->bindC dM binds m x=m x
 | [],_,_=>rfl
 | (n,v)::r,m,h=>by
  unfold bindC
  rw[au6 fun w hw=>h w (ao _ hw)]
  split
  ·rfl
  ·have:x≠n:=by rintro rfl;exact h v au
   simp[this]
theorem am2 {dM:Str->Option bX}{x:Str}{v:Value}:∀ {P:List Str} {vs:List Value} {i:Nat} {m:Str->Option Value},P.Nodup->P[i]?=some x->vs[i]?=some v->dM x=some .local ->
  bindL dM (P.zip vs) m x=some v
 | [],_,_,_,_,h,_,_=>by simp at h
 | _::_,[],_,_,_,_,h,_=>by simp at h
 | p::P,w::vs,0,m,nd,h1,h2,hk=>by
  simp at h1 h2;subst h1;subst h2
  show bindL dM ((p,w)::P.zip vs) m p=_
  unfold bindL
  rw[ay3 fun v hv=>(d7.mp nd).1 (c9 hv).1,if_pos hk]
  simp
 | p::P,w::vs,i+1,m,nd,h1,h2,hk=>by
  show bindL dM ((p,w)::P.zip vs) m x=_
  unfold bindL
  exact am2 (i:=i) (d7.mp nd).2 (by simpa using h1) (by simpa using h2) hk
theorem al7 {dM:Str->Option bX}{x:Str}{v:Value}:∀ {P:List Str} {vs:List Value} {i:Nat} {m:Str->Option Value},P.Nodup->P[i]?=some x->vs[i]?=some v->dM x≠some .local ->
  bindC dM (P.zip vs) m x=some v
 | [],_,_,_,_,h,_,_=>by simp at h
 | _::_,[],_,_,_,_,h,_=>by simp at h
 | p::P,w::vs,0,m,nd,h1,h2,hk=>by
  simp at h1 h2;subst h1;subst h2
  show bindC dM ((p,w)::P.zip vs) m p=_
  unfold bindC
  rw[au6 fun v hv=>(d7.mp nd).1 (c9 hv).1,if_neg hk]
  simp
 | p::P,w::vs,i+1,m,nd,h1,h2,hk=>by
  show bindC dM ((p,w)::P.zip vs) m x=_
  unfold bindC
  exact al7 (i:=i) (d7.mp nd).2 (by simpa using h1) (by simpa using h2) hk
noncomputable def ag8 (N:List Str)(vs:List V):St:=vs.map some++aA (N.length - vs.length) none
noncomputable def aY8 (CX:CXT)(P:aI)(w:World)(K:ac)(mg:Str->Option Value)(base:Heap)(N:List Str)(qual:Str)(scope:Scope)(f:Addr)(cd:Value)(A:aQ)(outer:List Env)(s:ae)(H:Hp)(E:XK):Cx where
 prog:=P
 w:=w
 K:=K
 mg:=mg
 base:=base
 A:=A.deeper (eJ qual scope s.heap.objs.size f cd)
 N:=N
 s₀:=s
 H₀:=H
 env:=eJ qual scope s.heap.objs.size f cd
 outer:=outer
 stack:=eJ qual scope s.heap.objs.size f cd::outer
 ex:=[]
 calm:=true
 fn:=fun _=>true
 pn:=[]
 xe:=fun e s'=>wpAny (model P w) (A.deeper (eJ qual scope s.heap.objs.size f cd)) (leaving (eJ qual scope s.heap.objs.size f cd) e) (fun _ s''=>CX outer H s E e s'') (fun e' s''=>CX outer H s E e' s'') s'
theorem zI {sc:Scope}{n:Nat}{x:Str}(h:sc.names.lookup x=some .cell):∃ c,(aJ n sc.names []).lookup x=some c:=by
 have q:=fK sc.names n [] (.inl h)
 exact fm.mp q
theorem aS7 {CX:CXT}{P:aI}{w:World}{K:ac}{mg:Str->Option Value}{base:Heap}{N ps:List Str}{qual:Str}{scope:Scope}{f:Addr}{cd:Value}{A:aQ}{C:List Env}{s s1:ae}{H:Hp}{E:XK}{us:List Value}{vs:List V}
  (S:FnScope N ps scope) (hd:A.handled=none) (G:Env0 P w K mg base A C s H) (hl:vs.length=ps.length) (r:Vals vs us)
  (x:eW s s.heap.objs.size (bindL (eJ qual scope s.heap.objs.size f cd).kindOf (ps.zip us) fun _=>none) (aJ (s.heap.objs.size+1) scope.names []) (bindC (eJ qual scope s.heap.objs.size f cd).kindOf (ps.zip us) fun _=>none) s1) :
  Inv (aY8 CX P w K mg base N qual scope f cd A C s H E) [] (ag8 N vs) H s1:=by
 have a0:ps.length<=N.length:=by have:=congrArg jO S.pre;rw[bu]at this;omega
 obtain⟨h1,tk,rfl,hk⟩:=x.done
 have J:∀ b:Addr,b ∉ (aY8 CX P w K mg base N qual scope f cd A C s H E).ex:=fun b z=>absurd (show b∈([]:List Addr)from z) (by simp)
 refine⟨⟨G.mod,S.kind,rfl,rfl,am _,fun y z c h1 F=>?_,fun y hy=>?_,fun y c _ h=>?_,fun _=>hd,gE G.frames,.inr ⟨rfl,rfl⟩,fun b z=>absurd z (J b),G.bs,G.bsz,fun b _ _=>J b,fun b z=>absurd z (J b),G.funs,G.frf⟩,
  rfl,G.bare,Un.kept hk,⟨_,x.toInCall.ns,fun i y v h1 F h3=>?_⟩,fun y c h=>⟨_,x.cell y c h⟩,G.hok.fresh (am _),fun y c h=>?_,fun p Z=>absurd (show p∈([]:List (Addr×Obj))from Z) (by simp),G.hok.kept hk,?_⟩
 ·exact fL x.apart (aF h1) (aF F)
 ·have hy:scope.names.lookup y=some .cell\/scope.names.lookup y=some .free:=hy
  rcases hy with hy|hy
  ·exact zI hy
  ·exact absurd rfl (S.nofree _ (aF hy))
 ·exact eB (x.above y c (aF h))
 ·have hi:i<vs.length:=by
   unfold ag8 at F
   by_cases hi:i<vs.length
   ·exact hi
   ·rw[aU (by simpa using hi)]at F
    rw[fA]at F
    split at F<;>cases F
  have ha:vs[i]?=some v:=by
   unfold ag8 at F
   rw[aP (by simpa using hi),aG]at F
   cases e:vs[i]? with
   | none=>rw[e]at F;cases F
   | some a=>rw[e]at F;cases F;rfl
  obtain⟨u,hu,rv⟩:=r.get ha
  have Z:ps[i]?=some y:=by
   rw[<-S.pre,List.getElem?_take_of_lt (by omega)];exact h1
  have Y:ps.Nodup:=by rw[<-S.pre];exact S.nd.sublist (List.take_sublist _ _)
  refine⟨u,rv,?_⟩
  rcases S.par y (aN Z)with k|k
  ·exact .inl ⟨k,am2 Y Z hu k⟩
  ·obtain⟨c,e⟩:=zI (n:=s.heap.objs.size+1) k
   refine .inr ⟨.inl k,c,e,?_⟩
   have q:=x.cell y c e
   rw[al7 Y Z hu (by show scope.names.lookup y≠_;rw[k];decide)]at q
   exact q
 ·exact G.hok.fresh (eB (x.above y c (aF h)))
 ·unfold ag8
  show _=N.length
  rw[aD,ar,List.length_replicate]
  omega
theorem bz0 {CX:CXT}{P:aI}{w:World}{K:ac}{mg:Str->Option Value}{base:Heap}{k:Nat}{f:Addr}{name qual:Str}{params:bT}{body:List Stmt}{scope:Scope}{dV kV Z pm z ct oc:Value}{an od:Option Addr}
  {a0:Array (Option Value)} {N ps:List Str} {sp:Sp} (lk:K.lookup f=some ⟨oc,od,.func (cF name qual params body scope dV kV Z pm an z ct),a0⟩) (a2:eK K z qual=true) (S:FnScope N ps scope)
  (len:∀ vs H Q E,sp vs H Q E->vs.length=ps.length)
  (C:∀(A:aQ) (h:List Env) (s:ae) (H:Hp) (vs:List V) (Q:VK) (E:XK),Room k (A.deeper (eJ qual scope s.heap.objs.size f z))->sp vs H Q E ->
   ∃ t,PSs (aY8 CX P w K mg base N qual scope f z A h s H E) body t/\t { nx:=fun _ H'=>Q .non H',rt:=Q } (ag8 N vs) H) :
  FnOk P w K mg base CX (k+1) f (cF name qual params body scope dV kV Z pm an z ct) ps sp:=by
 refine⟨len,fun A h s H args us vs Q E hr G hb r Y=>?_⟩
 have hl:=len _ _ _ _ Y
 have KX:K.In s.heap:=G.mod.kin.keeps fun b o e=>(G.bs b o e).1
 have a1:s.heap.NoLimit:=G.mod.nolimit.keeps fun b o e=>(G.bs b o e).1
 have F:∀ y∈ps.zip us,scope.names.lookup y.1=some .local\/(scope.names.lookup y.1=some .cell/\((aJ (s.heap.objs.size+1) scope.names []).lookup y.1).isSome=true):=fun⟨n,v⟩ hy=>by
  rcases S.par n (c9 hy).1 with q|q
  ·exact .inl q
  ·exact .inr ⟨q,fK _ _ _ (.inl q)⟩
 refine gm hr.depth (KX _ _ lk) rfl S.co S.gen rfl (PySem.W.codeRec_of KX a2) (hb _ _ _ _ ?_)
 refine wpAny_newFunctionEnv_cells S.kind F fun env he s1 x=>?_
 subst he
 refine⟨a1.keeps x.toInCall.keep,codeAny_func ?_⟩
 obtain⟨t,ht,hq⟩:=C A h s H vs Q E (hr.deeper _) Y
 have I:Inv (aY8 CX P w K mg base N qual scope f z A h s H E) [] (ag8 N vs) H s1:=aS7 S hr.hd G hl r x
 refine bN (ht [] s1 (ag8 N vs) H _ I hq) (fun fl s' hs=>?_) fun e s' hs=>hs
 have fin:∀ {σ':St} {H':Hp} {v:V} {u:Value},Inv (aY8 CX P w K mg base N qual scope f z A h s H E) [] σ' H' s'->RelV v u->Q v H'->CE h P w H s Q u s' :=
  fun {σ' H' v u} J rv q=>⟨v,H',J.os,J.bare,J.base,J.hok,rv,q⟩
 cases fl with
 | ret u =>
  obtain⟨v,σ',H',J,rv,q⟩:=hs
  exact fin J rv q
 | next =>
  obtain⟨σ',H',J,q⟩:=hs
  exact fin (v:=V.non) (u:=Value.none) J rfl q
 | brk =>
  obtain⟨_,_,_,q⟩:=hs
  exact bZ q
 | cont =>
  obtain⟨_,_,_,q⟩:=hs
  exact bZ q
section
variable {X:Cx} {x:Str} {p pos:Pos} {e:Expr} {es:List Expr} {t:TA} {id T:String} {r:List V->Hp->VK->Prop}
def tCB (r:List V->Hp->VK->Prop)(t:TA):TE:=fun σ H Q=>t σ H fun vs H1=>r vs H1 Q
theorem aq0 (hc:ac8 X (.builtin id) r)(hg:Gl X x)(G:X.mg x=none)(hv:bf x=some (.builtin id))(ha:PA X (e::es) t)(hn:x ≠ "__name__":=by decide)(z:(x==("__debug__":Str))=false:=by decide)
  (he:br (e::es) X.env=(false,eval e X.env)::br es X.env:=by rfl) (C:(d5 pos (br es X.env)).any (·.1)=false:=by rfl):PE X (.Call (.Name x p) (e::es) [] pos) (tCB r t):=by
 intro y s σ H Q I h
 refine dg (au7 I hg G hv ?_ hn z)
 exact PyProof.Rows.callWith_builtin1 (thn (ha pos y s σ H _ I h) fun us s1 ⟨vs,Y,J,r1,F⟩=>hc y s1 σ Y vs us Q J r1 F) he C
theorem aj9 (hc:ac8 X (.type T) r)(hg:Gl X x)(G:X.mg x=none)(hv:bf x=some (.type T))(ha:PA X (e::es) t)(hn:x ≠ "__name__":=by decide)(z:(x==("__debug__":Str))=false:=by decide)
  (he:br (e::es) X.env=(false,eval e X.env)::br es X.env:=by rfl) (C:(d5 pos (br es X.env)).any (·.1)=false:=by rfl):PE X (.Call (.Name x p) (e::es) [] pos) (tCB r t):=by
 intro y s σ H Q I h
 refine dg (au7 I hg G hv ?_ hn z)
 exact cO (thn (ha pos y s σ H _ I h) fun us s1 ⟨vs,Y,J,r1,F⟩=>hc y s1 σ Y vs us Q J r1 F) he C
end
end L2
end
noncomputable section
namespace HT
open PySem PyProof.Rows
section
open PySem.SeqAt
open PySem.AutoSeq1 (wpAny_loadPart')
open PySem.MeetsSeq PySem.MeetsSeq2 PySem.MeetsSeq3
end
section
variable {prog:aI} {w:World} {A:aQ} {E:Value->ae->Prop} {s:ae}
theorem cat_tup {t b:Addr}{vs ws:List Value}{Q:Value->ae->Prop}(ht:IsTup s.heap t vs.toArray)(hb:IsTup s.heap b ws.toArray)(hv:vs≠[])
  (h1:ws=[]->Q (.ref t) s) (h2:ws≠[]->Q (.ref s.heap.objs.size) { s with heap:=s.heap.push { cls:=.type "tuple",data:=.seq (vs++ws).toArray } })
  (hsz:vs.length+ws.length<=aC):wpAny (model prog w) A (bR .Add (.ref t) (.ref b)) Q E s:=by
 obtain⟨⟨cls,Z,data,sl⟩,ho,hc,n,hd⟩:=id ht
 obtain⟨⟨J,z,G,F⟩,h,C,Y,y⟩:=id hb
 simp only at hc hd C y
 subst hc hd C y
 have e:vs.toArray++ws.toArray=(vs++ws).toArray:=by simp
 by_cases hw:ws=[]
 ·exact iu ⟨_,ho,rfl⟩ ⟨_,h,rfl⟩ fB hC dB dr (c6 _ _)
   (tuple_addW1 t b vs.toArray ws.toArray n Y Z z sl F (by simpa using hv) (by simp[hw])) ⟨ho,h,h1 hw⟩
 ·refine iu ⟨_,ho,rfl⟩ ⟨_,h,rfl⟩ fB hC dB dr (c6 _ _)
   (tuple_addW2 t b vs.toArray ws.toArray n Y Z z sl F (by simpa using hv) (by simpa using hw) (by rw[aq,aq];exact hsz)) ⟨ho,h,?_⟩
  rw[e]
  exact h2 hw
noncomputable def sIx (n d:Nat):Option Int->Nat
 | none=>d
 | some v=>if v<0 then(v+(n:Int)).toNat else min v.toNat n
theorem sIx_le (n d:Nat)(hd:d<=n)(o:Option Int):sIx n d o<=n:=by
 cases o with
 | none=>exact hd
 | some v =>
  show(if v<0 then(v+(n:Int)).toNat else min v.toNat n)<=n
  by_cases hv:v<0
  ·rw[if_pos hv];omega
  ·rw[if_neg hv];exact iM _ _
theorem clip_eq (v:Int)(n d:Nat):(if v<0 then max (v+(n:Int)) 0 else min v (n:Int))=((sIx n d (some v):Nat):Int):=by
 show(if v<0 then max (v+(n:Int)) 0 else min v (n:Int))=(((if v<0 then(v+(n:Int)).toNat else min v.toNat n):Nat):Int)
 by_cases hv:v<0
 ·simp only[if_pos hv];omega
 ·simp only[if_neg hv];omega
theorem adjust_gen (h y:Option Int)(n:Nat):cZ h y 1 (n:Int)=(((sIx n 0 h:Nat):Int),((sIx n n y:Nat):Int)):=by
 have z:¬((1:Int)<0):=by omega
 unfold cZ
 simp only[z,if_false]
 refine Prod.ext ?_ ?_
 ·cases h with
  | none=>rfl
  | some v=>exact clip_eq v n 0
 ·cases y with
  | none=>rfl
  | some v=>exact clip_eq v n n
theorem places_gen (i j:Nat):cu (i:Int) (j:Int) 1=j - i:=by
 unfold cu
 have h:(1:Int) > 0:=by omega
 simp only[h,if_true,Int.ediv_one]
 split<;>omega
theorem slicePart_ {v:Value}{o:Option Int}{Q:Option Int->ae->Prop}(p:fo v o)(h:Q o s):wpAny (model prog w) A (i9 v) Q E s:=by
 cases p with
 | none=>exact slicePart_none h
 | int i t=>exact slicePart_int h
theorem sliceApplied_gen {sl:Addr}{vl vu:Value}{y F:Option Int}{n:Nat}{Q:Int×Int×Nat->ae->Prop}(hs:s.heap.IsSliceOf sl vl vu .none)(G:fo vl y)(pu:fo vu F)
  (h:Q (((sIx n 0 y:Nat):Int),1,sIx n n F - sIx n 0 y) s):wpAny (model prog w) A (eM (.ref sl) (pure (n:Int))) Q E s:=by
 obtain⟨os,z,J,C⟩:=id hs
 unfold eM jv
 refine af (af (bH z C (x:=vl) rfl (af (bH z C (x:=vu) rfl (af (bH z C (x:=.none) rfl (ay ?_)))))))
 refine af (slicePart_none ?_)
 show wpAny _ _ (if((1:Int)==0)=true then _ else _) _ _ s
 rw[if_neg (by decide)]
 refine af (slicePart_ G (af (slicePart_ pu (af (ay ?_)))))
 show wpAny _ _ (match cZ y F 1 (n:Int)with|(y,F)=>pure (y,(1:Int),cu y F 1)) _ _ s
 rw[adjust_gen y F n]
 show wpAny _ _ (pure (((sIx n 0 y:Nat):Int),(1:Int),cu ((sIx n 0 y:Nat):Int) ((sIx n n F:Nat):Int) 1)) _ _ s
 rw[places_gen]
 exact ay h
theorem pick_gen (h:Array Value)(i k:Nat):((aS k).filterMap fun(m:Nat)=>h[((i:Int)+(m:Int)*1).toNat]?).toArray=((h.toList.drop i).take k).toArray:=by
 have e:(fun(m:Nat)=>h[((i:Int)+(m:Int)*1).toNat]?)=fun m=>h[i+m]?:=by
  funext m
  have:((i:Int)+(m:Int)*1).toNat=i+m:=by omega
  rw[this]
 rw[e]
 have:=pick_run h i k
 rw[ci]at this
 have e2:((fun x=>h[x]?) ∘ fun x=>i+x)=fun m=>h[i+m]?:=rfl
 rw[e2]at this
 rw[this]
theorem getItem_tuple_cut {t sl:Addr}{y:Array Value}{vl vu:Value}{C F:Option Int}{Q:Value->ae->Prop}(ht:IsTup s.heap t y)(hs:s.heap.IsSliceOf sl vl vu .none)(pl:fo vl C)(pu:fo vu F)
  (hw:¬(sIx y.size 0 C=0/\sIx y.size y.size F=y.size))
  (h:Q (.ref s.heap.objs.size) { s with heap:=s.heap.push { cls:=.type "tuple",data:=.seq ((y.toList.drop (sIx y.size 0 C)).take (sIx y.size y.size F - sIx y.size 0 C)).toArray } })
  (hsz:y.size<=aC):wpAny (model prog w) A (fM (.ref t) (.ref sl)) Q E s:=by
 have z:sizeOk (.seq ((y.toList.drop (sIx y.size 0 C)).take (sIx y.size y.size F - sIx y.size 0 C)).toArray):=by
  show((y.toList.drop (sIx y.size 0 C)).take (sIx y.size y.size F - sIx y.size 0 C)).toArray.size<=aC
  rw[aq,bu,dN,eg]
  omega
 have hj:sIx y.size y.size F<=y.size:=sIx_le _ _ (am _) F
 obtain⟨os,J,Z,a0⟩:=id hs
 have G:s.TypeIs (.ref sl) "slice":=⟨os,J,Z⟩
 unfold fM
 try with_reducible refine dW ?_
 first|refine af (ay ?_)|skip
 refine af (iw ht.typeIs (by decide) ?_)
 refine af (bO (name:=bJ "__getitem__") ht.typeIs bp
  (cc bp ht.typeIs gU ?_ (ib _ _)))
 show wpAny _ _ (cS (.ref t) >>= _) _ _ s
 refine af (hG ht ?_)
 refine af (fN G ?_)
 rw[if_pos (by decide)]
 refine af (sliceApplied_gen hs pl pu ?_)
 have Y:¬((((sIx y.size 0 C:Nat):Int)==0&&(1:Int)==1&&(sIx y.size y.size F - sIx y.size 0 C)==y.size)=true):=by
  intro q
  rw[ai,ai]at q
  have q1:((sIx y.size 0 C:Nat):Int)=0:=eq_of_beq q.1.1
  have q2:sIx y.size y.size F - sIx y.size 0 C=y.size:=eq_of_beq q.2
  exact hw ⟨by omega,by omega⟩
 show wpAny _ _ (if(((sIx y.size 0 C:Nat):Int)==0&&(1:Int)==1&&(sIx y.size y.size F - sIx y.size 0 C)==y.size)=true then _ else _) _ _ s
 rw[if_neg Y,pick_gen]
 first
  | exact af (m:=cC _) (bE (ay ⟨_,rfl,ay h⟩) z)
  | exact af (m:=cC _) (bE (af (ay (ay ⟨_,rfl,ay h⟩))) z)
  | exact af (af (m:=cC _) (bE (ay (ay ⟨_,rfl,ay h⟩)) z))
  | exact af (af (m:=cC _) (bE (ay ⟨_,rfl,ay h⟩) z))
end
end HT
noncomputable section
namespace L2
open PySem PySem.Spec PyProof.Rows
abbrev TO:=St->Hp->(Option Int->Hp->Prop)->Prop
def PO (X:Cx)(e:Option Expr)(t:TO):Prop :=
 ∀(pins:List (Addr×Obj)) (s:ae) (σ:St) (H:Hp) (Q:Option Int->Hp->Prop),Inv X pins σ H s->t σ H Q ->
  wpAny (model X.prog X.w) X.A (evalPart e X.env) (fun u s'=>∃ o H',Inv X pins σ H' s'/\fo u o/\Q o H') X.xe s
noncomputable def aB8:TO:=fun _ H Q=>Q none H
noncomputable def aP6 (t:TE):TO:=fun σ H Q=>t σ H fun x H1=>∃ i,x=.int i/\Q (some i) H1
section
variable {X:Cx} {e:Expr} {te:TE} {lo hi:Option Expr} {tl th:TO} {pos p2:Pos}
theorem aQ1:PO X none aB8:=by
 intro y s σ H Q I h
 rw[evalPart_none]
 exact ay ⟨none,H,I,.none,h⟩
theorem aS2 (h:PE X e te):PO X (some e) (aP6 te):=by
 intro y s σ H Q I hw
 rw[evalPart_some]
 refine thn (h y s σ H _ I hw) fun u s1 ⟨x,F,C,r1,z⟩=>?_
 obtain⟨i,rfl,q⟩:=z
 obtain⟨t,rfl⟩:=r1
 exact⟨some i,F,C,.int i t,q⟩
def SlR (X:Cx)(r:V->Option Int->Option Int->Hp->VK->Prop):Prop :=
 ∀(pins:List (Addr×Obj)) (s:ae) (σ:St) (H:Hp) (x:V) (v vl vu:Value) (lo hi:Option Int) (sl:Addr) (Q:VK),Inv X pins σ H s->RelV x v->s.heap.IsSliceOf sl vl vu .none->fo vl lo->fo vu hi->r x lo hi H Q ->
  ∃ T id,typeLookup (.type T) "__getitem__"=pure (some (.builtin id))/\s.TypeIs v T/\wpAny (model X.prog X.w) X.A (fM v (.ref sl)) (EP X pins σ Q) X.xe s
def tSl (r:V->Option Int->Option Int->Hp->VK->Prop)(te:TE)(tl th:TO):TE:=fun σ H Q=>te σ H fun x H1=>tl σ H1 fun l H2=>th σ H2 fun u H3=>r x l u H3 Q
theorem aG4 {r:V->Option Int->Option Int->Hp->VK->Prop}(hr:SlR X r)(he:PE X e te)(hl:PO X lo tl)(hu:PO X hi th):PE X (.Subscript e (.Slice lo hi none p2) pos) (tSl r te tl th):=by
 intro y s σ H Q I h
 refine Subscript_ (thn (he y s σ H _ I h) fun v s1 ⟨x,G,I1,r1,C⟩=>?_)
 refine wpAny_Slice (thn (hl y s1 σ G _ I1 C) fun vl s2 ⟨l,J,F,Y,q2⟩=>thn (hu y s2 σ J _ F q2) fun vu s3 ⟨u,z,Z,pu,q3⟩=>?_)
 rw[evalPart_none]
 refine ay ?_
 have I4:Inv X y σ z { s3 with heap:=s3.heap.push { cls:=.type "slice",data:=.fields #[vl,vu,.none] } }:=Z.kept (t':=s3.toks) fun b ob q=>ah _ q
 obtain⟨T,id,hT,ht,hg⟩:=hr y { s3 with heap:=s3.heap.push { cls:=.type "slice",data:=.fields #[vl,vu,.none] } } σ z x v vl vu l u s3.heap.objs.size Q I4 r1 (jT ..) Y pu q3
 show wpAny (model X.prog X.w) X.A (subscriptTail e (.Slice lo hi none p2) v (.ref s3.heap.objs.size)) (EP X y σ Q) X.xe { s3 with heap:=s3.heap.push { cls:=.type "slice",data:=.fields #[vl,vu,.none] } }
 exact jo (ops:=[.ref s3.heap.objs.size,v]) ht hT hg (by with_unfolding_all rfl)
noncomputable def aJ9 (xs:List V)(lo hi:Option Int):List V:=(xs.drop (HT.sIx xs.length 0 lo)).take (HT.sIx xs.length xs.length hi - HT.sIx xs.length 0 lo)
theorem al8 (h:List V)(y z:Option Int):(aJ9 h y z).length<=h.length:=by
 unfold aJ9
 rw[bu,dN]
 omega
def bW6 (K:ac):V->Option Int->Option Int->Hp->VK->Prop:=fun x lo hi H Q=>∃ a xs,x=.ref a/\SqT K H a xs /\
 ¬(HT.sIx xs.length 0 lo=0/\HT.sIx xs.length xs.length hi=xs.length)/\∀ p,H p=none->Q (.ref p) (upd H p (.tup (aJ9 xs lo hi)))
theorem bA5:SlR X (bW6 X.K):=by
 intro G s σ H x v vl vu C F sl Q I Y hs J pu h
 obtain⟨a,z,rfl,hx,hw,q⟩:=h
 cases Y
 obtain⟨its,r,ht,hz⟩:=I.tuple hx
 have y:its.toArray.size=z.length:=by rw[aq];exact r.length.symm
 refine⟨"tuple",_,bp.lookup,ht.typeIs,?_⟩
 refine HT.getItem_tuple_cut ht hs J pu (by rw[y];exact hw) ?_ (by rw[y];exact hz)
 rw[y]
 refine⟨.ref s.heap.objs.size,_,I.laid (t':=s.toks) (o:=.tup (aJ9 z C F)) (fun b ob q=>ah _ q) (am _) ?_,rfl,q _ (I.hok.fresh (am _))⟩
 exact⟨aj (al8 z C F) hz,_,(r.drop (HT.sIx z.length 0 C)).take (HT.sIx z.length z.length F - HT.sIx z.length 0 C),iO _ _⟩
def bN2 (K:ac):R2:=fun x y H Q=>∃ a b xs ys,x=.ref a/\y=.ref b/\SqT K H a xs/\SqT K H b ys/\xs≠[]/\xs.length+ys.length<=aC /\
 (ys=[]->Q (.ref a) H)/\(ys≠[]->∀ p,H p=none->Q (.ref p) (upd H p (.tup (xs++ys))))
theorem Vals.nil_iff {h:List V}{us:List Value}(r:Vals h us):us=[]↔h=[]:=by
 cases r with
 | nil=>simp
 | cons _ _=>simp
theorem bt1:OpR X (bR .Add) (bN2 X.K):=by
 intro F s σ H x y v u Q I Z ry h
 obtain⟨a,b,xs,ys,rfl,rfl,ha,hb,hx,hz,J,q2⟩:=h
 cases Z
 cases ry
 obtain⟨its,r1,p1,_⟩:=I.tuple ha
 obtain⟨G,C,Y,_⟩:=I.tuple hb
 refine HT.cat_tup p1 Y (fun z=>hx (r1.nil_iff.mp z)) (fun z=>⟨.ref a,H,I,rfl,J (C.nil_iff.mp z)⟩) (fun z=>?_) (by rw[<-r1.length,<-C.length];exact hz)
 refine⟨.ref s.heap.objs.size,_,I.laid (t':=s.toks) (o:=.tup (xs++ys)) (fun b ob q=>ah _ q) (am _) ?_,rfl,q2 (fun w=>z (C.nil_iff.mpr w)) _ (I.hok.fresh (am _))⟩
 exact⟨by rw[aD];exact hz,_,r1.append C,iO _ _⟩
end
noncomputable def ixN (n:Nat)(i:Int):Option Nat:=if 0<=i then(if i<n then some i.toNat else none)else if -(n:Int)<=i then some (i+n).toNat else none
noncomputable def atI {α:Type}(xs:List α)(i:Int):Option α:=(ixN xs.length i).bind fun j=>xs[j]?
theorem aR3 {n:Nat}{i:Int}{j:Nat}(h:ixN n i=some j):seqIndex? i n=some j/\j<n/\-(n:Int)<=i/\i<n:=by
 unfold ixN at h
 by_cases h0:0<=i
 ·rw[if_pos h0]at h
  by_cases h1:i<n
  ·rw[if_pos h1]at h
   have e:i.toNat=j:=av h
   exact⟨by rw[iZ h0 h1,e],by omega,by omega,h1⟩
  ·rw[if_neg h1]at h;cases h
 ·rw[if_neg h0]at h
  by_cases h1:-(n:Int)<=i
  ·rw[if_pos h1]at h
   have e:(i+n).toNat=j:=av h
   exact⟨by rw[iy (by omega) h1,e],by omega,h1,by omega⟩
  ·rw[if_neg h1]at h;cases h
theorem aD0 {α:Type}{y:List α}{i:Int}{v:α}(h:atI y i=some v):∃ j,seqIndex? i y.length=some j/\y[j]?=some v/\j<y.length/\-(y.length:Int)<=i/\i<y.length:=by
 unfold atI at h
 cases e:ixN y.length i with
 | none=>rw[e]at h;cases h
 | some j =>
  rw[e]at h
  obtain⟨F,z,G,C⟩:=aR3 e
  exact⟨j,F,h,z,G,C⟩
def aW9 (b:Expr):Prop:=∀ o i,subscripted b false o i=operate [o,i] (fM o i)
def IxR (X:Cx)(r:R2):Prop :=
 ∀(value slice:Expr) (pins:List (Addr×Obj)) (s:ae) (σ:St) (H:Hp) (x y:V) (v u:Value) (Q:VK),Inv X pins σ H s->RelV x v->RelV y u->r x y H Q ->
  subscripted slice false v u=operate [v,u] (fM v u)->wpAny (model X.prog X.w) X.A (subscriptTail value slice v u) (EP X pins σ Q) X.xe s
def MtR (X:Cx)(id:String)(r:V->List V->Hp->VK->Prop):Prop :=
 ∀(pins:List (Addr×Obj)) (s:ae) (σ:St) (H:Hp) (x:V) (xs:List V) (v:Value) (us:List Value) (Q:VK),Inv X pins σ H s->RelV x v->Vals xs us->r x xs H Q ->
  wpAny (model X.prog X.w) X.A (call (.builtin id) (v::us)) (EP X pins σ Q) X.xe s
section
variable {X:Cx} {a b:Expr} {ta tb:TE} {pos:Pos}
theorem bM2 {r:R2}(hr:IxR X r)(ha:PE X a ta)(hb:PE X b tb)(hs:aW9 b):PE X (.Subscript a b pos) (tOp r ta tb):=by
 intro z s σ H Q I h
 exact Subscript_ (bM8 ha hb I h fun v u s2 x y F G J C q=>hr a b z s2 σ F x y v u Q G J C q (hs _ _))
def bV9 (K:ac):R2:=fun x y H Q=>∃ p xs i v,x=.ref p/\y=.int i/\SqL K H p xs/\atI xs i=some v/\Q v H
def bU2 (K:ac):R2:=fun x y H Q=>∃ p xs i v,x=.ref p/\y=.int i/\SqT K H p xs/\atI xs i=some v/\Q v H
def bY3:R2:=fun x y H Q=>∃ z i c,x=.str z/\y=.int i/\z.length<=aC/\atI z.cps.toList i=some c/\Q (.str ⟨#[c]⟩) H
theorem bs1:IxR X (bV9 X.K):=by
 intro G Y C s σ H x y v u Q I rx ry h hs
 obtain⟨p,xs,i,z,rfl,rfl,hq,he,q⟩:=h
 cases rx
 obtain⟨t,rfl⟩:=ry
 obtain⟨its,r,Z,hz⟩:=I.list hq
 obtain⟨j,F,h2,h3,h4,h5⟩:=aD0 he
 obtain⟨w,ew,J⟩:=r.get h2
 have hl:=r.length
 have hn:=al5
 have fin:EP X C σ Q w s:=⟨z,H,I,J,q⟩
 by_cases h0:0<=i
 ·have hj:i.toNat=j:=by
   rw[iZ h0 h5]at F
   exact av F
  exact item_listR Z.isList h0 (by omega) (by rw[hj];simpa using ew) fin hs
 ·have hj:(i+(its.toArray.size:Int)).toNat=j:=by
   rw[iy (by omega) h4]at F
   rw[aq,<-hl]
   exact av F
  exact fO (x:=w) Z.isList.typeIs iz.lookup
   (wpAny_getItem_list_neg (Q:=fun r s'=>r=w/\EP X C σ Q r s') Z.isList (by omega) (by rw[aq]<;>omega) (by omega) (by rw[hj];simpa using ew) ⟨rfl,fin⟩) hs
theorem ix_tup:IxR X (bU2 X.K):=by
 intro F J C s σ H x y v u Q I rx ry h hs
 obtain⟨p,xs,i,z,rfl,rfl,hq,he,q⟩:=h
 cases rx
 obtain⟨t,rfl⟩:=ry
 obtain⟨its,r,Y,hz⟩:=I.tuple hq
 obtain⟨j,h1,Z,h3,h4,h5⟩:=aD0 he
 obtain⟨w,ew,G⟩:=r.get Z
 have hl:=r.length
 have hn:=al5
 have fin:EP X C σ Q w s:=⟨z,H,I,G,q⟩
 exact fO (x:=w) Y.typeIs bp.lookup
  (getItem_tuple (j:=j) (Q:=fun r s'=>r=w/\EP X C σ Q r s') Y (by omega) (by omega) (by rw[aq,<-hl];exact h1) (by simpa using ew) ⟨rfl,fin⟩) hs
theorem ix_str:IxR X bY3:=by
 intro C F G s σ H x y v u Q I rx ry h hs
 obtain⟨z,i,c,rfl,rfl,hz,he,q⟩:=h
 obtain⟨t,rfl⟩:=rx
 obtain⟨t',rfl⟩:=ry
 obtain⟨j,J,h2,h3,Z,Y⟩:=aD0 he
 have hl:z.cps.toList.length=z.length:=by simp[fP]
 rw[hl]at J Z Y
 have hn:=al5
 exact jo (dP s z t) slot_str_getitem.lookup (getItem_str (c:=c) (by
  have e1:decide (i < -(2^63:Int))=false:=decide_eq_false (by omega)
  have e2:decide (i ≥ 2^63)=false:=decide_eq_false (by omega)
  rw[e1,e2,fq]) (by rw[J];simpa using h2) ⟨.str ⟨#[c]⟩,H,I.tok _,⟨_,rfl⟩,q⟩) hs
theorem aN6 (its:List Value)(n j:Nat)(u:Value):fQ (·.setIfInBounds j u) { cls:=.type "list",data:=.seq its.toArray n }={ cls:=.type "list",data:=.seq (its.set j u).toArray n }:=by
 simp[fQ]
theorem Inv.lst {y:List (Addr×Obj)}{σ:St}{H:Hp}{s:ae}{p:Addr}{C:List V}(I:Inv X y σ H s)(h:H p=some (.lst C)) :
  ∃(its:List Value) (n:Nat),Vals C its/\s.heap.get? p=some { cls:=.type "list",data:=.seq its.toArray n }/\C.length<=aC:=by
 obtain⟨z,its,n,r,e⟩:=I.hok p _ h
 exact⟨its,n,r,e,z⟩
theorem Inv.lstUpd {y:List (Addr×Obj)}{σ:St}{H:Hp}{s:ae}{p:Addr}{C ys:List V}{its its':List Value}{n z:Nat}{f:Obj->Obj}(I:Inv X y σ H s)(h:H p=some (.lst C))
  (ho:s.heap.get? p=some { cls:=.type "list",data:=.seq its.toArray n }) (hf:f { cls:=.type "list",data:=.seq its.toArray n }={ cls:=.type "list",data:=.seq its'.toArray z }) (r:Vals ys its') (hz:ys.length<=aC) (t:Nat) :
  Inv X y σ (upd H p (.lst ys)) { s with heap:=s.heap.update p f,toks:=t }:=by
 have e:(s.heap.update p f).get? p=some { cls:=.type "list",data:=.seq its'.toArray z }:=by
  rw[gq f ho (by rw[hf]<;>rfl),hf]
 refine I.write (x:=p) (e:=p) (by rw[h];trivial) (.inl rfl) (fun b u hb q=>(fR _ _ (dw hb)).trans q) ⟨_,e⟩ ?_
 exact⟨hz,its',z,r,e⟩
def bP0:V->V->V->Hp->(Hp->Prop)->Prop:=fun o i v H Q=>∃ p xs k j,o=.ref p/\i=.int k/\H p=some (.lst xs)/\ixN xs.length k=some j/\Q (upd H p (.lst (xs.set j v)))
theorem aZ0:bT1 X bP0:=by
 intro y s σ H o i v ov iv u Q I ro Z Y h
 obtain⟨p,xs,k,j,rfl,rfl,G,hj,q⟩:=h
 cases ro
 obtain⟨t,rfl⟩:=Z
 obtain⟨its,n,r,ho,hz⟩:=I.lst G
 obtain⟨z,h2,F,C⟩:=aR3 hj
 have hl:=r.length
 have hn:=al5
 have J:Inv X y σ (upd H p (.lst (xs.set j v))) { s with heap:=s.heap.update p (fQ (·.setIfInBounds j u)) } :=
  I.lstUpd G ho (aN6 its n j u) (r.set Y j) (by rw[bA];exact hz) s.toks
 by_cases h0:0<=k
 ·have hk:k.toNat=j:=by
   rw[iZ h0 C]at z
   exact av z
  exact PySem.W.ki_setAt ho h0 (by omega) (by rw[aq,<-hl];exact C) (by rw[hk];exact⟨_,J,q⟩)
 ·have hk:(k+(its.toArray.size:Int)).toNat=j:=by
   rw[iy (by omega) F]at z
   rw[aq,<-hl]
   exact av z
  exact PySem.W.ki_setBack ho (by omega) (by rw[aq,<-hl];exact F) (by omega) (by rw[hk];exact⟨_,J,q⟩)
theorem aw4 (y z:Option Int)(n:Nat):(dt y z none n).1=((HT.sIx n 0 y:Nat):Int)/\(dt y z none n).2.1=((HT.sIx n n z:Nat):Int)/\(dt y z none n).2.2=1:=by
 refine⟨?_,?_,rfl⟩
 ·cases y with
  | none=>simp[dt,HT.sIx]
  | some i =>
   simp only[dt,HT.sIx,iP,show(1:Int) > 0 by decide,if_true]
   by_cases h:i<0
   ·simp only[h,if_true]<;>omega
   ·simp only[h,if_false]<;>omega
 ·cases z with
  | none=>simp[dt,HT.sIx]
  | some i =>
   simp only[dt,HT.sIx,iP,show(1:Int) > 0 by decide,if_true]
   by_cases h:i<0
   ·simp only[h,if_true]<;>omega
   ·simp only[h,if_false]<;>omega
theorem aq7 (its:List Value)(h y:Option Int):slicePick its.toArray h y none=((its.drop (HT.sIx its.length 0 h)).take (HT.sIx its.length its.length y - HT.sIx its.length 0 h)).toArray:=by
 obtain⟨C,z,F⟩:=aw4 h y its.toArray.size
 unfold slicePick
 rw[C,z,F]
 simp only[sliceRange_one,pick_run,aq]<;>rfl
def bT6 (K:ac):V->Option Int->Option Int->Hp->VK->Prop:=fun x lo hi H Q=>∃ a xs,x=.ref a/\SqL K H a xs/\∀ p,H p=none->Q (.ref p) (upd H p (.lst (aJ9 xs lo hi)))
theorem bp4:SlR X (bT6 X.K):=by
 intro G s σ H x v vl vu C F sl Q I Y hs J pu h
 obtain⟨a,y,rfl,hx,q⟩:=h
 cases Y
 obtain⟨its,r,ht,hz⟩:=I.list hx
 have z:=r.length
 refine⟨"list",_,iz.lookup,ht.isList.typeIs,?_⟩
 refine wpAny_getItem_list_slice ht.isList hs J pu .none (by simp) ?_ (by rw[aq]<;>omega)
 rw[aq7,<-z]
 refine⟨.ref s.heap.objs.size,_,I.laid (t':=s.toks) (o:=.lst (aJ9 y C F)) (fun b ob q=>ah _ q) (am _) ?_,rfl,q _ (I.hok.fresh (am _))⟩
 exact⟨aj (al8 y C F) hz,_,0,(r.drop (HT.sIx y.length 0 C)).take (HT.sIx y.length y.length F - HT.sIx y.length 0 C),aK _ rfl⟩
theorem az2:ac8 X (.builtin "len") (fun G H Q=>∃ p ys,G=[.ref p]/\(SqL X.K H p ys\/SqT X.K H p ys)/\Q (.int ys.length) H):=by
 intro F s σ H G us Q I r h
 obtain⟨p,ys,rfl,hq,q⟩:=h
 obtain⟨u,rfl,J⟩:=af6 r
 cases J
 have hn:=al5
 rcases hq with hq|hq
 ·obtain⟨its,C,z,hz⟩:=I.list hq
  have y:=C.length
  exact Calls.call_len_list z.isList (by simp only[aq]<;>omega) ⟨.int ys.length,H,I.tok _,⟨s.toks+1,by rw[aq,y]⟩,q⟩
 ·obtain⟨its,C,z,hz⟩:=I.tuple hq
  have y:=C.length
  exact len_tuple z (by simp only[aq]<;>omega) ⟨.int ys.length,H,I.tok _,⟨s.toks+1,by rw[aq,y]⟩,q⟩
theorem aw5:ac8 X (.builtin "len") (fun C H Q=>∃ z,C=[.str z]/\z.length<=aC/\Q (.int z.length) H):=by
 intro y s σ H C us Q I r h
 obtain⟨z,rfl,hz,q⟩:=h
 obtain⟨u,rfl,t,rfl⟩:=af6 r
 have hn:=al5
 exact len_str (by omega) ⟨.int z.length,H,I.tok _,⟨_,rfl⟩,q⟩
theorem ac8.or {f:Value}{r F:List V->Hp->VK->Prop}(h:ac8 X f r)(h':ac8 X f F):ac8 X f (fun z H Q=>r z H Q\/F z H Q):=by
 intro y s σ H z us Q I C q
 rcases q with q|q
 ·exact h y s σ H z us Q I C q
 ·exact h' y s σ H z us Q I C q
theorem ax8:ac8 X (.type "list") (fun J H Q=>∃ p ys,J=[.ref p]/\(SqL X.K H p ys\/SqT X.K H p ys)/\∀ l,H l=none->Q (.ref l) (upd H l (.lst ys))):=by
 intro F s σ H J us Q I r h
 obtain⟨p,ys,rfl,hq,q⟩:=h
 obtain⟨u,rfl,Z⟩:=af6 r
 cases Z
 have fin:∀(its:List Value),Vals ys its->ys.length<=aC->∀(h':Heap) (y:Nat),(∀ b Y,s.heap.get? b=some Y->h'.get? b=some Y) ->
   h'.get? s.heap.objs.size=some { cls:=.type "list",dict:=none,data:=.seq its.toArray y,slots:=#[] }->EP X F σ Q (.ref s.heap.objs.size) { s with heap:=h' }:=fun its z hz h' y kp e =>
  ⟨.ref s.heap.objs.size,_,I.laid (t':=s.toks) kp (am _) (show ac7 X.prog X.w _ h' _ (.lst ys)from⟨hz,its,y,z,e⟩),rfl,q _ (I.hok.fresh (am _))⟩
 rcases hq with hq|hq
 ·obtain⟨its,z,G,hz⟩:=I.list hq
  have C:=z.length
  obtain⟨o,ho,hc,n,hd⟩:=G.isList
  exact call_list_seq p (.inl rfl) ho hc hd (fun h' y kp e=>fin its z hz h' y kp e) (by simp only[aq]<;>omega)
 ·obtain⟨its,z,G,hz⟩:=I.tuple hq
  have C:=z.length
  obtain⟨o,ho,hc,n,hd⟩:=G
  exact call_list_seq p (.inr rfl) ho hc hd (fun h' y kp e=>fin its z hz h' y kp e) (by simp only[aq]<;>omega)
theorem as0:ac8 X (.type "tuple") (fun J H Q=>∃ p ys,J=[.ref p]/\((SqL X.K H p ys/\∀ l,H l=none->Q (.ref l) (upd H l (.tup ys)))\/(SqT X.K H p ys/\Q (.ref p) H))):=by
 intro y s σ H J us Q I r h
 obtain⟨p,ys,rfl,h⟩:=h
 obtain⟨u,rfl,Z⟩:=af6 r
 cases Z
 rcases h with⟨hq,q⟩|⟨hq,q⟩
 ·obtain⟨its,C,z,hz⟩:=I.list hq
  have F:=C.length
  refine call_tuple_list z.isList (fun h' kp=>?_) (by simp only[aq]<;>omega)
  have G:Inv X y σ H { s with heap:=h' }:=I.kept (t':=s.toks) kp
  have Y:Inv X y σ (upd H h'.objs.size (.tup ys)) { s with heap:=h'.push { cls:=.type "tuple",data:=.seq its.toArray } } :=
   G.laid (t':=s.toks) (fun b o e=>ah _ e) (am _) (show ac7 X.prog X.w _ _ _ (.tup ys)from⟨hz,its,C,iO _ _⟩)
  exact⟨.ref h'.objs.size,_,Y,rfl,q _ (G.hok.fresh (am _))⟩
 ·obtain⟨its,C,z,hz⟩:=I.tuple hq
  exact call_tuple_same z ⟨.ref p,H,I,rfl,q⟩
def tyV (K:ac)(T:String)(x:V)(H:Hp):Prop:=match x with
 | .str _=>T = "str"
 | .int _=>T = "int"
 | .ref p=>(T = "list"/\∃ xs,SqL K H p xs)\/(T = "tuple"/\∃ o,K.lookup p=some o/\o.cls=.type "tuple"/\o.dict=none) \/
   (T = "dict"/\((∃ kvs,H p=some (.dK kvs))\/∃ kvs,H p=some (.dT kvs)))\/(T = "set"/\∃ S n,H p=some (.set S n))
 | _=>False
theorem bh8 {h:List (Addr×Obj)}{σ:St}{H:Hp}{s:ae}{T:String}{x:V}{v:Value}(I:Inv X h σ H s)(r:RelV x v)(y:tyV X.K T x H) :
  s.TypeIs v T/\∀ a,v=.ref a->∃ ob,s.heap.get? a=some ob/\ob.dict=none:=by
 cases x with
 | str z =>
  obtain⟨t,rfl⟩:=r
  cases(show T = "str" from y)
  exact⟨dP s z t,fun _ e=>nomatch e⟩
 | int i =>
  obtain⟨t,rfl⟩:=r
  cases(show T = "int" from y)
  exact⟨fS s i t,fun _ e=>nomatch e⟩
 | ref p =>
  cases r
  rcases y with⟨rfl,G,hq⟩|⟨rfl,o,hk,hc,hd⟩|⟨rfl,hk⟩|⟨rfl,S,n,hk⟩
  ·obtain⟨its,_,F,_⟩:=I.list hq
   refine⟨F.isList.typeIs,fun a e=>?_⟩
   cases e
   obtain⟨o,n,e,c,hd,_⟩:=F
   exact⟨o,e,hd⟩
  ·refine⟨⟨o,I.kIn p o hk,hc⟩,fun a e=>?_⟩
   cases e
   exact⟨o,I.kIn _ o hk,hd⟩
  ·have z:∃ o,s.heap.get? p=some o/\o.ExactDict:=by
    rcases hk with⟨C,hk⟩|⟨C,hk⟩
    ·obtain⟨_,_,_,_,o,_,_,e,ex,_⟩:=I.hok p _ hk
     exact⟨o,e,ex⟩
    ·obtain⟨_,_,_,_,o,_,_,e,ex,_⟩:=I.hok p _ hk
     exact⟨o,e,ex⟩
   obtain⟨o,e,ex⟩:=z
   refine⟨⟨o,e,ex.1⟩,fun a e2=>?_⟩
   cases e2
   exact⟨o,e,ex.2.1⟩
  ·obtain⟨o,_,_,_,e,ex,_⟩:=I.hok p _ hk
   refine⟨⟨o,e,ex.1⟩,fun a e2=>?_⟩
   cases e2
   exact⟨o,e,ex.2.1⟩
 | _=>exact bZ y
def bU4 (K:ac)(T:String)(r:V->List V->Hp->VK->Prop)(to:TE):TE:=fun σ H Q=>to σ H fun x H1=>tyV K T x H1/\r x [] H1 Q
def tBM (K:ac)(T:String)(r:V->List V->Hp->VK->Prop)(to:TE)(t:TA):TE:=fun σ H Q=>to σ H fun x H1=>tyV K T x H1/\t σ H1 fun xs H2=>r x xs H2 Q
variable {o e:Expr} {es:List Expr} {to:TE} {t:TA} {name:Str} {apos cpos:Pos} {T id:String} {r:V->List V->Hp->VK->Prop}
theorem bx9 (pa:jp T)(slot:Slot T name id)(F:typeOf (.builtin id)=pure (.type "method_descriptor"))(hm:MtR X id r)(ho:PE X o to)
  (C:ft o name X.env (eval o X.env)=eval o X.env:=by rfl) (z:(apos.endLine==cpos.line)=true:=by rfl):PE X (.Call (.Attribute o name apos) [] [] cpos) (bU4 X.K T r to):=by
 intro y s σ H Q I h
 refine wpAny_Call_method0_late C z (thn (ho y s σ H _ I h) fun v s1 ⟨x,H1,G,r1,ty,Y⟩=>?_)
 obtain⟨Z,J⟩:=bh8 G r1 ty
 exact⟨T,id,pa,slot,F,Z,J,fT rfl (PySem.evalArgs_none (hm y s1 σ H1 x [] v [] Q G r1 .nil Y))⟩
theorem bP5 (pa:jp T)(slot:Slot T name id)(J:typeOf (.builtin id)=pure (.type "method_descriptor"))(hm:MtR X id r)(ho:PE X o to)(ha:PA X (e::es) t)
  (C:ft o name X.env (eval o X.env)=eval o X.env:=by rfl)
  (G:((d5 cpos (br (e::es) X.env)).all (fun x=>!x.1)&&(backToKw cpos (keywordEach [] X.env)).all (fun x=>x.1.isSome)
   && decide ((e::es).length+([]:List jh).length+(if([]:List jh).isEmpty then 0 else 1)<30))=true:=by rfl)
  (F:(apos.endLine==cpos.line)=true:=by rfl) (hs:br (e::es) X.env=(false,eval e X.env)::br es X.env:=by rfl) (z:(d5 cpos (br es X.env)).any (·.1)=false:=by rfl) :
  PE X (.Call (.Attribute o name apos) (e::es) [] cpos) (tBM X.K T r to t):=by
 intro y s σ H Q I h
 refine wpAny_Call_method_late C G F rfl (thn (ho y s σ H _ I h) fun v s1 ⟨x,H1,Z,r1,ty,q1⟩=>?_)
 obtain⟨h1,h2⟩:=bh8 Z r1 ty
 refine⟨T,id,pa,slot,J,h1,h2,?_⟩
 have Y:=ha cpos y s1 σ H1 _ Z q1
 rw[hs]at Y ⊢
 refine fT (by show(false||(d5 cpos (br es X.env)).any (·.1))=false;rw[z]<;>rfl) (Calls.evalArgs_plain ?_)
 exact thn Y fun us s2 ⟨vs,H2,I2,r2,q2⟩=>hm y s2 σ H2 x vs v us Q I2 r1 r2 q2
end
def MtM (X:Cx)(id:String)(r:V->List V->Hp->VK->Prop):Prop :=
 ∀(pins:List (Addr×Obj)) (s:ae) (σ:St) (H:Hp) (x:V) (xs:List V) (v:Value) (us:List Value) (Q:VK),Inv X pins σ H s->RelV x v->Vals xs us->r x xs H Q ->
  wpAny (model X.prog X.w) X.A (call (.builtin id) (v::us)) (EP X pins σ Q) X.xe s
theorem Vals.one:∀ {x:V} {us:List Value},Vals [x] us->∃ u,us=[u]/\RelV x u
 | _,_,.cons r .nil=>⟨_,rfl,r⟩
theorem Vals.zero:∀ {us:List Value},Vals [] us->us=[]
 | _,.nil=>rfl
theorem Vals.dropLast {y:List V}{us:List Value}(h:Vals y us):Vals y.dropLast us.dropLast:=by
 induction h with
 | nil=>exact .nil
 | cons r t ih =>
  cases t with
  | nil=>exact .nil
  | cons q t'=>exact .cons r ih
theorem Vals.reverse {y:List V}{us:List Value}(h:Vals y us):Vals y.reverse us.reverse:=by
 induction h with
 | nil=>exact .nil
 | cons r t ih=>rw[dC,dC];exact Vals.append ih (.cons r .nil)
theorem Vals.rep {y:List V}{us:List Value}(h:Vals y us):∀ k:Nat,Vals (aA k y).flatten (aA k us).flatten
 | 0=>.nil
 | k+1=>by
  rw[bD,bD,cy,cy]
  exact Vals.append h (Vals.rep h k)
theorem ay5 (its:List Value):∀(k:Nat) (h:List Value),
  jq (fun x1 y=>x1++y) h.toArray (aA k its.toArray)=(h++(aA k its).flatten).toArray
 | 0,h=>by simp
 | k+1,h=>by
  have e:h.toArray++its.toArray=(h++its).toArray:=by simp
  have e2:(h++its)++(aA k its).flatten=h++(aA (k+1) its).flatten:=by
   rw[bD,cy,aR]
  rw[<-e2,<-ay5 its k (h++its),<-e,bD,da]
section
variable {X:Cx} {pins:List (Addr×Obj)} {σ:St} {H:Hp} {s:ae} {l b:Addr} {xs ys zs:List V}
theorem Inv.lset {its its':List Value}{n:Nat}{f:Array Value->Array Value}{t':Nat}(I:Inv X pins σ H s)(h:H l=some (.lst xs))
  (e:s.heap.get? l=some { cls:=.type "list",data:=.seq its.toArray n }) (hf:f its.toArray=its'.toArray) (hv:Vals ys its') (hz:ys.length<=aC) :
  Inv X pins σ (upd H l (.lst ys)) { s with heap:=s.heap.update l (fQ f),toks:=t' }:=by
 have q:=PySem.IsL.update e f
 rw[hf]at q
 refine I.write (x:=l) (e:=l) (by rw[h];exact trivial) (.inl rfl) (fun z u hb y=>(fR s.heap (fQ f) (dw hb)).trans y) ⟨_,q⟩ ?_
 exact⟨hz,its',_,hv,q⟩
theorem Inv.lnew {its:List Value}{t':Nat}(I:Inv X pins σ H s)(hv:Vals ys its)(hz:ys.length<=aC) :
  Inv X pins σ (upd H s.heap.objs.size (.lst ys)) { s with heap:=s.heap.push { cls:=.type "list",data:=.seq its.toArray },toks:=t' } :=
 I.laid (fun _ _ q=>ah _ q) (am _) ⟨hz,its,0,hv,aK _ rfl⟩
theorem Inv.fresh (I:Inv X pins σ H s):H s.heap.objs.size=none:=I.hok.fresh (am _)
theorem Inv.lstM (I:Inv X pins σ H s)(h:H l=some (.lst xs)):xs.length<=aC/\∃(its:List Value) (n:Nat),Vals xs its/\xs.length=its.length/\s.heap.get? l=some { cls:=.type "list",data:=.seq its.toArray n }:=by
 obtain⟨z,its,n,r,e⟩:=I.hok l _ h
 exact⟨z,its,n,r,r.length,e⟩
theorem aG9 {n:Nat}(h:n<=aC):cD n=false:=by
 unfold cD
 exact decide_eq_false (by omega)
end
section
variable {X:Cx}
def bk4:V->List V->Hp->VK->Prop:=fun x vs H Q=>∃ l xs y,x=.ref l/\vs=[y]/\H l=some (.lst xs)/\xs.length<aC/\Q .non (upd H l (.lst (xs++[y])))
theorem aw9:MtM X "list.append" bk4:=by
 intro C s σ H x vs v us Q I Y J h
 obtain⟨l,xs,y,rfl,rfl,G,hz,q⟩:=h
 cases Y
 obtain⟨u,rfl,Z⟩:=J.one
 obtain⟨z,its,n,r,hl,e⟩:=I.lstM G
 refine cT gu ⟨_,e,rfl⟩ F.entry_list_append (F.args_list_append_2 _ _) (PySem.list_append l its.toArray n u (by rw[aq];omega)) ⟨e,?_⟩
 refine⟨.non,_,I.lset (its':=its++[u]) G e (by simp) (r.append (.cons Z .nil)) ?_,rfl,q⟩
 rw[aD,cN]
 omega
def bt0:V->List V->Hp->VK->Prop:=fun x vs H Q=>∃ l b xs zs,x=.ref l/\vs=[.ref b]/\H l=some (.lst xs)/\H b=some (.lst zs)/\xs.length+zs.length<=aC/\Q .non (upd H l (.lst (xs++zs)))
theorem aS8:MtM X "list.extend" bt0:=by
 intro G s σ H x vs v us Q I rx Y h
 obtain⟨l,b,xs,zs,rfl,rfl,J,hB,hz,q⟩:=h
 cases rx
 obtain⟨u,rfl,ru⟩:=Y.one
 cases ru
 obtain⟨z,its,n,r,hl,e⟩:=I.lstM J
 obtain⟨z2,y,n2,Z,a0,e2⟩:=I.lstM hB
 have hsz:its.toArray.size+y.toArray.size<=aC:=by rw[aq,aq];omega
 have C:¬(!its.toArray.isEmpty&&cD (its.toArray.size+y.toArray.size))=true:=by
  rw[aG9 hsz,Bool.and_false]
  exact aO
 refine cT gv ⟨_,e,rfl⟩ F.entry_list_extend (F.args_list_extend_2 _ _)
  (AutoSeq1.list_extend_list_list_0 l its.toArray n b y.toArray n2 C (by rw[aq];omega) (by omega)) ⟨e,e2,?_⟩
 refine⟨.non,_,I.lset (its':=its++y) J e (by simp) (r.append Z) ?_,rfl,q⟩
 rw[aD]
 omega
def bX9:R2:=fun x y H Q=>∃ l b xs zs,x=.ref l/\y=.ref b/\H l=some (.lst xs)/\H b=some (.lst zs)/\xs.length+zs.length<=aC/\∀ p,H p=none->Q (.ref p) (upd H p (.lst (xs++zs)))
theorem bB2:OpR X (bR .Add) bX9:=by
 intro F s σ H x y v u Q I Y Z h
 obtain⟨l,b,xs,zs,rfl,rfl,hH,hB,hz,q⟩:=h
 cases Y
 cases Z
 obtain⟨z,its,n,r,hl,e⟩:=I.lstM hH
 obtain⟨z2,C,n2,G,J,e2⟩:=I.lstM hB
 refine PySem.P.add_list e e2 ?_ (by rw[aq,aq];omega)
 have ea:its.toArray++C.toArray=(its++C).toArray:=by simp
 rw[ea]
 exact⟨.ref _,_,I.lnew (t':=s.toks) (r.append G) (by rw[aD];omega),rfl,q _ I.fresh⟩
def bX5:R2:=fun x y H Q=>∃ l k xs,x=.ref l/\y=.int k/\H l=some (.lst xs)/\-(2^63)<=k/\k<2^63/\xs.length*k.toNat<=aC /\
 ∀ p,H p=none->Q (.ref p) (upd H p (.lst (aA k.toNat xs).flatten))
theorem bo3 {α:Type}(h:List α)(k:Nat):(aA k h).flatten.length=k*h.length:=by
 induction k with
 | zero=>simp
 | succ k ih=>rw[bD,cy,aD,ih,iA,dD]
theorem bF1:OpR X (bR .Mult) bX5:=by
 intro a0 s σ H x y v u Q I rx ry h
 obtain⟨l,k,xs,rfl,rfl,hH,h1,h2,hz,q⟩:=h
 cases rx
 obtain⟨t,rfl⟩:=ry
 obtain⟨z,its,n,r,hl,e⟩:=I.lstM hH
 have G:its.toArray.size*k.toNat<=aC:=by rw[aq,<-hl];exact hz
 have J:¬ its.toArray.size*k.toNat > (2^63 - 1) / 8:=by
  have:(aC:Nat)<=(2^63 - 1) / 8:=by decide
  omega
 have Z:¬(!Builtin.List.listFitsIndex k)=true:=by
  rw[fitsIndex_both h1 h2]
  exact aO
 have C:¬ cD (its.toArray.size*k.toNat)=true:=by
  rw[aG9 G]
  exact aO
 have Y:jq (fun x1 x2=>x1++x2) #[] (aA (if its.toArray.isEmpty=true then 0 else k.toNat) its.toArray)=(aA k.toNat its).flatten.toArray:=by
  have f0:∀ m:Nat,jq (fun x1 x2=>x1++x2) #[] (aA m its.toArray)=(aA m its).flatten.toArray:=fun m=>by
   have:=ay5 its m []
   rw[d8]at this
   exact this
  rw[f0]
  cases its with
  | nil=>simp
  | cons a r'=>rw[if_neg (by simp)]
 refine eP (T := "list") (U := "int") (by decide) ⟨_,e,rfl⟩ (fun s'=>fS s' k t) noFill_list_mul ic dh repeat_list gW.lookup
  (cT dh (fS s k t) gX (gF _ _) (int___rmul___int_list k t l its.toArray n)
   ⟨e,rfl,⟨_,e,rfl⟩,cT F.slot_list_mul ⟨_,e,rfl⟩ F.entry_list_mul (F.args_list_mul_2 _ _) (AutoListH.list___mul___list_int_3 l its.toArray n k t Z J C) ⟨e,?_⟩⟩)
 rw[Y]
 exact⟨.ref _,_,I.lnew (t':=s.toks) (r.rep k.toNat) (by rw[bo3,jH];exact hz),rfl,q _ I.fresh⟩
end
section
variable {prog:aI} {w:World} {A:aQ} {E:Value->ae->Prop} {s:ae}
end
section
variable {X:Cx}
end
end L2
end
noncomputable section
namespace Att
open PySem PySem.W PySem.Calls PyProof.Rows
theorem ints_of_wellAll {P:Params}{h:Heap}:∀(ns:List Int) (vs:List Value),WellAll P h vs (ns.map WData.int)->ji vs ns:=by
 intro ns
 induction ns with
 | nil =>
  intro vs w
  rw[cG]at w
  cases w
  exact .nil
 | cons n ns ih =>
  intro vs w
  rw[aB]at w
  cases w with
  | cons a b =>
   cases a
   exact .cons _ _ (ih _ b)
theorem script_of {l:OpenLaw}{n:Nat}(hn:l.most=some n){P:Params}{h:Heap}{args:List WData}{y:List Value}
  (z:l.row.toRowW.claim.pre args=true) (J:WellAll P h y args) :
  ∃ a vs ns,y=[Value.ref a]/\args=[WData.list (ns.map WData.int)]/\h.get? a=some { cls:=.type "list",data:=.seq vs.toArray }/\ji vs ns/\ns.length<=n:=by
 have Y:WShape.hasAll [] args [.list .int]=true:=(pre_splitW z).1
 have hc:l.pre.holds [] { args:=args }=true:=(pre_splitW z).2
 obtain⟨d,r,rfl,h1,h2⟩:=hasAllW_cons Y
 obtain rfl:=hasAllW_nil h2
 obtain⟨xs,rfl,Z⟩:=hasW_list h1
 obtain⟨ns,rfl⟩:=items_int Z
 have C:ns.length<=n:=by
  unfold OpenLaw.pre at hc
  have G:(WTm.not (.lt (.lit (.int (n:Int))) (.len (.arg 0)))).holds [] { args:=[.list (ns.map .int)] }=true:=by
   have G:=(holds_andW hc).1
   rw[hn]at G
   exact G
  have F:=condW_of G (w_not (w_lt w_lit (w_len_list (w_arg rfl))))
  rw[ar]at F
  refine iQ fun q=>?_
  have q':(n:Int)<((ns.length:Nat):Int):=by omega
  first
   | (rw[decide_eq_true q']at F;exact absurd F (by decide))
   | (simp at F;omega)
 cases J with
 | cons w1 w2 =>
  cases w2
  cases w1 with
  | list ho hall=>exact⟨_,_,ns,rfl,rfl,ho,ints_of_wellAll ns _ hall,C⟩
theorem post_true (l:OpenLaw)(args:List WData):l.row.toRowW.claim.post args (.bool true) args=true :=
 postW_of (r:=l.row.toRowW) (X:=(true==true))
  (show WShape.has [] (.bool true) .bool=true by first|rfl|decide|simp[WShape.has,WShape.arms,WShape.armsAll])
  (show(WTm.eq .res (.lit (.bool true))).value [] { args:=args,res:=some (.bool true),after:=args }=some (.bool (true==true))from w_eq_bool (w_res rfl) w_lit) rfl
theorem attach_call {l:OpenLaw}{n:Nat}{q:aI}{loose:List Str}{XP:(Str->Option Value)->Heap->Prop}{YP:World->Heap->Prop}{d:DefRec}
  (hn:l.most=some n) (a1:d.params.defaults=[])
  (call:∀(w:World) (s₀ h:ae) (Z mb:Str->Option Value) (fa:Addr) (o:Obj) (pm cd y:Value) (a:Addr) (vs:List Value) (ns:List Int),
   Ground q loose [] XP w s₀ Z mb h.heap->YP w h.heap ->
   h.heap.get? fa=some o->o.data=.func (docDef d.name d.params d.body d.scope pm cd y)->h.heap.CodeRec cd d.name->Z d.name=some (.ref fa) ->
   h.heap.get? a=some { cls:=.type "list",data:=.seq vs.toArray }->ji vs ns->ns.length<=n->h.gens=#[] ->
   gP (model l.prog w) gQ (.call (.ref fa) ⟨[.ref a],[]⟩) (fun r s'=>r=.ok (.ret (.bool true))/\OldK h.heap s'.heap/\s'.os=h.os/\eU s'.gens) h) :
  WalkO q loose XP YP l.row.toRowW d [] (fun f vs=>jk f vs):=by
 intro w s₀ h Z mb G Y fa o pm cd y dV kV ho hd a3 hD a0 hg args a4 as J a5 a7 a2 a6
 obtain rfl:dV=.none:=Dflts.none hD a1
 obtain rfl:kV=.none:=Dflts.noKw hD
 obtain⟨a,vs,ns,rfl,rfl,F,z,C⟩:=script_of hn J a2
 refine enter_call (ir (call w s₀ h Z mb fa o pm cd y a vs ns G Y ho (fd_plain hd) a3 a0 F z C hg) fun r s' hq=>?_)
 obtain⟨rfl,h2,h3,h4⟩:=hq
 exact⟨.inl ⟨.bool true,.bool true,[],rfl,fun _=>rfl,.bool true,post_true l _,fun _=>⟨List.Pairwise.nil,fun _ hm=>(nomatch hm)⟩⟩,h2,h3,h4⟩
section
variable {prog:aI} {w:World} {A:aQ} {E:Value->ae->Prop} {s:ae} {K:Frag}
end
end Att
noncomputable section
namespace L2
open PySem PySem.Spec PyProof.Rows
theorem az4:∀ {vs:List Value} {ns:List Int},ji vs ns->Vals (ns.map V.int) vs
 | _,_,.nil=>.nil
 | _,_,.cons n t h=>.cons ⟨t,rfl⟩ (az4 h)
noncomputable def defArgs (s:Stmt):bT:=match s with
 | .FunctionDef _ a _ _ _ _ _ _ _ _=>a
 | _=>{ posonlyargs:=[],args:=[],vararg:=none,kwonlyargs:=[],kw_defaults:=[],kwarg:=none,defaults:=[] }
noncomputable def zy (s:Stmt):List Stmt:=match s with
 | .FunctionDef _ _ b _ _ _ _ _ _ _=>b
 | _=>[]
noncomputable def defScope (s:Stmt):Scope:=match s with
 | .FunctionDef _ _ _ _ _ _ sc _ _ _=>sc
 | _=>{ kind:=.function,names:=[],isGenerator:=false,isCoroutine:=false }
noncomputable abbrev CX0:CXT:=fun _ _ _ _ _ _=>False
abbrev E0:XK:=fun _ _ _=>False
theorem bE6 {X:Cx}:aJ4 CX0 X E0:=fun _ _ _ _ _ _ _ h=>h.elim
structure Fun (K:ac)(x qual:Str)(st:Stmt)(f:Addr)(fd:bI):Prop where
 ex:∃(oc:Value) (od:Option Addr) (kV doc pm:Value) (an:Option Addr) (cdv ct:Value) (osl:Array (Option Value)),
  fd=cF x qual (defArgs st) (zy st) (defScope st) .none kV doc pm an cdv ct/\K.lookup f=some ⟨oc,od,.func fd,osl⟩/\eK K cdv qual=true
 kp:cg K (.ref f)=true
section
variable {P:aI} {w:World} {K:ac} {mg:Str->Option Value} {base:Heap}
theorem Fun.ok {x qual:Str}{st:Stmt}{f:Addr}{Y:bI}{N ps:List Str}{k:Nat}{sp:Sp}(F:Fun K x qual st f Y)(S:FnScope N ps (defScope st))(len:∀ vs H Q E,sp vs H Q E->vs.length=ps.length)
  (C:∀(z:Value) (A:aQ) (y:List Env) (s:ae) (H:Hp) (vs:List V) (Q:VK) (E:XK),Room k (A.deeper (eJ qual (defScope st) s.heap.objs.size f z))->sp vs H Q E ->
   ∃ t,PSs (aY8 CX0 P w K mg base N qual (defScope st) f z A y s H E).nox (zy st) t/\t { nx:=fun _ H'=>Q .non H',rt:=Q } (ag8 N vs) H):FnOk P w K mg base CX0 (k+1) f Y ps sp:=by
 obtain⟨oc,od,kV,Z,pm,an,z,ct,a0,rfl,lk,J⟩:=F.ex
 refine bz0 lk J S len fun A y s H vs Q E hr G=>?_
 obtain⟨t,h,q⟩:=C z A y s H vs Q E hr G
 exact⟨t,h.nox,q⟩
theorem Fun.binds {x qual:Str}{st:Stmt}{f:Addr}{J:bI}{ps:List Str}(F:Fun K x qual st f J)
  (h:∀(kV z C:Value) (G:Option Addr) (y ct:Value) (us:List Value),us.length=ps.length->dA (cF x qual (defArgs st) (zy st) (defScope st) .none kV z C G y ct) ⟨us,[]⟩=pure (ps.zip us)):Binds K J ps []:=by
 obtain⟨oc,od,kV,z,C,G,y,ct,Y,rfl,lk,Z⟩:=F.ex
 exact .all (h kV z C G y ct)
theorem bf5 {x qual:Str}{st:Stmt}{f:Addr}{oc:Value}{od F:Option Addr}{z:Array (Option Value)}{kV y C h ct:Value}(l:K.lookup f=some ⟨oc,od,.func (cF x qual (defArgs st) (zy st) (defScope st) .none kV y C F h ct),z⟩)
  (c:eK K h qual=true) (k:cg K (.ref f)=true):Fun K x qual st f (cF x qual (defArgs st) (zy st) (defScope st) .none kV y C F h ct):=⟨⟨oc,od,kV,y,C,F,h,ct,z,rfl,l,c⟩,k⟩
end
theorem aL2 {A:aQ}{k:Nat}(hr:Room k A):A.units+1<cLine:=Nat.lt_of_le_of_lt (Nat.add_le_add_left (by decide:1<=64) _) hr.units
section
variable {X:Cx}
end
theorem bY7 {A B:Prop}(h:B):if false=true then A else B:=by
 rw[if_neg aO]
 exact h
theorem iteT {A B:Prop}(h:A):if true=true then A else B:=by
 rw[if_pos rfl]
 exact h
def ae7 (H H':Hp):Prop:=∀ b o,H b=some o->H' b=some o
theorem ae7.refl (H:Hp):ae7 H H:=fun _ _ h=>h
theorem aO4 {prog:aI}{w:World}{A:aQ}{R:jn->ae->Prop}{s:ae}{F y iter:Expr}{z:List Expr}{scope:Scope}{pos:Pos}{it C:Value}{env:Env}(I:Nat->ae->Prop)
  (turn:∀ n s,I n s->wpAny (model prog w) A (jm it) (fun r Y=>match r with
   | none=>R (.ok .next) Y
   | some v=>wpAny (model prog w) A (d6 y it v) (fun _ G=>wpAny (model prog w) A (fJ y env v) (fun _ s₂ =>
     wpAny (model prog w) A (forIn z true fun c r=>if r=true then do let ok <- db c env (eval c env);pure (ForInStep.yield ok)else pure (ForInStep.yield r)) (fun ok Z =>
      if ok=true then wpAny (model prog w) A (eval F env) (fun x s₄ =>
       wpAny (model prog w) A (call (.builtin "list.append") [C,x]) (fun _ s₅=>∃ m,m<n/\I m s₅) (iB (model prog w) A env fun e s'=>R (.error e) s') s₄) (iB (model prog w) A env fun e s'=>R (.error e) s') Z
      else ∃ m,m<n/\I m Z) (iB (model prog w) A env fun e s'=>R (.error e) s') s₂) (iB (model prog w) A env fun e s'=>R (.error e) s') G) (iB (model prog w) A env fun e s'=>R (.error e) s') Y) (iB (model prog w) A env fun e s'=>R (.error e) s') s)
  (n:Nat) (h:I n s) :
  gP (model prog w) A (.compLoop (.ListComp F [⟨y,iter,z,0⟩] scope pos) 0 it C env) R s:=by
 refine codeAny_loop rfl I (fun n s hI=>?_) n h
 show wpAny _ A ((compTurn (.ListComp F [⟨y,iter,z,0⟩] scope pos) 0 it C env).onRaise (fun x=>do noteFrame x env;theTreesLotGoes x)) _ _ s
 refine wpAny_noted ?_
 rw[compTurn_list]
 refine af (g8 (af (bN (turn n s hI) (fun r Y h₁=>?_) fun _ _ h'=>h')))
 cases r with
 | none=>exact ay h₁
 | some v =>
  refine af (bN h₁ (fun _ G J=>?_) fun _ _ h'=>h')
  refine af (bN J (fun _ s₂ h₂=>af (bN h₂ (fun ok Z h₃=>?_) fun _ _ h'=>h')) fun _ _ h'=>h')
  cases ok with
  | false=>exact ay ⟨rfl,h₃⟩
  | true =>
   exact af (af (bN h₃ (fun x s₄ h₄=>af (bN h₄ (fun _ s₅ h₅=>ay (ay ⟨rfl,h₅⟩)) fun _ _ h'=>h')) fun _ _ h'=>h'))
noncomputable def an0 (cells:List (Str×Addr)):List (Str×bX)->List (Str×Addr)->List (Str×Addr)
 | [],acc=>acc
 | (n,k)::r,acc=>an0 cells r (if k==.free then(match cells.lookup n with|some c=>(n,c)::acc|none=>acc)else acc)
theorem af7 {env:Env}:∀(names:List (Str×bX)) (z:List (Str×Addr)),(∀ y∈names,y.2=.free->∃ c,env.cells.lookup y.1=some c) ->
  (forIn names z fun(x:Str×bX) (cs:List (Str×Addr))=>(if x.2==.free then do let c <- cellOf env x.1;pure (ForInStep.yield ((x.1,c)::cs))else pure (ForInStep.yield cs):Sem (ForInStep (List (Str×Addr)))))=pure (an0 env.cells names z)
 | [],z,_=>by rw[dE];rfl
 | (n,k)::r,z,h=>by
  have C:=fun a=>af7 r a fun y hy=>h y (ao _ hy)
  rw[d9]
  unfold an0
  cases e:(k==NameKind.free)with
  | false =>
   simp only[di,if_false]
   exact C z
  | true =>
   have hk:k=.free:=by simpa using e
   obtain⟨c,hc⟩:=h (n,k) au hk
   have e1:cellOf env n=pure c:=by unfold cellOf;rw[hc]
   simp only[if_true,e1,hc]
   exact C _
theorem af3 {scope:Scope}{env:Env}(h:∀ y∈scope.names,y.2=.free->∃ c,env.cells.lookup y.1=some c):closureFor scope env=pure (an0 env.cells scope.names []):=by
 have:=af7 (env:=env) scope.names [] h
 show(forIn scope.names [] (fun(x:Str×bX) (cs:List (Str×Addr))=>(if x.2==.free then do let c <- cellOf env x.1;pure (ForInStep.yield ((x.1,c)::cs))else pure (ForInStep.yield cs):Sem (ForInStep (List (Str×Addr))))) >>= fun cs=>pure cs)=_
 rw[this]
 rfl
theorem clOf_mem {cells:List (Str×Addr)}{n:Str}{c:Addr}:∀ {names:List (Str×bX)} {C:List (Str×Addr)},(n,c)∈an0 cells names C->cells.lookup n=some c\/(n,c)∈C
 | [],_,h=>.inr h
 | (m,k)::r,C,h=>by
  unfold an0 at h
  rcases clOf_mem h with z|z
  ·exact .inl z
  ·cases e:(k==NameKind.free)with
   | false=>simp only[e,di,if_false]at z;exact .inr z
   | true =>
    simp only[e,if_true]at z
    cases q:cells.lookup m with
    | none=>rw[q]at z;exact .inr z
    | some d =>
     rw[q]at z
     rcases az.mp z with y|y
     ·cases y;exact .inl q
     ·exact .inr y
theorem aI1 {cells:List (Str×Addr)}{n:Str}{c:Addr}(hc:cells.lookup n=some c):∀ {names:List (Str×bX)} {y:List (Str×Addr)},((n,NameKind.free)∈names\/(n,c)∈y)->(n,c)∈an0 cells names y
 | [],_,h=>by rcases h with h|h;(exact absurd h (by simp));exact h
 | (m,k)::r,y,h=>by
  unfold an0
  refine aI1 hc ?_
  rcases h with h|h
  ·rcases az.mp h with e|h
   ·cases e
    right
    simp[hc]
   ·exact .inl h
  ·right
   cases e:(k==NameKind.free)with
   | false=>simpa using h
   | true =>
    simp only[if_true]
    cases q:cells.lookup m with
    | none=>exact h
    | some d=>exact ao _ h
theorem af1 {α:Type}{n:Str}{c:α}:∀ {l:List (Str×α)},(n,c)∈l->(∀ d,(n,d)∈l->d=c)->l.lookup n=some c
 | (m,d)::r,h,u=>by
  rw[aY]
  cases e:n==m with
  | true =>
   have e':=beq_iff_eq.mp e
   subst e'
   rw[u d au]
  | false =>
   rcases az.mp h with z|z
   ·cases z;simp at e
   ·exact af1 z fun d' h'=>u d' (ao _ h')
theorem az9 {cells:List (Str×Addr)}{n:Str}{c:Addr}{names:List (Str×bX)}(hc:cells.lookup n=some c)(h:(n,NameKind.free)∈names):(an0 cells names []).lookup n=some c:=by
 refine af1 (aI1 hc (.inl h)) fun d hd=>?_
 rcases clOf_mem hd with z|z
 ·rw[hc]at z;exact(av z).symm
 ·exact absurd z (by simp)
theorem ze:∀(names:List (Str×bX)) (n:Nat) (h:List (Str×Addr)),aJ n names h=aJ n names []++h
 | [],_,h=>by simp[aJ]
 | (x,k)::r,n,h=>by
  unfold aJ
  split
  ·rw[ze r (n+1) ((x,n)::h),ze r (n+1) [(x,n)]]
   simp
  ·exact ze r n h
theorem zr:∀ {names:List (Str×bX)} {n:Nat} {C:List (Str×Addr)} {x:Str} {c:Addr},(x,c)∈aJ n names C->(x,NameKind.cell)∈names\/(x,c)∈C
 | [],_,_,_,_,h=>.inr h
 | (y,k)::r,n,C,x,c,h=>by
  unfold aJ at h
  split at h
  ·rename_i hk
   rcases zr h with z|z
   ·exact .inl (ao _ z)
   ·rcases az.mp z with e|z
    ·cases e
     have:k=.cell:=by simpa using hk
     subst this
     exact .inl au
    ·exact .inr z
  ·rcases zr h with z|z
   ·exact .inl (ao _ z)
   ·exact .inr z
theorem zu {α:Type}(x:Str):∀(l r:List (Str×α)),(l++r).lookup x=(l.lookup x).or (r.lookup x)
 | [],r=>by simp
 | (y,v)::l,r=>by
  rw[dQ,aY,aY]
  cases x==y with
  | true=>rfl
  | false=>exact zu x l r
noncomputable def zJ (N':List Str)(src:List (Option Nat))(scope:Scope)(XN:List Str)(xs:Scope):Bool :=
 (scope.kind==.function) &&
 (scope.names.all fun y=>!(y.2==.free)||(xs.names.lookup y.1==some .cell||xs.names.lookup y.1==some .free)) &&
 (scope.names.all fun y=>!(y.2==.local)||scope.names.lookup y.1==some .local) &&
 (scope.names.all fun y=>!(y.2==.cell)||(scope.names.all fun z=>!(z.1==y.1)||z.2==.cell)) &&
 (src.length==N'.length) &&
 ((N'.zip src).all fun y=>match y.2 with|none=>true|some j=>XN[j]?==some y.1&&scope.names.lookup y.1==some .free)
structure CompCk (N':List Str)(src:List (Option Nat))(scope:Scope)(XN:List Str)(xs:Scope):Prop where
 kind:scope.kind=.function
 fr:∀ y∈scope.names,y.2=.free->xs.names.lookup y.1=some .cell\/xs.names.lookup y.1=some .free
 loc:∀ y∈scope.names,y.2=.local->scope.names.lookup y.1=some .local
 cel:∀ y∈scope.names,y.2=.cell->∀ z∈scope.names,z.1=y.1->z.2=.cell
 len:src.length=N'.length
 sr:∀(i j:Nat) (x:Str),src[i]?=some (some j)->N'[i]?=some x->XN[j]?=some x/\scope.names.lookup x=some .free
theorem bi7 {C:List Str}{src:List (Option Nat)}{scope:Scope}{F:List Str}{G:Scope}(h:zJ C src scope F G=true):CompCk C src scope F G:=by
 unfold zJ at h
 simp only[ai]at h
 obtain⟨⟨⟨⟨⟨Z,J⟩,h3⟩,Y⟩,h5⟩,h6⟩:=h
 refine⟨by simpa using Z,fun y hy e=>?_,fun y hy e=>?_,fun y hy e z hz ez=>?_,by simpa using h5,fun i j x e1 e2=>?_⟩
 ·have:=aV.mp J y hy
  simpa [e]using this
 ·have:=aV.mp h3 y hy
  simpa [e]using this
 ·have:=aV.mp Y y hy
  simp only[e,beq_self_eq_true,Bool.not_true,jz]at this
  have:=aV.mp this z hz
  simpa [ez]using this
 ·have hm:(x,some j)∈C.zip src:=by
   refine aN (i:=i) ?_
   rw[List.getElem?_zip_eq_some]
   exact⟨e2,e1⟩
  have:=aV.mp h6 _ hm
  simpa using this
noncomputable abbrev zx (X:Cx)(N':List Str)(scope:Scope)(C:Addr)(cells:List (Str×Addr))(s:ae)(H:Hp)(ex:List Addr):Cx where
 prog:=X.prog
 w:=X.w
 K:=X.K
 mg:=X.mg
 base:=X.base
 A:=X.A
 N:=N'
 s₀:=s
 H₀:=H
 env:={ scope:=dX scope X.env,locals:=C,globals:=X.env.globals,cells:=cells,qual:=X.env.qual,func:=none,code:=X.env.code,frame:=X.env.frame,builtins:=X.env.builtins }
 outer:=X.stack
 stack:=X.stack
 ex:=ex
 fn:=fun x=>scope.names.lookup x==some .cell
 calm:=X.calm
 pn:=[]
 xe:=fun _ _=>False
def PIf (X:Cx)(ifs:List Expr)(t:TT):Prop :=
 ∀(pins:List (Addr×Obj)) (s:ae) (σ:St) (H:Hp) (Q:Bool->Hp->Prop),Inv X pins σ H s->t σ H Q ->
  wpAny (model X.prog X.w) X.A (forIn ifs true fun c r=>if r=true then do let ok <- db c X.env (eval c X.env);pure (ForInStep.yield ok)else pure (ForInStep.yield r)) (TP X pins σ Q) X.xe s
def bX3:TT:=fun _ H Q=>Q true H
theorem bj9 {X:Cx}:PIf X [] bX3:=fun _ _ _ H _ I h=>wpAny_tests_nil ⟨H,I,h⟩
theorem bv3 {X:Cx}{c:Expr}{t:TT}(h:PT X c t):PIf X [c] t:=fun y s σ H Q I hw=>wpAny_tests_one (h y s σ H Q I hw)
noncomputable def at9 (src:List (Option Nat))(σ:St):St:=src.map fun o=>match o with|none=>none|some j=>(σ[j]?).join
def tComp (src:List (Option Nat))(wi:TI)(g:TG)(tc:TT)(te:TE):TE:=fun σ H Q=>wi σ H fun J H1=>∀ D,H1 D=none ->
 ∃ W:Nat->Nat->St->Hp->Prop,(∃ m,W 0 m (at9 src σ) (upd H1 D (.lst [])))/\∀ i m σ' H',W i m σ' H' ->
  (J.stop i H'/\Q (.ref D) H')\/(J.go i H'/\∃ N:St->Hp->Prop,(∀ σ2 H2,N σ2 H2->∃ m',m'<m/\W (i+1) m' σ2 H2) /\
   ∀ x H2,J.yld i H' x H2->g x σ' H2 fun σ3 H3=>tc σ3 H3 fun b H4=>if b=true then te σ3 H4 fun v H5=>∃ ys,H5 D=some (.lst ys)/\ys.length<aC/\N σ3 (upd H5 D (.lst (ys++[v])))else N σ3 H4)
theorem zU {env:Env}:∀ {names:List (Str×bX)} {x:Str} {k:bX},names.lookup x=some k ->
  (names.map fun(n,k)=>if(k==NameKind.free&&env.scope.kind==.function&&env.kindOf n==some .cell)then(n,NameKind.cell)else(n,k)).lookup x =
   some (if(k==NameKind.free&&env.scope.kind==.function&&env.kindOf x==some .cell)then NameKind.cell else k)
 | [],_,_,h=>by simp at h
 | (n,k)::r,x,k',h=>by
  have y:=@zU env r x k'
  show jP x ((if(k==NameKind.free&&env.scope.kind==.function&&env.kindOf n==some .cell)=true then(n,NameKind.cell)else(n,k))::_)=_
  cases hx:x==n with
  | true =>
   have e:=beq_iff_eq.mp hx
   subst e
   simp only[aY,hx]at h
   cases h
   by_cases hc:(k==NameKind.free&&env.scope.kind==.function&&env.kindOf x==some .cell)=true
   ·rw[if_pos hc,if_pos hc];simp only[aY,hx]
   ·rw[if_neg hc,if_neg hc];simp only[aY,hx]
  | false =>
   simp only[aY,hx]at h
   by_cases hc:(k==NameKind.free&&env.scope.kind==.function&&env.kindOf n==some .cell)=true
   ·rw[if_pos hc];simp only[aY,hx];exact y h
   ·rw[if_neg hc];simp only[aY,hx];exact y h
theorem zP {env:Env}:∀ {names:List (Str×bX)} {x:Str},names.lookup x=none ->
  (names.map fun(n,k)=>if(k==NameKind.free&&env.scope.kind==.function&&env.kindOf n==some .cell)then(n,NameKind.cell)else(n,k)).lookup x=none
 | [],_,_=>rfl
 | (n,k)::r,x,h=>by
  have y:=@zP env r x
  show jP x ((if(k==NameKind.free&&env.scope.kind==.function&&env.kindOf n==some .cell)=true then(n,NameKind.cell)else(n,k))::_)=_
  cases hx:x==n with
  | true=>simp only[aY,hx]at h;cases h
  | false =>
   simp only[aY,hx]at h
   by_cases hc:(k==NameKind.free&&env.scope.kind==.function&&env.kindOf n==some .cell)=true
   ·rw[if_pos hc];simp only[aY,hx];exact y h
   ·rw[if_neg hc];simp only[aY,hx];exact y h
theorem ap6 {X:Cx}{N':List Str}{src:List (Option Nat)}{scope:Scope}{a4:List (Addr×Obj)}{σ:St}{H:Hp}{s s4:ae}{fp:List Addr}
  (F:CompCk N' src scope X.N X.env.scope) (I:Inv X a4 σ H s) (hf:∀ b∈fp,FpOk X a4 H b) (a6:∀ b∈fp,b<s.heap.objs.size)
  (e4:∃ tk,s4={ s with heap:=dR (s.heap.push { cls:=.type "dict",data:=.dict #[] }) scope.names,toks:=tk }) :
  Inv (zx X N' scope s.heap.objs.size (aJ (s.heap.objs.size+1) scope.names (an0 X.env.cells scope.names [])) s H fp) [] (at9 src σ) H s4:=by
 obtain⟨tk,rfl⟩:=e4
 have hk:∀ b o,s.heap.get? b=some o->(dR (s.heap.push { cls:=.type "dict",data:=.dict #[] }) scope.names).get? b=some o:=fun b o e=>cK _ _ b o (ah _ e)
 have ok:=cellsFrom_ok scope.names (s.heap.push { cls:=.type "dict",data:=.dict #[] }) (s.heap.objs.size+1) [] ⟨fun _ _ hm=>(nomatch hm),List.Pairwise.nil⟩ (by rw[bB];exact am _)
 rw[bB]at ok
 have Y:=ze scope.names (s.heap.objs.size+1) (an0 X.env.cells scope.names [])
 have lk:∀ x c,(aJ (s.heap.objs.size+1) scope.names (an0 X.env.cells scope.names [])).lookup x=some c ->
   ((x,c)∈aJ (s.heap.objs.size+1) scope.names []/\(x,NameKind.cell)∈scope.names)\/(X.env.cells.lookup x=some c/\(aJ (s.heap.objs.size+1) scope.names []).lookup x=none):=fun x c e=>by
  rw[Y,zu]at e
  cases q:(aJ (s.heap.objs.size+1) scope.names []).lookup x with
  | some d =>
   rw[q]at e
   have e':d=c:=av e
   subst e'
   have hm:=aF q
   refine .inl ⟨hm,?_⟩
   rcases zr hm with z|z
   ·exact z
   ·exact absurd z (by simp)
  | none =>
   rw[q]at e
   have e':(an0 X.env.cells scope.names []).lookup x=some c:=e
   rcases clOf_mem (aF e')with z|z
   ·exact .inr ⟨z,rfl⟩
   ·exact absurd z (by simp)
 have up:∀ x c,(x,c)∈aJ (s.heap.objs.size+1) scope.names []->s.heap.objs.size+1<=c:=fun x c h=>(ok.empty x c h).2
 have b0:∀ x c,X.env.cells.lookup x=some c->c<s.heap.objs.size:=fun x c h=>by
  obtain⟨v,q⟩:=I.cell x c h
  exact q.lt
 have a3:∀ b,b<s.heap.objs.size->b≠s.heap.objs.size:=fun b h=>aw h
 have a8:∀ b∈fp,H b=none/\b≠X.env.locals/\b ∉ X.fs:=fun b hb=>⟨(hf b hb).1,(hf b hb).2.1,(hf b hb).2.2.1⟩
 have b1:(dR (s.heap.push { cls:=.type "dict",data:=.dict #[] }) scope.names).Ns s.heap.objs.size (fun _=>none):=(jQ s.heap (.type "dict")).keeps (cK _ _)
 have Z:∀ x k,scope.names.lookup x=some k->(dX scope X.env).names.lookup x=some (if(k==NameKind.free&&X.env.scope.kind==.function&&X.env.kindOf x==some .cell)then NameKind.cell else k):=fun x k e=>zU (env:=X.env) e
 have a0:∀ x,scope.names.lookup x=none->(dX scope X.env).names.lookup x=none:=fun x e=>zP (env:=X.env) e
 have a7:∀ x c,(x,NameKind.free)∈scope.names->X.env.cells.lookup x=some c->(aJ (s.heap.objs.size+1) scope.names (an0 X.env.cells scope.names [])).lookup x=some c:=fun x c hx hc=>by
  rw[Y,zu]
  cases q:(aJ (s.heap.objs.size+1) scope.names []).lookup x with
  | some d =>
   rcases zr (aF q)with z|z
   ·have:=F.cel _ z rfl _ hx rfl
    cases this
   ·exact absurd z (by simp)
  | none=>exact az9 hc hx
 have a5:∀ x,(x,NameKind.free)∈scope.names->∃ c,X.env.cells.lookup x=some c:=fun x hx=>I.ok.has x (F.fr _ hx rfl)
 refine⟨⟨I.ok.mod,F.kind,I.ok.glob,I.ok.blt,am _,fun x y c e1 e2=>?_,fun x hx=>?_,fun x c hx e=>?_,I.ok.hd,I.ok.frames,.inl rfl,fun b hb=>⟨a3 b (a6 b hb),fun x c e z=>?_⟩,I.bs,aj I.ok.bsz I.sz,fun b o e hb=>?_,fun b hb z=>?_,I.stack,I.stkFree⟩,
  rfl,I.bare,Un.kept hk,⟨_,b1,fun i x v e1 e2 e3=>?_⟩,fun x c e=>?_,I.hok.fresh (am _),fun x c e=>?_,fun p hp=>absurd (show p∈([]:List (Addr×Obj))from hp) (by simp),I.hok.kept hk,by unfold at9;rw[ar];exact F.len⟩
 ·rcases lk x c e1 with⟨a1,_⟩|⟨a1,_⟩<;>rcases lk y c e2 with⟨a2,_⟩|⟨a2,_⟩
  ·exact fL ok.apart a1 a2
  ·exact absurd (ax (b0 _ _ a2) (eX (up _ _ a1))) (bC _)
  ·exact absurd (ax (b0 _ _ a1) (eX (up _ _ a2))) (bC _)
  ·exact I.ok.inj x y c a1 a2
 ·cases q:scope.names.lookup x with
  | none =>
   have G:(dX scope X.env).names.lookup x=some .cell\/(dX scope X.env).names.lookup x=some .free:=hx
   rw[a0 x q]at G
   rcases G with z|z<;>cases z
  | some k =>
   have G:(dX scope X.env).names.lookup x=some .cell\/(dX scope X.env).names.lookup x=some .free:=hx
   rw[Z x k q]at G
   cases k with
   | free =>
    obtain⟨c,hc⟩:=a5 x (aF q)
    exact⟨c,a7 x c (aF q) hc⟩
   | cell =>
    obtain⟨c,hc⟩:=zI (n:=s.heap.objs.size+1) q
    exact⟨c,by show(aJ _ _ _).lookup x=_;rw[Y,zu,hc];rfl⟩
   | _=>rcases G with z|z<;>cases z
 ·have G:(scope.names.lookup x==some .cell)=true:=hx
  have q:scope.names.lookup x=some .cell:=by simpa using G
  rcases lk x c e with⟨a,_⟩|⟨a,b⟩
  ·have:=up _ _ a;show s.heap.objs.size<=c;omega
  ·obtain⟨d,hd⟩:=zI (n:=s.heap.objs.size+1) q
   rw[hd]at b;cases b
 ·subst z
  rcases lk x c e with⟨a,_⟩|⟨a,_⟩
  ·exact absurd (ax (a6 c hb) (eX (up _ _ a))) (bC _)
  ·exact(hf c hb).2.2.2.2.1 x c a rfl
 ·rcases(hf b hb).2.2.2.1 with z|z
  ·exact I.ok.noex b o e z
  ·exact absurd (ax (aH e) (aj I.ok.bsz z)) (bC _)
 ·rcases az.mp (I.stkSub b z)with y|y
  ·exact(a8 b hb).2.1 y
  ·exact(a8 b hb).2.2 y
 ·have C:(at9 src σ)[i]?=some (some v):=e2
  unfold at9 at C
  rw[aG]at C
  cases q:src[i]? with
  | none=>rw[q]at C;cases C
  | some o =>
   rw[q]at C
   cases o with
   | none=>cases C
   | some j =>
    have J:(σ[j]?).join=some v:=av C
    have ej:σ[j]?=some (some v):=by
     cases q2:σ[j]? with
     | none=>rw[q2]at J;cases J
     | some o2=>rw[q2]at J;exact congrArg some J
    obtain⟨h1,h2⟩:=F.sr i j x q e1
    have hm:=aF h2
    obtain⟨mX,b3,b2⟩:=I.loc
    have a9:Vis X.env.scope x:=by
     rcases F.fr _ hm rfl with z|z
     ·exact .inr (.inl z)
     ·exact .inr (.inr z)
    obtain⟨u,ru,look⟩:=b2 j x v h1 ej a9
    refine⟨u,ru,.inr ?_⟩
    have hcell:∃ c,X.env.cells.lookup x=some c/\s.heap.IsCell c (some u):=by
     rcases look with⟨z,_⟩|⟨_,c,z1,z2⟩
     ·have z':X.env.scope.names.lookup x=some .local:=z
      rcases F.fr _ hm rfl with y|y<;>(rw[z']at y;cases y)
     ·exact⟨c,z1,z2⟩
    obtain⟨c,c1,c2⟩:=hcell
    refine⟨?_,c,a7 x c hm c1,c2.keeps hk⟩
    show(dX scope X.env).names.lookup x=some .cell\/(dX scope X.env).names.lookup x=some .free
    rw[Z x _ h2]
    by_cases hc:(NameKind.free==NameKind.free&&X.env.scope.kind==.function&&X.env.kindOf x==some .cell)=true
    ·rw[if_pos hc];exact .inl rfl
    ·rw[if_neg hc];exact .inr rfl
 ·rcases lk x c e with⟨a,_⟩|⟨a,_⟩
  ·exact⟨_,(ok.empty x c a).1⟩
  ·obtain⟨v,q⟩:=I.cell x c a
   exact⟨v,q.keeps hk⟩
 ·rcases lk x c e with⟨a,_⟩|⟨a,_⟩
  ·exact I.hok.fresh (by have:=up _ _ a;omega)
  ·exact I.freeC x c a
theorem aG3 {X:Cx}{Y:List Str}{scope:Scope}{h:List (Addr×Obj)}{σ σ':St}{H F:Hp}{s s5:ae}{C:List Addr}{cells:List (Str×Addr)}{h':Heap}
  (I:Inv X h σ H s) (hf:∀ b∈C,FpOk X h H b) (J:Inv (zx X Y scope s.heap.objs.size cells s H C) [] σ' F s5) (hs:bL s.heap.objs.size s5.heap h') :
  Inv X h σ F { s5 with heap:=h' }:=by
 have y:∀ b o,s.heap.get? b=some o->b≠s.heap.objs.size:=fun b o e=>aw (aH e)
 have u:Un (frs X.stack) C H F s.heap s5.heap:=J.base
 refine I.call' (s':={ s5 with heap:=h' }) (ch:=C) J.os ⟨fun b o e n hb hx=>?_,fun b o e n hb hx=>?_,fun b o e n hx=>u.free b o e n hx,fun b o e hx=>?_,u.tups,u.frzs,u.tbls⟩ (fun b o e=>?_) J.bare fun b hb=>⟨(hf b hb).2.2.2.1,(hf b hb).2.1,(hf b hb).2.2.2.2.1,(hf b hb).2.2.2.2.2⟩
 ·exact(hs.2 b (y b o e)).trans (u.keep b o e n hb hx)
 ·obtain⟨sl,q⟩:=u.slot b o e n hb hx
  exact⟨sl,(hs.2 b (y b o e)).trans q⟩
 ·obtain⟨G,q⟩:=u.there b o e hx
  exact⟨G,(hs.2 b (y b o e)).trans q⟩
 ·have fr:F s.heap.objs.size=none:=J.free
  refine(J.hok b o e).stay (fun c w' hc q=>(hs.2 c ?_).trans q) (fun _ q=>q) fun _ _ q=>q
  rintro rfl
  rcases hc with z|hc
  ·rw[<-z,fr]at e;cases e
  ·rw[fr]at hc;cases hc
theorem af2 {M:Model}{A:aQ}{E:Value->ae->Prop}{s:ae}{scope:Scope}{globals:Addr}{z:List (Str×Addr)}{qual:Str}{y:Env}{Q:Env->ae->Prop}
  (h:Q { scope:=scope,locals:=s.heap.objs.size,globals:=globals,cells:=aJ (s.heap.objs.size+1) scope.names z,qual:=qual,func:=none,code:=y.code,frame:=y.frame,builtins:=y.builtins }
   { s with heap:=dR (s.heap.push { cls:=.type "dict",data:=.dict #[] }) scope.names }) :
  wpAny M A (eN scope globals z [] qual none .none (some y)) Q E s:=by
 simp only[eN,ie,if_true]
 refine af (wpAny_alloc ?_)
 refine af (wpAny_layCells _ (fun name kind cells=>by cases hkc:kind==NameKind.cell<;>simp[hkc]) _ _ _ _ ?_)
 rw[show({ s with heap:=s.heap.push { cls:=.type "dict",data:=.dict #[] } }:ae).heap.objs.size=s.heap.objs.size+1 from bB ..]
 refine af ?_
 rw[dE]
 exact ay (ay h)
theorem aw1 {X':Cx}{R:jn->ae->Prop}{a1 tg iter:Expr}{a0:List Expr}{scope:Scope}{pos:Pos}{g:TG}{tc:TT}{te:TE}{J:It}{fp:List Addr}{it D:Addr}{tn:Nat->Heap->Prop}{W:Nat->Nat->St->Hp->Prop}
  {QD:Hp->Prop} {σ0:St} {H0:Hp} {s4:ae} {m0:Nat} (hx:X'.xe=fun _ _=>False) (C:X'.calm=true) (I4:Inv X' [] σ0 H0 s4) (T:Turn X'.prog X'.w X'.K tg J fp it tn) (a6:tn 0 s4.heap)
  (G:∀ H':Hp,(∀ b∈fp,H' b=none)->∀ b∈fp,FpOk X' [] H' b) (a5:∀ b∈fp,H0 b=none) (w0:W 0 m0 σ0 H0)
  (turn:∀ i m σ' H',W i m σ' H'->(J.stop i H'/\QD H')\/(J.go i H'/\∃ N:St->Hp->Prop,(∀ σ2 H2,N σ2 H2->∃ m',m'<m/\W (i+1) m' σ2 H2) /\
   ∀ x H2,J.yld i H' x H2->g x σ' H2 fun σ3 Y=>tc σ3 Y fun b H4=>if b=true then te σ3 H4 fun v H5=>∃ ys,H5 D=some (.lst ys)/\ys.length<aC/\N σ3 (upd H5 D (.lst (ys++[v])))else N σ3 H4))
  (hg:PG X' tg g) (hif:PIf X' a0 tc) (he:PE X' a1 te) (a4:∀ σ' H' s',Inv X' [] σ' H' s'->QD H'->R (.ok .next) s') :
  gP (model X'.prog X'.w) X'.A (.compLoop (.ListComp a1 [⟨tg,iter,a0,0⟩] scope pos) 0 (.ref it) (.ref D) X'.env) R s4:=by
 have nox:∀ {α:Type} {t:Sem α} {Q Q':α->ae->Prop} {E:Value->ae->Prop} {s:ae},wpAny (model X'.prog X'.w) X'.A t Q X'.xe s->(∀ a s,Q a s->Q' a s)->wpAny (model X'.prog X'.w) X'.A t Q' E s :=
  fun h hQ=>bN h hQ fun _ _ z=>by rw[hx]at z;exact z.elim
 refine aO4 (fun n s'=>∃ i σ' H',Inv X' [] σ' H' s'/\tn i s'.heap/\(∀ b∈fp,H' b=none)/\W i n σ' H') ?_ m0 ⟨0,σ0,H0,I4,a6,a5,w0⟩
 rintro n s3 ⟨i,σ3,Y,I3,a3,a2,w3⟩
 rcases turn i n σ3 Y w3 with⟨stop,qn⟩|⟨go,N,hN,step⟩
 ·refine nox (T.done X' rfl rfl rfl C i [] s3 σ3 Y X'.xe I3 (G Y a2) a3 stop) fun r s4 ⟨hr,I4⟩=>?_
  subst hr
  exact a4 σ3 Y s4 I4 qn
 ·refine nox (T.item X' rfl rfl rfl C i [] s3 σ3 Y X'.xe I3 (G Y a2) a3 go) fun r s4 ⟨u,hr,h4⟩=>?_
  subst hr
  refine nox h4 fun _ s5 ⟨x,H5,I5,r5,y5,Z,a8⟩=>?_
  have a7:=I5.pinned (G H5 a8) (T.obj _ _ Z)
  refine nox (hg _ s5 σ3 H5 x u _ a7 r5 (step x H5 y5)) fun _ s6 ⟨σ6,H6,I6,q6⟩=>?_
  have F:∀ {σ7:St} {H7:Hp} {s7:ae},Inv X' ([]++ax1 fp s5.heap) σ7 H7 s7->N σ7 H7->∃ m,m<n/\∃ i σ' H',Inv X' [] σ' H' s7/\tn i s7.heap/\(∀ b∈fp,H' b=none)/\W i m σ' H':=fun {σ7 H7 s7} I7 n7=>by
   obtain⟨m',hm,w7⟩:=hN σ7 H7 n7
   refine⟨m',hm,i+1,σ7,H7,I7.unpinned,T.keep _ _ _ Z fun b hb o e=>(I7.pin (b,o) (bo _ (bo _ (qq hb e)))).1,fun b hb=>?_,w7⟩
   obtain⟨o,e,d⟩:=T.obj _ _ Z b hb
   exact(I7.pin (b,o) (bo _ (bo _ (qq hb e)))).2.1
  refine nox (hif _ s6 σ6 H6 _ I6 q6) fun b s7 ⟨H7,I7,q7⟩=>?_
  cases b with
  | false =>
   rw[if_neg aO]at q7 ⊢
   exact F I7 q7
  | true =>
   rw[if_pos rfl]at q7 ⊢
   refine nox (he _ s7 σ6 H7 _ I7 q7) fun v s8 ⟨y,H8,I8,r8,ys,hy,hz,q8⟩=>?_
   refine nox (aw9 _ s8 σ6 H8 (.ref D) [y] (.ref D) [v] (fun _ H9=>N σ6 H9) I8 rfl (.cons r8 .nil) ⟨D,ys,y,rfl,rfl,hy,hz,q8⟩) fun v9 s9 ⟨_,H9,I9,_,q9⟩=>?_
   exact F I9 q9
theorem aV4 {X:Cx}{a5 tg iter:Expr}{a0:List Expr}{scope:Scope}{pos:Pos}{wi:TI}{g:TG}{tc:TT}{te:TE}(Z:List Str)(src:List (Option Nat))
  (a7:zJ Z src scope X.N X.env.scope=true) (hi:PI X tg iter wi) (Y:X.calm=true)
  (a9:∀(C:Addr) (cells:List (Str×Addr)) (s:ae) (H:Hp) (ex:List Addr),PG (zx X Z scope C cells s H ex) tg g/\PIf (zx X Z scope C cells s H ex) a0 tc/\PE (zx X Z scope C cells s H ex) a5 te)
  (hs:∀ x,cP iter X.env x=pure x:=by intro _;rfl):PE X (.ListComp a5 [⟨tg,iter,a0,0⟩] scope pos) (tComp src wi g tc te):=by
 intro z s σ H Q I h
 have ck:=bi7 a7
 rw[eval_ListComp]
 have a8:=af3 (scope:=scope) (env:=X.env) fun y hy e=>I.ok.has y.1 (ck.fr y hy e)
 refine fu (use:=none) rfl hs a8 ck.kind ck.loc (thn (hi z s σ H _ I h) fun v s1 h1=>thn h1 fun b3 s2 h2=>?_)
 obtain⟨it,F,tn,J,H2,e,I2,T,a2,f2,W⟩:=h2
 subst e
 have hD:=I2.fresh
 obtain⟨W,⟨m0,w0⟩,turn⟩:=W _ hD
 have I3:=I2.lnew (its:=[]) (ys:=[]) (t':=s2.toks) .nil (cz _)
 have a3:∀ b∈F,b<s2.heap.objs.size:=fun b hb=>by obtain⟨o,q,_⟩:=T.obj _ _ a2 b hb;exact aH q
 have f3:∀ b∈F,FpOk X z (upd H2 s2.heap.objs.size (.lst [])) b:=fun b hb=>⟨by rw[zm (aw (a3 b hb))];exact(f2 b hb).1,(f2 b hb).2⟩
 refine bE (af2 ?_)
 generalize G:({ s2 with heap:=s2.heap.push { cls:=.type "list",data:=.seq ([]:List Value).toArray },toks:=s2.toks }:ae)=s3 at I3
 have b2:({ s2 with heap:=s2.heap.push { cls:=.type "list",data:=.seq ([]:List Value).toArray } }:ae)=s3:=G
 have b1:∀ b∈F,b<s3.heap.objs.size:=fun b hb=>by
  rw[<-G]
  show b<(s2.heap.push _).objs.size
  rw[bB]
  exact eY (a3 b hb)
 have I4:=ap6 (s4:={ s3 with heap:=dR (s3.heap.push { cls:=.type "dict",data:=.dict #[] }) scope.names }) ck I3 f3 b1 ⟨_,rfl⟩
 have a4:tn 0 (dR (s3.heap.push { cls:=.type "dict",data:=.dict #[] }) scope.names):=T.keep _ _ _ a2 fun b hb o e=>cK _ _ b o (ah _ (by rw[<-G];exact ah _ e))
 obtain⟨hg,hif,he⟩:=a9 s3.heap.objs.size (aJ (s3.heap.objs.size+1) scope.names (an0 X.env.cells scope.names [])) s3 (upd H2 s2.heap.objs.size (.lst [])) F
 have a1:∀ H':Hp,(∀ b∈F,H' b=none)->∀ b∈F,FpOk (zx X Z scope s3.heap.objs.size (aJ (s3.heap.objs.size+1) scope.names (an0 X.env.cells scope.names [])) s3 (upd H2 s2.heap.objs.size (.lst [])) F) [] H' b:=fun H' hn b hb =>
  ⟨hn b hb,(I4.ok.exf b hb).1,I4.ok.exfs b hb,.inl hb,fun x c e=>(I4.ok.exf b hb).2 x c e,fun p hp=>absurd (show p∈([]:List (Addr×Obj))from hp) (by simp)⟩
 have T':Turn X.prog X.w X.K tg J F it tn:=T
 have b0:∀ b∈F,upd H2 s2.heap.objs.size (.lst []) b=none:=fun b hb=>(f3 b hb).1
 have L:=aw1 (X':=zx X Z scope s3.heap.objs.size (aJ (s3.heap.objs.size+1) scope.names (an0 X.env.cells scope.names [])) s3 (upd H2 s2.heap.objs.size (.lst [])) F) (R:=compPost (model X.prog X.w) X.A X.xe none (EP X z σ Q) (Value.ref s2.heap.objs.size) s3.heap.objs.size) (iter:=iter) (scope:=scope) (pos:=pos) (QD:=fun H'=>Q (.ref s2.heap.objs.size) H') rfl Y I4 T' a4 a1 b0 w0 turn hg hif he
  (fun σ' H' s' J' q=>by
   obtain⟨mm,hn,_⟩:=J'.loc
   exact⟨mm,hn,fun h' a6=>⟨.ref s2.heap.objs.size,H',aG3 I3 f3 J' a6,rfl,q⟩⟩)
 exact fU L (T.self _ _ _ _ _ a4 L)
section
variable {X:Cx}
theorem bS4:bf "abs"=some (.builtin "abs"):=by decide +kernel
theorem bN5:bf "len"=some (.builtin "len"):=by decide +kernel
theorem bx3:bf "min"=some (.builtin "min"):=by decide +kernel
theorem bN0:bf "max"=some (.builtin "max"):=by decide +kernel
theorem bM6:bf "all"=some (.builtin "all"):=by decide +kernel
theorem av7:bf "isinstance"=some (.builtin "isinstance"):=by decide +kernel
theorem bF9:bf "int"=some (.type "int"):=by decide +kernel
theorem bC7:bf "bool"=some (.type "bool"):=by decide +kernel
theorem bA3:bf "str"=some (.type "str"):=by decide +kernel
theorem aO5:bf "tuple"=some (.type "tuple"):=by decide +kernel
theorem bg7:bf "list"=some (.type "list"):=by decide +kernel
def bO9 (i j:Int):Prop:=0<j/\j<2^4096
theorem aM7 {y:Int}(h0:0<y)(h:y<2^4096):y.natAbs.log2<9000:=by
 have hn:y.natAbs<2^4096:=by
  have:(y.natAbs:Int)=y:=by omega
  have z:(y.natAbs:Int)<((2^4096:Nat):Int):=by rw[this];simpa using h
  exact iC.mp z
 have:=(Nat.log2_lt (by omega)).mpr hn
 omega
theorem aY6:OpR X (bR .FloorDiv) (rI bO9 fun i j=>.int (i / j)):=opI fun i j _ _ _ _ _ hc q=>by
 refine floordiv_int (by have:=hc.1;omega) ?_ (.inl (PyProof.noPylong_of_log2 (aM7 hc.1 hc.2)))
 rw[eI i (by have:=hc.1;omega)]
 exact q
theorem aF5 {K:ac}(h:X.K=K):IxR X (bV9 K):=by subst h;exact bs1
theorem bq9 {K:ac}(h:X.K=K):IxR X (bU2 K):=by subst h;exact ix_tup
theorem ak2 {K:ac}(h:X.K=K):ac8 X (.builtin "len") (fun y H Q=>∃ p ys,y=[.ref p]/\(SqL K H p ys\/SqT K H p ys)/\Q (.int ys.length) H):=by subst h;exact az2
theorem aD1 {K:ac}(h:X.K=K):ac8 X (.type "tuple") (fun y H Q=>∃ p ys,y=[.ref p]/\((SqL K H p ys/\∀ l,H l=none->Q (.ref l) (upd H l (.tup ys)))\/(SqT K H p ys/\Q (.ref p) H))):=by subst h;exact as0
theorem aK8 {K:ac}(h:X.K=K):ac8 X (.type "list") (fun y H Q=>∃ p ys,y=[.ref p]/\(SqL K H p ys\/SqT K H p ys)/\∀ l,H l=none->Q (.ref l) (upd H l (.lst ys))):=by subst h;exact ax8
theorem be6 {K:ac}{tg l:Expr}{h:TE}(y:X.K=K)(hl:PE X l h):PI X tg l (br0 K h):=by subst y;exact bn1 hl
theorem bs3 {K:ac}{tg l:Expr}{h:TE}(y:X.K=K)(hl:PE X l h):PI X tg l (bT2 K h):=by subst y;exact bE3 hl
theorem br5 {K:ac}{pos:Pos}{es:List Expr}{k:Nat}{t:TGs}{n:Nat}(z:X.K=K)(hc:X.calm=true)(h:PGs X es t)
  (hn:(cf es X.env).length=n:=by rfl) (y:(cf es X.env).findIdx? (·.1)=none:=by rfl):PG X (.Tuple es k pos) (bS3 K n t):=by subst z;exact bH2 hc h hn y
end
structure DefAt (K:ac)(mg:Str->Option Value)(x:Str)(st:Stmt)(ps:List Str)(f:Addr)(fd:bI):Prop where
 fn:Fun K x x st f fd
 mg:mg x=some (.ref f)
 bi:Binds K fd ps []
@[irreducible] noncomputable def bY8 (p:Prop):Prop:=p
theorem ae7.new {p:Addr}{H y:Hp}{o:HO}(h:ae7 H y)(z:y p=none):ae7 H (L2.upd y p o):=fun x o e=>by
 have e1:=h x o e
 rw[zm (zq e1 z)]
 exact e1
section
variable {prog:aI} {w:World} {A:aQ} {R:jn->ae->Prop} {I:Addr} {fp wr:List Addr} {n:Nat} {P:Nat->Value->Prop} {St:Nat->Heap->Prop} {kw:List (Str×Value)}
end
theorem ak8 (val : Nat -> Int) : ∀ k j, j <= k -> val (jj (fun i j => decide (val i < val j)) k) <= val j
  | 0, j, h => by have : j = 0 := by omega
                  subst this; exact i5 _
  | k + 1, j, h => by
    have ih := ak8 val k
    unfold jj
    by_cases hb : val (k + 1) < val (jj (fun i j => decide (val i < val j)) k)
    · rw[if_pos (by simpa using hb)]
      by_cases hj : j = k + 1
      · subst hj; exact i5 _
      · have := ih j (by omega); omega
    · rw[if_neg (by simpa using hb)]
      by_cases hj : j = k + 1
      · subst hj; omega
      · exact ih j (by omega)
theorem aS6 {ns:List Int}{its:List Value}(r:Vals (ns.map V.int) its){i:Nat}{v:Value}(h:its[i]?=some v):∃ z t,ns[i]?=some z/\v=Value.int z t:=by
 have hl:=r.length
 rw[ar]at hl
 have y:i<its.length:=(ag.mp h).1
 obtain⟨u,e1,q⟩:=r.get (i:=i) (x:=.int ns[i]) (by rw[aG,ak (by omega)];rfl)
 rw[h]at e1;cases e1
 obtain⟨t,rfl⟩:=q
 exact⟨_,t,ak (by omega),rfl⟩
inductive D where
 | non|bl (b:Bool)|int (i:Int)|str (x:Str)|tup (l:List D)|lst (l:List D)
mutual
noncomputable def D.deep:D->Nat
 | .tup l=>D.deepL l+1
 | .lst l=>D.deepL l+1
 | _=>0
noncomputable def D.deepL:List D->Nat
 | []=>0
 | d::l=>max (D.deep d) (D.deepL l)
end
section
variable {X:Cx}
end
section
variable {X:Cx}
def bS5 (K:ac):R2:=fun x y H Q=>∃ a b xs ys,x=.ref a/\y=.ref b/\SqT K H a xs/\SqT K H b ys/\xs.length+ys.length<=aC/\∀ p H',ae7 H H'->SqT K H' p (xs++ys)->(H' p=some (.tup (xs++ys))\/(p=a/\ys=[])\/(p=b/\xs=[]))->Q (.ref p) H'
theorem bm3 {prog:aI}{w:World}{A:aQ}{E:Value->ae->Prop}{s:ae}{t b:Addr}{ws:List Value}{Q:Value->ae->Prop}(ht:IsTup s.heap t ([]:List Value).toArray)(hb:IsTup s.heap b ws.toArray)(Y:Q (.ref b) s) :
  wpAny (model prog w) A (bR .Add (.ref t) (.ref b)) Q E s:=by
 obtain⟨⟨cls,dd,data,sl⟩,ho,hc,n,hd⟩:=id ht
 obtain⟨⟨J,C,G,F⟩,h,z,Z,y⟩:=id hb
 simp only at hc hd z y
 subst hc hd z y
 exact iu ⟨_,ho,rfl⟩ ⟨_,h,rfl⟩ fB hC dB dr (c6 _ _)
   (tuple_addW0 t b _ ws.toArray n Z dd C sl F rfl) ⟨ho,h,Y⟩
theorem bt2 {K:ac}(Z:X.K=K):OpR X (bR .Add) (bS5 K):=by
 subst Z
 intro C s σ H x y v u Q I F J h
 obtain⟨a,b,G,ys,e1,e2,ha,hb,hz,q⟩:=h
 by_cases hx:G=[]
 ·subst e1;subst e2;subst hx
  cases F;cases J
  obtain⟨its,r1,p1,_⟩:=I.tuple ha
  obtain⟨Y,r2,p2,_⟩:=I.tuple hb
  obtain rfl:its=[]:=r1.nil_iff.mpr rfl
  exact bm3 p1 p2 ⟨.ref b,H,I,rfl,q b H (ae7.refl H) hb (.inr (.inr ⟨rfl,rfl⟩))⟩
 ·refine bt1 C s σ H x y v u Q I F J ⟨a,b,G,ys,e1,e2,ha,hb,hx,hz,fun z=>?_,fun z p hp=>?_⟩
  ·subst z
   exact q a H (ae7.refl H) (by rw[aW];exact ha) (.inr (.inl ⟨rfl,rfl⟩))
  ·exact q p _ ((ae7.refl H).new hp) (SqT.of zo) (.inl zo)
def bX4 (K:ac):V->Option Int->Option Int->Hp->VK->Prop:=fun x lo hi H Q=>∃ a xs,x=.ref a/\SqT K H a xs/\∀ p H',ae7 H H'->SqT K H' p (aJ9 xs lo hi)->(H' p=some (.tup (aJ9 xs lo hi))\/(p=a/\aJ9 xs lo hi=xs))->Q (.ref p) H'
theorem ar5 {prog:aI}{w:World}{A:aQ}{E:Value->ae->Prop}{s:ae}{t sl:Addr}{y:Array Value}{vl vu:Value}{z F:Option Int}{Q:Value->ae->Prop}(ht:IsTup s.heap t y)(hs:s.heap.IsSliceOf sl vl vu .none)(pl:fo vl z)(pu:fo vu F)
  (hw:HT.sIx y.size 0 z=0/\HT.sIx y.size y.size F=y.size) (h:Q (.ref t) s):wpAny (model prog w) A (fM (.ref t) (.ref sl)) Q E s:=by
 obtain⟨os,Y,J,Z⟩:=id hs
 have G:s.TypeIs (.ref sl) "slice":=⟨os,Y,J⟩
 unfold fM
 try with_reducible refine dW ?_
 first|refine af (ay ?_)|skip
 refine af (iw ht.typeIs (by decide) ?_)
 refine af (bO (name:=bJ "__getitem__") ht.typeIs bp
  (cc bp ht.typeIs gU ?_ (ib _ _)))
 show wpAny _ _ (cS (.ref t) >>= _) _ _ s
 refine af (hG ht ?_)
 refine af (fN G ?_)
 rw[if_pos (by decide)]
 refine af (HT.sliceApplied_gen hs pl pu ?_)
 have C:((((HT.sIx y.size 0 z:Nat):Int)==0&&(1:Int)==1&&(HT.sIx y.size y.size F - HT.sIx y.size 0 z)==y.size)=true):=by
  rw[hw.1,hw.2]
  simp
 show wpAny _ _ (if(((HT.sIx y.size 0 z:Nat):Int)==0&&(1:Int)==1&&(HT.sIx y.size y.size F - HT.sIx y.size 0 z)==y.size)=true then _ else _) _ _ s
 rw[if_pos C]
 refine af (af (fN ht.typeIs (ay ?_)))
 rw[if_pos (by decide)]
 exact af (fV (ay ⟨_,rfl,ay h⟩))
theorem ap1 {y:List V}{z C:Option Int}(h:HT.sIx y.length 0 z=0/\HT.sIx y.length y.length C=y.length):aJ9 y z C=y:=by
 unfold aJ9
 rw[h.1,h.2]
 simp
theorem bu0 {K:ac}(Z:X.K=K):SlR X (bX4 K):=by
 subst Z
 intro C s σ H x v vl vu J F sl Q I Y hs G pu h
 obtain⟨a,y,e1,hx,q⟩:=h
 by_cases hw:HT.sIx y.length 0 J=0/\HT.sIx y.length y.length F=y.length
 ·subst e1
  cases Y
  obtain⟨its,r,ht,hz⟩:=I.tuple hx
  have z:its.toArray.size=y.length:=by rw[aq];exact r.length.symm
  refine⟨"tuple",_,bp.lookup,ht.typeIs,?_⟩
  exact ar5 ht hs G pu (by rw[z];exact hw) ⟨.ref a,H,I,rfl,q a H (ae7.refl H) (by rw[ap1 hw];exact hx) (.inr ⟨rfl,ap1 hw⟩)⟩
 ·exact bA5 C s σ H x v vl vu J F sl Q I Y hs G pu ⟨a,y,e1,hx,hw,fun p hp=>q p _ ((ae7.refl H).new hp) (SqT.of zo) (.inl zo)⟩
theorem aZ6 {K:ac}(h:X.K=K):SlR X (bT6 K):=by subst h;exact bp4
end
noncomputable def Its (x:Str):It:=⟨fun i _=>i<x.cps.size,fun i H v H'=>H'=H/\∃ c,x.cps[i]?=some c/\v=.str ⟨#[c]⟩,fun i _=>x.cps.size<=i⟩
theorem aE8 {P:aI}{w:World}{K:ac}{tg:Expr}{F:String}{x:Str}{t:Tok}(it:Addr)(hn:["enumerate", "zip", "dict_itemiterator", "dict_reverseitemiterator", "odict_iterator", "itertools.zip_longest", "itertools.pairwise"].contains F=false)
  (W:∀ A:aQ,A.handled=none->Walks P w A it [it] [it] x.cps.size (SignAt x) (fun i h=>h.IsStrIter it F x t i))
  (G:∀(A:aQ) (s:ae) (i:Nat) (Q:Option Value->ae->Prop) (E:Value->ae->Prop),A.handled=none->s.heap.IsStrIter it F x t i->x.cps[i]?=none->(∀ h',eZ it s.heap h'->Q none { s with heap:=h' })->wpAny (model P w) A (jm (.ref it)) Q E s)
  (C:∀(A:aQ) (i:Nat) (s:ae) (Q:Value->ae->Prop) (E:Value->ae->Prop),s.heap.IsStrIter it F x t i->Q (.ref it) s->wpAny (model P w) A (iK (.ref it)) Q E s):Turn P w K tg (Its x) [it] it (fun i h=>h.IsStrIter it F x t i) where
 mem:=by simp
 obj:=fun i h st b hb=>by
  have e:b=it:=by simpa using hb
  subst e
  obtain⟨o,ho,hc,hd⟩:=st
  exact⟨o,ho,fun v z=>by rw[hd]at z;cases z⟩
 keep:=fun i h h' st k=>by
  obtain⟨o,ho,r⟩:=st
  exact⟨o,k it (by simp) _ ho,r⟩
 item:=by
  intro X hP hw hK hc i y s σ H E I hf st hg
  subst hP hw hK
  obtain⟨f0,f1,f2,f3,Y,f5⟩:=hf it (by simp)
  refine(W X.A (I.ok.hd hc)).item i s _ _ hg st fun v h' tk hv J kk=>?_
  obtain⟨c,u,Z,rfl⟩:=hv
  have I1:Inv X y σ H { s with heap:=h',toks:=tk }:=I.turned (fun b o hb e=>kk b o (by simpa using hb) e) f0 f1 f3 Y f5
  obtain⟨o,ho,a0,hd⟩:=id J
  exact⟨_,rfl,ba8 (s:={ s with heap:=h',toks:=tk }) (n:=F) ho a0 hd hn ⟨.str ⟨#[c]⟩,H,I1,⟨u,rfl⟩,⟨rfl,c,Z,rfl⟩,J,fun b hb=>(hf b hb).1⟩⟩
 done:=by
  intro X hP hw hK hc i y s σ H E I hf st hg
  subst hP hw hK
  obtain⟨f0,f1,f2,f3,Y,f5⟩:=hf it (by simp)
  have a1:x.cps.size<=i:=hg
  exact G X.A s i _ E (I.ok.hd hc) st (by simp;omega) fun h' eb=>⟨rfl,I.turned (t':=s.toks) (fun b o hb e=>eb b o hb e) f0 f1 f3 Y f5⟩
 self:=fun A i s Q E st h=>C A i s Q E st h
def bV5 (tl:TE):TI:=fun σ H R=>tl σ H fun v H1=>∃ x,v=.str x/\R (Its x) H1
theorem bx4 {X:Cx}{tg l:Expr}{J:TE}(hl:PE X l J):PI X tg l (bV5 J):=by
 intro y s σ H R I h
 refine thn (hl y s σ H _ I h) fun v s1 ⟨v0,H1,C,r1,Y⟩=>?_
 obtain⟨x,e,q⟩:=Y
 subst e
 obtain⟨t,rfl⟩:=r1
 have fin:∀(G:String) (o:Obj),o={ cls:=.type G,data:=.fields #[.str x t,.int 0 0] }->Turn X.prog X.w X.K tg (Its x) [s1.heap.objs.size] s1.heap.objs.size (fun i h=>h.IsStrIter s1.heap.objs.size G x t i)->PIE X y σ tg R (.ref s1.heap.objs.size) { s1 with heap:=s1.heap.push o }:=fun G o Z T=>by
  subst Z
  refine⟨s1.heap.objs.size,[s1.heap.objs.size],_,_,H1,rfl,C.kept (t':=s1.toks) fun b o e=>ah _ e,T,⟨_,aK _ rfl,rfl,rfl⟩,fun b hb=>?_,q⟩
  have e:b=s1.heap.objs.size:=by simpa using hb
  subst e
  exact C.fpOk (am _) (C.hok.fresh (am _))
 cases ha:x.cps.all (·<128)
 ·exact wpAny_pyIter_wide ha (fin "str_iterator" _ rfl (aE8 _ (by decide) (fun A z=>Walks.strWide z _ x t) (fun A s i Q E z st hx F=>wpAny_pyNext_wide_end z st hx F) fun A i s Q E st h=>wpAny_pyIter_striter_wide st h))
 ·exact wpAny_pyIter_ascii ha (fin "str_ascii_iterator" _ rfl (aE8 _ (by decide) (fun A z=>Walks.strAscii z _ x t) (fun A s i Q E z st hx F=>wpAny_pyNext_ascii_end z st hx F) fun A i s Q E st h=>wpAny_pyIter_striter_ascii st h))
section
variable {X:Cx} {K:ac} {T id:String} {name:Str} {o e:Expr} {es:List Expr} {to:TE} {t:TA} {r:V->List V->Hp->VK->Prop} {apos cpos:Pos}
theorem aH8 (J:X.K=K)(pa:jp T)(slot:Slot T name id)(F:typeOf (.builtin id)=pure (.type "method_descriptor"))(G:MtR X id r)(ho:PE X o to)(ha:PA X (e::es) t)
  (z:ft o name X.env (eval o X.env)=eval o X.env:=by rfl)
  (C:((d5 cpos (br (e::es) X.env)).all (fun x=>!x.1)&&(backToKw cpos (keywordEach [] X.env)).all (fun x=>x.1.isSome)
   && decide ((e::es).length+([]:List jh).length+(if([]:List jh).isEmpty then 0 else 1)<30))=true:=by rfl)
  (y:(apos.endLine==cpos.line)=true:=by rfl) (hs:br (e::es) X.env=(false,eval e X.env)::br es X.env:=by rfl) (h:(d5 cpos (br es X.env)).any (·.1)=false:=by rfl) :
  PE X (.Call (.Attribute o name apos) (e::es) [] cpos) (tBM K T r to t):=by
 subst J
 exact bP5 pa slot F G ho ha z C y hs h
end
structure Mach where
 letters:Int
 rooms:Int
 begins:List Int
 ends:List Int
 doors:List (Int×Str×Int×Int)
noncomputable def bN4 (q:Int×Str×Int×Int):D:=.tup [.int q.1,.str q.2.1,.int q.2.2.1,.int q.2.2.2]
noncomputable def Mach.D (M:Mach):D:=.tup [.int M.letters,.int M.rooms,.tup (M.begins.map .int),.tup (M.ends.map .int),.tup (M.doors.map bN4)]
noncomputable def ltr (i:Nat):Str:=⟨#[97+i]⟩
structure DoorOk (letters rooms:Int)(q:Int×Str×Int×Int):Prop where
 s0:0<=q.1
 s1:q.1<rooms
 l:∃ i:Nat,(i:Int)<letters/\q.2.1=ltr i
 g0:0<=q.2.2.1
 g1:q.2.2.1<rooms
 t0:0<=q.2.2.2
 t1:q.2.2.2<=3
structure RoomsOk (rooms:Int)(l:List Int):Prop where
 mem:∀ r∈l,0<=r/\r<rooms
 up:l.Pairwise (· < ·)
structure Mach.Ok (most:Nat)(M:Mach):Prop where
 l0:1<=M.letters
 l1:M.letters<=3
 r0:1<=M.rooms
 r1:M.rooms<=5
 b:RoomsOk M.rooms M.begins
 e:RoomsOk M.rooms M.ends
 d:∀ q∈M.doors,DoorOk M.letters M.rooms q
 m:M.doors.length<=most
mutual
noncomputable def D.tups:D->Bool
 | .lst _=>false
 | .tup l=>D.tupsL l
 | _=>true
noncomputable def D.tupsL:List D->Bool
 | []=>true
 | d::l=>D.tups d&&D.tupsL l
end
end L2
end
noncomputable section
namespace L2
end L2
end
noncomputable section
namespace L2
open PySem PySem.Spec PyProof.Rows
noncomputable def minO:List Int->Option Int
 | []=>none
 | a::l=>some (match minO l with|none=>a|some b=>if b<a then b else a)
theorem aL1 {X:Cx}{Z tg iter:Expr}{Y:List Expr}{scope:Scope}{pos a0 py:Pos}{y:Str}{i:Nat}{wi:TI}{g:TG}{tc:TT}{te:TE}(N':List Str)(src:List (Option Nat))
  (hN:X.N.Nodup) (a9:X.N[i]?=some y) (a7:X.env.scope.names.lookup y=some .local)
  (b4:zJ N' src scope X.N X.env.scope=true) (hi:PI X tg iter wi) (a1:X.calm=true)
  (b1:∀(C:Addr) (cells:List (Str×Addr)) (s:ae) (H:Hp) (ex:List Addr),PG (zx X N' scope C cells s H ex) tg g/\PIf (zx X N' scope C cells s H ex) Y tc/\PE (zx X N' scope C cells s H ex) Z te)
  (hs:∀ x,cP iter X.env x=pure x:=by intro _;rfl)
  (b0:eD (.ListComp Z [⟨tg,iter,Y,0⟩] scope pos) (some (.Name y py)) a0.line X.env=pure true:=by rfl) :
  PS X (.Assign [.Name y py] (.ListComp Z [⟨tg,iter,Y,0⟩] scope pos) a0) (bd4 (tComp src wi g tc te) (au1 i)):=by
 intro F s σ H D0 I h
 have ck:=bi7 b4
 rw[exec_Assign_Name_used _ _ _ _ b0]
 refine af (g8 (af ?_))
 show wpAny _ X.A (do let _ <- comprehension (.ListComp Z [⟨tg,iter,Y,0⟩] scope pos) scope X.env _ (newList []) false (eval iter X.env) (some (fJ (.Name y py) X.env))) _ _ s
 have a8:=af3 (scope:=scope) (env:=X.env) fun y hy e=>I.ok.has y.1 (ck.fr y hy e)
 refine af (bN (fu (use:=some (fJ (.Name y py) X.env)) (Q:=fun _ s'=>SP X F D0 .next s') rfl hs a8 ck.kind ck.loc (thn (hi F s σ H _ I h) fun v s1 h1=>thn h1 fun c1 s2 h2=>?_)) (fun _ s' hq=>ay (ay hq)) fun _ _ e=>e)
 obtain⟨it,G,tn,J,H2,e,I2,T,a3,f2,W⟩:=h2
 subst e
 have hD:=I2.fresh
 obtain⟨W,⟨m0,w0⟩,turn⟩:=W _ hD
 have I3:=I2.lnew (its:=[]) (ys:=[]) (t':=s2.toks) .nil (cz _)
 have a5:∀ b∈G,b<s2.heap.objs.size:=fun b hb=>by obtain⟨o,q,_⟩:=T.obj _ _ a3 b hb;exact aH q
 have f3:∀ b∈G,FpOk X F (upd H2 s2.heap.objs.size (.lst [])) b:=fun b hb=>⟨by rw[zm (aw (a5 b hb))];exact(f2 b hb).1,(f2 b hb).2⟩
 refine bE (af2 ?_)
 generalize a2:({ s2 with heap:=s2.heap.push { cls:=.type "list",data:=.seq ([]:List Value).toArray },toks:=s2.toks }:ae)=s3 at I3
 have b6:({ s2 with heap:=s2.heap.push { cls:=.type "list",data:=.seq ([]:List Value).toArray } }:ae)=s3:=a2
 have b5:∀ b∈G,b<s3.heap.objs.size:=fun b hb=>by
  rw[<-a2]
  show b<(s2.heap.push _).objs.size
  rw[bB]
  exact eY (a5 b hb)
 have I4:=ap6 (s4:={ s3 with heap:=dR (s3.heap.push { cls:=.type "dict",data:=.dict #[] }) scope.names }) ck I3 f3 b5 ⟨_,rfl⟩
 have a6:tn 0 (dR (s3.heap.push { cls:=.type "dict",data:=.dict #[] }) scope.names):=T.keep _ _ _ a3 fun b hb o e=>cK _ _ b o (ah _ (by rw[<-a2];exact ah _ e))
 obtain⟨hg,hif,he⟩:=b1 s3.heap.objs.size (aJ (s3.heap.objs.size+1) scope.names (an0 X.env.cells scope.names [])) s3 (upd H2 s2.heap.objs.size (.lst [])) G
 have a4:∀ H':Hp,(∀ b∈G,H' b=none)->∀ b∈G,FpOk (zx X N' scope s3.heap.objs.size (aJ (s3.heap.objs.size+1) scope.names (an0 X.env.cells scope.names [])) s3 (upd H2 s2.heap.objs.size (.lst [])) G) [] H' b:=fun H' hn b hb =>
  ⟨hn b hb,(I4.ok.exf b hb).1,I4.ok.exfs b hb,.inl hb,fun x c e=>(I4.ok.exf b hb).2 x c e,fun p hp=>absurd (show p∈([]:List (Addr×Obj))from hp) (by simp)⟩
 have T':Turn X.prog X.w X.K tg J G it tn:=T
 have b2:∀ b∈G,upd H2 s2.heap.objs.size (.lst []) b=none:=fun b hb=>(f3 b hb).1
 have L:=aw1 (X':=zx X N' scope s3.heap.objs.size (aJ (s3.heap.objs.size+1) scope.names (an0 X.env.cells scope.names [])) s3 (upd H2 s2.heap.objs.size (.lst [])) G) (R:=compPost (model X.prog X.w) X.A X.xe (some (fJ (.Name y py) X.env)) (fun _ s'=>SP X F D0 .next s') (Value.ref s2.heap.objs.size) s3.heap.objs.size) (iter:=iter) (scope:=scope) (pos:=pos) (QD:=fun H'=>D0.nx (σ.set i (some (.ref s2.heap.objs.size))) H') rfl a1 I4 T' a6 a4 b2 w0 turn hg hif he
  (fun σ' H' s' J' q=>by
   have J2:=aG3 I3 f3 J' (Heap.SameBut.refl _ _)
   obtain⟨mm,hn,_⟩:=J'.loc
   have nL:s3.heap.objs.size≠X.env.locals:=b7 I3.lt
   have nC:∀ x c,X.env.cells.lookup x=some c->c≠s3.heap.objs.size:=fun x c e=>by
    obtain⟨v,z⟩:=I3.cell x c e
    exact aw z.lt
   show wpAny _ X.A (fJ (.Name y py) X.env (.ref s2.heap.objs.size)) _ _ _
   refine il (aw6 (v:=.ref s2.heap.objs.size) J2 hN a9 (.inl a7) rfl (fun s5 I5 sb=>?_) (.inr a7))
   obtain⟨aa,sb,ha⟩:=sb
   have na:s3.heap.objs.size≠aa:=by
    rcases ha with z|z
    ·rw[z];exact nL
    ·exact fun e=>nC _ _ z e.symm
   refine⟨mm,hn.sameBut sb na,fun h' b3=>⟨_,H',I5.turned (t':=s5.toks) (fun b o hb e=>(b3.2 b hb).trans e) J'.free nL (.inr I3.sz) nC fun p hp z=>?_,q⟩⟩
   exact absurd (aH (I3.pin p hp).1) (by rw[z];exact bC _))
 exact fU L (T.self _ _ _ _ _ a6 L)
def bY6:V->Option Int->Option Int->Hp->VK->Prop:=fun x lo hi H Q=>∃ z,x=.str z/\z.length<=aC/\Q (.str (ed z lo hi)) H
theorem az3 {v:Value}{o:Option Int}(p:fo v o):∃ q:Option (Int×Tok),v=partValue q/\q.map (·.1)=o:=by
 cases p with
 | none=>exact⟨none,rfl,rfl⟩
 | int i t=>exact⟨some (i,t),rfl,rfl⟩
theorem bH0 {X:Cx}:SlR X bY6:=by
 intro Y s σ H x v vl vu G C sl Q I rx hs Z pu h
 obtain⟨z,rfl,hz,q⟩:=h
 obtain⟨t,rfl⟩:=rx
 obtain⟨l,rfl,el⟩:=az3 Z
 obtain⟨u,rfl,eu⟩:=az3 pu
 refine⟨"str",_,F.slot_str_getitem.lookup,dP s z t,?_⟩
 refine wpAny_getItem_str_slice (l:=l) (u:=u) (st:=none) hs rfl ?_
 unfold sliceMade
 have e:slicePicked z l u none=bq G C 1 z.length:=by
  unfold slicePicked
  rw[el,eu]
  rfl
 rw[e]
 unfold ed at q
 split
 ·rename_i hc
  have y:((1:Int)==1&&(bq G C 1 z.length).length==z.length)=true:=hc
  rw[if_pos y]at q
  exact⟨.str z,H,I,⟨t,rfl⟩,q⟩
 ·rename_i hc
  have y:¬((1:Int)==1&&(bq G C 1 z.length).length==z.length)=true:=hc
  rw[if_neg y]at q
  have J:(Str.mk (gG (fun x=>z.cps[x]?) (bq G C 1 z.length)).toArray).length<=aC:=by
   show(gG (fun x=>z.cps[x]?) (bq G C 1 z.length)).toArray.size<=aC
   rw[aq]
   exact aj (List.length_filterMap_le _ _) (aj (sliceIndices_le G C z.length) hz)
  exact⟨J,.str _,H,I.tok _,⟨_,rfl⟩,q⟩
section
variable {M:Model} {A:aQ} {E:Value->ae->Prop} {s₀ s:ae} {m cm:Str->Option Value} {env:Env} {cs:List (Str×Addr)}
theorem bl0 {n:Str}{v:Value}{Q:Unit->ae->Prop}(z:eW s₀ env.locals m cs cm s)(h:env.scope.kind=.function)(kl:env.kindOf n=some .local)
  (go:∀ s',eW s₀ env.locals (fun y=>if y=n then some v else m y) cs cm s'->Q () s'):wpAny M A (gO env n v) Q E s:=by
 refine gk kl z.toInCall.ns (fun g C gs=>go _ ⟨⟨?a,C,fun b o e=>?b,z.toInCall.fresh⟩,fun k c e=>?c,z.apart,z.above⟩) (by rw[h];rfl)
 case a=>obtain⟨F,tk,e⟩:=z.toInCall.same;subst e;exact⟨g,_,rfl⟩
 case b=>exact gs.extBut b o (aw (ax (aH e) z.toInCall.fresh)) (z.toInCall.keep b o e)
 case c=>exact(z.cell k c e).sameBut gs (b7 (z.above k c (aF e)))
theorem bo9 {n:Str}{c:Addr}{v:Value}{Q:Unit->ae->Prop}(z:eW s₀ env.locals m cs cm s)(h:env.scope.kind=.function)(C:env.kindOf n=some .cell)
  (e1:env.cells.lookup n=some c) (e2:cs.lookup n=some c) (go:∀ s',eW s₀ env.locals m cs (fun y=>if y=n then some v else cm y) s'->Q () s'):wpAny M A (gO env n v) Q E s:=by
 have up:=z.above n c (aF e2)
 refine gC h C e1 (z.cell n c e2) fun g F gs=>go _ ⟨⟨?a,z.toInCall.ns.sameBut gs (aw up),fun b o e=>?b,z.toInCall.fresh⟩,fun k G e=>?c,z.apart,z.above⟩
 case a=>obtain⟨J,tk,e⟩:=z.toInCall.same;subst e;exact⟨g,_,rfl⟩
 case b=>exact gs.extBut b o (aw (fW (ax (aH e) z.toInCall.fresh) up)) (z.toInCall.keep b o e)
 case c =>
  by_cases q:k=n
  ·subst q
   rw[e2]at e;cases e
   simpa using F
  ·rw[if_neg q]
   exact(z.cell k G e).sameBut gs fun y=>q (fL z.apart (aF e) (y▸aF e2))
theorem aC2 (f:Str×Value->PUnit->Sem (ForInStep PUnit))(hf:∀ n v u,f (n,v) u=(do gO env n v;pure (.yield ⟨⟩)))(F:env.scope.kind=.function)(sub:∀ n c,cs.lookup n=some c->env.cells.lookup n=some c) :
  ∀(bs:List (Str×Value)) (m G:Str->Option Value) (s:ae) (Q:PUnit->ae->Prop),eW s₀ env.locals m cs G s ->
   (∀ y∈bs,env.kindOf y.1=some .local\/(env.kindOf y.1=some .cell/\∃ c,cs.lookup y.1=some c)) ->
   (∀ s',eW s₀ env.locals (bindL env.kindOf bs m) cs (bindC env.kindOf bs G) s'->Q ⟨⟩ s')->wpAny M A (forIn bs ⟨⟩ f) Q E s
 | [],m,G,s,Q,z,_,go=>by rw[dE];exact ay (go s z)
 | (n,v)::r,m,G,s,Q,z,hy,go=>by
  rw[d9,hf]
  have hr:=fun y (q:y∈r)=>hy y (ao _ q)
  rcases hy (n,v) au with kl|⟨Y,c,e2⟩
  ·refine af (af (bl0 z F kl fun s' J=>ay (aC2 f hf F sub r _ _ s' Q J hr fun C h=>go C ?_)))
   unfold bindL bindC;rw[if_pos kl,if_pos kl];exact h
  ·have Z:¬ env.kindOf n=some .local:=by rw[Y];decide
   refine af (af (bo9 z F Y (sub n c e2) e2 fun s' J=>ay (aC2 f hf F sub r _ _ s' Q J hr fun C h=>go C ?_)))
   unfold bindL bindC;rw[if_neg Z,if_neg Z];exact h
end
theorem ap3 {M:Model}{A:aQ}{E:Value->ae->Prop}{s:ae}{scope:Scope}{globals:Addr}{h:List (Str×Addr)}{binds:List (Str×Value)}{qual:Str}{func:Option Addr}{code:Value}{builtins:Addr}{Q:Env->ae->Prop}
  (F:scope.kind=.function) (hy:∀ y∈binds,scope.names.lookup y.1=some .local\/(scope.names.lookup y.1=some .cell/\∃ c,(aJ (s.heap.objs.size+1) scope.names []).lookup y.1=some c))
  (go:∀ env,env=newEnv scope s.heap.objs.size globals (aJ (s.heap.objs.size+1) scope.names h) qual func code none builtins ->
   ∀ s',eW s env.locals (bindL env.kindOf binds fun _=>none) (aJ (s.heap.objs.size+1) scope.names []) (bindC env.kindOf binds fun _=>none) s'->Q env s') :
  wpAny M A (eN scope globals h binds qual func code none builtins) Q E s:=by
 simp only[eN,Option.isSome_none,di,if_false]
 refine af (wpAny_alloc (af (wpAny_layCells _ (fun G kd J=>by cases q:kd==NameKind.cell<;>simp[q]) _ _ _ _ ?_)))
 have ok:=cellsFrom_ok scope.names (s.heap.push { cls:=.type "frame",data:=.dict #[] }) (s.heap.objs.size+1) [] ⟨fun _ _ C=>(nomatch C),List.Pairwise.nil⟩ (by rw[bB];exact am _)
 have z:({ s with heap:=s.heap.push { cls:=.type "frame",data:=.dict #[] } }:ae).heap.objs.size=s.heap.objs.size+1:=bB ..
 rw[bB]at ok
 rw[z]
 refine af (aC2 (s₀:=s) (cs:=aJ (s.heap.objs.size+1) scope.names []) (env:=newEnv scope s.heap.objs.size globals (aJ (s.heap.objs.size+1) scope.names h) qual func code none builtins)
  _ (fun _ _ _=>rfl) F (fun n c e=>?sub) binds (fun _=>none) (fun _=>none) _ _ ⟨⟨⟨_,_,rfl⟩,?ns,fun b o e=>?k,am _⟩,fun n c e=>(ok.empty n c (aF e)).1,ok.apart,fun n c e=>(ok.empty n c e).2⟩ hy fun s' x=>ay (go _ rfl s' x))
 case sub =>
  show(aJ _ _ _).lookup n=some c
  rw[ze,zu,e];rfl
 case ns=>exact(jQ s.heap (.type "frame")).keeps (cK _ _)
 case k=>exact cK _ _ b o (ah _ e)
noncomputable def av3 (c:Addr)(qual:Str):HO:=.ext fun h=>h.CodeRec (.ref c) qual
noncomputable def bv5 (f:Addr)(fd:bI):HO:=.ext fun h=>h.get? f=some { cls:=.type "function",data:=.func fd }
theorem av2 {P:aI}{w:World}{H:Hp}{h:Heap}{c:Addr}{q:Str}(x:HOk P w H h)(e:H c=some (av3 c q)):h.CodeRec (.ref c) q:=(x c _ e).1
theorem as2 {P:aI}{w:World}{H:Hp}{h:Heap}{f:Addr}{y:bI}(x:HOk P w H h)(e:H f=some (bv5 f y)):h.get? f=some { cls:=.type "function",data:=.func y }:=(x f _ e).1
noncomputable def isC (cells:List (Str×Addr))(b:Addr):Bool:=cells.any fun p=>cells.lookup p.1==some b
theorem aT8 {cells:List (Str×Addr)}{b:Addr}:isC cells b=true↔∃ x,cells.lookup x=some b:=by
 unfold isC
 rw[iR]
 constructor
 ·rintro⟨p,_,e⟩;exact⟨p.1,by simpa using e⟩
 ·rintro⟨x,e⟩;exact⟨(x,b),aF e,by simpa using e⟩
noncomputable def ac4 (cells:List (Str×Addr))(H:Hp):Hp:=fun b=>if isC cells b=true then none else H b
noncomputable def Put (cells:List (Str×Addr))(H H':Hp):Hp:=fun b=>if isC cells b=true then H b else H' b
theorem ac4.cell {cells:List (Str×Addr)}{H:Hp}{b:Addr}(h:isC cells b=true):ac4 cells H b=none:=if_pos h
theorem ac4.ne {cells:List (Str×Addr)}{H:Hp}{b:Addr}(h:isC cells b≠true):ac4 cells H b=H b:=if_neg h
theorem ac4.some {cells:List (Str×Addr)}{H:Hp}{b:Addr}{o:HO}(h:ac4 cells H b=some o):isC cells b≠true/\H b=some o:=by
 unfold ac4 at h
 split at h
 ·cases h
 ·rename_i z;exact⟨z,h⟩
theorem ac4.none {cells:List (Str×Addr)}{H:Hp}{b:Addr}(h:H b=none):ac4 cells H b=none:=by
 unfold ac4
 split
 ·rfl
 ·exact h
theorem Put.cell {cells:List (Str×Addr)}{H H':Hp}{b:Addr}(h:isC cells b=true):Put cells H H' b=H b:=if_pos h
theorem Put.ne {cells:List (Str×Addr)}{H H':Hp}{b:Addr}(h:isC cells b≠true):Put cells H H' b=H' b:=if_neg h
def Cells (clos:List (Str×Addr))(H:Hp):Prop:=∀ x c,clos.lookup x=some c->∃ o v,H c=some (.frz o (.own c))/\o.data=.cell v
theorem Cells.at {y:List (Str×Addr)}{H:Hp}(z:Cells y H){b:Addr}(h:isC y b=true):∃ o v,H b=some (.frz o (.own b))/\o.data=.cell v:=by
 obtain⟨x,e⟩:=aT8.mp h
 exact z x b e
def Cap (clos:List (Str×Addr))(H:Hp)(fr:List Str)(cap:List V):Prop:=∀(i:Nat) (x:Str) (v:V),fr[i]?=some x->cap[i]?=some v->∃ c o u,clos.lookup x=some c/\H c=some (.frz o (.own c))/\o.data=.cell (some u)/\RelV v u
structure LamScope (N ps fr:List Str)(sc:Scope):Prop where
 kind:sc.kind=.function
 co:sc.isCoroutine=false
 gen:sc.isGenerator=false
 nd:N.Nodup
 app:N=ps++fr
 par:∀ x∈ps,sc.names.lookup x=some .local\/sc.names.lookup x=some .cell
 frs:∀ x∈fr,sc.names.lookup x=some .free
 cel:∀ y∈sc.names,y.2=.cell->sc.names.lookup y.1=some .cell
noncomputable def aD2 (P:aI)(w:World)(K:ac)(mg:Str->Option Value)(base:Heap)(N:List Str)(qual:Str)(scope:Scope)(f:Addr)(cd:Value)(clos:List (Str×Addr))(A:aQ)(outer:List Env)(s:ae)(H:Hp):Cx where
 prog:=P
 w:=w
 K:=K
 mg:=mg
 base:=base
 A:=A.deeper (cH qual scope s.heap.objs.size f cd (aJ (s.heap.objs.size+1) scope.names clos))
 N:=N
 s₀:=s
 H₀:=ac4 clos H
 env:=cH qual scope s.heap.objs.size f cd (aJ (s.heap.objs.size+1) scope.names clos)
 outer:=outer
 stack:=cH qual scope s.heap.objs.size f cd (aJ (s.heap.objs.size+1) scope.names clos)::outer
 ex:=[]
 fn:=fun x=>scope.names.lookup x==some .cell
 calm:=true
 pn:=[]
 xe:=fun _ _=>False
theorem HOk.drop {P:aI}{w:World}{H:Hp}{h:Heap}{C:List (Str×Addr)}(x:HOk P w H h)(z:Cells C H):HOk P w (ac4 C H) h:=fun b o e=>by
 obtain⟨_,e'⟩:=ac4.some e
 have F:∀ c u,H c=some u->(∀ o v,u≠.frz o v)->isC C c≠true:=fun c u q d y=>by
  obtain⟨o,v,G,_⟩:=z.at y
  rw[q]at G;cases G
  exact d _ _ rfl
 exact(x b o e').stay (fun _ _ _ q=>q) (fun c q=>by rw[ac4.ne (F c _ q fun _ _=>by nofun)];exact q) fun c J q=>by rw[ac4.ne (F c _ q fun _ _=>by nofun)];exact q
theorem aU5 {P:aI}{w:World}{K:ac}{mg:Str->Option Value}{base:Heap}{N ps fr:List Str}{qual:Str}{scope:Scope}{f:Addr}{cd:Value}{h:List (Str×Addr)}{A:aQ}{C:List Env}{s s1:ae}{H:Hp}{us:List Value}{vs cap:List V}
  (S:LamScope N ps fr scope) (hd:A.handled=none) (F:Env0 P w K mg base A C s H) (hl:vs.length=ps.length) (a3:cap.length=fr.length) (r:Vals vs us)
  (hc:Cells h H) (inj:∀ x y c,h.lookup x=some c->h.lookup y=some c->x=y) (a2:∀ x,scope.names.lookup x=some .free->∃ c,h.lookup x=some c) (Z:Cap h H fr cap)
  (x:eW s s.heap.objs.size (bindL (cH qual scope s.heap.objs.size f cd (aJ (s.heap.objs.size+1) scope.names h)).kindOf (ps.zip us) fun _=>none) (aJ (s.heap.objs.size+1) scope.names [])
   (bindC (cH qual scope s.heap.objs.size f cd (aJ (s.heap.objs.size+1) scope.names h)).kindOf (ps.zip us) fun _=>none) s1) :
  Inv (aD2 P w K mg base N qual scope f cd h A C s H) [] (vs.map some++cap.map some) (ac4 h H) s1:=by
 obtain⟨h1,tk,rfl,hk⟩:=x.done
 have J:∀ b:Addr,b ∉ (aD2 P w K mg base N qual scope f cd h A C s H).ex:=fun b z=>absurd (show b∈([]:List Addr)from z) (by simp)
 have lk:∀ y c,(aJ (s.heap.objs.size+1) scope.names h).lookup y=some c->(aJ (s.heap.objs.size+1) scope.names []).lookup y=some c\/((aJ (s.heap.objs.size+1) scope.names []).lookup y=none/\h.lookup y=some c):=fun y c e=>by
  rw[ze,zu]at e
  cases q:(aJ (s.heap.objs.size+1) scope.names []).lookup y with
  | some d=>rw[q]at e;left;simpa using e
  | none=>rw[q]at e;right;exact⟨rfl,by simpa using e⟩
 have own:∀ y c,(aJ (s.heap.objs.size+1) scope.names []).lookup y=some c->s.heap.objs.size<c:=fun y c e=>x.above y c (aF e)
 have a0:∀ y c,h.lookup y=some c->c<s.heap.objs.size:=fun y c e=>by
  obtain⟨o,v,q,_⟩:=hc y c e
  exact F.hok.lt q
 have hx:∀ y c,h.lookup y=some c->scope.names.lookup y=some .free->(aJ (s.heap.objs.size+1) scope.names h).lookup y=some c:=fun y c e k=>by
  rw[ze,zu]
  cases q:(aJ (s.heap.objs.size+1) scope.names []).lookup y with
  | none=>exact e
  | some d =>
   rcases zr (aF q)with z|z
   ·rw[S.cel _ z rfl]at k;cases k
   ·exact absurd z (by simp)
 have dn:∀ b,H b=none->ac4 h H b=none:=fun b e=>ac4.none e
 refine⟨⟨F.mod,S.kind,rfl,rfl,am _,fun y z c a b=>?inj,fun y hy=>?has,fun y c hy e=>?cab,fun _=>hd,gE F.frames,.inr ⟨rfl,rfl⟩,fun b z=>absurd z (J b),fun b o e=>⟨(F.bs b o e).1,dn b (F.bs b o e).2⟩,F.bsz,fun b _ _=>J b,fun b z=>absurd z (J b),F.funs,fun b hb=>dn b (F.frf b hb)⟩,
  rfl,F.bare,Un.kept hk,⟨_,x.toInCall.ns,fun i y v q1 q2 q3=>?loc⟩,fun y c e=>?cell,dn _ (F.hok.fresh (am _)),fun y c e=>?freeC,fun p hp=>absurd (show p∈([]:List (Addr×Obj))from hp) (by simp),(F.hok.drop hc).kept hk,?len⟩
 case inj =>
  rcases lk y c a with a|⟨_,a⟩<;>rcases lk z c b with b|⟨_,b⟩
  ·exact fL x.apart (aF a) (aF b)
  ·exact absurd (fW (own _ _ a) (a0 _ _ b)) (bC _)
  ·exact absurd (fW (own _ _ b) (a0 _ _ a)) (bC _)
  ·exact inj y z c a b
 case has =>
  have hy:scope.names.lookup y=some .cell\/scope.names.lookup y=some .free:=hy
  rcases hy with hy|hy
  ·obtain⟨c,e⟩:=zI (n:=s.heap.objs.size+1) hy
   refine⟨c,?_⟩
   show(aJ (s.heap.objs.size+1) scope.names h).lookup y=some c
   rw[ze,zu,e];rfl
  ·obtain⟨c,e⟩:=a2 y hy
   exact⟨c,hx y c e hy⟩
 case cab =>
  have hy:(scope.names.lookup y==some .cell)=true:=hy
  have a1:scope.names.lookup y=some .cell:=by simpa using hy
  rcases lk y c e with a|⟨a,_⟩
  ·exact eB (own y c a)
  ·obtain⟨d,q⟩:=zI (n:=s.heap.objs.size+1) a1
   rw[q]at a;cases a
 case loc =>
  have Y:ps.Nodup:=by have:=S.nd;rw[S.app]at this;exact(List.nodup_append.mp this).1
  by_cases hi:i<vs.length
  ·have ha:vs[i]?=some v:=by
    rw[aP (by simpa using hi),aG]at q2
    cases e:vs[i]? with
    | none=>rw[e]at q2;cases q2
    | some a=>rw[e]at q2;cases q2;rfl
   obtain⟨u,hu,rv⟩:=r.get ha
   have hp:ps[i]?=some y:=by
    have G:N[i]?=some y:=q1
    rw[S.app,aP (by omega)]at G;exact G
   refine⟨u,rv,?_⟩
   rcases S.par y (aN hp)with k|k
   ·exact .inl ⟨k,am2 Y hp hu k⟩
   ·obtain⟨c,e⟩:=zI (n:=s.heap.objs.size+1) k
    refine .inr ⟨.inl k,c,?_,?_⟩
    ·show(aJ (s.heap.objs.size+1) scope.names h).lookup y=some c
     rw[ze,zu,e];rfl
    ·have q:=x.cell y c e
     rw[al7 Y hp hu (by show scope.names.lookup y≠_;rw[k];decide)]at q
     exact q
  ·have hf:fr[i - vs.length]?=some y:=by
    have G:N[i]?=some y:=q1
    rw[S.app,aU (by omega)]at G;rw[hl];exact G
   have hv:cap[i - vs.length]?=some v:=by
    rw[aU (by simpa using hi),aG,ar]at q2
    cases e:cap[i - vs.length]? with
    | none=>rw[e]at q2;cases q2
    | some a=>rw[e]at q2;cases q2;rfl
   obtain⟨c,o,u,e1,e2,e3,e4⟩:=Z _ y v hf hv
   have kf:=S.frs y (aN hf)
   refine⟨u,e4,.inr ⟨.inr kf,c,hx y c e1 kf,?_⟩⟩
   exact⟨o,hk c o (F.hok c _ e2).1,e3⟩
 case cell =>
  rcases lk y c e with a|⟨_,a⟩
  ·exact⟨_,x.cell y c a⟩
  ·obtain⟨o,v,q,d⟩:=hc y c a
   exact⟨v,o,hk c o (F.hok c _ q).1,d⟩
 case freeC =>
  rcases lk y c e with a|⟨_,a⟩
  ·exact dn c (F.hok.fresh (eB (own y c a)))
  ·exact ac4.cell (aT8.mpr ⟨y,a⟩)
 case len =>
  show _=N.length
  rw[S.app]
  simp[hl,a3]
theorem aS0 {P:aI}{w:World}{C:List Env}{H H':Hp}{s s':ae}{h:List (Str×Addr)}(hok:HOk P w H s.heap)(hc:Cells h H)(frf:∀ b∈frs C,H b=none)
  (un:Un (frs C) [] (ac4 h H) H' s.heap s'.heap) (J:HOk P w H' s'.heap):Un (frs C) [] H (Put h H H') s.heap s'.heap/\HOk P w (Put h H H') s'.heap:=by
 have nc:∀ b,H b=none->isC h b≠true:=fun b e y=>by
  obtain⟨o,v,q,_⟩:=hc.at y
  rw[e]at q;cases q
 have G:∀ c u,H c=some u->(∀ o v,u≠.frz o v)->isC h c≠true:=fun c u q d y=>by
  obtain⟨o,v,q',_⟩:=hc.at y
  rw[q]at q';cases q'
  exact d _ _ rfl
 have F:∀ b,isC h b=true->H' b=none:=fun b y=>by
  obtain⟨o,v,q,_⟩:=hc.at y
  exact un.free b o (hok b _ q).1 (ac4.cell y) (by simp)
 refine⟨⟨fun b o e n hb hx=>un.keep b o e (ac4.none n) hb hx,fun b o e n hb hx=>un.slot b o e (ac4.none n) hb hx,fun b o e n hx=>?_,fun b o e hx=>un.there b o e hx,fun b Y e=>?_,fun b o u e=>?_,fun b ps e=>?_⟩,fun b o e=>?_⟩
 ·rw[Put.ne (nc b n)];exact un.free b o e (ac4.none n) hx
 ·have z:=G b _ e fun _ _=>by nofun
  rw[Put.ne z];exact un.tups b Y (by rw[ac4.ne z];exact e)
 ·by_cases z:isC h b=true
  ·rw[Put.cell z];exact e
  ·rw[Put.ne z];exact un.frzs b o u (by rw[ac4.ne z];exact e)
 ·have z:=G b _ e fun _ _=>by nofun
  rw[Put.ne z];exact un.tbls b ps (by rw[ac4.ne z];exact e)
 ·by_cases z:isC h b=true
  ·rw[Put.cell z]at e
   obtain⟨ob,v,q,d⟩:=hc.at z
   rw[q]at e;cases e
   have g:=(hok b _ q).1
   have g':=un.keep b ob g (ac4.cell z) (fun y=>by rw[frf b y]at q;cases q) (by simp)
   exact⟨g',ob,g'⟩
  ·rw[Put.ne z]at e
   have Z:∀ c u,H' c=some u->Put h H H' c=some u:=fun c u q=>by
    rw[Put.ne fun y=>by rw[F c y]at q;cases q];exact q
   exact(J b o e).stay (fun _ _ _ q=>q) (fun c q=>Z c _ q) fun c Y q=>Z c _ q
structure ClOk (P:aI)(w:World)(K:ac)(mg:Str->Option Value)(base:Heap)(k:Nat)(R:Hp->Prop)(f:Addr)(sp:Sp):Prop where
 run:∀(A:aQ) (outer:List Env) (s:ae) (H:Hp) (us:List Value) (vs:List V) (Q:VK),Room k A->Env0 P w K mg base A outer s H->R H->Vals vs us->sp vs H Q E0 ->
  gP (model P w) A (.call (.ref f) ⟨us,[]⟩) (CR CX0 outer P w H s Q E0) s
def aA5 (H:Hp)(f:Addr)(qual:Str)(params:bT)(body:Expr)(scope:Scope)(fr:List Str)(cap:List V)(clos:List (Str×Addr)):Prop :=
 ∃ pm c' ctv,H f=some (bv5 f (cU "<lambda>" qual params body scope clos pm (.ref c') ctv))/\H c'=some (av3 c' qual)/\Cells clos H /\
  (∀ x y c,clos.lookup x=some c->clos.lookup y=some c->x=y)/\(∀ x,scope.names.lookup x=some .free->∃ c,clos.lookup x=some c)/\Cap clos H fr cap
def BM (mg:Str->Option Value)(base:Heap):Prop:=∃ bm ob,mg "__builtins__"=some (.ref bm)/\bm≠fI/\base.get? bm=some ob/\ob.cls=.type "module"/\ob.dict=some fI/\ob.data=.plain
noncomputable def lamCheck (scope xs:Scope):Bool:=scope.names.all fun y=>!(y.2==.free)||(xs.names.lookup y.1==some .cell||xs.names.lookup y.1==some .free)
structure Caught (cl:List (Str×Addr))(N:List Str)(kd:Str->Option bX)(σ:St)(H1 H2:Hp):Prop where
 ne:∀ b,isC cl b≠true->H2 b=H1 b
 free:∀ b,isC cl b=true->H1 b=none
 cells:Cells cl H2
 cap:∀(i:Nat) (x:Str) (v:V) (c:Addr),N[i]?=some x->σ[i]?=some (some v)->(kd x=some .cell\/kd x=some .free)->cl.lookup x=some c->∃ o u,H2 c=some (.frz o (.own c))/\o.data=.cell (some u)/\RelV v u
 inj:∀ x y c,cl.lookup x=some c->cl.lookup y=some c->x=y
def bL4 (K:ac)(H:Hp)(f:Addr):Prop:=(∃ fd,H f=some (bv5 f fd))\/∃ oc od fd sl,K.lookup f=some ⟨oc,od,.func fd,sl⟩
theorem bL4.at {X:Cx}{y:List (Addr×Obj)}{σ:St}{H:Hp}{s:ae}{f:Addr}(h:bL4 X.K H f)(I:Inv X y σ H s):PySem.W.FnAt f s.heap:=by
 rcases h with⟨z,h⟩|⟨oc,od,z,sl,h⟩
 ·exact⟨_,_,_,_,as2 I.hok h⟩
 ·exact⟨_,_,_,_,I.kIn _ _ h⟩
noncomputable def ay1 (K:ac)(names:List Str):List (Str×Addr×Addr):=names.filterMap fun x=>(be K x).map fun p=>(x,p)
theorem ap5 {K:ac}{names:List Str}{y:Str×Addr×Addr}:y∈ay1 K names↔y.1∈names/\be K y.1=some y.2:=by
 unfold ay1
 rw[de]
 constructor
 ·rintro⟨x,hx,e⟩
  obtain⟨p,h,rfl⟩:=fX.mp e
  exact⟨hx,h⟩
 ·rintro⟨hx,e⟩
  exact⟨y.1,hx,by rw[e];rfl⟩
def bk2 (K:ac)(names:List Str)(base:Heap):Prop:=∀ x∈names,∀ c P,be K x=some (c,P)->cj base c P
def bm5 (K:ac)(names:List Str)(H:Hp):Prop:=∀ x∈names,∀ c P,be K x=some (c,P)->H P=some (.tbl #[])
noncomputable def bI0 (K:ac)(names:List Str)(ts:List Addr):Bool:=names.all fun x=>match be K x with
 | some (c,P)=>iT K c P&&ts.contains P
 | none=>true
theorem aq9 {K:ac}{x:Str}(h:(be K x).isSome=true):be K x=some (((be K x).getD (0,0)).1,((be K x).getD (0,0)).2):=by
 obtain⟨p,e⟩:=fm.mp h
 rw[e]
 rfl
def bw6 (H:Hp)(P:Addr)(q:Str):Prop:=∃ ps:Array Value,H P=some (.tbl ps)/\TriplesOk ps.toList/\∀ pos cv,codeAmong pos ps.toList=some cv->∃ c',cv=.ref c'/\H c'=some (av3 c' q)
def TabsH (T:List (Addr×Str))(H:Hp):Prop:=∀ y∈T,bw6 H y.1 y.2
def bK3 (H H':Hp):Prop:=∀ b o,(∀ ps,o≠.tbl ps)->H b=some o->H' b=some o
theorem bK3.of {H y:Hp}(a:ae7 H y):bK3 H y:=fun c o _ h=>a c o h
theorem TabsH.keep {T:List (Addr×Str)}{H H':Hp}(h:TabsH T H)(k:∀ b o,(∀ z,o≠.lst z)->H b=some o->H' b=some o):TabsH T H':=fun y hy=>by
 obtain⟨ps,e,t,c⟩:=h y hy
 refine⟨ps,k _ _ (fun _=>by nofun) e,t,fun pos C q=>?_⟩
 obtain⟨F,e1,e2⟩:=c pos C q
 exact⟨F,e1,k _ _ (fun _=>by unfold av3;nofun) e2⟩
theorem TabsH.same {T:List (Addr×Str)}{H H':Hp}(h:TabsH T H)(s:ae7 H H'):TabsH T H':=h.keep fun b o _ e=>s b o e
theorem TabsH.new {T:List (Addr×Str)}{H:Hp}{a:Addr}{o:HO}(h:TabsH T H)(n:H a=none):TabsH T (upd H a o):=h.same ((ae7.refl H).new n)
theorem TabsH.put {T:List (Addr×Str)}{H:Hp}{a:Addr}{o:HO}{y:List V}(h:TabsH T H)(n:H a=some (.lst y)):TabsH T (upd H a o):=h.keep fun b u d e=>by
 rw[zm fun z=>by subst z;rw[n]at e;cases e;exact d _ rfl];exact e
theorem TabsH.init {T:List (Addr×Str)}{H:Hp}(h:∀ p∈T.map (·.1),H p=some (.tbl #[])):TabsH T H:=fun y hy =>
 ⟨#[],h _ (bF hy),trivial,fun pos z e=>by simp[codeAmong]at e⟩
theorem Caught.same {cells:List (Str×Addr)}{N:List Str}{kd:Str->Option bX}{σ:St}{C h:Hp}(y:Caught cells N kd σ C h):ae7 C h:=fun b o e=>by
 rw[y.ne b fun z=>by rw[y.free b z]at e;cases e];exact e
theorem Fun.okC {P:aI}{w:World}{K:ac}{Z:Str->Option Value}{base:Heap}{x qual:Str}{st:Stmt}{f c:Addr}{J:bI}{N ps:List Str}{k:Nat}{sp:Sp}(F:Fun K x qual st f J)(Y:J.code=.ref c)(S:FnScope N ps (defScope st))(len:∀ vs H Q E,sp vs H Q E->vs.length=ps.length)
  (z:∀(A:aQ) (y:List Env) (s:ae) (H:Hp) (vs:List V) (Q:VK) (E:XK),Room k (A.deeper (eJ qual (defScope st) s.heap.objs.size f (.ref c)))->sp vs H Q E ->
   ∃ t,PSs (aY8 CX0 P w K Z base N qual (defScope st) f (.ref c) A y s H E).nox (zy st) t/\t { nx:=fun _ H'=>Q .non H',rt:=Q } (ag8 N vs) H):FnOk P w K Z base CX0 (k+1) f J ps sp:=by
 obtain⟨oc,od,kV,a0,pm,an,G,ct,a1,rfl,lk,hc⟩:=F.ex
 have e:G=.ref c:=Y
 subst e
 refine bz0 lk hc S len fun A y s H vs Q E hr C=>?_
 obtain⟨t,h,q⟩:=z A y s H vs Q E hr C
 exact⟨t,h.nox,q⟩
theorem aO8 {X:Cx}{K:ac}(hc:X.calm=true)(hK:X.K=K):ac8 X (.builtin "min") (fun xs H Q=>∃ a ns,xs=[.ref a]/\SqL K H a (ns.map V.int)/\ns≠[]/\∀ m∈ns,(∀ y∈ns,m<=y)->Q (.int m) H):=by
 subst hK
 intro a1 s σ H xs us Q I r h
 obtain⟨a,ns,rfl,hS,Z,q⟩:=h
 obtain⟨u,rfl,ru⟩:=af6 r
 cases ru
 obtain⟨its,G,J,hz⟩:=I.list hS
 have hl:=G.length
 rw[ar]at hl
 have a0:0<ns.length:=gY.mpr Z
 refine call_min_walk (dz J.isList ?_)
 have F:a<s.heap.objs.size:=by obtain⟨o,_,e,_⟩:=J;exact aH e
 have W:=jU (prog:=X.prog) (w:=X.w) (A:=X.A.in1) (I.ok.hd hc) s.heap.objs.size a (aw F) its.toArray
 let val:Nat->Int:=fun i=>ns.getD i 0
 have C:∀ i v,its.toArray[i]?=some v->∃ t,v=Value.int (val i) t:=fun i v e=>by
  obtain⟨z,t,e1,e2⟩:=aS6 G (i:=i) (v:=v) (by rw[dH]at e;exact e)
  refine⟨t,?_⟩
  rw[e2]
  show Value.int z t=Value.int (ns.getD i 0) t
  rw[bv,e1]
  rfl
 refine⟨_,_,_,_,_,_,_,rfl,W,⟨⟨_,aK _ rfl,rfl,rfl⟩,?_⟩,fun b hb=>?_,by rw[aq];omega,CmpOf.ints_lt val C,fun v h' tk hP k=>?_⟩
 ·obtain⟨o,e,r⟩:=J.isList
  exact⟨o,ah _ e,r⟩
 ·show b<(s.heap.push _).objs.size
  rw[bB]
  rcases az.mp hb with z|z
  ·rw[z];exact cW _
  ·have Y:b=a:=by simpa using z
   rw[Y];exact eY F
 ·obtain⟨z,t,e1,e2⟩:=aS6 G (i:=jj (fun i j=>decide (val i<val j)) (its.toArray.size - 1)) (v:=v) (by rw[dH]at hP;exact hP)
  subst e2
  have hv:val (jj (fun i j=>decide (val i<val j)) (its.toArray.size - 1))=z:=by
   show ns.getD _ 0=z
   rw[bv,e1]
   rfl
  refine⟨.int z,H,I.kept (h':=h') (t':=tk) fun b o q=>k b o ?_ (ah _ q),⟨t,rfl⟩,q z (aN e1) fun y hy=>?_⟩
  ·intro z
   have Y:b=s.heap.objs.size:=by simpa using z
   exact absurd (aH q) (by rw[Y];exact bC _)
  ·obtain⟨j,hj,e3⟩:=cV.mp hy
   have:=ak8 val (its.toArray.size - 1) j (by simp only[aq];omega)
   rw[hv]at this
   have e4:val j=y:=by
    show ns.getD j 0=y
    rw[bv,ak hj]
    exact e3
   omega
noncomputable def mx (a b:Int):Int:=if b > a then b else a
section
variable {X:Cx}
end
noncomputable def mx3 (a b c:Int):Int:=mx (mx a b) c
noncomputable def rnd (x:Int):Int:=if x=0\/x=3 then x else 2
noncomputable def sharp (n:Nat)(s:Nat->Nat->Int)(i j:Nat):Int:=(minO ((aS n).map fun k=>mx3 (s i k) (rnd (s k k)) (s k j))).getD 3
section
variable {n:Nat} {s:Nat->Nat->Int}
end
def an4 (H:Hp)(f:Addr)(name qual:Str)(params:bT)(body:List Stmt)(scope:Scope)(fr:List Str)(cap:List V)(clos:List (Str×Addr)):Prop :=
 ∃ doc pm c' ctv,H f=some (bv5 f (e6 name qual params body scope clos .none .none doc pm none (.ref c') ctv))/\H c'=some (av3 c' qual)/\Cells clos H /\
  (∀ x y c,clos.lookup x=some c->clos.lookup y=some c->x=y)/\(∀ x,scope.names.lookup x=some .free->∃ c,clos.lookup x=some c)/\Cap clos H fr cap
theorem an4.fn {K:ac}{H:Hp}{f:Addr}{name qual:Str}{params:bT}{body:List Stmt}{scope:Scope}{fr:List Str}{cap:List V}{y:List (Str×Addr)}(h:an4 H f name qual params body scope fr cap y):bL4 K H f:=by
 obtain⟨F,G,J,C,z,_⟩:=h
 exact .inl ⟨_,z⟩
end L2
end
noncomputable section
namespace L2
open PySem PySem.Spec PyProof.Rows Builtin
section
variable {P:aI} {w:World} {A:aQ} {E:Value->ae->Prop} {s:ae}
theorem aD4 {it t:Addr}{i:Nat}{l:Array Value}{v:Value}{Q:Value->ae->Prop}(y:s.heap.IsTupleIter it t i)(F:s.heap.IsTuple t l)(hv:l[i]?=some v)
  (k:∀ h',h'.IsTupleIter it t (i+1)->bL it s.heap h'->Q v { s with heap:=h' }):wpAny (model P w) A (aX (.ref it)) Q E s:=by
 obtain⟨o,e1,e2,h⟩:=id y
 obtain⟨p,p1,_,n,C⟩:=F
 unfold aX
 refine af (bO (name:=bJ "__next__") y.typeIs cn (cc cn y.typeIs eC ?_ (ee _)))
 show wpAny _ _ (field (.ref it) 0 >>= _) _ _ _
 refine af (bH e1 h (x:=.ref t) rfl ?_)
 show wpAny _ _ (if(Value.ref t==Value.none)=true then _ else _) _ _ _
 rw[if_neg (show ¬((Value.ref t==Value.none)=true)from fun z=>nomatch z)]
 show wpAny _ _ (field (.ref it) 1 >>= _) _ _ _
 refine af (bH e1 h (x:=.int i 0) rfl ?_)
 show wpAny _ _ (seqItems? (.ref t) >>= _) _ _ _
 refine af (cq p1 C ?_)
 simp only[cA,hv]
 refine af (wpAny_setField e1 h (by simp) (ay ⟨v,rfl,ay (k _ ⟨_,gq _ e1 (Obj.isFreed_of_fields (ig h _)),(Obj.cls_mapFields ..).trans e2,by rw[ig h];simp[jG]⟩ (gZ ..))⟩))
theorem aN2 {it t:Addr}{i:Nat}{l:Array Value}{Q:Value->ae->Prop}(C:A.handled=none)(y:s.heap.IsTupleIter it t i)(G:s.heap.IsTuple t l)(hv:l[i]?=none)
  (k:∀ h' e,eZ it s.heap h'->(∃ o,h'.get? e=some o/\o.cls=.type "StopIteration")->E (.ref e) { s with heap:=h' }):wpAny (model P w) A (aX (.ref it)) Q E s:=by
 obtain⟨o,e1,e2,h⟩:=id y
 obtain⟨p,p1,_,n,F⟩:=G
 unfold aX
 refine af (bO (name:=bJ "__next__") y.typeIs cn (cc cn y.typeIs eC ?_ (ee _)))
 show wpAny _ _ (field (.ref it) 0 >>= _) _ _ _
 refine af (bH e1 h (x:=.ref t) rfl ?_)
 show wpAny _ _ (if(Value.ref t==Value.none)=true then _ else _) _ _ _
 rw[if_neg (show ¬((Value.ref t==Value.none)=true)from fun z=>nomatch z)]
 show wpAny _ _ (field (.ref it) 1 >>= _) _ _ _
 refine af (bH e1 h (x:=.int i 0) rfl ?_)
 show wpAny _ _ (seqItems? (.ref t) >>= _) _ _ _
 refine af (cq p1 F ?_)
 simp only[cA,hv]
 refine af (fV (af (wpAny_setField e1 h (by simp) ?_)))
 show wpAny _ _ (newExc (.type "StopIteration") [] >>= _) _ _ (_:ae)
 refine af ?_
 simp only[newExc,newTuple]
 refine af (bE ?_ (by size_fits))
 refine af (m:=firstArgMember _ _) (wpAny_of_eq (a:=Value.none) (by first|rfl|(simp only[firstArgMember];rfl)) (bE ?_ (by size_fits)))
 simp only[raiseNew]
 refine af (wpAny_handled ?_)
 first|rw[show A.in1.handled=none from C]|rw[C]
 exact af (ay (wpAny_throw (k _ _ (((gZ ..).extBut.push _).push _) ⟨_,aK _ rfl,rfl⟩)))
end
structure Dw (P:aI)(w:World)(K:ac)(J:It)(it:Addr)(tn:Nat->Heap->Prop):Prop where
 obj:∀ i h,tn i h->∃ o,h.get? it=some o/\∀ v,o.data≠.cell v
 keep:∀ i h h',tn i h->(∀ o,h.get? it=some o->h'.get? it=some o)->tn i h'
 item:∀(X:Cx),X.prog=P->X.w=w->X.K=K->∀(A:aQ) (i:Nat) (pins:List (Addr×Obj)) (s:ae) (σ:St) (H:Hp) (Q:Value->ae->Prop) (E:Value->ae->Prop),Inv X pins σ H s->tn i s.heap->J.go i H ->
  (∀ x u h' tk,RelV x u->J.yld i H x H->tn (i+1) h'->bL it s.heap h'->Q u { s with heap:=h',toks:=tk })->wpAny (model P w) A (aX (.ref it)) Q E s
 done:∀(X:Cx),X.prog=P->X.w=w->X.K=K->∀(A:aQ) (i:Nat) (pins:List (Addr×Obj)) (s:ae) (σ:St) (H:Hp) (Q:Value->ae->Prop) (E:Value->ae->Prop),A.handled=none->Inv X pins σ H s->tn i s.heap->J.stop i H ->
  (∀ h' e,eZ it s.heap h'->(∃ o,h'.get? e=some o/\o.cls=.type "StopIteration")->E (.ref e) { s with heap:=h' })->wpAny (model P w) A (aX (.ref it)) Q E s
theorem bt5 {P:aI}{w:World}{K:ac}(a it:Addr):Dw P w K (Itl K a) it (fun i h=>h.IsListIter it a i) where
 obj:=fun i h st=>by
  obtain⟨o,e,c,d⟩:=st
  exact⟨o,e,fun v z=>by rw[d]at z;cases z⟩
 keep:=fun i h h' st k=>st.at k
 item:=by
  intro X G hw F A i y s σ H Q E I st hg k
  subst G hw F
  obtain⟨xs,x,hq,hx⟩:=hg
  obtain⟨its,C,p,hz⟩:=I.list hq
  obtain⟨u,hu,ru⟩:=C.get hx
  exact wpAny_nextOf_list_item st p.isList (x:=u) (by simpa using hu) fun h' J Z=>k x u h' s.toks ru ⟨rfl,fun ys hy=>by rw[I.list_inj hy hq];exact hx⟩ J Z
 done:=by
  intro X G hw F A i y s σ H Q E Y I st hg k
  subst G hw F
  obtain⟨xs,hq,hx⟩:=hg
  obtain⟨its,C,p,hz⟩:=I.list hq
  have hl:=C.length
  exact wpAny_nextOf_list_end Y st p.isList (by simp;omega) k
theorem bw9 {P:aI}{w:World}{K:ac}(a it:Addr):Dw P w K (Itt K a) it (fun i h=>h.IsTupleIter it a i) where
 obj:=fun i h st=>by
  obtain⟨o,e,c,d⟩:=st
  exact⟨o,e,fun v z=>by rw[d]at z;cases z⟩
 keep:=fun i h h' st k=>st.at k
 item:=by
  intro X G hw F A i y s σ H Q E I st hg k
  subst G hw F
  obtain⟨xs,x,hq,hx⟩:=hg
  obtain⟨its,C,p,hz⟩:=I.tuple hq
  obtain⟨u,hu,ru⟩:=C.get hx
  exact aD4 st (show s.heap.IsTuple a its.toArray from p) (v:=u) (by simpa using hu) fun h' J Z=>k x u h' s.toks ru ⟨rfl,fun ys hy=>by rw[I.tuple_inj hy hq];exact hx⟩ J Z
 done:=by
  intro X G hw F A i y s σ H Q E Y I st hg k
  subst G hw F
  obtain⟨xs,hq,hx⟩:=hg
  obtain⟨its,C,p,hz⟩:=I.tuple hq
  have hl:=C.length
  exact aN2 Y st (show s.heap.IsTuple a its.toArray from p) (by simp;omega) k
theorem bA9 {P:aI}{w:World}{K:ac}(x:Str)(t:Tok)(it:Addr):Dw P w K (Its x) it (fun i h=>h.IsStrIter it (gH x) x t i) where
 obj:=fun i h st=>by
  obtain⟨o,e,c,d⟩:=st
  exact⟨o,e,fun v z=>by rw[d]at z;cases z⟩
 keep:=fun i h h' st k=>by
  obtain⟨o,ho,r⟩:=st
  exact⟨o,k _ ho,r⟩
 item:=by
  intro X Y hw G A i F s σ H Q E I st hg k
  subst Y hw G
  have y:i<x.cps.size:=hg
  have hc:x.cps[i]?=some x.cps[i]:=by simp[y]
  unfold gH at st k
  cases ha:x.cps.all (·<128)
  ·rw[ha]at st k
   exact wpAny_nextOf_wide_item st hc fun h' C J=>k (.str ⟨#[x.cps[i]]⟩) _ h' (s.toks+1) ⟨_,rfl⟩ ⟨rfl,_,hc,rfl⟩ C J
  ·rw[ha]at st k
   exact wpAny_nextOf_ascii_item st hc fun h' C J=>k (.str ⟨#[x.cps[i]]⟩) _ h' (s.toks+1) ⟨_,rfl⟩ ⟨rfl,_,hc,rfl⟩ C J
 done:=by
  intro X Y hw G A i F s σ H Q E Z I st hg k
  subst Y hw G
  have y:x.cps.size<=i:=hg
  have hc:x.cps[i]?=none:=by simp[y]
  unfold gH at st
  cases ha:x.cps.all (·<128)
  ·rw[ha]at st
   exact wpAny_nextOf_wide_end Z st hc k
  ·rw[ha]at st
   exact wpAny_nextOf_ascii_end Z st hc k
theorem Inv.turnedL {X:Cx}{h:List (Addr×Obj)}{σ:St}{H:Hp}{s:ae}{h':Heap}{t':Nat}{C:List Addr}(I:Inv X h σ H s)(f:∀ b∈C,FpOk X h H b)(k:∀ b o,b ∉ C->s.heap.get? b=some o->h'.get? b=some o):Inv X h σ H { s with heap:=h',toks:=t' }:=by
 have y:∀ b u,H b=some u->b ∉ C:=fun b u e z=>by rw[(f b z).1]at e;cases e
 refine I.step (g':=s.gens) (d':=s.drawn) (ch:=C) (fun b hb=>?_) (fun b o _ _ hc e _=>k b o hc e) (fun b o _ _ hc e _=>⟨o.slots,k b o hc e⟩) (fun _ _ _ _ n=>n)
  (fun b o hc e=>⟨o,k b o hc e⟩) (fun _ _ e=>e) (fun _ _ _ e=>e) (fun b ps e=>⟨#[],by rw[e];simp⟩) (fun m F=>?_) (fun b u e=>?_) I.bare
 ·obtain⟨f0,Z,f2,f3,G,Y⟩:=f b hb
  exact⟨f3,Z,G,Y⟩
 ·obtain⟨o,es,J,ho,r⟩:=F
  exact⟨o,es,J,k _ o (fun z=>(f _ z).2.1 rfl) ho,r⟩
 ·refine(I.hok b u e).stay (fun c v hc q=>k c v ?_ q) (fun _ q=>q) fun _ _ q=>q
  rcases hc with z|z
  ·rw[z];exact y b u e
  ·exact y c _ z
structure Ap (z ti to i1 i2:Addr):Prop where
 a1:ti≠z
 a2:to≠z
 a3:i1≠z
 a4:i2≠z
 a5:ti≠to
 a6:ti≠i1
 a7:ti≠i2
 a8:to≠i1
 a9:to≠i2
 b1:i1≠i2
section
variable {X:Cx} {pins:List (Addr×Obj)} {σ:St} {H:Hp} {s:ae} {A:aQ} {E:Value->ae->Prop} {J1 J2:It} {t1 t2:Nat->Heap->Prop} {z ti to i1 i2:Addr} {n:Nat} {a b:Value}
theorem aR7 {Q:Value->ae->Prop}(G:Dw X.prog X.w X.K J1 i1 t1)(Z:Dw X.prog X.w X.K J2 i2 t2)(D:Ap z ti to i1 i2)(I:Inv X pins σ H s)(f:∀ b∈[z,ti,to,i1,i2],FpOk X pins H b)
  (hz:IsZip s.heap z ti to .none) (hI:dj s.heap ti (.ref i1) (.ref i2)) (hO:dj s.heap to a b) (h1:t1 n s.heap) (h2:t2 n s.heap) (g1:J1.go n H) (g2:J2.go n H)
  (k:∀ x y u v h' tk,RelV x u->RelV y v->J1.yld n H x H->J2.yld n H y H->IsZip h' z ti to (jG s.heap.objs.size)->dj h' to u v->t1 (n+1) h'->t2 (n+1) h'->dj h' s.heap.objs.size u v ->
   (∀ c o,c≠z->c≠to->c≠i1->c≠i2->s.heap.get? c=some o->h'.get? c=some o)->Q (.ref s.heap.objs.size) { s with heap:=h',toks:=tk }) :
  wpAny (model X.prog X.w) A (jI.«zip.__next__» ⟨[.ref z],[]⟩) (fun fin s'=>∃ v,fin=.done (.ret v)/\Q v s') E s:=by
 show wpAny _ _ (field (.ref z) 2 >>= _) _ _ (_:ae)
 refine af (bH hz rfl (x:=.bool false) rfl ?_)
 show wpAny _ _ (field (.ref z) 3 >>= _) _ _ (_:ae)
 refine af (bH hz rfl (x:=.ref ti) rfl ?_)
 refine af (cq hI rfl ?_)
 show wpAny _ _ (bK (.ref z) >>= _) _ _ (_:ae)
 refine af ?_
 unfold bK
 refine af (bH hz rfl (x:=.none) rfl (ay ?_))
 simp only[if_true]
 refine af (fV (af (bH hz rfl (x:=.ref to) rfl ?_)))
 refine af (cr hz (by simp) fun p1 z1 s1=>?_)
 replace z1:IsZip p1 z ti to .ellipsis:=z1
 have q1:Inv X pins σ H { s with heap:=p1,toks:=s.toks }:=I.turnedL f fun c o hc e=>s1.extBut _ _ (fun y=>hc (by simp[y])) e
 refine af ?_
 simp only[iU,ja,d9,dE]
 refine af (af (fv ?_))
 show wpAny _ _ (aX (.ref i1) >>= _) _ _ (_:ae)
 refine af (G.item X rfl rfl rfl _ n pins { s with heap:=p1 } σ H _ _ q1 (G.keep _ _ _ h1 fun o e=>s1.extBut _ _ D.a3 e) g1 fun x u p2 F rx yx a7 s2=>ay ?_)
 replace s2:bL i1 p1 p2:=s2
 have o2:dj p2 to a b:=s2.extBut _ _ D.a8 (s1.extBut _ _ D.a2 hO)
 refine af (cq o2 rfl ?_)
 refine af (dY o2 fun p3 o3 s3=>?_)
 replace o3:dj p3 to u b:=o3
 replace s3:bL to p2 p3:=s3
 refine af (i6 (ay ?_))
 have q3:Inv X pins σ H { s with heap:=p3,toks:=F }:=I.turnedL f fun c o hc e=>s3.extBut _ _ (fun y=>hc (by simp[y])) (s2.extBut _ _ (fun y=>hc (by simp[y])) (s1.extBut _ _ (fun y=>hc (by simp[y])) e))
 refine af (af (fv ?_))
 show wpAny _ _ (aX (.ref i2) >>= _) _ _ (_:ae)
 refine af (Z.item X rfl rfl rfl _ n pins { s with heap:=p3,toks:=F } σ H _ _ q3 (Z.keep _ _ _ h2 fun o e=>s3.extBut _ _ D.a9.symm (s2.extBut _ _ D.b1.symm (s1.extBut _ _ D.a4 e))) g2 fun y v p4 a1 ry yy a0 s4=>ay ?_)
 replace s4:bL i2 p3 p4:=s4
 have o4:dj p4 to u b:=s4.extBut _ _ D.a9 o3
 refine af (cq o4 rfl ?_)
 refine af (dY o4 fun p5 Y s5=>?_)
 replace Y:dj p5 to u v:=Y
 replace s5:bL to p4 p5:=s5
 refine af (i6 (ay (ay ?_)))
 refine af (cq Y rfl ?_)
 refine af (wpAny_newTuple ?_)
 have hsz:p5.objs.size=s.heap.objs.size:=by rw[s5.1,s4.1,s3.1,s2.1,s1.1]
 have z5:IsZip p5 z ti to .ellipsis:=s5.extBut _ _ D.a2.symm (s4.extBut _ _ D.a4.symm (s3.extBut _ _ D.a2.symm (s2.extBut _ _ D.a3.symm z1)))
 have k5:∀ c o,c≠z->c≠to->c≠i1->c≠i2->s.heap.get? c=some o->p5.get? c=some o:=fun c o h c2 c3 c4 e =>
  s5.extBut _ _ c2 (s4.extBut _ _ c4 (s3.extBut _ _ c2 (s2.extBut _ _ c3 (s1.extBut _ _ h e))))
 have a5:t1 (n+1) p5:=G.keep _ _ _ a7 fun o e=>s5.extBut _ _ D.a8.symm (s4.extBut _ _ D.b1 (s3.extBut _ _ D.a8.symm e))
 have a6:t2 (n+1) p5:=Z.keep _ _ _ a0 fun o e=>s5.extBut _ _ D.a9.symm e
 have C:z<p5.objs.size:=aH z5
 show wpAny _ _ (c0 (.ref z) (.ref p5.objs.size) >>= _) _ _ (_:ae)
 refine af ?_
 unfold c0
 have z6:IsZip (p5.push { cls:=.type "tuple",data:=.seq #[u,v] }) z ti to .ellipsis:=ah _ z5
 refine af (cr z6 (by simp) fun p7 z7 s7=>?_)
 replace z7:IsZip p7 z ti to (jG p5.objs.size):=z7
 refine cr z7 (by simp) fun J z8 s8=>?_
 replace z8:IsZip J z ti to (jG p5.objs.size):=z8
 have up:∀ c o,c≠z->p5.get? c=some o->J.get? c=some o:=fun c o h e=>s8.extBut _ _ h (s7.extBut _ _ h (ah _ e))
 have T8:dj J p5.objs.size u v:=s8.extBut _ _ (b7 C) (s7.extBut _ _ (b7 C) (aK _ rfl))
 rw[hsz]at z8 T8
 refine ay ⟨_,rfl,?_⟩
 show Q (.ref p5.objs.size) _
 rw[hsz]
 exact k x y u v J a1 rx ry yx yy z8 (up _ _ D.a2 Y) (G.keep _ _ _ a5 fun o e=>up _ o D.a3 e) (Z.keep _ _ _ a6 fun o e=>up _ o D.a4 e) T8 fun c o h c2 c3 c4 e=>up c o h (k5 c o h c2 c3 c4 e)
theorem aY4 {Q:Fin->ae->Prop}(hA:A.handled=none)(Y:Dw X.prog X.w X.K J1 i1 t1)(D2:Dw X.prog X.w X.K J2 i2 t2)(D:Ap z ti to i1 i2)(I:Inv X pins σ H s)(f:∀ b∈[z,ti,to,i1,i2],FpOk X pins H b)
  (hz:IsZip s.heap z ti to .none) (hI:dj s.heap ti (.ref i1) (.ref i2)) (hO:dj s.heap to a b) (h1:t1 n s.heap) (h2:t2 n s.heap) (g:J1.stop n H\/J1.go n H/\J2.stop n H)
  (k:∀ h' tk e,(∀ c o,c≠z->c≠to->c≠i1->c≠i2->s.heap.get? c=some o->h'.get? c=some o)->(∃ o,h'.get? e=some o/\o.cls=.type "StopIteration")->E (.ref e) { s with heap:=h',toks:=tk }) :
  wpAny (model X.prog X.w) A (jI.«zip.__next__» ⟨[.ref z],[]⟩) Q E s:=by
 show wpAny _ _ (field (.ref z) 2 >>= _) _ _ (_:ae)
 refine af (bH hz rfl (x:=.bool false) rfl ?_)
 show wpAny _ _ (field (.ref z) 3 >>= _) _ _ (_:ae)
 refine af (bH hz rfl (x:=.ref ti) rfl ?_)
 refine af (cq hI rfl ?_)
 show wpAny _ _ (bK (.ref z) >>= _) _ _ (_:ae)
 refine af ?_
 unfold bK
 refine af (bH hz rfl (x:=.none) rfl (ay ?_))
 simp only[if_true]
 refine af (fV (af (bH hz rfl (x:=.ref to) rfl ?_)))
 refine af (cr hz (by simp) fun p1 z1 s1=>?_)
 replace z1:IsZip p1 z ti to .ellipsis:=z1
 have q1:Inv X pins σ H { s with heap:=p1,toks:=s.toks }:=I.turnedL f fun c o hc e=>s1.extBut _ _ (fun y=>hc (by simp[y])) e
 refine af ?_
 simp only[iU,ja,d9,dE]
 refine af (af (fv ?_))
 show wpAny _ _ (aX (.ref i1) >>= _) _ _ (_:ae)
 have F:=Y.keep _ _ p1 h1 fun o e=>s1.extBut _ _ D.a3 e
 rcases g with g|⟨g,g2⟩
 ·refine af (Y.done X rfl rfl rfl _ n pins { s with heap:=p1 } σ H _ _ hA q1 F g fun C e s2 he=>?_)
  obtain⟨J,e1,e2⟩:=he
  replace s2:eZ i1 p1 C:=s2
  have z2:IsZip C z ti to .ellipsis:=s2 _ _ D.a3.symm z1
  have ez:e≠z:=fun x=>by subst x;rw[z2]at e1;cases e1;simp at e2
  exact cr z2 (by simp) fun p3 _ s3=>k p3 s.toks e (fun c o G _ Z _ x=>s3.extBut _ _ G (s2 _ _ Z (s1.extBut _ _ G x))) ⟨J,s3.extBut _ _ ez e1,e2⟩
 ·refine af (Y.item X rfl rfl rfl _ n pins { s with heap:=p1 } σ H _ _ q1 F g fun x u C h rx yx a0 s2=>ay ?_)
  replace s2:bL i1 p1 C:=s2
  have o2:dj C to a b:=s2.extBut _ _ D.a8 (s1.extBut _ _ D.a2 hO)
  refine af (cq o2 rfl ?_)
  refine af (dY o2 fun p3 o3 s3=>?_)
  replace s3:bL to C p3:=s3
  refine af (i6 (ay ?_))
  have q3:Inv X pins σ H { s with heap:=p3,toks:=h }:=I.turnedL f fun c o hc e=>s3.extBut _ _ (fun y=>hc (by simp[y])) (s2.extBut _ _ (fun y=>hc (by simp[y])) (s1.extBut _ _ (fun y=>hc (by simp[y])) e))
  refine af (af (fv ?_))
  show wpAny _ _ (aX (.ref i2) >>= _) _ _ (_:ae)
  refine af (D2.done X rfl rfl rfl _ n pins { s with heap:=p3,toks:=h } σ H _ _ hA q3 (D2.keep _ _ _ h2 fun o e=>s3.extBut _ _ D.a9.symm (s2.extBut _ _ D.b1.symm (s1.extBut _ _ D.a4 e))) g2 fun p4 e s4 he=>?_)
  obtain⟨J,e1,e2⟩:=he
  replace s4:eZ i2 p3 p4:=s4
  have z4:IsZip p4 z ti to .ellipsis:=s4 _ _ D.a4.symm (s3.extBut _ _ D.a2.symm (s2.extBut _ _ D.a3.symm z1))
  have ez:e≠z:=fun x=>by subst x;rw[z4]at e1;cases e1;simp at e2
  exact cr z4 (by simp) fun p5 _ s5=>k p5 h e (fun c o G c2 Z c4 x=>s5.extBut _ _ G (s4 _ _ c4 (s3.extBut _ _ c2 (s2.extBut _ _ Z (s1.extBut _ _ G x))))) ⟨J,s5.extBut _ _ ez e1,e2⟩
end
noncomputable def Jz (J1 J2:It):It:=⟨fun i H=>J1.go i H/\J2.go i H,
 fun i H x H'=>∃ a x1 x2,J1.yld i H x1 H/\J2.yld i H x2 H/\H a=none/\x=.ref a/\H'=upd H a (.tup [x1,x2]),fun i H=>J1.stop i H\/J1.go i H/\J2.stop i H⟩
theorem bb1 {P:aI}{w:World}{K:ac}{elts:List Expr}{ek:Nat}{epos:Pos}{J1 J2:It}{t1 t2:Nat->Heap->Prop}{z ti to i1 i2:Addr}(D1:Dw P w K J1 i1 t1)(D2:Dw P w K J2 i2 t2)(D:Ap z ti to i1 i2) :
  Turn P w K (.Tuple elts ek epos) (Jz J1 J2) [z,ti,to,i1,i2] z (fun i h=>IsZip h z ti to .none/\dj h ti (.ref i1) (.ref i2)/\(∃ a b,dj h to a b)/\t1 i h/\t2 i h) where
 mem:=by simp
 obj:=fun i h st b hb=>by
  obtain⟨hz,G,⟨a,c,J⟩,Z,Y⟩:=st
  simp only[az,aM,or_false]at hb
  rcases hb with rfl|rfl|rfl|rfl|rfl
  ·exact⟨_,hz,fun v y=>by cases y⟩
  ·exact⟨_,G,fun v y=>by cases y⟩
  ·exact⟨_,J,fun v y=>by cases y⟩
  ·exact D1.obj _ _ Z
  ·exact D2.obj _ _ Y
 keep:=fun i h h' st k=>by
  obtain⟨hz,G,⟨a,c,J⟩,Z,Y⟩:=st
  exact⟨k _ (by simp) _ hz,k _ (by simp) _ G,⟨a,c,k _ (by simp) _ J⟩,D1.keep _ _ _ Z fun o e=>k _ (by simp) o e,D2.keep _ _ _ Y fun o e=>k _ (by simp) o e⟩
 item:=by
  intro X hP hw hK hc i F s σ H E I hf st hg
  subst hP hw hK
  obtain⟨hz,G,⟨a,c,J⟩,Z,Y⟩:=st
  have hT:s.TypeIs (.ref z) "zip":=⟨_,hz,rfl⟩
  unfold jm
  refine af (wpAny_attempt (bO (name:=bJ "__next__") hT ef (cc ef hT iV
   (aR7 D1 D2 D I hf hz G J Z Y hg.1 hg.2 fun x y u v h' tk rx ry yx yy z' o' b2 a9 T' kk=>ay ?_) (iD _))))
  refine⟨_,rfl,wpAny_letOwnedTupleGo_zip (s:={ s with heap:=h',toks:=tk }) z' fun a0 b0 C=>?_⟩
  replace C:bL z h' a0:=C
  have lt:∀ {c o},s.heap.get? c=some o->s.heap.objs.size≠c:=fun e=>b7 (aH e)
  obtain⟨o1,e1,_⟩:=D1.obj _ _ Z
  obtain⟨o2,e2,_⟩:=D2.obj _ _ Y
  have Tz:=lt hz
  have I1:Inv X F σ (upd H s.heap.objs.size (.tup [x,y])) { s with heap:=s.heap.push { cls:=.type "tuple",data:=.seq #[u,v] },toks:=tk } :=
   I.laid (fun b u e=>ah _ e) (am _) ⟨by simp[aC],[u,v],.cons rx (.cons ry .nil),_,aK _ rfl,rfl,_,rfl⟩
  have a8:∀ b∈[z,ti,to,i1,i2],FpOk X F (upd H s.heap.objs.size (.tup [x,y])) b:=fun b hb=>by
   have q:=hf b hb
   refine⟨?_,q.2⟩
   unfold upd
   rw[if_neg ?_]
   ·exact q.1
   ·simp only[az,aM,or_false]at hb
    rcases hb with rfl|rfl|rfl|rfl|rfl
    ·exact(lt hz).symm
    ·exact(lt G).symm
    ·exact(lt J).symm
    ·exact(lt e1).symm
    ·exact(lt e2).symm
  have I2:Inv X F σ (upd H s.heap.objs.size (.tup [x,y])) { s with heap:=a0,toks:=tk }:=by
   refine I1.turnedL (s:={ s with heap:=s.heap.push { cls:=.type "tuple",data:=.seq #[u,v] },toks:=tk }) a8 fun b o hb e=>?_
   simp only[az,aM,or_false,not_or]at hb
   refine C.extBut _ _ hb.1 ?_
   by_cases hbT:b=s.heap.objs.size
   ·subst hbT
    have:=aK s.heap (o:={ cls:=.type "tuple",data:=.seq #[u,v] }) rfl
    rw[show(s.heap.push { cls:=.type "tuple",data:=.seq #[u,v] }).get? s.heap.objs.size=some o from e]at this
    cases this
    exact T'
   ·exact kk b o hb.1 hb.2.2.1 hb.2.2.2.1 hb.2.2.2.2 (by
     have e':(s.heap.push { cls:=.type "tuple",data:=.seq #[u,v] }).get? b=some o:=e
     rw[Heap.get?_push_ne _ _ _ hbT]at e'
     exact e')
  exact⟨.ref s.heap.objs.size,_,I2,rfl,⟨_,x,y,yx,yy,I.hok.fresh (am _),rfl,rfl⟩,⟨b0,C.extBut _ _ D.a1 (kk _ _ D.a1 D.a5 D.a6 D.a7 G),⟨_,_,C.extBut _ _ D.a2 o'⟩,
   D1.keep _ _ _ b2 fun o e=>C.extBut _ _ D.a3 e,D2.keep _ _ _ a9 fun o e=>C.extBut _ _ D.a4 e⟩,fun b hb=>(a8 b hb).1⟩
 done:=by
  intro X hP hw hK hc i F s σ H E I hf st hg
  subst hP hw hK
  obtain⟨hz,G,⟨a,c,J⟩,Z,Y⟩:=st
  have hT:s.TypeIs (.ref z) "zip":=⟨_,hz,rfl⟩
  unfold jm
  refine af (wpAny_attempt (bO (name:=bJ "__next__") hT ef (cc ef hT iV
   (aY4 (I.ok.hd hc) D1 D2 D I hf hz G J Z Y hg fun h' tk e kk he=>?_) (iD _))))
  obtain⟨o,ho,b1⟩:=he
  refine af (wpAny_isInstance (T := "StopIteration") (b:=true) ⟨o,ho,b1⟩ isSubtype_stop ?_)
  exact ay ⟨rfl,I.turnedL hf fun b o hb e=>by
   simp only[az,aM,or_false,not_or]at hb
   exact kk b o hb.1 hb.2.2.1 hb.2.2.2.1 hb.2.2.2.2 e⟩
 self:=fun A i s Q E st h=>iW st.1 h
def Mkr (v:Value)(o:Obj)(h:Heap):Prop:=∀(P:aI) (w:World) (A:aQ) (E:Value->ae->Prop) (s:ae) (Q:Value->ae->Prop),(∀ b u,h.get? b=some u->s.heap.get? b=some u) ->
 Q (.ref s.heap.objs.size) { s with heap:=s.heap.push o }->wpAny (model P w) A (iK v) Q E s
noncomputable abbrev zH2 (h:Heap)(o1 o2:Obj):Heap:=(h.push o1).push o2
noncomputable abbrev zH3 (h:Heap)(o1 o2:Obj):Heap:=(zH2 h o1 o2).push { cls:=.type "tuple",data:=.seq #[.ref h.objs.size,.ref (h.push o1).objs.size] }
noncomputable abbrev zH4 (h:Heap)(o1 o2:Obj):Heap:=(zH3 h o1 o2).push { cls:=.type "tuple",data:=.seq #[.none,.none] }
noncomputable abbrev zH5 (h:Heap)(o1 o2:Obj):Heap:=(zH4 h o1 o2).push { cls:=.type "zip",data:=.fields #[.none,.bool false,.bool false,.ref (zH2 h o1 o2).objs.size,.ref (zH3 h o1 o2).objs.size] }
theorem aJ7 (v1 v2 : Value) (o1 o2 : Obj) : Meets (Builtin.«zip.__new__» ⟨[.type "zip", v1, v2], []⟩) (fun _ R s => Mkr v1 o1 s.heap /\ Mkr v2 o2 s.heap /\
      R (.ok (.ret (.ref (zH4 s.heap o1 o2).objs.size))) { s with heap := zH5 s.heap o1 o2 }) :=
  .of_wp fun prog w A R s h => by
    obtain⟨hp, g, d, tk, os⟩ := s; obtain⟨m1, m2, h⟩ := h
    have hsub := sub_zip
    have r1 : ∀ {P : aI} {w : World} {A : aQ} {E : Value -> ae -> Prop} {Q : Value -> ae -> Prop}, Q (.ref hp.objs.size) ⟨hp.push o1, g, d, tk, os⟩ -> wpAny (model P w) A (iK v1) Q E ⟨hp, g, d, tk, os⟩ := fun {P w A E Q} q => m1 P w A E ⟨hp, g, d, tk, os⟩ Q (fun b u e => e) q
    have r2 : ∀ {P : aI} {w : World} {A : aQ} {E : Value -> ae -> Prop} {Q : Value -> ae -> Prop}, Q (.ref (hp.push o1).objs.size) ⟨(hp.push o1).push o2, g, d, tk, os⟩ -> wpAny (model P w) A (iK v2) Q E ⟨hp.push o1, g, d, tk, os⟩ := fun {P w A E Q} q => m2 P w A E ⟨hp.push o1, g, d, tk, os⟩ Q (fun b u e => ah _ e) q
    wp_walk using r1, r2
    exact⟨_, rfl, h⟩
theorem aU6 {P:aI}{w:World}{A:aQ}{E:Value->ae->Prop}{s:ae}{Y C:Value}{h y:Obj}{Q:Value->ae->Prop}(f1:h.isFreed=false)(f2:y.isFreed=false)(m1:Mkr Y h s.heap)(m2:Mkr C y s.heap)
  (k:∀ h',IsZip h' (s.heap.objs.size+4) (s.heap.objs.size+2) (s.heap.objs.size+3) .none->dj h' (s.heap.objs.size+2) (.ref s.heap.objs.size) (.ref (s.heap.objs.size+1)) ->
   dj h' (s.heap.objs.size+3) .none .none->h'.get? s.heap.objs.size=some h->h'.get? (s.heap.objs.size+1)=some y->(∀ c o,s.heap.get? c=some o->h'.get? c=some o)->Q (.ref (s.heap.objs.size+4)) { s with heap:=h' }) :
  wpAny (model P w) A (call (.type "zip") [Y,C]) Q E s:=by
 refine callType_new F.called_zip (by decide) (F.typeCall_zip_2 _ _) (F.newCall_zip_2 _ _) (fun obj=>F.args_object_init_3 obj _ _) F.entry_zip_new (aJ7 Y C h y) ⟨m1,m2,?_⟩
 have J:(s.heap.push h).objs.size=s.heap.objs.size+1:=bB ..
 have Z:(zH2 s.heap h y).objs.size=s.heap.objs.size+2:=by rw[bB,J]
 have z:(zH3 s.heap h y).objs.size=s.heap.objs.size+3:=by rw[bB,Z]
 have y4:(zH4 s.heap h y).objs.size=s.heap.objs.size+4:=by rw[bB,z]
 have G:(zH5 s.heap h y).get? (zH4 s.heap h y).objs.size=some _:=aK _ rfl
 have g4:(zH5 s.heap h y).get? (zH3 s.heap h y).objs.size=some _:=ah _ (aK _ rfl)
 have g3:(zH5 s.heap h y).get? (zH2 s.heap h y).objs.size=some _:=ah _ (ah _ (aK _ rfl))
 have g2:(zH5 s.heap h y).get? (s.heap.push h).objs.size=some y:=ah _ (ah _ (ah _ (aK _ f2)))
 have g1:(zH5 s.heap h y).get? s.heap.objs.size=some h:=ah _ (ah _ (ah _ (ah _ (aK _ f1))))
 show _/\_
 rw[Z,z,y4]at G
 rw[J,Z]at g3
 rw[z]at g4
 rw[J]at g2
 rw[y4]
 exact⟨⟨_,G,rfl⟩,k _ G g3 g4 g1 g2 fun c o x=>ah _ (ah _ (ah _ (ah _ (ah _ x))))⟩
def Sr (K:ac)(H:Hp)(x:V)(J:It):Prop:=(∃ a,x=.ref a/\(∃ xs,SqL K H a xs)/\J=Itl K a)\/(∃ a,x=.ref a/\(∃ xs,SqT K H a xs)/\J=Itt K a)\/∃ y,x=.str y/\J=Its y
theorem Sr.mk {X:Cx}{z:List (Addr×Obj)}{σ:St}{H:Hp}{s:ae}{x:V}{u:Value}{J:It}(I:Inv X z σ H s)(h:Sr X.K H x J)(r:RelV x u) :
  ∃(o:Obj) (C:Addr->Nat->Heap->Prop),o.isFreed=false/\Mkr u o s.heap/\(∀ it,Dw X.prog X.w X.K J it (C it))/\∀ it h',h'.get? it=some o->C it 0 h':=by
 rcases h with⟨a,e,⟨G,hq⟩,e'⟩|⟨a,e,⟨G,hq⟩,e'⟩|⟨y,e,e'⟩
 ·subst e e';cases r
  obtain⟨its,F,p,hz⟩:=I.list hq
  exact⟨_,fun it i h=>h.IsListIter it a i,rfl,fun P w A E s' Q hk q=>dz (p.isList.at fun o e=>hk _ _ e) q,fun it=>bt5 a it,fun it h' e=>⟨_,e,rfl,rfl⟩⟩
 ·subst e e';cases r
  obtain⟨its,F,p,hz⟩:=I.tuple hq
  exact⟨_,fun it i h=>h.IsTupleIter it a i,rfl,fun P w A E s' Q hk q=>hZ (Heap.IsTuple.at (show s.heap.IsTuple a its.toArray from p) fun o e=>hk _ _ e) q,fun it=>bw9 a it,fun it h' e=>⟨_,e,rfl,rfl⟩⟩
 ·subst e e';obtain⟨t,rfl⟩:=r
  exact⟨_,fun it i h=>h.IsStrIter it (gH y) y t i,rfl,fun P w A E s' Q hk q=>wpAny_pyIter_strU q,fun it=>bA9 y t it,fun it h' e=>⟨_,e,rfl,rfl⟩⟩
theorem bP6 (n:Nat):Ap (n+4) (n+2) (n+3) n (n+1):=by
 constructor
 ·exact aw (by omega)
 ·exact aw (by omega)
 ·exact aw (by omega)
 ·exact aw (by omega)
 ·exact aw (by omega)
 ·exact b7 (by omega)
 ·exact b7 (by omega)
 ·exact b7 (by omega)
 ·exact b7 (by omega)
 ·exact aw (by omega)
def bT4 (K:ac)(ta:TA):TI:=fun σ H R=>ta σ H fun vs H1=>∃ x y J1 J2,vs=[x,y]/\Sr K H1 x J1/\Sr K H1 y J2/\R (Jz J1 J2) H1
theorem bC8 {X:Cx}{elts:List Expr}{ek:Nat}{epos:Pos}{a b:Expr}{J:TA}{p pos:Pos}(hg:Gl X "zip")(Z:X.mg "zip"=none)(ha:PA X [a,b] J)(hs:br [a,b] X.env=[(false,eval a X.env),(false,eval b X.env)]:=by rfl)(G:br [b] X.env=[(false,eval b X.env)]:=by rfl) :
  PI X (.Tuple elts ek epos) (.Call (.Name "zip" p) [a,b] [] pos) (bT4 X.K J):=by
 intro z s σ H R I h
 refine Call_ (au7 I hg Z boot_zip (cO (thn (ha pos z s σ H _ I h) fun us s1 ⟨vs,H1,F,r1,Y⟩=>?_) (by rw[hs,G]) (by rw[G];rfl)))
 obtain⟨x,y,J1,J2,e,S1,S2,q⟩:=Y
 subst e
 cases r1 with
 | cons r rr =>
  cases rr with
  | cons r' rr =>
   cases rr
   obtain⟨o1,n1,f1,m1,d1,z1⟩:=S1.mk F r
   obtain⟨o2,n2,f2,m2,d2,z2⟩:=S2.mk F r'
   refine aU6 f1 f2 m1 m2 fun h' hz hI hO g1 g2 kk=>iW hz ?_
   have D:=bP6 s1.heap.objs.size
   refine⟨s1.heap.objs.size+4,[s1.heap.objs.size+4,s1.heap.objs.size+2,s1.heap.objs.size+3,s1.heap.objs.size,s1.heap.objs.size+1],_,_,H1,rfl,F.kept (t':=s1.toks) kk,bb1 (d1 _) (d2 _) D,⟨hz,hI,⟨_,_,hO⟩,z1 _ _ g1,z2 _ _ g2⟩,fun b hb=>?_,q⟩
   have C:s1.heap.objs.size<=b:=by
    simp only[az,aM,or_false]at hb
    rcases hb with e|e|e|e|e<;>rw[e]<;>first|exact am _|exact Nat.le_add_right _ _
   exact F.fpOk C (F.hok.fresh C)
end L2
end
noncomputable section
namespace L2
open PySem PySem.Spec PyProof.Rows Builtin
open AutoSeq1 (wpAny_loadPart')
section
variable {X:Cx} {pins:List (Addr×Obj)} {σ:St} {H:Hp} {s:ae} {A:aQ} {E:Value->ae->Prop} {J1:It} {t1:Nat->Heap->Prop} {z it:Addr} {n:Nat} {old:Value}
end
end L2
end
noncomputable section
namespace L2
open PySem PySem.Spec PyProof.Rows Builtin
open AutoSeq1 (wpAny_loadPart')
theorem aC0:fillsNumberSlot (.type "tuple") "mul"=pure false :=
 PySem.fillsNumberSlot_seq (id := "tuple.__mul__") (r:=some (.builtin "tuple.__rmul__")) dF.lookup (by decide +kernel) fC.lookup (by decide +kernel)
theorem aN3:seqRepeat? (.type "tuple")=pure (some (.builtin "tuple.__mul__")):=by
 unfold seqRepeat?
 rw[iX (T := "tuple") (name := "__mul__") (id := "tuple.__mul__") dF.lookup (by decide +kernel),iX (T := "tuple") (name := "__rmul__") (id := "tuple.__rmul__") fC.lookup (by decide +kernel)]
 rfl
theorem av8 (a:Int)(t:Tok)(l:Addr)(o:Obj)(y:Array Value)(n:Nat)(z:Option Addr)(sl:Array (Option Value)) :
  Meets (jI.«int.__rmul__» ⟨[.int a t,.ref l],[]⟩) (fun _ R s=>s.heap.get? l=some { cls:=.type "tuple",dict:=z,data:=.seq y n,slots:=sl }/\R (.ok (.ret Value.notImplemented)) s) :=
 .of_wp fun prog w A R s h=>by obtain⟨C,g,d,tk,os⟩:=s;obtain⟨hl,h⟩:=h;wp_walk;exact⟨_,rfl,h⟩
noncomputable def am8 {α:Type}:Nat->List α->List α
 | 0,_=>[]
 | n+1,a=>a++am8 n a
theorem aE7 {α:Type}(l:List α):∀(n:Nat) (h:Array α),(aA n l.toArray).foldl (·++·) h=h++(am8 n l).toArray
 | 0,h=>by simp[am8]
 | n+1,h=>by rw[bD,da,aE7 l n];simp[am8]
theorem ay6 {α:Type}(a:Array α):∀(n:Nat) (h:Array α),((aA n a).foldl (·++·) h).size=h.size+a.size*n
 | 0,h=>by simp
 | n+1,h=>by rw[bD,da,ay6 a n,Array.size_append,Nat.mul_succ];omega
def TmA (items:Array Value)(k:Int)(l:Addr)(R:Value->ae->Prop)(s:ae):Prop :=
 ((items.isEmpty||k==1)=true->R (.ref l) s)/\((items.isEmpty||k==1)=false->R (.ref s.heap.objs.size) { s with heap:=s.heap.push { cls:=.type "tuple",data:=.seq ((aA k.toNat items).foldl (·++·) #[]) } })
theorem aW5 {P:aI}{w:World}{A:aQ}{E:Value->ae->Prop}{s:ae}{l:Addr}{y:Array Value}{k:Int}{t:Tok}{Q:Value->ae->Prop}(h0:0<=k)(J:k<=1000000)(hz:y.size*k.toNat<=1000000)(hl:IsTup s.heap l y)
  (h:TmA y k l Q s):wpAny (model P w) A (call (.builtin "tuple.__mul__") [.ref l,.int k t]) Q E s:=by
 refine cc dF hl.typeIs PySem.F.entry_tuple_mul ?_ (PySem.F.args_tuple_mul_2 _ _)
 obtain⟨z,q2⟩:=h
 show wpAny _ _ (asIndex (.int k t) >>= _) _ _ _
 refine af (ay ?_)
 rw[if_neg (by rw[decide_eq_false (by omega),decide_eq_false (by omega)];decide)]
 show wpAny _ _ (cS (.ref l) >>= _) _ _ _
 refine af (hG hl ?_)
 have C:(y.size:Int)*k<=1000000:=by
  have:((y.size*k.toNat:Nat):Int)<=1000000:=by omega
  rw[jb,et h0]at this
  exact this
 cases hb:(y.isEmpty||k==1)with
 | true =>
  rw[if_pos rfl]
  unfold jr
  refine af (af (fN hl.typeIs (ay ?_)))
  rw[if_pos (by decide)]
  exact af (fV (ay ⟨_,rfl,z hb⟩))
 | false =>
  rw[if_neg aO]
  have he:y.isEmpty=false:=by
   rw[dZ]at hb;exact hb.1
  have q:=q2 hb
  show wpAny _ _ (if(decide (k<=0)||y.isEmpty)=true then _ else _) _ _ _
  by_cases hk:k<=0
  ·rw[if_pos (by rw[decide_eq_true hk];rfl)]
   have:k.toNat=0:=by omega
   rw[this]at q
   exact af (bE (ay ⟨_,rfl,q⟩) (by size_fits))
  ·rw[if_neg (by rw[decide_eq_false hk,he];decide)]
   show wpAny _ _ (if(y.size:Int)*k > (2^63 - 1) / 8 then _ else _) _ _ _
   rw[if_neg (by omega)]
   show wpAny _ _ (if eO ((y.size:Int)*k)=true then _ else _) _ _ _
   rw[if_neg (by unfold eO;rw[decide_eq_false (by unfold aC;omega)];decide)]
   refine af (bE (ay ⟨_,rfl,q⟩) ?_)
   show Array.size _<=aC
   rw[ay6]
   show 0+_<=_
   rw[fY]
   have G:y.size*k.toNat<=aC:=aj hz (by decide)
   exact G
theorem aF4 {α:Type}:∀ n,am8 n ([]:List α)=[]
 | 0=>rfl
 | n+1=>by simp[am8,aF4 n]
theorem ba4 {α:Type}(l:List α):am8 1 l=l:=by simp[am8]
theorem aI6 {α:Type}(l:List α):∀ n,(am8 n l).length=l.length*n
 | 0=>by simp[am8]
 | n+1=>by simp[am8,aI6 l n,i7];omega
theorem Vals.repT {h:List V}{us:List Value}(r:Vals h us):∀ n,Vals (am8 n h) (am8 n us)
 | 0=>.nil
 | n+1=>r.append (Vals.repT r n)
def bP9 (K:ac):R2:=fun x y H Q=>∃ a xs n,x=.ref a/\y=.int n/\SqT K H a xs/\(0<=n/\n<=1000000/\xs.length*n.toNat<=1000000)/\∀ p H',ae7 H H'->SqT K H' p (am8 n.toNat xs)->(H' p=some (.tup (am8 n.toNat xs))\/(p=a/\am8 n.toNat xs=xs))->Q (.ref p) H'
theorem bp3 {X:Cx}{K:ac}(J:X.K=K):OpR X (bR .Mult) (bP9 K):=by
 subst J
 intro F s σ H x y v u Q I rx ry h
 obtain⟨a,C,n,rfl,rfl,ha,⟨h0,Z,hz⟩,q⟩:=h
 cases rx
 obtain⟨t,rfl⟩:=ry
 obtain⟨its,r1,p1,Y⟩:=I.tuple ha
 have z:=r1.length
 obtain⟨⟨cls,dd,data,sl⟩,ho,hc,n1,hd⟩:=id p1
 simp only at hc hd
 subst hc hd
 refine eP (T := "tuple") (U := "int") (by decide) p1.typeIs (fun s'=>fS s' n t) aC0 ic dh aN3 gW.lookup
  (cT dh (fS s n t) gX (gF _ _) (av8 n t a default its.toArray n1 dd sl) ⟨ho,⟨rfl,p1.typeIs,aW5 h0 Z (by rw[aq,<-z];exact hz) p1 ⟨fun hb=>?_,fun hb=>?_⟩⟩⟩)
 ·have ex:am8 n.toNat C=C:=by
   rw[bt]at hb
   rcases hb with hb|hb
   ·have G:its=[]:=by simpa using hb
    have hx:C=[]:=r1.nil_iff.mp G
    rw[hx,aF4]
   ·have:n=1:=by simpa using hb
    subst this
    exact ba4 _
  exact⟨.ref a,H,I,rfl,q a H (ae7.refl H) (by rw[ex];exact ha) (.inr ⟨rfl,ex⟩)⟩
 ·have hp:=I.hok.fresh (am s.heap.objs.size)
  refine⟨.ref s.heap.objs.size,_,I.laid (t':=s.toks) (o:=.tup (am8 n.toNat C)) (fun b ob q=>ah _ q) (am _) ?_,rfl,q _ _ ((ae7.refl H).new hp) (SqT.of zo) (.inl zo)⟩
  refine⟨by rw[aI6];exact aj hz (by decide),am8 n.toNat its,r1.repT _,?_⟩
  rw[show(am8 n.toNat its).toArray=(aA n.toNat its.toArray).foldl (·++·) #[]by rw[aE7];simp]
  exact⟨_,aK _ rfl,rfl,_,rfl⟩
end L2
end
noncomputable section
namespace L2
open PySem PySem.Spec PyProof.Rows
noncomputable def aI5 (x:List Nat):V:=.str ⟨x.toArray⟩
theorem ax2:∀ {y:List (List Nat)} {its:List Value},Vals (y.map aI5) its->∃ l:List (Str×Tok),its=strValues l/\l.map (·.1)=y.map fun x=>(⟨x.toArray⟩:Str)
 | [],its,h=>by
  have:=h.length
  cases its with
  | nil=>exact⟨[],rfl,rfl⟩
  | cons _ _=>cases this
 | x::y,its,h=>by
  cases h with
  | cons r h =>
   obtain⟨t,rfl⟩:=r
   obtain⟨l,rfl,e⟩:=ax2 h
   exact⟨(⟨x.toArray⟩,t)::l,rfl,by rw[aB,aB,e]⟩
section
variable {κ:Type} [DecidableEq κ]
noncomputable def az6 (kvs:List (κ×V))(k:κ):Option V:=(kvs.find? fun kv=>decide (kv.1=k)).map (·.2)
noncomputable def ao2 (kvs:List (κ×V))(k:κ)(v:V):List (κ×V) :=
 if(kvs.any fun kv=>decide (kv.1=k))=true then kvs.map (fun kv=>if kv.1=k then(kv.1,v)else kv)else kvs++[(k,v)]
theorem ai4 {p:κ×V}{r:List (κ×V)}{k:κ}(e:p.1=k):az6 (p::r) k=some p.2:=by simp[az6,cL,e]
theorem aj3 {p:κ×V}{r:List (κ×V)}{k:κ}(e:¬ p.1=k):az6 (p::r) k=az6 r k:=by simp[az6,cL,e]
theorem at3 (k:κ):∀ h:List (κ×V),(h.any fun y=>decide (y.1=k))=(az6 h k).isSome
 | []=>rfl
 | p::r=>by
  rw[fw]
  by_cases e:p.1=k
  ·simp only[ai4 e,decide_eq_true e,Bool.true_or,ie]
  ·rw[aj3 e,decide_eq_false e,jz];exact at3 k r
theorem qw (h:List (κ×V))(k:κ)(v:V):(ao2 h k v).length<=h.length+1:=by
 unfold ao2
 split
 ·rw[ar];omega
 ·rw[aD,aL,cx];omega
theorem aK4.isSome_eq {o:Option V}{u:Option Value}(r:aK4 o u):o.isSome=u.isSome:=by
 cases o with
 | none=>cases u with
  | none=>rfl
  | some _=>exact(show False from r).elim
 | some _=>cases u with
  | none=>exact(show False from r).elim
  | some _=>rfl
theorem aK4.getD {o:Option V}{u:Option Value}{d:V}{d':Value}(r:aK4 o u)(h:RelV d d'):RelV (o.getD d) (u.getD d'):=by
 cases o with
 | none=>cases u with
  | none=>exact h
  | some _=>exact(show False from r).elim
 | some _=>cases u with
  | none=>exact(show False from r).elim
  | some _=>exact r
theorem KV.val {y:List (κ×V)}{vs:List (κ×Value)}(r:KV y vs)(k:κ):aK4 (az6 y k) (gT vs k):=by
 unfold KV at r
 induction r with
 | nil=>exact True.intro
 | @cons p q ps qs h t ih =>
  obtain⟨C,F⟩:=h
  by_cases e:p.1=k
  ·have e':q.1=k:=C.symm.trans e
   have b:gT (q::qs) k=some q.2:=by simp[gT,cL,e']
   rw[ai4 e,b];exact F
  ·have e':¬ q.1=k:=fun z=>e (C.trans z)
   have b:gT (q::qs) k=gT qs k:=by simp[gT,cL,e']
   rw[aj3 e,b];exact ih
theorem KV.any {y:List (κ×V)}{vs:List (κ×Value)}(r:KV y vs)(k:κ):(y.any fun z=>decide (z.1=k))=vs.any fun z=>decide (z.1=k):=by
 unfold KV at r
 induction r with
 | nil=>rfl
 | cons h t ih=>rw[fw,fw,ih,h.1]
theorem KV.repl {F:List (κ×V)}{vs:List (κ×Value)}(r:KV F vs)(k:κ){y:V}{u:Value}(Y:RelV y u) :
  KV (F.map fun C=>if C.1=k then(C.1,y)else C) (vs.map fun C=>if C.1=k then(C.1,u)else C):=by
 unfold KV at r ⊢
 induction r with
 | nil=>exact .nil
 | @cons p q ps qs h t ih =>
  rw[aB,aB]
  refine .cons ?_ ih
  obtain⟨G,J⟩:=h
  by_cases e:p.1=k
  ·rw[if_pos e,if_pos (G.symm.trans e)];exact⟨G,Y⟩
  ·rw[if_neg e,if_neg (fun z=>e (G.trans z))];exact⟨G,J⟩
theorem KV.put {h:List (κ×V)}{vs:List (κ×Value)}(r:KV h vs)(k:κ){y:V}{u:Value}(z:RelV y u):KV (ao2 h k y) (stored vs k u):=by
 unfold ao2 stored
 rw[r.any k]
 by_cases e:(vs.any fun C=>decide (C.1=k))=true
 ·rw[if_pos e,if_pos e];exact r.repl k z
 ·rw[if_neg e,if_neg e];exact jR r ⟨rfl,z⟩
theorem KV.length {h:List (κ×V)}{vs:List (κ×Value)}(r:KV h vs):h.length=vs.length:=g7 r
end
theorem aK5 {P:aI}{w:World}{k:Key}{u:Value}(r:RelV (kV k) u):(zA P w).is k u=true:=by
 cases k with
 | inl i=>obtain⟨t,e⟩:=(show ∃ t,u=Value.int i t from r);subst e;exact aE3 P w i t
 | inr x=>obtain⟨t,e⟩:=(show ∃ t,u=Value.str x t from r);subst e;exact aC4 P w x t
theorem ax9 {P:aI}{w:World}:∀ {y:List Key} {us:List Value},Vals (y.map kV) us->ItemsAre (zA P w) y us
 | [],_,r=>by rw[cG]at r;cases r;exact .nil
 | k::y,_,r=>by
  rw[aB]at r
  cases r with
  | cons h t=>exact .cons (aK5 h) (ax9 t)
abbrev KT (H:Hp):List (List Key×V)->List (List Key×Addr×Value)->Prop:=fi fun p q=>p.1=q.1/\H q.2.1=some (.tup (p.1.map kV))/\RelV p.2 q.2.2
theorem KT.val {H:Hp}{y:List (List Key×V)}{F:List (List Key×Addr×Value)}(r:KT H y F)(k:List Key):aK4 (az6 y k) ((atKey F k).map (·.2)):=by
 induction r with
 | nil=>exact True.intro
 | @cons p q ps qs h t ih =>
  obtain⟨C,_,G⟩:=h
  by_cases e:p.1=k
  ·have e':q.1=k:=C.symm.trans e
   have b:atKey (q::qs) k=some q.2:=by simp[atKey,cL,e']
   rw[ai4 e,b];exact G
  ·have e':¬ q.1=k:=fun z=>e (C.trans z)
   have b:atKey (q::qs) k=atKey qs k:=by simp[atKey,cL,e']
   rw[aj3 e,b];exact ih
theorem KT.repl {H:Hp}{C:List (List Key×V)}{Y:List (List Key×Addr×Value)}(r:KT H C Y)(k:List Key){y:V}{u:Value}(Z:RelV y u) :
  KT H (C.map fun G=>if G.1=k then(G.1,y)else G) (Y.map (putAt k u)):=by
 induction r with
 | nil=>exact .nil
 | @cons p q ps qs h t ih =>
  rw[aB,aB]
  refine .cons ?_ ih
  obtain⟨F,J,h3⟩:=h
  unfold putAt
  by_cases e:p.1=k
  ·rw[if_pos e,if_pos (F.symm.trans e)];exact⟨F,J,Z⟩
  ·rw[if_neg e,if_neg (fun z=>e (F.trans z))];exact⟨F,J,h3⟩
theorem KT.put {H:Hp}{h:List (List Key×V)}{z:List (List Key×Addr×Value)}(r:KT H h z)(k:List Key){b:Addr}{y:V}{u:Value}(hb:H b=some (.tup (k.map kV)))(C:RelV y u) :
  KT H (ao2 h k y) (storedH z k b u):=by
 have e:(h.any fun F=>decide (F.1=k))=(atKey z k).isSome:=by
  rw[at3,(r.val k).isSome_eq,e7]
 unfold ao2 storedH
 rw[e]
 by_cases q:(atKey z k).isSome=true
 ·rw[if_pos q,if_pos q];exact r.repl k C
 ·rw[if_neg q,if_neg q];exact jR r ⟨rfl,hb,C⟩
theorem KT.keeps {H H':Hp}{h:List (List Key×V)}{y:List (List Key×Addr×Value)}(r:KT H h y)(ht:∀ b ys,H b=some (.tup ys)->H' b=some (.tup ys)):KT H' h y :=
 fi.mapP r fun _ _ z=>⟨z.1,ht _ _ z.2.1,z.2.2⟩
section
variable {P:aI} {w:World} {H:Hp} {h:Heap} {a:Addr}
theorem bx2 {u:HO}(ok:HOk P w H h)(e:Rd H a u):ac7 P w H h a u:=e.ok ok
theorem aO1 {y:List (Key×V)}(ok:HOk P w H h)(e:Rd H a (.dK y)):y.length<=aC/\(a==cQ)=false/\∃ vs,KV y vs/\h.DictOf (zA P w) a vs :=
 show ac7 P w H h a (.dK y)from bx2 ok e
theorem by6 {y:List (Key×V)}(ok:HOk P w H h)(e:H a=some (.dK y)):y.length<=aC/\(a==cQ)=false/\∃ vs,KV y vs/\h.DictOf (zA P w) a vs:=aO1 ok (.inl e)
theorem ay8 {y:List Key}(ok:HOk P w H h)(e:H a=some (.tup (y.map kV))):(gN (zA P w)).is h y a:=by
 obtain⟨_,its,r,o,C,z,n,F⟩:=(show ac7 P w H h a (.tup (y.map kV))from ok a _ e)
 exact⟨o,its.toArray,n,C,z,F,by simpa using ax9 r⟩
theorem aS3 {C:List (List Key×V)}(ok:HOk P w H h)(e:Rd H a (.dT C)):C.length<=aC/\(a==cQ)=false /\
  ∃ F,KT H C F/\h.DictOfH (gN (zA P w)) a F:=by
 obtain⟨z,y,F,r,o,es,Y,h1,h2,Z,J,G⟩:=(show ac7 P w H h a (.dT C)from bx2 ok e)
 refine⟨z,y,F,r,o,es,Y,h1,h2,Z,J,fun x hx=>?_,G⟩
 have all:∀ {l:List (List Key×V)} {m:List (List Key×Addr×Value)},KT H l m->∀ x∈m,(gN (zA P w)).is h x.1 x.2.1:=by
  intro l m q
  induction q with
  | nil=>intro x hx;exact nomatch hx
  | @cons p q ps qs hq t ih =>
   intro x hx
   rcases az.mp hx with e|hx
   ·subst e
    exact ay8 ok (by rw[<-hq.1];exact hq.2.1)
   ·exact ih x hx
 exact all r x hx
theorem bQ9 {y:List (List Key×V)}(ok:HOk P w H h)(e:H a=some (.dT y)):y.length<=aC/\(a==cQ)=false /\
  ∃ z,KT H y z/\h.DictOfH (gN (zA P w)) a z:=aS3 ok (.inl e)
end
def az7 (H:Hp)(a:Addr)(y:V)(r:Option V):Prop :=
 (∃ kvs k,Rd H a (.dK kvs)/\y=kV k/\r=az6 kvs k)\/∃ kvs k b,Rd H a (.dT kvs)/\y=.ref b/\H b=some (.tup (k.map kV))/\r=az6 kvs k
def bv2 (H:Hp)(a:Addr)(y v:V)(H':Hp):Prop :=
 (∃ kvs k,H a=some (.dK kvs)/\y=kV k/\kvs.length<aC/\H'=upd H a (.dK (ao2 kvs k v))) \/
 ∃ kvs k b,H a=some (.dT kvs)/\y=.ref b/\H b=some (.tup (k.map kV))/\kvs.length<aC/\H'=upd H a (.dT (ao2 kvs k v))
theorem az7.k {H:Hp}{a:Addr}{h:List (Key×V)}{k:Key}(e:H a=some (.dK h)):az7 H a (kV k) (az6 h k):=.inl ⟨h,k,.inl e,rfl,rfl⟩
theorem az7.t {H:Hp}{a b:Addr}{h:List (List Key×V)}{k:List Key}(e:H a=some (.dT h))(eb:H b=some (.tup (k.map kV))):az7 H a (.ref b) (az6 h k):=.inr ⟨h,k,b,.inl e,rfl,eb,rfl⟩
theorem bv2.k {H:Hp}{a:Addr}{h:List (Key×V)}{k:Key}{v:V}(e:H a=some (.dK h))(hl:h.length<aC):bv2 H a (kV k) v (upd H a (.dK (ao2 h k v))):=.inl ⟨h,k,e,rfl,hl,rfl⟩
theorem bv2.t {H:Hp}{a b:Addr}{h:List (List Key×V)}{k:List Key}{v:V}(e:H a=some (.dT h))(eb:H b=some (.tup (k.map kV)))(hl:h.length<aC) :
  bv2 H a (.ref b) v (upd H a (.dT (ao2 h k v))):=.inr ⟨h,k,b,e,rfl,eb,hl,rfl⟩
section
variable {X:Cx} {pins:List (Addr×Obj)} {σ:St} {H:Hp} {s:ae} {a:Addr} {y v:V} {u r:Value} {o:Option V} {A:aQ} {E:Value->ae->Prop}
theorem Inv.big (I:Inv X pins σ H s):cQ<s.heap.objs.size:=by
 have h:bh<s.heap.objs.size:=(I.mod.glob.keeps I.bk).lt
 exact fW (by decide) h
theorem av1 {Q:Value->ae->Prop}(hu:A.units+1<cLine)(I:Inv X pins σ H s)(g:az7 H a y (some v))(ry:RelV y u)(h:∀ w' s',Inv X pins σ H s'->RelV v w'->Q w' s') :
  wpAny (model X.prog X.w) A (fM (.ref a) u) Q E s:=by
 rcases g with⟨J,k,e,G,l⟩|⟨J,k,b,e,G,eb,l⟩
 ·subst G
  obtain⟨z,hd,vs,F,Z⟩:=aO1 I.hok e
  obtain⟨w',hw,C⟩:=aK4.some_of (v:=v) (o:=gT vs k) (by rw[l];exact F.val k)
  exact wpAny_getItem_of (aK5 ry) Z.mapOf hw (h w' _ (I.tok _) C)
 ·subst G
  cases(show u=Value.ref b from ry)
  obtain⟨z,hd,xs,F,Z⟩:=aS3 I.hok e
  obtain⟨w',hw,C⟩:=aK4.some_of (v:=v) (o:=(atKey xs k).map (·.2)) (by rw[l];exact F.val k)
  obtain⟨p,hp,Y⟩:=fX.mp hw
  refine wpAny_getItem_heap (dk hu) (ay8 I.hok eb) Z hp ?_
  rw[Y]
  exact h w' _ (I.tok _) C
theorem bT7 {Q:Value->ae->Prop}(Z:A.units+1<cLine)(I:Inv X pins σ H s)(g:az7 H a y o)(Y:RelV y u)(h:∀ s',Inv X pins σ H s'->Q (.bool o.isSome) s') :
  wpAny (model X.prog X.w) A (cb .In u (.ref a)) Q E s:=by
 rcases g with⟨G,k,e,J,l⟩|⟨G,k,b,e,J,eb,l⟩
 ·subst J
  obtain⟨z,hd,vs,C,F⟩:=aO1 I.hok e
  refine wpAny_in_of (aK5 Y) hd F.mapOf ?_
  rw[<-(C.val k).isSome_eq,<-l]
  exact h _ (I.tok _)
 ·subst J
  cases(show u=Value.ref b from Y)
  obtain⟨z,hd,xs,C,F⟩:=aS3 I.hok e
  refine wpAny_in_heap (dk Z) (ay8 I.hok eb) hd F ?_
  have q:=(C.val k).isSome_eq
  rw[e7]at q
  rw[<-q,<-l]
  exact h _ (I.tok _)
theorem aP8 {Q:Value->ae->Prop}(Z:A.units+1<cLine)(I:Inv X pins σ H s)(g:az7 H a y o)(Y:RelV y u)(h:∀ s',Inv X pins σ H s'->Q (.bool (!o.isSome)) s') :
  wpAny (model X.prog X.w) A (cb .NotIn u (.ref a)) Q E s:=by
 rcases g with⟨G,k,e,J,l⟩|⟨G,k,b,e,J,eb,l⟩
 ·subst J
  obtain⟨z,hd,vs,C,F⟩:=aO1 I.hok e
  refine wpAny_notIn_of (aK5 Y) hd F.mapOf ?_
  rw[<-(C.val k).isSome_eq,<-l]
  exact h _ (I.tok _)
 ·subst J
  cases(show u=Value.ref b from Y)
  obtain⟨z,hd,xs,C,F⟩:=aS3 I.hok e
  refine wpAny_notIn_heap (dk Z) (ay8 I.hok eb) hd F ?_
  have q:=(C.val k).isSome_eq
  rw[e7]at q
  rw[<-q,<-l]
  exact h _ (I.tok _)
theorem aB9 {h':Heap}{t':Nat}{ob:HO}(I:Inv X pins σ H s)(mu:Mut (H a))(hs:bL a s.heap h')(he:∃ q,h'.get? a=some q)(new:ac7 X.prog X.w (upd H a ob) h' a ob) :
  Inv X pins σ (upd H a ob) { s with heap:=h',toks:=t' } :=
 I.write (x:=a) (e:=a) mu (.inl rfl) (fun b q hb z=>(hs.2 b hb).trans z) he new
theorem bg9 {P:aI}{w:World}{H':Hp}{h':Heap}{h:List (Key×V)}{vs:List (Key×Value)}(z:h.length<=aC)(hd:(a==cQ)=false)(y:KV h vs)(C:h'.DictOf (zA P w) a vs) :
  ac7 P w H' h' a (.dK h):=⟨z,hd,vs,y,C⟩
theorem az0 {H':Hp}{Q:Unit->ae->Prop}(hu:A.units+1<cLine)(I:Inv X pins σ H s)(g:bv2 H a y v H')(ry:RelV y u)(rv:RelV v r)(h:∀ s',Inv X pins σ H' s'->Q () s') :
  wpAny (model X.prog X.w) A (setItem (.ref a) u r) Q E s:=by
 rcases g with⟨F,k,e,J,l,Y⟩|⟨F,k,b,e,J,eb,l,Y⟩
 ·subst J Y
  obtain⟨z,hd,vs,C,Z⟩:=by6 I.hok e
  have hz:vs.length<=aC:=by rw[<-C.length];exact z
  have hl:(ao2 F k v).length<=aC:=by have:=qw F k v;omega
  refine wpAny_setItem_pairs (hsz:=hz) (aK5 ry) Z fun h' G hs=>h _ ?_
  have he:∃ q,h'.get? a=some q:=let⟨q,_,_,hq,_⟩:=G;⟨q,hq⟩
  exact aB9 I (by rw[e];exact True.intro) hs he (bg9 hl hd (C.put k rv) G)
 ·subst J Y
  cases(show u=Value.ref b from ry)
  obtain⟨z,hd,xs,C,Z⟩:=bQ9 I.hok e
  have hz:xs.length<=aC:=by rw[<-g7 C];exact z
  have hl:(ao2 F k v).length<=aC:=by have:=qw F k v;omega
  refine wpAny_setItem_heap (hsz:=hz) (dk hu) (ay8 I.hok eb) Z fun h' G hs=>h _ ?_
  obtain⟨q,es,ep,hq,h2,h3,h4,_,h5⟩:=G
  refine aB9 I (by rw[e];exact True.intro) hs ⟨q,hq⟩ ⟨hl,hd,_,(C.put k eb rv).keeps fun c ys ec=>?_,q,es,ep,hq,h2,h3,h4,h5⟩
  rw[zm (bR4 ec e (fun z=>nomatch z))]
  exact ec
end
section
variable {X:Cx} {pins:List (Addr×Obj)} {σ:St} {H:Hp} {s:ae} {a:Addr} {kvs:List (Key×V)} {k:Key} {u:Value} {A:aQ} {E:Value->ae->Prop}
end
theorem ak3 {X:Cx}{h:List (Addr×Obj)}{σ:St}{H:Hp}{s:ae}{a:Addr}{y:V}{o:Option V}(I:Inv X h σ H s)(g:az7 H a y o):s.TypeIs (.ref a) "dict":=by
 rcases g with⟨C,k,e,_,_⟩|⟨C,k,b,e,_,_,_⟩
 ·obtain⟨_,_,vs,_,z⟩:=aO1 I.hok e
  exact z.typeIs
 ·obtain⟨_,_,F,_,z⟩:=aS3 I.hok e
  exact z.typeIs
section
variable {X:Cx} {o i e value:Expr} {pos pos' tpos:Pos} {td ty tv:TE}
end
theorem aG7 {P:aI}{w:World}{H:Hp}(h:Heap)(hb:cQ<h.objs.size):ac7 P w H (h.push { cls:=.type "dict",data:=.dict #[] }) h.objs.size (.dK []) :=
 ⟨cz _,beq_eq_false_iff_ne.mpr (dw (aw hb)),[],.nil,Heap.DictOf.new h⟩
def bh9:TE:=fun _ H Q=>∀ p,H p=none->Q (.ref p) (upd H p (.dK []))
section
variable {X:Cx} {pos:Pos}
theorem bf4:PE X (.Dict [] [] pos) bh9:=fun y s σ H Q I h =>
 wpAny_Dict_empty ⟨.ref s.heap.objs.size,_,I.laid (a:=s.heap.objs.size) (o:=.dK []) (t':=s.toks) (fun _ _ q=>ah _ q) (am _) (aG7 s.heap I.big),rfl,h _ (I.hok.fresh (am _))⟩
end
noncomputable def aQ5:List (TE×TE)->St->Hp->(List (V×V)->Hp->Prop)->Prop
 | [],_,H,Q=>Q [] H
 | (tk,tv)::r,σ,H,Q=>tk σ H fun x H1=>tv σ H1 fun y H2=>aQ5 r σ H2 fun ps H3=>Q ((x,y)::ps) H3
abbrev VV:List (V×V)->List (Value×Value)->Prop:=fi fun p q=>RelV p.1 q.1/\RelV p.2 q.2
def PPs (X:Cx)(pos:Pos)(keys:List (Option Expr))(values:List Expr)(trs:List (TE×TE)):Prop :=
 ∀(pins:List (Addr×Obj)) (s:ae) (σ:St) (H:Hp) (Q:List (V×V)->Hp->Prop),Inv X pins σ H s->aQ5 trs σ H Q ->
  wpAny (model X.prog X.w) X.A (evalPairs (pairTrees keys values X.env pos)) (fun vs s'=>∃ ps H',Inv X pins σ H' s'/\VV ps vs/\Q ps H') X.xe s
theorem bp1 {X:Cx}{pos:Pos}:PPs X pos [] [] []:=fun y s σ H Q I h=>pairTrees_nil_walk ⟨[],H,I,.nil,h⟩
theorem ba3 {X:Cx}{pos:Pos}{k v:Expr}{G:List (Option Expr)}{vs:List Expr}{tk J:TE}{C:List (TE×TE)}(hk:PE X k tk)(hv:PE X v J)(hr:PPs X pos G vs C) :
  PPs X pos (some k::G) (v::vs) ((tk,J)::C):=fun z s σ H Q I h =>
 pairTrees_cons_walk (thn (hk z s σ H _ I h) fun u s1 ⟨x,H1,I1,rx,Y⟩=>thn (hv z s1 σ H1 _ I1 Y) fun w2 s2 ⟨y,H2,Z,ry,q2⟩ =>
  thn (hr z s2 σ H2 _ Z q2) fun ws s3 ⟨ps,H3,I3,F,q3⟩=>⟨(x,y)::ps,H3,I3,.cons ⟨rx,ry⟩ F,q3⟩)
noncomputable def au4 (kvs more:List (Key×V)):List (Key×V):=more.foldl (fun acc kv=>ao2 acc kv.1 kv.2) kvs
theorem KV.merge:∀ {y:List (Key×V)} {C:List (Key×Value)} {z:List (Key×V)} {vs:List (Key×Value)},KV y C->KV z vs->KV (au4 z y) (merged vs C):=by
 intro y C z vs r
 unfold KV at r
 induction r generalizing z vs with
 | nil=>intro q;exact q
 | @cons p q ps qs h t ih =>
  intro r0
  have e:KV (ao2 z p.1 p.2) (stored vs q.1 q.2):=by
   have:=r0.put p.1 h.2
   rw[<-h.1];exact this
  exact ih e
theorem af5:∀(y h:List (Key×V)),(au4 h y).length<=h.length+y.length
 | [],h=>by show h.length<=h.length+0;omega
 | p::r,h=>by
  have C:=af5 r (ao2 h p.1 p.2)
  have z:=qw h p.1 p.2
  show(au4 (ao2 h p.1 p.2) r).length<=_
  rw[aL];omega
theorem ao9 {P:aI}{w:World}:∀ {y:List (Key×V)} {ws:List (Value×Value)},VV (y.map fun C=>(kV C.1,C.2)) ws->∃ z,Carries (zA P w) ws z/\KV y z
 | [],_,r=>by rw[cG]at r;cases r;exact⟨[],True.intro,.nil⟩
 | p::y,_,r=>by
  rw[aB]at r
  cases r with
  | @cons a b as bs h t =>
   obtain⟨z,c,q⟩:=ao9 (P:=P) (w:=w) t
   obtain⟨b1,F⟩:=b
   exact⟨(p.1,F)::z,⟨aK5 h.1,rfl,c⟩,.cons ⟨rfl,h.2⟩ q⟩
def bI1 (trs:List (TE×TE)):TE:=fun σ H Q=>∀ p,H p=none->aQ5 trs σ (upd H p (.dK [])) fun ps H2=>H2 p=some (.dK [])/\∃ kvs:List (Key×V),ps=kvs.map (fun kv=>(kV kv.1,kv.2))/\kvs.length<=15/\Q (.ref p) (upd H2 p (.dK (au4 [] kvs)))
theorem bk5 {X:Cx}{pos:Pos}{keys:List (Option Expr)}{y:List Expr}{C:List (TE×TE)}(h:PPs X pos keys y C)(Y:keys.all (·.isSome)=true)(hl:keys.length=y.length)(h0:keys≠[])
  (a0:keys.length<=15):PE X (.Dict keys y pos) (bI1 C):=by
 intro G s σ H Q I q
 have hn:=I.hok.fresh (am s.heap.objs.size)
 have I1:=I.laid (a:=s.heap.objs.size) (o:=.dK []) (h':=s.heap.push { cls:=.type "dict",data:=.dict #[] }) (t':=s.toks) (fun _ _ q=>ah _ q) (am _) (aG7 s.heap I.big)
 refine wpAny_Dict_walk (knd:=zA X.prog X.w) Y hl h0 a0 (thn (h G _ σ _ _ I1 (q _ hn)) fun ws s2 ⟨ps,H2,I2,Z,e,F,ep,lk,q2⟩=>?_)
 subst ep
 obtain⟨rs,c,rk⟩:=ao9 (P:=X.prog) (w:=X.w) Z
 obtain⟨z,hd,a1,r0,dd⟩:=by6 I2.hok e
 cases r0
 refine⟨rs,c,dd,fun h' J hs=>⟨.ref s.heap.objs.size,_,?_,rfl,q2⟩⟩
 have hz:(au4 [] F).length<=aC:=by
  have h1:=af5 F []
  rw[cx]at h1
  rw[eV];omega
 have he:∃ q,h'.get? s.heap.objs.size=some q:=let⟨q,_,_,hq,_⟩:=J;⟨q,hq⟩
 exact aB9 I2 (by rw[e];exact True.intro) hs he (bg9 hz hd (rk.merge .nil) J)
section
variable {X:Cx} {pins:List (Addr×Obj)} {σ:St} {H:Hp} {s:ae} {a:Addr} {y d:V} {u r:Value} {o:Option V} {A:aQ} {E:Value->ae->Prop}
end
section
variable {X:Cx} {o e f:Expr} {apos cpos:Pos} {td ty tx:TE}
end
section
variable {P:aI} {w:World} {A:aQ} {E:Value->ae->Prop} {s:ae}
end
section
variable {X:Cx} {pins:List (Addr×Obj)} {σ:St} {H:Hp} {s:ae}
end
section
variable {prog:aI} {w:World} {A:aQ} {R:jn->ae->Prop} {I:Addr} {fp wr:List Addr} {n:Nat} {P:Nat->Value->Prop} {St:Nat->Heap->Prop} {kw:List (Str×Value)}
end
theorem bq7 (i:Int)(h:0<=i):js i 1=i % 2:=by
 unfold js
 rw[decide_eq_true h]
 show((i.toNat &&& (1:Int).toNat:Nat):Int)=_
 rw[show(1:Int).toNat=1 from rfl,Nat.and_one_is_mod]
 omega
theorem bq0 {X:Cx}:OpR X (bR .BitAnd) (rI (fun i j=>0<=i/\j=1) fun i j=>.int (i % 2)):=opI fun i j _ _ _ _ _ hc q=>by
 obtain⟨h0,rfl⟩:=hc
 refine and_int ?_
 rw[bq7 i h0]
 exact q
section
variable {X:Cx} {pins:List (Addr×Obj)} {σ:St} {H:Hp} {s:ae} {a C:Addr} {a0:Value}
end
section
variable {P:aI} {w:World} {K:ac} {mg:Str->Option Value} {base:Heap} {N:List Str} {qual:Str} {scope:Scope} {f:Addr} {cd:Value} {A:aQ} {outer:List Env} {s0:ae} {H0:Hp} {E:XK}
end
noncomputable def excTail:List Value:=[.type "ValueError",.type "Exception",.type "BaseException",.type "object"]
structure ExcCls (K:ac)(C:Addr):Prop where
 obj:∃ bm N nm q bs hdct sn sub ab col dd k0 k1 k2 k3 k5 mN,K.lookup C=some (excClassObj nm q C N bs bm hdct sn sub ab col dd k0 k1 k2 k3 k5 "ValueError.__new__")/\(∀ n∈quietNames,mN n=none)/\∀ h:Heap,K.In h->h.Ns N mN/\OwnTailQ h excTail bm
noncomputable def excI (K:ac)(C:Addr):Bool:=cR K (.ref C) (bJ "__getattribute__")==some (some (.builtin "BaseException.__getattribute__"))&&(cR K (.ref C) (bJ "__getattr__")==some none&&(cR K (.ref C) (bJ "__class__")==some (some (.builtin "object.__class__"))&&(io K (.builtin "object.__class__") (bJ "__get__")==some (some (.builtin "getset_descriptor.__get__"))&&(i8 K (.builtin "object.__class__")==some true&&jy K C (.type "object")==some true))))
section
variable {X:Cx} {E:XK} {C:Addr} {x:Str}
end
section
variable {X:Cx} {pins:List (Addr×Obj)} {σ:St} {H:Hp} {s:ae} {a C T:Addr} {fl fl' a0:Value} {h':Heap}
end
section
variable {X:Cx} {pins:List (Addr×Obj)} {σ:St} {H:Hp} {s:ae} {a C:Addr} {oe:Obj} {fl:Value}
end
section
variable {prog:aI} {w:World} {A:aQ} {R:jn->ae->Prop} {I:Addr} {fp wr:List Addr} {n:Nat} {P:Nat->Value->Prop} {St:Nat->Heap->Prop} {h₀:Heap}
end
end L2
end
noncomputable section
namespace DV
inductive D where
 | non|bl (b:Bool)|int (i:Int)|str (x:List Nat)|tup (l:List D)|ref (n:Nat)|fn (f:String)|clo (f:String) (cs:List D)
noncomputable instance:DecidableEq D:=fun a b=>fD (a=b)
noncomputable instance (x:D):Decidable (x=.non):=match x with
 | .non=>.isTrue rfl
 | .bl _=>.isFalse nofun
 | .int _=>.isFalse nofun
 | .str _=>.isFalse nofun
 | .tup _=>.isFalse nofun
 | .ref _=>.isFalse nofun
 | .fn _=>.isFalse nofun
 | .clo _ _=>.isFalse nofun
inductive O where
 | lst (l:List D)|ro (l:List D)|dic (l:List (D×D))|ins (c:String) (fs:List (String×D))|dit (l:List (D×D))
noncomputable instance:DecidableEq O:=fun a b=>fD (a=b)
noncomputable abbrev Sto:=List O
noncomputable def O.kd:O->Nat
 | .lst _=>0|.ro _=>1|.dic _=>2|.ins _ _=>3|.dit _=>4
inductive R (α:Type) where
 | ok (a:α) (s:Sto)|exc (e:D) (s:Sto)|bad
noncomputable abbrev M (α:Type):=Sto->R α
noncomputable def R.bind {α β:Type}(r:R α)(f:α->Sto->R β):R β:=match r with
 | .ok a s=>f a s
 | .exc e s=>.exc e s
 | .bad=>.bad
@[simp] theorem R.bind_ok {α β:Type} (a:α) (s:Sto) (f:α->Sto->R β):(R.ok a s).bind f=f a s:=rfl
@[simp] theorem R.bind_bad {α β:Type} (f:α->Sto->R β):(R.bad:R α).bind f=.bad:=rfl
@[simp] theorem R.bind_exc {α β:Type} (e:D) (s:Sto) (f:α->Sto->R β):(R.exc e s:R α).bind f=.exc e s:=rfl
theorem R.bind_inv {α β:Type}{r:R α}{f:α->Sto->R β}{b:β}{t:Sto}(h:r.bind f=.ok b t):∃ a s,r=.ok a s/\f a s=.ok b t:=by
 cases r with
 | ok a s=>exact⟨a,s,rfl,h⟩
 | exc e s=>cases h
 | bad=>cases h
@[simp] theorem R.bind_assoc {α β γ:Type} (r:R α) (f:α->Sto->R β) (g:β->Sto->R γ):(r.bind f).bind g=r.bind fun a s=>(f a s).bind g:=by cases r<;>rfl
mutual
noncomputable def D.bnd (n:Nat):D->Bool
 | .tup l=>D.bndL n l
 | .ref k=>decide (k<n)
 | .clo _ l=>D.bndL n l
 | _=>true
noncomputable def D.bndL (n:Nat):List D->Bool
 | []=>true
 | d::l=>D.bnd n d&&D.bndL n l
end
noncomputable def O.bnd (n:Nat):O->Bool
 | .lst l=>D.bndL n l
 | .ro l=>D.bndL n l
 | .dic l=>D.bndL n (l.map (·.1))&&D.bndL n (l.map (·.2))
 | .ins _ fs=>D.bndL n (fs.map (·.2))
 | .dit l=>D.bndL n (l.map (·.1))&&D.bndL n (l.map (·.2))
mutual
noncomputable def D.plain:D->Bool
 | .non=>true|.int _=>true|.str _=>true
 | .tup l=>D.plainL l
 | _=>false
noncomputable def D.plainL:List D->Bool
 | []=>true
 | d::l=>D.plain d&&D.plainL l
end
mutual
noncomputable def D.ncl:D->Bool
 | .tup l=>D.nclL l
 | .clo _ _=>false
 | _=>true
noncomputable def D.nclL:List D->Bool
 | []=>true
 | d::l=>D.ncl d&&D.nclL l
end
noncomputable def O.ncl:O->Bool
 | .lst l=>D.nclL l
 | .ro l=>D.nclL l
 | .dic l=>D.nclL (l.map (·.2))
 | .dit l=>D.nclL (l.map (·.2))
 | _=>false
noncomputable def D.key:D->Bool
 | .int _=>true|.str _=>true|_=>false
noncomputable def D.hdI:List D->Bool
 | .int _::_=>true|_=>false
noncomputable def D.keyS:D->Bool
 | .int _=>true|.str x=>decide (x.length<=1000)|_=>false
noncomputable def D.keyT:D->Bool
 | .tup l=>D.hdI l&&(l.all D.keyS&&decide (l.length<=1000))|_=>false
noncomputable def LIM:Nat:=1000000
@[irreducible] noncomputable def BIG:Nat:=2^60000
@[irreducible] noncomputable def DIVL:Nat:=2^4096
inductive BOp where
 | add|sub|mul|fdiv|mod|pow|shl|shr|band|bor
 deriving DecidableEq
inductive COp where
 | eq|ne|lt|le|gt|ge|isin|notin
 deriving DecidableEq
inductive Cn where
 | non|bl (b:Bool)|int (i:Int)|str (x:List Nat)
 deriving DecidableEq
noncomputable def Cn.d:Cn->D
 | .non=>.non|.bl b=>.bl b|.int i=>.int i|.str x=>.str x
inductive Bi where
 | len|abs|int|str|min2|max2|max3|min3|isInt|isBool|isStr|isTup|isList|ord
 deriving DecidableEq
inductive Mk where
 | tuple|list|all|any|sum|min|max|sorted|lenset
 deriving DecidableEq
inductive Mt where
 | append|pop|index|count|reverse|clear|bitlen|get1|get2|setdefault|update|split|partition
 deriving DecidableEq
inductive Tg where
 | one (i:Nat)|tup (is:List Nat)
 deriving DecidableEq
mutual
inductive E where
 | var (i:Nat)|cst (c:Cn)|glob (x:String)
 | bin (op:BOp) (a b:E)|neg (a:E)|not (a:E)
 | cmp (op:COp) (a b:E)|chain (o p:COp) (a b c:E)
 | isN (a:E)|notN (a:E)|isB (a:E) (b:Bool)|notB (a:E) (b:Bool)
 | and (a b:E)|or (a b:E)|ite (c a b:E)
 | tup (es:Es)|lst (es:Es)|dic (ks vs:Es)|dicT|get2 (o k d:E)|bitl (a:E)|lrng (a:E)|fstr (es:Es)|inC (e:E) (c:String)|getC (c:String) (e:E)
 | ix (a b:E)|slL (a lo:E)|slU (a hi:E)|slLU (a lo hi:E)|rev (a:E)
 | call (f:String) (as:As)|callC (f:String) (as:As)|callV (i:Nat) (es:Es)
 | bi (b:Bi) (es:Es)|mk (k:Mk) (l:L)|mkD (k:Mk) (l:L) (d:E)
 | meth (m:Mt) (o:E) (es:Es)|ext (o:E) (l:L)|extS (o e:E)|join (o e:E)|mks (k:Mk) (e:E)|mkDs (k:Mk) (e d:E)|minK (id:String) (e:E) (j:Int)|spl (o:E) (c:Nat)
inductive Es where
 | nil|cons (e:E) (es:Es)
inductive As where
 | nil|ex (e:E) (as:As)|lam (id:String) (caps:List Nat) (as:As)|fn (f:String) (as:As)
inductive I where
 | seq (e:E)|rng1 (a:E)|rng2 (a b:E)|rng3 (a b:E) (c:Int)|enum (it:I)|zip (a b:I)|items (e:E)
inductive L where
 | comp (tg:Tg) (it:I) (e:E) (caps:List (Option Nat))|compIf (tg:Tg) (it:I) (c e:E) (caps:List (Option Nat))|disp (es:Es)|seq (e:E)|itm (e:E)
end
mutual
inductive S where
 | asg (tg:Tg) (e:E)|setIx (o i e:E)|aug (i:Nat) (e:E)|ex (e:E)|ret (e:E)|retN
 | ite (c:E) (a b:Ss)|whl (c:E) (b:Ss)|for_ (tg:Tg) (it:I) (b:Ss)|pass|cont|brk|raise|und (i:Nat)
inductive Ss where
 | nil|cons (s:S) (ss:Ss)
end
noncomputable abbrev Env:=List (Option D)
noncomputable def ac9 (o:O):M D:=fun s=>.ok (.ref s.length) (s++[o])
noncomputable def pur (d:D):M D:=fun s=>.ok d s
noncomputable def bad {α:Type}:M α:=fun _=>.bad
noncomputable def mulOk (a b:Int):Bool:=decide (a.natAbs<2^64)||decide (b.natAbs<2^64)||(decide (a.natAbs<BIG)&&decide (b.natAbs<BIG))
noncomputable def rep:Nat->List Nat->List Nat
 | 0,_=>[]
 | n+1,a=>a++rep n a
noncomputable def aO0:Nat->List D->List D
 | 0,_=>[]
 | n+1,a=>a++aO0 n a
noncomputable def qi:BOp->D->D->M D
 | .add,.int a,.int b=>pur (.int (a+b))
 | .add,.str a,.str b=>if a.length+b.length<=LIM then pur (.str (a++b))else bad
 | .add,.tup a,.tup b=>if a.length+b.length<=LIM then pur (.tup (a++b))else bad
 | .add,.ref a,.ref b=>fun s=>match s[a]?,s[b]? with
  | some (.lst l),some (.lst m)=>if l.length+m.length<=LIM then ac9 (.lst (l++m)) s else .bad
  | _,_=>.bad
 | .sub,.int a,.int b=>pur (.int (a - b))
 | .mul,.int a,.int b=>if mulOk a b then pur (.int (a*b))else bad
 | .mul,.str a,.int n=>if 0<=n/\n<=1000000/\a.length*n.toNat<=LIM then pur (.str (rep n.toNat a))else bad
 | .mul,.tup a,.int n=>if 0<=n/\n<=1000000/\a.length*n.toNat<=LIM then pur (.tup (aO0 n.toNat a))else bad
 | .mul,.ref a,.int n=>fun s=>match s[a]? with
  | some (.lst l)=>if 0<=n/\n<=1000000/\l.length*n.toNat<=LIM then ac9 (.lst (aO0 n.toNat l)) s else .bad
  | _=>.bad
 | .fdiv,.int a,.int b=>if 0<b/\b<(DIVL:Int)then pur (.int (a / b))else bad
 | .mod,.int a,.int b=>if 0<b then pur (.int (a % b))else bad
 | .pow,.int a,.int b=>if 0<=b/\b<=1000000/\a.natAbs<2^64 then pur (.int (a^b.toNat))else bad
 | .shl,.int a,.int b=>if 0<=b/\b<=1000000/\a.natAbs<2^64 then pur (.int (a*2^b.toNat))else bad
 | .shr,.int a,.int b=>if 0<=b then pur (.int (a / 2^b.toNat))else bad
 | .band,.int a,.int b=>if 0<=a/\b=1 then pur (.int (a % 2))else bad
 | _,_,_=>bad
noncomputable def kd (s:Sto):D->Nat
 | .non=>0|.bl _=>1|.int _=>1|.str _=>2|.tup _=>3
 | .ref r=>match s[r]? with|some (.lst _)=>4|_=>9
 | _=>9
noncomputable def aA0 (a b:Nat):Bool:=a==9||b==9||a==b
noncomputable def b2i (b:Bool):Int:=if b then 1 else 0
noncomputable def aM4:D->D->Option Bool
 | .non,.non=>some true
 | .bl a,.bl b=>some (a==b)
 | .int a,.int b=>some (a==b)
 | .bl a,.int b=>some (b2i a==b)
 | .int a,.bl b=>some (a==b2i b)
 | .str a,.str b=>some (a==b)
 | _,_=>none
noncomputable def ad2 (s:Sto)(a b:D):Option Bool:=match aM4 a b with
 | some z=>some z
 | none=>if aA0 (kd s a) (kd s b)then none else some false
noncomputable def eqL (f:D->D->Option Bool):List D->List D->Option Bool
 | [],[]=>some true
 | [],_::_=>some false
 | _::_,[]=>some false
 | a::l,b::m=>match f a b,eqL f l m with
  | some x,some y=>some (x&&y)
  | _,_=>none
noncomputable def eqv (s:Sto):Nat->D->D->Option Bool
 | 0,a,b=>ad2 s a b
 | n+1,a,b=>match a,b with
  | .tup l,.tup m=>eqL (eqv s n) l m
  | .ref x,.ref y=>match s[x]?,s[y]? with
   | some (.lst l),some (.lst m)=>if l.length=m.length then eqL (eqv s n) l m else some false
   | _,_=>none
  | a,b=>ad2 s a b
noncomputable def DEEP:Nat:=30
noncomputable def eqM (a b:D):M D:=fun s=>match eqv s DEEP a b with
 | some r=>.ok (.bl r) s
 | none=>.bad
noncomputable def inL (s:Sto)(x:D):List D->Option Bool
 | []=>some false
 | y::l=>match eqv s DEEP y x,inL s x l with
  | some a,some b=>some (a||b)
  | _,_=>none
noncomputable def look (k:D):List (D×D)->Option D
 | []=>none
 | (a,v)::l=>if a=k then some v else look k l
noncomputable def inM (a b:D):M Bool:=fun s=>match b with
 | .tup l=>match inL s a l with|some r=>.ok r s|none=>.bad
 | .ref r=>match s[r]? with
  | some (.lst l)=>match inL s a l with|some r=>.ok r s|none=>.bad
  | some (.dic l)=>if a.key then .ok (look a l).isSome s else .bad
  | some (.dit l)=>if a.keyT then .ok (look a l).isSome s else .bad
  | _=>.bad
 | .str y=>match a with|.str [c]=>.ok (decide (c∈y)) s|_=>.bad
 | _=>.bad
noncomputable def zV:COp->D->D->M D
 | .eq,a,b=>eqM a b
 | .ne,a,b=>fun s=>match eqv s DEEP a b with|some r=>.ok (.bl (!r)) s|none=>.bad
 | .lt,.int a,.int b=>pur (.bl (decide (a<b)))
 | .le,.int a,.int b=>pur (.bl (decide (a<=b)))
 | .gt,.int a,.int b=>pur (.bl (decide (b<a)))
 | .ge,.int a,.int b=>pur (.bl (decide (b<=a)))
 | .isin,a,b=>fun s=>(inM a b s).bind fun r s=>.ok (.bl r) s
 | .notin,a,b=>fun s=>(inM a b s).bind fun r s=>.ok (.bl (!r)) s
 | _,_,_=>bad
noncomputable def ixn (n:Nat)(i:Int):Option Nat:=if 0<=i then(if i<n then some i.toNat else none)else if -(n:Int)<=i then some (i+n).toNat else none
noncomputable def sbd (n:Nat)(i:Int):Nat:=if 0<=i then min i.toNat n else(i+n).toNat
noncomputable def loB (n:Nat):Option Int->Nat
 | none=>0
 | some i=>sbd n i
noncomputable def hiB (n:Nat):Option Int->Nat
 | none=>n
 | some i=>sbd n i
noncomputable def ai0 {α:Type}(l:List α)(lo hi:Option Int):List α:=(l.drop (loB l.length lo)).take (hiB l.length hi - loB l.length lo)
noncomputable def ixM (a b:D):M D:=fun s=>match a,b with
 | .tup l,.int i=>match(ixn l.length i).bind fun j=>l[j]? with|some d=>.ok d s|none=>.bad
 | .str l,.int i=>match(ixn l.length i).bind fun j=>l[j]? with|some c=>.ok (.str [c]) s|none=>.bad
 | .ref r,b=>match s[r]? with
  | some (.lst l)=>match b with
   | .int i=>match(ixn l.length i).bind fun j=>l[j]? with|some d=>.ok d s|none=>.bad
   | _=>.bad
  | some (.ro l)=>match b with
   | .int i=>match(ixn l.length i).bind fun j=>l[j]? with|some d=>.ok d s|none=>.bad
   | _=>.bad
  | some (.dic l)=>if b.key then match look b l with|some d=>.ok d s|none=>.bad else .bad
  | some (.dit l)=>if b.keyT then match look b l with|some d=>.ok d s|none=>.bad else .bad
  | _=>.bad
 | _,_=>.bad
noncomputable def slM (a:D)(lo hi:Option Int):M D:=fun s=>match a with
 | .tup l=>.ok (.tup (ai0 l lo hi)) s
 | .str l=>.ok (.str (ai0 l lo hi)) s
 | .ref r=>match s[r]? with
  | some (.lst l)=>ac9 (.lst (ai0 l lo hi)) s
  | _=>.bad
 | _=>.bad
noncomputable def bP8 (a:D):M D:=fun s=>match a with
 | .str l=>.ok (.str l.reverse) s
 | .ref r=>match s[r]? with
  | some (.lst l)=>ac9 (.lst l.reverse) s
  | _=>.bad
 | _=>.bad
noncomputable def ah2:List D->Option (List Bool)
 | []=>some []
 | .bl b::l=>(ah2 l).map (b::·)
 | _=>none
noncomputable def qo:List D->Option (List Int)
 | []=>some []
 | .int i::l=>(qo l).map (i::·)
 | _=>none
noncomputable def ad0:List D->Option (List (List Nat))
 | []=>some []
 | .str i::l=>(ad0 l).map (i::·)
 | _=>none
noncomputable def bu9 (d:D):M D:=fun s=>match d with
 | .tup l=>.ok (.int l.length) s
 | .str l=>.ok (.int l.length) s
 | .ref r=>match s[r]? with
  | some (.lst l)=>.ok (.int l.length) s
  | some (.ro l)=>.ok (.int l.length) s
  | _=>.bad
 | _=>.bad
noncomputable def isK (k:Nat)(d:D):M D:=fun s=>match d with
 | .non=>.ok (.bl false) s
 | .bl _=>.ok (.bl (k==1||k==2)) s
 | .int _=>.ok (.bl (k==1)) s
 | .str _=>.ok (.bl (k==3)) s
 | .tup _=>.ok (.bl (k==4)) s
 | .ref r=>match s[r]? with
  | some (.lst _)=>.ok (.bl (k==5)) s
  | _=>.bad
 | _=>.bad
noncomputable def bi1 (f:D->M D):List D->M D
 | [d]=>f d
 | _=>bad
noncomputable def aM5:List D->M D
 | [.str [c]]=>fun s=>if 48<=c/\c<=57 then .ok (.int ((c - 48:Nat):Int)) s else .bad
 | _=>bad
noncomputable def aO7:List D->M D
 | [.int i]=>fun s=>if 0<=i/\i<=9 then .ok (.str [48+i.toNat]) s else .bad
 | [.str w]=>fun s=>.ok (.str w) s
 | _=>bad
noncomputable def bi:Bi->List D->M D
 | .len,l=>bi1 bu9 l
 | .abs,l=>fun s=>match qo l with|some [i]=>.ok (.int (if i<0 then -i else i)) s|_=>.bad
 | .int,l=>fun s=>match ah2 l with|some [b]=>.ok (.int (if b then 1 else 0)) s|some _=>.bad|none=>aM5 l s
 | .str,l=>aO7 l
 | .min2,l=>fun s=>match qo l with|some [a,b]=>.ok (.int (if b<a then b else a)) s|_=>.bad
 | .max2,l=>fun s=>match qo l with|some [a,b]=>.ok (.int (if b > a then b else a)) s|_=>.bad
 | .max3,l=>fun s=>match qo l with|some [a,b,c]=>.ok (.int (max (max a b) c)) s|_=>.bad
 | .isInt,l=>bi1 (isK 1) l
 | .isBool,l=>bi1 (isK 2) l
 | .isStr,l=>bi1 (isK 3) l
 | .isTup,l=>bi1 (isK 4) l
 | .isList,l=>bi1 (isK 5) l
 | _,_=>bad
noncomputable def bC0:List Int->Option Int
 | []=>none
 | a::l=>some (l.foldl min a)
noncomputable def bT3:List Int->Option Int
 | []=>none
 | a::l=>some (l.foldl max a)
noncomputable def ins (a:Int):List Int->List Int
 | []=>[a]
 | b::l=>if a<=b then a::b::l else b::ins a l
noncomputable def bB9:List Int->List Int
 | []=>[]
 | a::l=>ins a (bB9 l)
noncomputable def bX8 (is:List Int):Bool:=is.all (fun i=>decide (-1000000000<=i/\i<=1000000000))&&decide (is.length<=1000000)
noncomputable def mk:Mk->List D->M D
 | .tuple,l=>fun s=>.ok (.tup l) s
 | .list,l=>ac9 (.lst l)
 | .all,l=>fun s=>match ah2 l with|some bs=>.ok (.bl (bs.all id)) s|none=>.bad
 | .any,l=>fun s=>match ah2 l with|some bs=>.ok (.bl (bs.any id)) s|none=>.bad
 | .sum,l=>fun s=>match qo l with|some is=>if bX8 is then .ok (.int is.sum) s else .bad|none=>.bad
 | .min,l=>fun s=>match(qo l).bind bC0 with|some m=>.ok (.int m) s|none=>.bad
 | .max,l=>fun s=>match(qo l).bind bT3 with|some m=>.ok (.int m) s|none=>.bad
 | .sorted,l=>fun s=>match qo l with|some is=>ac9 (.lst ((bB9 is).map D.int)) s|none=>.bad
 | .lenset,l=>bad
noncomputable def mkD (k:Mk)(l:List D)(d:D):M D:=fun s=>match k with
 | .min=>match qo l with|some is=>(match bC0 is with|some m=>.ok (.int m) s|none=>.ok d s)|none=>.bad
 | .max=>match qo l with|some is=>(match bT3 is with|some m=>.ok (.int m) s|none=>.ok d s)|none=>.bad
 | _=>.bad
noncomputable def at4 (k v:D)(l:List (D×D)):List (D×D):=if(look k l).isSome then l.map (fun p=>if p.1=k then(p.1,v)else p)else l++[(k,v)]
noncomputable def setIx (o i v:D):Sto->R Unit:=fun s=>match o with
 | .ref r=>match s[r]? with
  | some (.lst l)=>match i with
   | .int i=>match ixn l.length i with|some j=>.ok () (s.set r (.lst (l.set j v)))|none=>.bad
   | _=>.bad
  | some (.dic l)=>if i.key&&decide (l.length<LIM)then .ok () (s.set r (.dic (at4 i v l)))else .bad
  | some (.dit l)=>if i.keyT&&decide (l.length<LIM)then .ok () (s.set r (.dit (at4 i v l)))else .bad
  | _=>.bad
 | _=>.bad
noncomputable def bO7 (o k e:D):M D:=fun s=>match o with
 | .ref r=>match s[r]? with
  | some (.dit l)=>if k.keyT then .ok ((look k l).getD e) s else .bad
  | _=>.bad
 | _=>.bad
noncomputable def idx (s:Sto)(x:D):Nat->List D->Option Nat
 | _,[]=>none
 | n,y::l=>match eqv s DEEP y x with
  | some true=>some n
  | some false=>idx s x (n+1) l
  | none=>none
noncomputable def meth:Mt->D->List D->M D
 | .append,.ref r,[d]=>fun s=>match s[r]? with
  | some (.lst l)=>if l.length<LIM then .ok .non (s.set r (.lst (l++[d])))else .bad
  | _=>.bad
 | .pop,.ref r,[]=>fun s=>match s[r]? with
  | some (.lst l)=>match l.getLast? with|some d=>.ok d (s.set r (.lst l.dropLast))|none=>.bad
  | _=>.bad
 | .reverse,.ref r,[]=>fun s=>match s[r]? with
  | some (.lst l)=>.ok .non (s.set r (.lst l.reverse))
  | _=>.bad
 | .clear,.ref r,[]=>fun s=>match s[r]? with
  | some (.lst l)=>.ok .non (s.set r (.lst []))
  | _=>.bad
 | .index,.ref r,[d]=>fun s=>match s[r]? with
  | some (.lst l)=>match inL s d l,idx s d 0 l with|some true,some n=>.ok (.int n) s|_,_=>.bad
  | _=>.bad
 | _,_,_=>bad
noncomputable def bh5 (o:D)(l:List D):M D:=fun s=>match o with
 | .ref r=>match s[r]? with
  | some (.lst m)=>if m.length+l.length<=LIM then .ok .non (s.set r (.lst (m++l)))else .bad
  | _=>.bad
 | _=>.bad
noncomputable def zX (sep:List Nat):List (List Nat)->List Nat
 | []=>[]
 | [p]=>p
 | p::q::ps=>p++(sep++zX sep (q::ps))
noncomputable def zE (c:Nat):List Nat->List (List Nat)
 | []=>[[]]
 | x::l=>if x=c then[]::zE c l else match zE c l with
  | p::ps=>(x::p)::ps
  | []=>[[x]]
noncomputable def bk7 (c:Nat)(x:D):M D:=fun s=>match x with
 | .str w=>if w.length+2<=LIM then ac9 (.lst ((zE c w).map D.str)) s else .bad
 | _=>.bad
noncomputable def aB2 (x y:D):M D:=fun s=>match x with
 | .str []=>match y with
  | .ref r=>match s[r]? with
   | some (.lst l)=>match ad0 l with
    | some ss=>if ss.flatten.length<=LIM then .ok (.str ss.flatten) s else .bad
    | none=>.bad
   | _=>.bad
  | _=>.bad
 | .str (c::sep)=>match y with
  | .ref r=>match s[r]? with
   | some (.lst l)=>match ad0 l with
    | some ss=>if(ss.map fun w=>w.length+(c::sep).length).sum<=LIM then .ok (.str (zX (c::sep) ss)) s else .bad
    | none=>.bad
   | _=>.bad
  | _=>.bad
 | _=>.bad
noncomputable def extS (o d:D):M D:=fun s=>match d with
 | .ref k=>match s[k]? with
  | some (.lst l)=>bh5 o l s
  | _=>.bad
 | _=>.bad
structure Fns where
 call:String->List D->M D
 lam:String->List D->List D->M D
 con:String->Option D
 xcall:String->List D->Sto->Option (String×Sto)
 xc:String->Bool
 xt:String->Bool
 cdc:String->Option (List (List Nat×List Nat))
noncomputable def aP0 (ρ:Env)(i:Nat):M D:=fun s=>match ρ[i]? with|some (some d)=>.ok d s|_=>.bad
noncomputable def bs5 (ρ:Env):List Nat->Option (List D)
 | []=>some []
 | i::is=>match ρ[i]?,bs5 ρ is with|some (some d),some l=>some (d::l)|_,_=>none
noncomputable def zN (ρ:Env)(caps:List (Option Nat)):Env:=caps.map fun o=>match o with|none=>none|some j=>(ρ[j]?).join
noncomputable def aC1 (ρ:Env)(i:Nat)(d:D):Option Env:=if i < ρ.length then some (ρ.set i (some d))else none
noncomputable def al2 (ρ:Env)(i:Nat):Option Env:=if i < ρ.length then some (ρ.set i none)else none
noncomputable def aj5 (ρ:Env):List Nat->List D->Option Env
 | [],[]=>some ρ
 | i::is,d::l=>(aC1 ρ i d).bind fun ρ=>aj5 ρ is l
 | _,_=>none
noncomputable def ad4 (ρ:Env):Tg->D->Option Env
 | .one i,d=>aC1 ρ i d
 | .tup is,.tup l=>aj5 ρ is l
 | _,_=>none
structure Sq where
 its:List D
 src:List Nat
noncomputable def ah8 (d:D):M Sq:=fun s=>match d with
 | .tup l=>.ok ⟨l,[]⟩ s
 | .str l=>.ok ⟨l.map fun c=>.str [c],[]⟩ s
 | .ref r=>match s[r]? with
  | some (.lst l)=>.ok ⟨l,[r]⟩ s
  | some (.ro l)=>.ok ⟨l,[]⟩ s
  | _=>.bad
 | _=>.bad
noncomputable def ai1 (d:D):M Sq:=fun s=>match d with
 | .tup l=>.ok ⟨l,[]⟩ s
 | .str l=>.ok ⟨l.map fun c=>.str [c],[]⟩ s
 | .ref r=>match s[r]? with
  | some (.lst l)=>.ok ⟨l,[r]⟩ s
  | some (.ro l)=>.ok ⟨l,[]⟩ s
  | _=>.bad
 | _=>.bad
noncomputable def ba6 (d:D):M Sq:=fun s=>match d with
 | .tup l=>.ok ⟨l,[]⟩ s
 | .ref r=>match s[r]? with
  | some (.lst l)=>.ok ⟨l,[r]⟩ s
  | some (.ro l)=>.ok ⟨l,[]⟩ s
  | _=>.bad
 | _=>.bad
noncomputable def bW4 (p:D×D):D:=match p.1 with
 | .tup l=>.tup (l++[p.2])
 | _=>.non
noncomputable def bQ8 (d:D):Sto->R (List D):=fun s=>match d with
 | .ref r=>match s[r]? with
  | some (.dit l)=>if l.length<=LIM then .ok (l.map bW4) s else .bad
  | _=>.bad
 | _=>.bad
noncomputable def bk8 (d:D):Sto->R (List D):=fun s=>match d with
 | .tup l=>.ok l s
 | .str l=>.ok (l.map fun c=>.str [c]) s
 | .ref r=>match s[r]? with
  | some (.lst l)=>.ok l s
  | some (.ro l)=>.ok l s
  | _=>.bad
 | _=>.bad
noncomputable def bi0 (d:D):Sto->R (List D):=fun s=>match d with
 | .ref r=>match s[r]? with
  | some (.lst l)=>.ok l s
  | _=>.bad
 | _=>.bad
noncomputable def bY0 (j:Int):D->Option Int
 | .tup l=>match(ixn l.length j).bind fun k=>l[k]? with|some (.int z)=>some z|_=>none
 | _=>none
noncomputable def bC9 (j:Int):List D->Option (List Int)
 | []=>some []
 | d::l=>match bY0 j d with
  | some z=>(match bC9 j l with|some zs=>some (z::zs)|none=>none)
  | none=>none
noncomputable def bQ3 (f:Nat->Int):Nat->Nat
 | 0=>0
 | k+1=>if f (k+1)<f (bQ3 f k)then k+1 else bQ3 f k
noncomputable def bm1 (j:Int)(l:List D):M D:=fun s=>match bC9 j l with
 | some ks=>(match l[bQ3 (fun i=>ks.getD i 0) (l.length - 1)]? with|some d=>.ok d s|none=>.bad)
 | none=>.bad
noncomputable def W62:Int:=4611686018427387904
noncomputable def ag6 (a b:Int):List D:=(aS (b - a).toNat).map fun(k:Nat)=>.int (a+k)
noncomputable def bitsN (i:Int):Nat:=if i=0 then 0 else i.natAbs.log2+1
noncomputable def bB4 (x:D):M D:=fun s=>match x with|.int i=>.ok (.int (bitsN i:Nat)) s|_=>.bad
noncomputable def bA4 (x:D):M D:=fun s=>match x with|.int i=>if 0<=i/\i<=1000000 then ac9 (.lst (ag6 0 i)) s else .bad|_=>.bad
noncomputable def bY5 (a b c:Int):List D:=if 0<c then(aS ((b - a+c - 1) / c).toNat).map fun(k:Nat)=>.int (a+c*k)else(aS ((a - b+(-c) - 1) / (-c)).toNat).map fun(k:Nat)=>.int (a+c*k)
noncomputable def bo7 (n:Nat):List D->List D
 | []=>[]
 | d::l=>.tup [.int n,d]::bo7 (n+1) l
noncomputable def af0:List D->List D->List D
 | a::l,b::m=>.tup [a,b]::af0 l m
 | _,_=>[]
noncomputable def chk (s0 s:Sto)(src:List Nat):Bool:=src.all fun r=>decide (s[r]?=s0[r]?)
noncomputable def tru {α:Type}(r:R D)(f:Bool->Sto->R α):R α:=r.bind fun d s=>match d with|.bl b=>f b s|_=>.bad
@[simp] theorem tru_bl {α:Type} (b:Bool) (s:Sto) (f:Bool->Sto->R α):tru (.ok (.bl b) s) f=f b s:=rfl
noncomputable def qd (ok:Sto->Bool)(g:D->Env->Sto->R (Option D×Env)):List D->Env->Sto->R (List D)
 | [],_,s=>if ok s then .ok [] s else .bad
 | d::l,ρ,s=>if ok s then(g d ρ s).bind fun p s=>(qd ok g l p.2 s).bind fun r s=>.ok (match p.1 with|some v=>v::r|none=>r) s else .bad
noncomputable def bH3 (l:List D):M D:=fun s=>match ad0 l with|some ws=>if ws.flatten.length<=LIM then .ok (.str ws.flatten) s else .bad|none=>.bad
noncomputable def bW0 (F:Fns)(c:String)(x:D):M D:=fun s=>match F.cdc c,x with|some kvs,.str w=>.ok (.bl (kvs.lookup w).isSome) s|_,_=>.bad
noncomputable def bG0 (F:Fns)(c:String)(x:D):M D:=fun s=>match F.cdc c,x with|some kvs,.str w=>(match kvs.lookup w with|some v=>if v.length<=LIM then .ok (.str v) s else .bad|none=>.bad)|_,_=>.bad
mutual
noncomputable def ev (F:Fns):E->Env->Sto->R D
 | .var i,ρ,s=>aP0 ρ i s
 | .cst c,_,s=>.ok c.d s
 | .glob x,_,s=>match F.con x with|some d=>.ok d s|none=>.bad
 | .bin op a b,ρ,s=>(ev F a ρ s).bind fun x s=>(ev F b ρ s).bind fun y s=>qi op x y s
 | .neg a,ρ,s=>(ev F a ρ s).bind fun x s=>match x with|.int i=>.ok (.int (-i)) s|_=>.bad
 | .not a,ρ,s=>tru (ev F a ρ s) fun b s=>.ok (.bl (!b)) s
 | .cmp op a b,ρ,s=>(ev F a ρ s).bind fun x s=>(ev F b ρ s).bind fun y s=>zV op x y s
 | .chain o p a b c,ρ,s=>(ev F a ρ s).bind fun x s=>(ev F b ρ s).bind fun y s=>tru (zV o x y s) fun k s=>if k then(ev F c ρ s).bind fun z s=>zV p y z s else .ok (.bl false) s
 | .isN a,ρ,s=>(ev F a ρ s).bind fun x s=>.ok (.bl (decide (x=.non))) s
 | .notN a,ρ,s=>(ev F a ρ s).bind fun x s=>.ok (.bl (!decide (x=.non))) s
 | .isB a b,ρ,s=>(ev F a ρ s).bind fun x s=>match x with|.bl c=>.ok (.bl (c==b)) s|_=>.bad
 | .notB a b,ρ,s=>(ev F a ρ s).bind fun x s=>match x with|.bl c=>.ok (.bl (!(c==b))) s|_=>.bad
 | .and a b,ρ,s=>tru (ev F a ρ s) fun c s=>if c then tru (ev F b ρ s) fun c s=>.ok (.bl c) s else .ok (.bl false) s
 | .or a b,ρ,s=>tru (ev F a ρ s) fun c s=>if c then .ok (.bl true) s else tru (ev F b ρ s) fun c s=>.ok (.bl c) s
 | .ite c a b,ρ,s=>tru (ev F c ρ s) fun k s=>if k then ev F a ρ s else ev F b ρ s
 | .tup es,ρ,s=>(evs F es ρ s).bind fun l s=>.ok (.tup l) s
 | .lst es,ρ,s=>(evs F es ρ s).bind fun l s=>ac9 (.lst l) s
 | .dic .nil .nil,ρ,s=>ac9 (.dic []) s
 | .dic (.cons k .nil) (.cons v .nil),ρ,s=>(ev F k ρ (s++[.dic []])).bind fun kd s1=>(ev F v ρ s1).bind fun vd s2=>if kd.key=true/\s2[s.length]?=some (.dic [])then .ok (.ref s.length) (s2.set s.length (.dic [(kd,vd)]))else .bad
 | .dic _ _,ρ,s=>.bad
 | .dicT,_,s=>ac9 (.dit []) s
 | .get2 o k d,ρ,s=>(ev F o ρ s).bind fun x s=>(ev F k ρ s).bind fun y s=>(ev F d ρ s).bind fun z s=>bO7 x y z s
 | .bitl a,ρ,s=>(ev F a ρ s).bind fun x s=>bB4 x s
 | .lrng a,ρ,s=>(ev F a ρ s).bind fun x s=>bA4 x s
 | .fstr es,ρ,s=>(evs F es ρ s).bind fun l s=>bH3 l s
 | .inC e c,ρ,s=>(ev F e ρ s).bind fun x s=>bW0 F c x s
 | .getC c e,ρ,s=>(ev F e ρ s).bind fun x s=>bG0 F c x s
 | .ix a b,ρ,s=>(ev F a ρ s).bind fun x s=>(ev F b ρ s).bind fun y s=>ixM x y s
 | .slL a lo,ρ,s=>(ev F a ρ s).bind fun x s=>(ev F lo ρ s).bind fun y s=>match y with|.int i=>slM x (some i) none s|_=>.bad
 | .slU a hi,ρ,s=>(ev F a ρ s).bind fun x s=>(ev F hi ρ s).bind fun y s=>match y with|.int i=>slM x none (some i) s|_=>.bad
 | .slLU a lo hi,ρ,s=>(ev F a ρ s).bind fun x s=>(ev F lo ρ s).bind fun y s=>match y with|.int i=>(ev F hi ρ s).bind (fun z s=>match z with|.int j=>slM x (some i) (some j) s|_=>.bad)|_=>.bad
 | .rev a,ρ,s=>(ev F a ρ s).bind fun x s=>bP8 x s
 | .call f as,ρ,s=>(an9 F as ρ s).bind fun l s=>F.call f l s
 | .callC f as,ρ,s=>(an9 F as ρ s).bind fun l s=>(F.call f l s).bind fun d s'=>if(d.ncl&&s'.all O.ncl)=true then .ok d s' else .bad
 | .callV i es,ρ,s=>(evs F es ρ s).bind fun l s=>match ρ[i]? with
  | some (some (.fn f))=>F.call f l s
  | some (some (.clo id cs))=>F.lam id cs l s
  | _=>.bad
 | .bi b es,ρ,s=>(evs F es ρ s).bind fun l s=>bi b l s
 | .mk k it,ρ,s=>(evL F it ρ s).bind fun q s=>mk k q s
 | .mkD k it d,ρ,s=>(evL F it ρ s).bind fun q s=>(ev F d ρ s).bind fun d s=>mkD k q d s
 | .meth m o es,ρ,s=>(ev F o ρ s).bind fun x s=>(evs F es ρ s).bind fun l s=>meth m x l s
 | .ext o it,ρ,s=>(ev F o ρ s).bind fun x s=>(evL F it ρ s).bind fun q s=>bh5 x q s
 | .extS o e,ρ,s=>(ev F o ρ s).bind fun x s=>(ev F e ρ s).bind fun y s=>extS x y s
 | .join o e,ρ,s=>(ev F o ρ s).bind fun x s=>(ev F e ρ s).bind fun y s=>aB2 x y s
 | .mks k e,ρ,s=>(ev F e ρ s).bind fun x s=>(bi0 x s).bind fun q s=>mk k q s
 | .mkDs k e d,ρ,s=>(ev F e ρ s).bind fun x s=>(ev F d ρ s).bind fun z s=>(bi0 x s).bind fun q s=>mkD k q z s
 | .minK _ e j,ρ,s=>(ev F e ρ s).bind fun x s=>(bi0 x s).bind fun q s=>bm1 j q s
 | .spl o c,ρ,s=>(ev F o ρ s).bind fun x s=>bk7 c x s
noncomputable def evs (F:Fns):Es->Env->Sto->R (List D)
 | .nil,_,s=>.ok [] s
 | .cons e es,ρ,s=>(ev F e ρ s).bind fun d s=>(evs F es ρ s).bind fun l s=>.ok (d::l) s
noncomputable def an9 (F:Fns):As->Env->Sto->R (List D)
 | .nil,_,s=>.ok [] s
 | .ex e as,ρ,s=>(ev F e ρ s).bind fun d s=>(an9 F as ρ s).bind fun l s=>.ok (d::l) s
 | .lam id caps as,ρ,s=>match bs5 ρ caps with
  | some cs=>(an9 F as ρ s).bind fun l s=>.ok (.clo id cs::l) s
  | none=>.bad
 | .fn f as,ρ,s=>(an9 F as ρ s).bind fun l s=>.ok (.fn f::l) s
noncomputable def evI (F:Fns):I->Env->Sto->R Sq
 | .seq e,ρ,s=>(ev F e ρ s).bind fun d s=>ah8 d s
 | .rng1 a,ρ,s=>(ev F a ρ s).bind fun x s=>match x with|.int i=>if -W62<=i/\i<W62 then .ok ⟨ag6 0 i,[]⟩ s else .bad|_=>.bad
 | .rng2 a b,ρ,s=>(ev F a ρ s).bind fun x s=>(ev F b ρ s).bind fun y s=>match x,y with|.int i,.int j=>if(-W62<=i/\i<W62)/\-W62<=j/\j<W62 then .ok ⟨ag6 i j,[]⟩ s else .bad|_,_=>.bad
 | .rng3 a b c,ρ,s=>(ev F a ρ s).bind fun x s=>(ev F b ρ s).bind fun y s=>match x,y with|.int i,.int j=>if c=2/\(0<=i/\i<1048576)/\0<=j/\j<1048576 then .ok ⟨bY5 i j c,[]⟩ s else .bad|_,_=>.bad
 | .enum (.seq e),ρ,s=>(ev F e ρ s).bind fun d s=>(ba6 d s).bind fun q s=>.ok ⟨bo7 0 q.its,q.src⟩ s
 | .zip (.seq a) (.seq b),ρ,s=>(ev F a ρ s).bind fun x s=>(ev F b ρ s).bind fun y s=>(ai1 x s).bind fun p s=>(ai1 y s).bind fun q s=>.ok ⟨af0 p.its q.its,p.src++q.src⟩ s
 | .enum _,_,_=>.bad
 | .zip _ _,_,_=>.bad
 | .items e,ρ,s=>.bad
noncomputable def evL (F:Fns):L->Env->Sto->R (List D)
 | .comp tg it e caps,ρ,s=>(evI F it ρ s).bind fun q s0=>if q.its.length<=LIM then qd (fun s=>chk s0 s q.src) (fun d ρ s=>match ad4 ρ tg d with
   | some ρ=>(ev F e ρ s).bind fun v s=>.ok (some v,ρ) s
   | none=>.bad) q.its (zN ρ caps) s0 else .bad
 | .compIf tg it c e caps,ρ,s=>(evI F it ρ s).bind fun q s0=>if q.its.length<=LIM then qd (fun s=>chk s0 s q.src) (fun d ρ s=>match ad4 ρ tg d with
   | some ρ=>tru (ev F c ρ s) fun k s=>if k then(ev F e ρ s).bind fun v s=>.ok (some v,ρ) s else .ok (none,ρ) s
   | none=>.bad) q.its (zN ρ caps) s0 else .bad
 | .disp es,ρ,s=>evs F es ρ s
 | .seq e,ρ,s=>(ev F e ρ s).bind fun d s=>bk8 d s
 | .itm e,ρ,s=>(ev F e ρ s).bind fun d s=>bQ8 d s
end
inductive Ct where
 | next (ρ:Env)|ret (d:D)|cont (ρ:Env)|brk (ρ:Env)
noncomputable def aN9 (ok:Sto->Bool)(g:D->Env->Sto->R Ct):List D->Env->Sto->R Ct
 | [],ρ,s=>if ok s then .ok (.next ρ) s else .bad
 | d::l,ρ,s=>if ok s then(g d ρ s).bind fun c s=>match c with
   | .next ρ=>aN9 ok g l ρ s
   | .cont ρ=>aN9 ok g l ρ s
   | .brk ρ=>.ok (.next ρ) s
   | .ret d=>.ok (.ret d) s
  else .bad
noncomputable def qz (c:Env->Sto->R D)(g:Env->Sto->R Ct):Nat->Env->Sto->R Ct
 | 0,_,_=>.bad
 | n+1,ρ,s=>tru (c ρ s) fun b s=>if b then(g ρ s).bind fun c' s=>match c' with
   | .next ρ=>qz c g n ρ s
   | .cont ρ=>qz c g n ρ s
   | .brk ρ=>.ok (.next ρ) s
   | .ret d=>.ok (.ret d) s
  else .ok (.next ρ) s
open Classical in
noncomputable def whl (c:Env->Sto->R D)(g:Env->Sto->R Ct)(ρ:Env)(s:Sto):R Ct :=
 if h:∃ n,qz c g n ρ s≠.bad then qz c g h.choose ρ s else .bad
mutual
noncomputable def ex (F:Fns):S->Env->Sto->R Ct
 | .asg tg e,ρ,s=>(ev F e ρ s).bind fun d s=>match ad4 ρ tg d with|some ρ=>.ok (.next ρ) s|none=>.bad
 | .setIx o i e,ρ,s=>(ev F e ρ s).bind fun d s=>(ev F o ρ s).bind fun x s=>(ev F i ρ s).bind fun y s=>(setIx x y d s).bind fun _ s=>.ok (.next ρ) s
 | .aug i e,ρ,s=>(aP0 ρ i s).bind fun x s=>(ev F e ρ s).bind fun y s=>match x,y with
  | .int a,.int b=>match aC1 ρ i (.int (a+b))with|some ρ=>.ok (.next ρ) s|none=>.bad
  | _,_=>.bad
 | .ex e,ρ,s=>(ev F e ρ s).bind fun _ s=>.ok (.next ρ) s
 | .ret e,ρ,s=>(ev F e ρ s).bind fun d s=>.ok (.ret d) s
 | .retN,_,s=>.ok (.ret .non) s
 | .ite c a b,ρ,s=>tru (ev F c ρ s) fun k s=>if k then exs F a ρ s else exs F b ρ s
 | .whl c b,ρ,s=>whl (ev F c) (exs F b) ρ s
 | .for_ tg it b,ρ,s=>(evI F it ρ s).bind fun q s0=>aN9 (fun s=>chk s0 s q.src) (fun d ρ s=>match ad4 ρ tg d with
   | some ρ=>exs F b ρ s
   | none=>.bad) q.its ρ s0
 | .pass,ρ,s=>.ok (.next ρ) s
 | .cont,ρ,s=>.ok (.cont ρ) s
 | .brk,ρ,s=>.ok (.brk ρ) s
 | .raise,_,_=>.bad
 | .und i,ρ,s=>match al2 ρ i with|some ρ=>.ok (.next ρ) s|none=>.bad
noncomputable def exs (F:Fns):Ss->Env->Sto->R Ct
 | .nil,ρ,s=>.ok (.next ρ) s
 | .cons st ss,ρ,s=>(ex F st ρ s).bind fun c s=>match c with|.next ρ=>exs F ss ρ s|c=>.ok c s
end
structure Df where
 name:String
 ps:Nat
 vs:Nat
 body:Ss
structure Lm where
 id:String
 ps:Nat
 cs:Nat
 body:E
inductive HT where
 | isi (cs:List String)|one (c:String)|not (t:HT)|or (a b:HT)
inductive Hd where
 | ret (t:HT)|iff (t:HT) (b:Bool) (h:Hd)
noncomputable def subC (c d:String):Bool:=c==d||(d == "TollError"||d == "ValueError")
noncomputable def HT.val (c:String):HT->Bool
 | .isi cs=>cs.any (subC c)
 | .one d=>subC c d
 | .not t=>!t.val c
 | .or a b=>if a.val c then true else b.val c
noncomputable def HT.ok (p:String->Bool):HT->Bool
 | .isi cs=>cs.all p
 | .one d=>p d
 | .not t=>t.ok p
 | .or a b=>a.ok p&&b.ok p
noncomputable def Hd.val (c:String):Hd->Bool
 | .ret t=>t.val c
 | .iff t b h=>if t.val c then b else h.val c
noncomputable def Hd.ok (p:String->Bool):Hd->Bool
 | .ret t=>t.ok p
 | .iff t _ h=>t.ok p&&h.ok p
inductive XB where
 | no|rais (c:String)|call (f:String) (as:As)|iteT (c:E) (a r:XB)|seq (s:S) (b:XB)
noncomputable def xB (F:Fns):XB->Env->Sto->Option (String×Sto)
 | .no,_,_=>none
 | .rais c,_,s=>if F.xc c=true then some (c,s)else none
 | .call f as,ρ,s=>match an9 F as ρ s with|.ok l s1=>F.xcall f l s1|_=>none
 | .iteT c a r,ρ,s=>match ev F c ρ s with|.ok (.bl b) s1=>if b then xB F a ρ s1 else xB F r ρ s1|_=>none
 | .seq st b,ρ,s=>match ex F st ρ s with|.ok (.next ρ1) s1=>xB F b ρ1 s1|_=>none
structure Xf where
 ps:Nat
 vs:Nat
 body:XB
structure Tf where
 ps:Nat
 vs:Nat
 body:Ss
 xb:XB
 c:String
 i:Nat
 h:Hd
 tl:Ss
structure Pr where
 df:String->Option Df
 lm:String->Option Lm
 con:String->Option D
 xf:String->Option Xf
 tf:String->Option Tf
 xc:String->Bool
 xt:String->Bool
 cdc:String->Option (List (List Nat×List Nat))
noncomputable def ar4 (st st':Sto):Bool:=(aS st.length).all fun i=>decide (st'[i]?=st[i]?)||(match st'[i]? with|some o=>o.bnd st.length|none=>false)
noncomputable def zB (st:Sto)(d:D)(st':Sto):R D :=
 if ar4 st st' then
  match d with
  | .ref r=>if r<st.length then .ok d (st'.take st.length)else match st'[r]? with
   | some o=>if o.bnd st.length then .ok (.ref st.length) (st'.take st.length++[o])else .ok d st'
   | none=>.bad
  | d=>if d.bnd st.length then .ok d (st'.take st.length)else .ok d st'
 else .ok d st'
noncomputable def bR2 (F:Fns)(d:Tf)(l:List D)(s:Sto):R D:=match xB F d.xb (l.map some++aA d.vs none) s with
 | some (c,s')=>if c=d.c/\F.xc c=true/\d.h.ok F.xt=true then zB s (.bl (d.h.val c)) s' else .bad
 | none=>(exs F d.body (l.map some++aA d.vs none) s).bind fun c s1=>match c with
  | .ret v=>zB s v s1
  | .next ρ=>(exs F d.tl ρ s1).bind fun c s2=>match c with
   | .ret v=>zB s v s2
   | .next _=>zB s .non s2
   | _=>.bad
  | _=>.bad
noncomputable def aa1 (P:Pr):Nat->Fns
 | 0=>⟨fun _ _ _=>.bad,fun _ _ _ _=>.bad,P.con,fun _ _ _=>none,P.xc,P.xt,P.cdc⟩
 | n+1=>⟨fun f l s=>match P.df f with
   | some d=>if l.length=d.ps then(exs (aa1 P n) d.body (l.map some++aA d.vs none) s).bind fun c s'=>match c with
     | .ret v=>zB s v s'
     | .next _=>zB s .non s'
     | _=>.bad else .bad
   | none=>match P.tf f with
    | some d=>if l.length=d.ps then bR2 (aa1 P n) d l s else .bad
    | none=>.bad,
  fun id cs l s=>match P.lm id with
   | some d=>if l.length=d.ps/\cs.length=d.cs/\(D.nclL l&&D.nclL cs&&s.all O.ncl)=true then(ev (aa1 P n) d.body (l.map some++cs.map some) s).bind fun v s'=>zB s v s' else .bad
   | none=>.bad,P.con,
  fun f l s=>match P.xf f with
   | some d=>if l.length=d.ps then xB (aa1 P n) d.body (l.map some++aA d.vs none) s else none
   | none=>none,P.xc,P.xt,P.cdc⟩
def KP (s s':Sto):Prop:=∀(i:Nat) (o:O),s[i]?=some o->∃ o',s'[i]?=some o'/\o'.kd=o.kd
theorem KP.refl (s:Sto):KP s s:=fun i o h=>⟨o,h,rfl⟩
theorem KP.trans {a b c:Sto}(h:KP a b)(g:KP b c):KP a c:=fun i o e=>by
 obtain⟨y,e1,k1⟩:=h i o e
 obtain⟨z,e2,k2⟩:=g i y e1
 exact⟨z,e2,k2.trans k1⟩
theorem KP.app (s t:Sto):KP s (s++t):=fun i o e=>⟨o,by rw[aP (ag.mp e).1];exact e,rfl⟩
theorem KP.set {s:Sto}{r:Nat}{o y:O}(h:s[r]?=some y)(k:o.kd=y.kd):KP s (s.set r o):=fun i u e=>by
 by_cases z:r=i
 ·subst z
  rw[h]at e;cases e
  exact⟨o,aZ (ag.mp h).1,k⟩
 ·exact⟨u,by rw[bj z];exact e,rfl⟩
def KR {α:Type}(s:Sto)(r:R α):Prop:=∀ a s',r=.ok a s'->KP s s'
theorem KR.bad {α:Type}{s:Sto}:KR s (.bad:R α):=fun _ _ h=>by cases h
theorem KR.ok {α:Type}{s:Sto}{a:α}:KR s (.ok a s):=fun _ _ h=>by cases h;exact KP.refl _
theorem KR.bind {α β:Type}{s:Sto}{r:R α}{f:α->Sto->R β}(h:KR s r)(g:∀ a s1,KR s1 (f a s1)):KR s (r.bind f):=fun b s' e=>by
 obtain⟨a,s1,e1,e2⟩:=R.bind_inv e
 exact(h a s1 e1).trans (g a s1 b s' e2)
theorem KR.tru {α:Type}{s:Sto}{r:R D}{f:Bool->Sto->R α}(h:KR s r)(g:∀ a s1,KR s1 (f a s1)):KR s (tru r f):=KR.bind h fun a s1=>by
 cases a with
 | bl b=>exact g b s1
 | _=>exact KR.bad
theorem KR.if {α:Type}{s:Sto}{c:Prop}[Decidable c]{a b:R α}(h:KR s a)(g:KR s b):KR s (if c then a else b):=by split;exact h;exact g
theorem KR.al {s:Sto}{o:O}:KR s (ac9 o s):=fun _ _ h=>by cases h;exact KP.app _ _
theorem KR.pu {s:Sto}{d:D}:KR s (pur d s):=fun _ _ h=>by cases h;exact KP.refl _
theorem KR.bd {s:Sto}:KR s ((DV.bad:M D) s):=fun _ _ h=>by cases h
theorem KR.im {s:Sto}{c:Prop}{_:Decidable c}{d:D}:KR s ((if c then pur d else DV.bad:M D) s):=by split;exact KR.pu;exact KR.bd
theorem KR.ia {s:Sto}{c:Prop}{_:Decidable c}{o:O}:KR s (if c then ac9 o s else .bad):=KR.if KR.al KR.bd
theorem ba0 (op:BOp)(x y:D)(s:Sto):KR s (qi op x y s):=by
 cases op with
 | add=>cases x with
  | int a=>cases y with
   | int b=>exact KR.pu
   | _=>exact KR.bd
  | str a=>cases y with
   | str b=>exact KR.im
   | _=>exact KR.bd
  | tup a=>cases y with
   | tup b=>exact KR.im
   | _=>exact KR.bd
  | ref a=>cases y with
   | ref b =>
    show KR s (match s[a]?,s[b]? with|some (.lst l),some (.lst m)=>if l.length+m.length<=LIM then ac9 (.lst (l++m)) s else .bad|_,_=>.bad)
    split
    ·exact KR.ia
    ·exact KR.bd
   | _=>exact KR.bd
  | _=>exact KR.bd
 | sub=>cases x with
  | int a=>cases y with
   | int b=>exact KR.pu
   | _=>exact KR.bd
  | _=>exact KR.bd
 | mul=>cases x with
  | int a=>cases y with
   | int b=>exact KR.im
   | _=>exact KR.bd
  | str a=>cases y with
   | int b=>exact KR.im
   | _=>exact KR.bd
  | tup a=>cases y with
   | int b=>exact KR.im
   | _=>exact KR.bd
  | ref a=>cases y with
   | int n =>
    show KR s (match s[a]? with|some (.lst l)=>if 0<=n/\n<=1000000/\l.length*n.toNat<=LIM then ac9 (.lst (aO0 n.toNat l)) s else .bad|_=>.bad)
    split
    ·exact KR.ia
    ·exact KR.bd
   | _=>exact KR.bd
  | _=>exact KR.bd
 | fdiv=>cases x with
  | int a=>cases y with
   | int b=>exact KR.im
   | _=>exact KR.bd
  | _=>exact KR.bd
 | mod=>cases x with
  | int a=>cases y with
   | int b=>exact KR.im
   | _=>exact KR.bd
  | _=>exact KR.bd
 | pow=>cases x with
  | int a=>cases y with
   | int b=>exact KR.im
   | _=>exact KR.bd
  | _=>exact KR.bd
 | shl=>cases x with
  | int a=>cases y with
   | int b=>exact KR.im
   | _=>exact KR.bd
  | _=>exact KR.bd
 | shr=>cases x with
  | int a=>cases y with
   | int b=>exact KR.im
   | _=>exact KR.bd
  | _=>exact KR.bd
 | band=>cases x with
  | int a=>cases y with
   | int b=>exact KR.im
   | _=>exact KR.bd
  | _=>exact KR.bd
 | _=>exact KR.bd
theorem aT2 (op:COp)(x y:D)(s:Sto):KR s (zV op x y s):=by
 have z:∀ a b:D,KR s (inM a b s):=fun a b=>by
  intro r s' h
  unfold inM at h
  split at h
  ·split at h<;>cases h;exact KP.refl _
  ·split at h
   ·split at h<;>cases h;exact KP.refl _
   ·split at h<;>cases h;exact KP.refl _
   ·split at h<;>cases h;exact KP.refl _
   ·cases h
  ·split at h<;>cases h;exact KP.refl _
  ·cases h
 cases op with
 | isin=>exact KR.bind (z x y) fun _ _=>KR.ok
 | notin=>exact KR.bind (z x y) fun _ _=>KR.ok
 | eq=>intro a s' h;change eqM x y s=_ at h;unfold eqM at h;split at h<;>cases h;exact KP.refl _
 | ne =>
  intro a s' h
  change(match eqv s DEEP x y with|some r=>R.ok (D.bl (!r)) s|none=>.bad)=_ at h
  split at h<;>cases h;exact KP.refl _
 | _ =>
  intro a s' h
  cases x with
  | int i=>(cases y with
   | int j=>cases h;exact KP.refl _
   | _=>cases h)
  | _=>cases h
theorem bN6 (x y:D)(s:Sto):KR s (ixM x y s):=by
 intro a s' h
 unfold ixM at h
 repeat' split at h
 all_goals first|(cases h;exact KP.refl _;done)|(cases h;done)
theorem bm0 (x:D)(y z:Option Int)(s:Sto):KR s (slM x y z s):=by
 intro a s' h
 unfold slM at h
 repeat' split at h
 all_goals first|(cases h;exact KP.refl _;done)|(cases h;exact KP.app _ _;done)|(cases h;done)
theorem bu1 (x:D)(s:Sto):KR s (bk8 x s):=by
 intro a s' h
 unfold bk8 at h
 repeat' split at h
 all_goals first|(cases h;exact KP.refl _;done)|(cases h;done)
theorem aC3 (x:D)(s:Sto):KR s (bi0 x s):=by
 intro a s' h
 unfold bi0 at h
 repeat' split at h
 all_goals first|(cases h;exact KP.refl _;done)|(cases h;done)
theorem bv1 (x:D)(s:Sto):KR s (ah8 x s):=by
 intro a s' h
 unfold ah8 at h
 repeat' split at h
 all_goals first|(cases h;exact KP.refl _;done)|(cases h;done)
theorem aG8 (x:D)(s:Sto):KR s (ai1 x s):=by
 intro a s' h
 unfold ai1 at h
 repeat' split at h
 all_goals first|(cases h;exact KP.refl _;done)|(cases h;done)
theorem ba1 (x:D)(s:Sto):KR s (ba6 x s):=by
 intro a s' h
 unfold ba6 at h
 repeat' split at h
 all_goals first|(cases h;exact KP.refl _;done)|(cases h;done)
theorem br9 (x y:D)(s:Sto):KR s (aB2 x y s):=by
 intro a s' h
 unfold aB2 at h
 repeat' split at h
 all_goals first|(cases h;exact KP.refl _;done)|(cases h;done)
theorem bu6 (l:List D)(s:Sto):KR s (aO7 l s):=by
 intro a s' h
 unfold aO7 at h
 split at h
 ·split at h<;>cases h;exact KP.refl _
 ·cases h;exact KP.refl _
 ·cases h
theorem bq3 (l:List D)(s:Sto):KR s (aM5 l s):=by
 intro a s' h
 unfold aM5 at h
 split at h
 ·split at h<;>cases h;exact KP.refl _
 ·cases h
theorem bP4 (b:Bi)(l:List D)(s:Sto):KR s (bi b l s):=by
 have k1:∀ f:D->M D,(∀ d,KR s (f d s))->KR s (bi1 f l s):=fun f hf=>by
  cases l with
  | nil=>exact KR.bad
  | cons d t=>(cases t with
   | nil=>exact hf d
   | cons _ _=>exact KR.bad)
 have k2:∀ k d,KR s (isK k d s):=fun k d=>by
  intro a s' h
  unfold isK at h
  repeat' split at h
  all_goals first|(cases h;exact KP.refl _;done)|(cases h;done)
 have y:∀ d,KR s (bu9 d s):=fun d=>by
  intro a s' h
  unfold bu9 at h
  repeat' split at h
  all_goals first|(cases h;exact KP.refl _;done)|(cases h;done)
 cases b with
 | len=>exact k1 _ y
 | isInt=>exact k1 _ (k2 1)
 | isBool=>exact k1 _ (k2 2)
 | isStr=>exact k1 _ (k2 3)
 | isTup=>exact k1 _ (k2 4)
 | isList=>exact k1 _ (k2 5)
 | str=>exact bu6 l s
 | int =>
  intro a s' h
  have h:(match ah2 l with|some [b]=>R.ok (D.int (if b then 1 else 0)) s|some _=>.bad|none=>aM5 l s)=.ok a s':=h
  split at h
  ·cases h;exact KP.refl _
  ·cases h
  ·exact bq3 l s a s' h
 | _ =>
  intro a s' h
  unfold bi at h
  first|(cases h;done)|(simp only at h;split at h<;>first|(cases h;exact KP.refl _;done)|(cases h;done))
theorem bK4 (k:Mk)(l:List D)(s:Sto):KR s (mk k l s):=by
 cases k with
 | tuple=>exact KR.ok
 | list=>exact KR.al
 | lenset=>exact KR.bad
 | _ =>
  intro a s' h
  unfold mk at h
  simp only at h
  repeat' split at h
  all_goals first|(cases h;exact KP.refl _;done)|(cases h;exact KP.app _ _;done)|(cases h;done)
theorem bj4 (k:Mk)(l:List D)(d:D)(s:Sto):KR s (mkD k l d s):=by
 intro a s' h
 unfold mkD at h
 repeat' split at h
 all_goals first|(cases h;exact KP.refl _;done)|(cases h;done)
theorem br1 (m : Mt) (o : D) (l : List D) (s : Sto) : KR s (meth m o l s) := by
  have lc : ∀ {r : Nat} {f : List D -> R D}, (∀ l, s[r]? = some (.lst l) -> KR s (f l)) -> KR s (match s[r]? with|some (.lst l) => f l|_ => .bad : R D) := fun {r f} h => by
    cases e : s[r]? with
    | none => exact KR.bad
    | some ob => cases ob with
      | lst l => exact h l e
      | _ => exact KR.bad
  cases o with
  | ref r => cases m with
    | append => match l with
      | [d] => exact lc fun l e => KR.if (fun _ _ h => by cases h; exact KP.set e rfl) KR.bad
      | [] => exact KR.bd
      | _ :: _ :: _ => exact KR.bd
    | pop => match l with
      | [] => exact lc fun l e => by
                show KR s (match l.getLast? with|some d => R.ok d (s.set r (.lst l.dropLast))|none => .bad : R D)
                split
                · exact fun _ _ h => by cases h; exact KP.set e rfl
                · exact KR.bad
      | _ :: _ => exact KR.bd
    | reverse => match l with
      | [] => exact lc fun l e => fun _ _ h => by cases h; exact KP.set e rfl
      | _ :: _ => exact KR.bd
    | clear => match l with
      | [] => exact lc fun l e => fun _ _ h => by cases h; exact KP.set e rfl
      | _ :: _ => exact KR.bd
    | index => match l with
      | [d] => exact lc fun l e => by
                show KR s (match inL s d l, idx s d 0 l with|some true, some n => R.ok (.int n) s|_, _ => .bad : R D)
                split
                · exact fun _ _ h => by cases h; exact KP.refl _
                · exact KR.bad
      | [] => exact KR.bd
      | _ :: _ :: _ => exact KR.bd
    | _ => exact KR.bd
  | _ => cases m <;> exact KR.bd
theorem aT7 (o:D)(l:List D)(s:Sto):KR s (bh5 o l s):=by
 intro a s' h
 unfold bh5 at h
 repeat' split at h
 all_goals first|(cases h;done)|(rename_i e _;cases h;exact KP.set e rfl;done)
theorem bb5 (o i v:D)(s:Sto):KR s (setIx o i v s):=by
 intro a s' h
 unfold setIx at h
 cases o with
 | ref r =>
  simp only at h
  cases e:s[r]? with
  | none=>rw[e]at h;cases h
  | some ob =>
   rw[e]at h
   cases ob with
   | lst l =>
    cases i with
    | int k=>simp only at h;split at h<;>cases h;exact KP.set e rfl
    | _=>cases h
   | dic l=>simp only at h;split at h<;>cases h;exact KP.set e rfl
   | dit l=>simp only at h;split at h<;>cases h;exact KP.set e rfl
   | _=>cases h
 | _=>cases h
theorem bl4 (o k e:D)(s:Sto):KR s (bO7 o k e s):=by
 intro a s' h
 unfold bO7 at h
 repeat' split at h
 all_goals first|(cases h;exact KP.refl _;done)|(cases h;done)
theorem bs8 (d:D)(s:Sto):KR s (bQ8 d s):=by
 intro a s' h
 unfold bQ8 at h
 repeat' split at h
 all_goals first|(cases h;exact KP.refl _;done)|(cases h;done)
structure FK (F:Fns):Prop where
 call:∀ f l s,KR s (F.call f l s)
 lam:∀ id cs l s,KR s (F.lam id cs l s)
 xcall:∀ f l s c s',F.xcall f l s=some (c,s')->KP s s'
theorem ar9 {ok:Sto->Bool}{g:D->Env->Sto->R (Option D×Env)}(hg:∀ d ρ s,KR s (g d ρ s)):∀(l:List D) (ρ:Env) (s:Sto),KR s (qd ok g l ρ s)
 | [],ρ,s=>KR.if KR.ok KR.bad
 | d::l,ρ,s=>KR.if (KR.bind (hg d ρ s) fun p s1=>KR.bind (ar9 hg l p.2 s1) fun r s2=>KR.ok) KR.bad
section
variable {F:Fns} (hF:FK F)
theorem aU3 (ρ:Env)(i:Nat)(s:Sto):KR s (aP0 ρ i s):=by
 intro a s' h
 unfold aP0 at h
 split at h<;>cases h;exact KP.refl _
include hF
mutual
theorem zb:∀(e:E) (ρ:Env) (s:Sto),KR s (ev F e ρ s)
 | .var i,ρ,s=>aU3 ρ i s
 | .cst c,ρ,s=>KR.ok
 | .glob x,ρ,s=>by
  intro a s' h
  change(match F.con x with|some d=>R.ok d s|none=>.bad)=_ at h
  split at h<;>cases h;exact KP.refl _
 | .bin op a b,ρ,s=>KR.bind (zb a ρ s) fun x s=>KR.bind (zb b ρ s) fun y s=>ba0 op x y s
 | .neg a,ρ,s=>KR.bind (zb a ρ s) fun x s=>by
  cases x with
  | int i=>exact KR.ok
  | _=>exact KR.bad
 | .not a,ρ,s=>KR.tru (zb a ρ s) fun b s=>KR.ok
 | .cmp op a b,ρ,s=>KR.bind (zb a ρ s) fun x s=>KR.bind (zb b ρ s) fun y s=>aT2 op x y s
 | .chain o p a b c,ρ,s=>KR.bind (zb a ρ s) fun x s=>KR.bind (zb b ρ s) fun y s=>KR.tru (aT2 o x y s) fun k s=>KR.if (KR.bind (zb c ρ s) fun z s=>aT2 p y z s) KR.ok
 | .isN a,ρ,s=>KR.bind (zb a ρ s) fun x s=>KR.ok
 | .notN a,ρ,s=>KR.bind (zb a ρ s) fun x s=>KR.ok
 | .isB a b,ρ,s=>KR.bind (zb a ρ s) fun x s=>by
  cases x with
  | bl i=>exact KR.ok
  | _=>exact KR.bad
 | .notB a b,ρ,s=>KR.bind (zb a ρ s) fun x s=>by
  cases x with
  | bl i=>exact KR.ok
  | _=>exact KR.bad
 | .and a b,ρ,s=>KR.tru (zb a ρ s) fun c s=>KR.if (KR.tru (zb b ρ s) fun c s=>KR.ok) KR.ok
 | .or a b,ρ,s=>KR.tru (zb a ρ s) fun c s=>KR.if KR.ok (KR.tru (zb b ρ s) fun c s=>KR.ok)
 | .ite c a b,ρ,s=>KR.tru (zb c ρ s) fun k s=>KR.if (zb a ρ s) (zb b ρ s)
 | .tup es,ρ,s=>KR.bind (ae9 es ρ s) fun l s=>KR.ok
 | .lst es,ρ,s=>KR.bind (ae9 es ρ s) fun l s=>KR.al
 | .dic .nil .nil,ρ,s=>KR.al
 | .dic (.cons k .nil) (.cons v .nil),ρ,s=>by
  intro a s' h
  obtain⟨kd,s1,e1,h⟩:=R.bind_inv (show(ev F k ρ (s++[.dic []])).bind _=_ from h)
  obtain⟨C,s2,e2,h⟩:=R.bind_inv h
  split at h
  case isFalse=>cases h
  rename_i hc
  cases h
  exact((KP.app _ _).trans ((zb k ρ _ _ _ e1).trans (zb v ρ _ _ _ e2))).trans (KP.set hc.2 rfl)
 | .dic .nil (.cons _ _),ρ,s=>KR.bad
 | .dic (.cons _ .nil) .nil,ρ,s=>KR.bad
 | .dic (.cons _ .nil) (.cons _ (.cons _ _)),ρ,s=>KR.bad
 | .dic (.cons _ (.cons _ _)) _,ρ,s=>KR.bad
 | .dicT,ρ,s=>KR.al
 | .fstr es,ρ,s=>KR.bind (ae9 es ρ s) fun x s=>by
  intro a s' h
  unfold bH3 at h
  split at h
  ·split at h<;>cases h;exact KP.refl _
  ·cases h
 | .inC e c,ρ,s=>KR.bind (zb e ρ s) fun x s=>by
  intro a s' h
  unfold bW0 at h
  split at h<;>cases h;exact KP.refl _
 | .getC c e,ρ,s=>KR.bind (zb e ρ s) fun x s=>by
  intro a s' h
  unfold bG0 at h
  split at h
  ·split at h
   ·split at h<;>cases h;exact KP.refl _
   ·cases h
  ·cases h
 | .bitl a,ρ,s=>KR.bind (zb a ρ s) fun x s=>by
  intro a s' h
  unfold bB4 at h
  repeat' split at h
  all_goals first|(cases h;exact KP.refl _;done)|(cases h;done)
 | .lrng a,ρ,s=>KR.bind (zb a ρ s) fun x s=>by
  intro a s' h
  unfold bA4 at h
  repeat' split at h
  all_goals first|(cases h;exact KP.app _ _;done)|(cases h;done)
 | .get2 o k d,ρ,s=>KR.bind (zb o ρ s) fun x s=>KR.bind (zb k ρ s) fun y s=>KR.bind (zb d ρ s) fun z s=>bl4 x y z s
 | .ix a b,ρ,s=>KR.bind (zb a ρ s) fun x s=>KR.bind (zb b ρ s) fun y s=>bN6 x y s
 | .slL a lo,ρ,s=>KR.bind (zb a ρ s) fun x s=>KR.bind (zb lo ρ s) fun y s=>by
  cases y with
  | int i=>exact bm0 _ _ _ _
  | _=>exact KR.bad
 | .slU a hi,ρ,s=>KR.bind (zb a ρ s) fun x s=>KR.bind (zb hi ρ s) fun y s=>by
  cases y with
  | int i=>exact bm0 _ _ _ _
  | _=>exact KR.bad
 | .slLU a lo hi,ρ,s=>KR.bind (zb a ρ s) fun x s=>KR.bind (zb lo ρ s) fun y s=>by
  cases y with
  | int i =>
   refine KR.bind (zb hi ρ s) fun z s=>?_
   cases z with
   | int j=>exact bm0 _ _ _ _
   | _=>exact KR.bad
  | _=>exact KR.bad
 | .rev a,ρ,s=>KR.bind (zb a ρ s) fun x s=>by
  cases x with
  | str l=>exact KR.ok
  | ref r =>
   intro a s' h
   unfold bP8 at h
   repeat' split at h
   all_goals first|(cases h;exact KP.refl _;done)|(cases h;exact KP.app _ _;done)|(cases h;done)
  | _=>exact KR.bad
 | .call f as,ρ,s=>KR.bind (ag9 as ρ s) fun l s=>hF.call f l s
 | .callC f as,ρ,s=>KR.bind (ag9 as ρ s) fun l s=>KR.bind (hF.call f l s) fun d s'=>KR.if KR.ok KR.bad
 | .callV i es,ρ,s=>KR.bind (ae9 es ρ s) fun l s=>by
  intro a s' h
  split at h
  ·exact hF.call _ _ _ _ _ h
  ·exact hF.lam _ _ _ _ _ _ h
  ·cases h
 | .bi b es,ρ,s=>KR.bind (ae9 es ρ s) fun l s=>bP4 b l s
 | .mk k it,ρ,s=>KR.bind (aE6 it ρ s) fun q s=>bK4 k q s
 | .mkD k it d,ρ,s=>KR.bind (aE6 it ρ s) fun q s=>KR.bind (zb d ρ s) fun d s=>bj4 k q d s
 | .meth m o es,ρ,s=>KR.bind (zb o ρ s) fun x s=>KR.bind (ae9 es ρ s) fun l s=>br1 m x l s
 | .ext o it,ρ,s=>KR.bind (zb o ρ s) fun x s=>KR.bind (aE6 it ρ s) fun q s=>aT7 x q s
 | .extS o e,ρ,s=>KR.bind (zb o ρ s) fun x s=>KR.bind (zb e ρ s) fun y s=>by
  intro a s' h
  unfold extS at h
  repeat' split at h
  all_goals first|(cases h;done)|exact aT7 _ _ _ _ _ h
 | .join o e,ρ,s=>KR.bind (zb o ρ s) fun x s=>KR.bind (zb e ρ s) fun y s=>br9 x y s
 | .mks k e,ρ,s=>KR.bind (zb e ρ s) fun x s=>KR.bind (aC3 x s) fun q s=>bK4 k q s
 | .mkDs k e d,ρ,s=>KR.bind (zb e ρ s) fun x s=>KR.bind (zb d ρ s) fun z s=>KR.bind (aC3 x s) fun q s=>bj4 k q z s
 | .minK _ e j,ρ,s=>KR.bind (zb e ρ s) fun x s=>KR.bind (aC3 x s) fun q s=>by
  intro a s' h
  unfold bm1 at h
  split at h
  ·split at h<;>cases h;exact KP.refl _
  ·cases h
 | .spl o c,ρ,s=>KR.bind (zb o ρ s) fun x s=>by
  intro a s' h
  unfold bk7 at h
  split at h
  ·split at h<;>cases h;exact KP.app _ _
  ·cases h
theorem ae9:∀(es:Es) (ρ:Env) (s:Sto),KR s (evs F es ρ s)
 | .nil,ρ,s=>KR.ok
 | .cons e es,ρ,s=>KR.bind (zb e ρ s) fun d s=>KR.bind (ae9 es ρ s) fun l s=>KR.ok
theorem ag9:∀(y:As) (ρ:Env) (s:Sto),KR s (an9 F y ρ s)
 | .nil,ρ,s=>KR.ok
 | .ex e y,ρ,s=>KR.bind (zb e ρ s) fun d s=>KR.bind (ag9 y ρ s) fun l s=>KR.ok
 | .lam id caps y,ρ,s=>by
  intro a s' h
  change(match bs5 ρ caps with|some cs=>(an9 F y ρ s).bind fun l s=>R.ok (D.clo id cs::l) s|none=>.bad)=_ at h
  split at h
  ·exact KR.bind (ag9 y ρ s) (fun l s=>KR.ok) _ _ h
  ·cases h
 | .fn f y,ρ,s=>KR.bind (ag9 y ρ s) fun l s=>KR.ok
theorem aP9:∀(it:I) (ρ:Env) (s:Sto),KR s (evI F it ρ s)
 | .seq e,ρ,s=>KR.bind (zb e ρ s) fun d s=>bv1 d s
 | .rng1 a,ρ,s=>KR.bind (zb a ρ s) fun x s=>by
  cases x with
  | int i=>exact KR.if KR.ok KR.bad
  | _=>exact KR.bad
 | .rng2 a b,ρ,s=>KR.bind (zb a ρ s) fun x s=>KR.bind (zb b ρ s) fun y s=>by
  cases x with
  | int i=>(cases y with
   | int j=>exact KR.if KR.ok KR.bad
   | _=>exact KR.bad)
  | _=>exact KR.bad
 | .rng3 a b c,ρ,s=>KR.bind (zb a ρ s) fun x s=>KR.bind (zb b ρ s) fun y s=>by
  cases x with
  | int i=>(cases y with
   | int j=>exact KR.if KR.ok KR.bad
   | _=>exact KR.bad)
  | _=>exact KR.bad
 | .enum (.seq e),ρ,s=>KR.bind (zb e ρ s) fun d s=>KR.bind (ba1 d s) fun q s=>KR.ok
 | .zip (.seq a) (.seq b),ρ,s=>KR.bind (zb a ρ s) fun x s=>KR.bind (zb b ρ s) fun y s=>KR.bind (aG8 x s) fun p s=>KR.bind (aG8 y s) fun q s=>KR.ok
 | .enum (.rng1 _),ρ,s=>KR.bad
 | .enum (.rng2 _ _),ρ,s=>KR.bad
 | .enum (.rng3 _ _ _),ρ,s=>KR.bad
 | .enum (.enum _),ρ,s=>KR.bad
 | .enum (.zip _ _),ρ,s=>KR.bad
 | .enum (.items _),ρ,s=>KR.bad
 | .zip (.rng1 _) _,ρ,s=>KR.bad
 | .zip (.rng2 _ _) _,ρ,s=>KR.bad
 | .zip (.rng3 _ _ _) _,ρ,s=>KR.bad
 | .zip (.enum _) _,ρ,s=>KR.bad
 | .zip (.zip _ _) _,ρ,s=>KR.bad
 | .zip (.items _) _,ρ,s=>KR.bad
 | .zip (.seq _) (.rng1 _),ρ,s=>KR.bad
 | .zip (.seq _) (.rng2 _ _),ρ,s=>KR.bad
 | .zip (.seq _) (.rng3 _ _ _),ρ,s=>KR.bad
 | .zip (.seq _) (.enum _),ρ,s=>KR.bad
 | .zip (.seq _) (.zip _ _),ρ,s=>KR.bad
 | .zip (.seq _) (.items _),ρ,s=>KR.bad
 | .items e,ρ,s=>KR.bad
theorem aE6:∀(it:L) (ρ:Env) (s:Sto),KR s (evL F it ρ s)
 | .comp tg it e caps,ρ,s=>KR.bind (aP9 it ρ s) fun q s0=>KR.if (ar9 (fun d ρ s=>by
   intro a s' h
   split at h
   ·exact KR.bind (zb e _ s) (fun v s=>KR.ok) _ _ h
   ·cases h) _ _ _) KR.bad
 | .compIf tg it c e caps,ρ,s=>KR.bind (aP9 it ρ s) fun q s0=>KR.if (ar9 (fun d ρ s=>by
   intro a s' h
   split at h
   ·exact KR.tru (zb c _ s) (fun k s=>KR.if (KR.bind (zb e _ s) fun v s=>KR.ok) KR.ok) _ _ h
   ·cases h) _ _ _) KR.bad
 | .disp es,ρ,s=>ae9 es ρ s
 | .seq e,ρ,s=>KR.bind (zb e ρ s) fun d s=>bu1 d s
 | .itm e,ρ,s=>KR.bind (zb e ρ s) fun d s=>bs8 d s
end
theorem aD6 {ok:Sto->Bool}{g:D->Env->Sto->R Ct}(hg:∀ d ρ s,KR s (g d ρ s)):∀(l:List D) (ρ:Env) (s:Sto),KR s (aN9 ok g l ρ s)
 | [],ρ,s=>KR.if KR.ok KR.bad
 | d::l,ρ,s=>KR.if (KR.bind (hg d ρ s) fun c s=>by
   cases c with
   | next ρ=>exact aD6 hg l ρ s
   | cont ρ=>exact aD6 hg l ρ s
   | brk ρ=>exact KR.ok
   | ret d=>exact KR.ok) KR.bad
theorem aA8 {c:Env->Sto->R D}{g:Env->Sto->R Ct}(hc:∀ ρ s,KR s (c ρ s))(hg:∀ ρ s,KR s (g ρ s)):∀(n:Nat) (ρ:Env) (s:Sto),KR s (qz c g n ρ s)
 | 0,ρ,s=>KR.bad
 | n+1,ρ,s=>KR.tru (hc ρ s) fun b s=>KR.if (KR.bind (hg ρ s) fun h s=>by
   cases h with
   | next ρ=>exact aA8 hc hg n ρ s
   | cont ρ=>exact aA8 hc hg n ρ s
   | brk ρ=>exact KR.ok
   | ret d=>exact KR.ok) KR.ok
mutual
theorem bH8:∀(st:S) (ρ:Env) (s:Sto),KR s (ex F st ρ s)
 | .asg tg e,ρ,s=>KR.bind (zb hF e ρ s) fun d s=>by
  intro a s' h
  split at h<;>cases h;exact KP.refl _
 | .setIx o i e,ρ,s=>KR.bind (zb hF e ρ s) fun d s=>KR.bind (zb hF o ρ s) fun x s=>KR.bind (zb hF i ρ s) fun y s=>KR.bind (bb5 x y d s) fun _ s=>KR.ok
 | .aug i e,ρ,s=>KR.bind (aU3 ρ i s) fun x s=>KR.bind (zb hF e ρ s) fun y s=>by
  intro a s' h
  repeat' split at h
  all_goals first|(cases h;exact KP.refl _;done)|(cases h;done)
 | .ex e,ρ,s=>KR.bind (zb hF e ρ s) fun d s=>KR.ok
 | .ret e,ρ,s=>KR.bind (zb hF e ρ s) fun d s=>KR.ok
 | .retN,ρ,s=>KR.ok
 | .ite c a b,ρ,s=>KR.tru (zb hF c ρ s) fun k s=>KR.if (ah5 a ρ s) (ah5 b ρ s)
 | .whl c b,ρ,s=>by
  intro r s' h
  change whl (ev F c) (exs F b) ρ s=_ at h
  unfold whl at h
  split at h
  ·exact aA8 hF (fun ρ s=>zb hF c ρ s) (fun ρ s=>ah5 b ρ s) _ ρ s _ _ h
  ·cases h
 | .for_ tg it b,ρ,s=>KR.bind (aP9 hF it ρ s) fun q s0=>aD6 hF (fun d ρ s=>by
   intro a s' h
   split at h
   ·exact ah5 b _ _ _ _ h
   ·cases h) _ _ _
 | .pass,ρ,s=>KR.ok
 | .cont,ρ,s=>KR.ok
 | .brk,ρ,s=>KR.ok
 | .raise,ρ,s=>KR.bad
 | .und i,ρ,s=>by
  intro a s' h
  change(match al2 ρ i with|some ρ=>R.ok (Ct.next ρ) s|none=>.bad)=_ at h
  split at h<;>cases h;exact KP.refl _
theorem ah5:∀(h:Ss) (ρ:Env) (s:Sto),KR s (exs F h ρ s)
 | .nil,ρ,s=>KR.ok
 | .cons st h,ρ,s=>KR.bind (bH8 st ρ s) fun c s=>by
  cases c with
  | next ρ=>exact ah5 h ρ s
  | _=>exact KR.ok
end
end
theorem qb {s st:Sto}{d:D}(h:KP s st):KR s (zB s d st):=by
 have tk:∀ t,KP s (st.take s.length++t):=fun t i o e=>by
  obtain⟨z,e',k⟩:=h i o e
  have C:=(ag.mp e).1
  have F:=(ag.mp e').1
  refine⟨z,?_,k⟩
  rw[aP (by rw[bu];omega),dm,if_pos C];exact e'
 have y:KP s (st.take s.length):=by have:=tk [];rwa [aW]at this
 intro a s' e
 unfold zB at e
 repeat' split at e
 all_goals first|(cases e;exact y;done)|(cases e;exact tk _;done)|(cases e;exact h;done)|(cases e;done)
theorem aW3 {F:Fns}(y:FK F):∀(b:XB) (ρ:Env) (s:Sto) (c:String) (s':Sto),xB F b ρ s=some (c,s')->KP s s'
 | .no,ρ,s,c,s',h=>by cases h
 | .rais d,ρ,s,c,s',h=>by
  change(if F.xc d=true then some (d,s)else none)=_ at h
  split at h
  ·cases h;exact KP.refl _
  ·cases h
 | .call f as,ρ,s,c,s',h=>by
  change(match an9 F as ρ s with|.ok l s1=>F.xcall f l s1|_=>none)=_ at h
  split at h
  ·rename_i l s1 e;exact(ag9 y as ρ s _ _ e).trans (y.xcall _ _ _ _ _ h)
  ·cases h
 | .iteT d a r,ρ,s,c,s',h=>by
  change(match ev F d ρ s with|.ok (.bl b) s1=>if b then xB F a ρ s1 else xB F r ρ s1|_=>none)=_ at h
  split at h
  ·rename_i b s1 e
   have k:=zb y d ρ s _ _ e
   split at h
   ·exact k.trans (aW3 y a _ _ _ _ h)
   ·exact k.trans (aW3 y r _ _ _ _ h)
  ·cases h
 | .seq st b,ρ,s,c,s',h=>by
  change(match ex F st ρ s with|.ok (.next ρ1) s1=>xB F b ρ1 s1|_=>none)=_ at h
  split at h
  ·rename_i ρ1 s1 e;exact(bH8 y st ρ s _ _ e).trans (aW3 y b _ _ _ _ h)
  ·cases h
theorem bn7 {F:Fns}(y:FK F)(d:Tf)(l:List D)(s:Sto):KR s (bR2 F d l s):=by
 intro a s' h
 unfold bR2 at h
 split at h
 ·rename_i c s1 e
  have k:=aW3 y _ _ _ _ _ e
  split at h
  ·exact qb k _ _ h
  ·cases h
 ·obtain⟨c,s1,e1,h⟩:=R.bind_inv h
  have k1:=ah5 y _ _ _ _ _ e1
  cases c with
  | ret v=>exact qb k1 _ _ h
  | next ρ =>
   obtain⟨c,s2,e2,h⟩:=R.bind_inv h
   have k2:=k1.trans (ah5 y _ _ _ _ _ e2)
   cases c with
   | ret v=>exact qb k2 _ _ h
   | next ρ=>exact qb k2 _ _ h
   | _=>cases h
  | _=>cases h
theorem ae2 (P:Pr):∀ n,FK (aa1 P n)
 | 0=>⟨fun _ _ _=>KR.bad,fun _ _ _ _=>KR.bad,fun _ _ _ _ _ h=>by cases h⟩
 | n+1=>by
  refine⟨fun f l s=>?_,fun id cs l s=>?_,fun f l s c s' h=>?_⟩
  ·intro a s' h
   unfold aa1 at h
   simp only at h
   split at h
   case h_2 =>
    split at h
    case h_2=>cases h
    split at h
    case isFalse=>cases h
    exact bn7 (ae2 P n) _ _ _ _ _ h
   split at h
   case isFalse=>cases h
   obtain⟨c,s1,e1,h⟩:=R.bind_inv h
   have k1:=ah5 (ae2 P n) _ _ _ _ _ e1
   cases c with
   | ret v=>exact qb k1 _ _ h
   | next ρ=>exact qb k1 _ _ h
   | _=>cases h
  ·intro a s' h
   unfold aa1 at h
   simp only at h
   split at h
   case h_2=>cases h
   split at h
   case isFalse=>cases h
   obtain⟨v,s1,e1,h⟩:=R.bind_inv h
   exact qb (zb (ae2 P n) _ _ _ _ _ e1) _ _ h
  ·unfold aa1 at h
   simp only at h
   split at h
   case h_2=>cases h
   split at h
   case isFalse=>cases h
   exact aW3 (ae2 P n) _ _ _ _ _ h
end DV
end
open DV renaming Sto->jW,D->jX,Env->jZ,R->j0,ev->j1,LIM->j4,eqv->j5,aa1->j6,tru->j8,DEEP->j9,at4->ka,Fns->ke,Pr->kg,zX->kh,zE->ki,eqL->kj,rep->km,af0->kn,kd->ko,ad2->kr,chk->kt,ad4->ku,Es->kx,ai0->ky,O->kz,look->kA,evs->kB,ad0->kC,Bi->kD,Tg->kE,Ct->kF,aO0->kG,ac9->kH,sbd->kI,loB->kJ,inL->kK,ixn->kL,Sq->kN,E->kO,aA0->kP,M->kQ,qo->kR,ah2->kS,ag6->kT,aC1->kU,zN->kW,mk->kX,Lm->kY,Df->kZ,COp->k6,hiB->k7,slM->k8,aj5->k9,an9->la,bi->lf,qd->lh,Mk->li,Mt->lj,As->lp,aM4->lq,pur->lr,inM->ls,bi1->lu,ai1->lv,aN9->lw,evI->lx,meth->ly,BOp->lz,isK->lA,W62->lC,bC0->lD,ar4->lE
open DV.D renaming bndL->jY,bnd->j2,hdI->j7,keyS->kq,nclL->kM,ncl->lB
open DV.O renaming bnd->j3
noncomputable section
namespace L2
theorem fb {α:Type}{d:α}{s:jW}{p:Prop}(h:(DV.R.bad:j0 α)=.ok d s):p:=nomatch h
open PySem PySem.Spec PyProof.Rows
structure LamI where
 qual:Str
 params:bT
 body:Expr
 scope:Scope
 ps:List Str
 fr:List Str
 nm:Option (Str×Pos)
def CloAt (H:Hp)(f:Addr)(J:LamI)(cap:List V)(clos:List (Str×Addr)):Prop:=match J.nm with
 | none=>aA5 H f J.qual J.params J.body J.scope J.fr cap clos
 | some p=>an4 H f p.1 J.qual J.params [.Return (some J.body) p.2] J.scope J.fr cap clos
def av5 (H:Hp)(f:Addr)(J:LamI)(clos:List (Str×Addr)):Prop:=match J.nm with
 | none=>∃ pm c' ctv,H f=some (bv5 f (cU "<lambda>" J.qual J.params J.body J.scope clos pm (.ref c') ctv))/\H c'=some (av3 c' J.qual)
 | some p=>∃ doc pm c' ctv,H f=some (bv5 f (e6 p.1 J.qual J.params [.Return (some J.body) p.2] J.scope clos .none .none doc pm none (.ref c') ctv))/\H c'=some (av3 c' J.qual)
structure Gm where
 K:ac
 fa:String->Option Addr
 lg:String->LamI->Prop
 T:List (Addr×Str)
variable (Γ:Gm)
mutual
noncomputable def RV (φ:Nat->Addr)(H:Hp):jX->V->Prop
 | .non,v=>v=.non
 | .bl b,v=>v=.bl b
 | .int i,v=>v=.int i
 | .str x,v=>v=.str ⟨x.toArray⟩/\x.length<=j4
 | .tup l,v=>∃ a xs,v=.ref a/\(SqT Γ.K H a xs/\(j7 l=true->H a=some (.tup xs)))/\RVL φ H l xs
 | .ref n,v=>v=.ref (φ n)
 | .fn f,v=>∃ a,Γ.fa f=some a/\v=.ref a
 | .clo id cs,v=>∃ f cap J clos,v=.ref f/\Γ.lg id J/\CloAt H f J cap clos/\cap.length=J.fr.length/\RVL φ H cs cap
noncomputable def RVL (φ:Nat->Addr)(H:Hp):List jX->List V->Prop
 | [],xs=>xs=[]
 | d::l,xs=>∃ x r,xs=x::r/\RV φ H d x/\RVL φ H l r
end
noncomputable def bL1:HO->Bool
 | .tup _=>true
 | .frz _ _=>true
 | .ext _=>true
 | _=>false
def Kp (H H':Hp):Prop:=∀ b o,H b=some o->bL1 o=true->H' b=some o
theorem Kp.refl (H:Hp):Kp H H:=fun _ _ h _=>h
theorem Kp.trans {H y z:Hp}(a:Kp H y)(b:Kp y z):Kp H z:=fun c o h f=>b c o (a c o h f) f
theorem Kp.new {H y:Hp}{p:Addr}{o:HO}(a:Kp H y)(h:y p=none):Kp H (upd y p o):=fun c u e f=>by
 have e1:=a c u e f
 rw[zm (zq e1 h)];exact e1
theorem Kp.put {H y:Hp}{p:Addr}{o u:HO}(a:Kp H y)(h:y p=some u)(C:bL1 u=false):Kp H (upd y p o):=fun c v e f=>by
 have e1:=a c v e f
 rw[zm (fun z=>by subst z;rw[h]at e1;cases e1;rw[C]at f;cases f)];exact e1
theorem Kp.sqT {K:ac}{H H':Hp}{a:Addr}{y:List V}(e:Kp H H')(h:SqT K H a y):SqT K H' a y:=by
 rcases h with(h|⟨o,h⟩)|h
 ·exact .inl (.inl (e _ _ h rfl))
 ·exact .inl (.inr ⟨o,e _ _ h rfl⟩)
 ·exact .inr h
theorem aA5.kp {H H':Hp}{f:Addr}{qual:Str}{params:bT}{body:Expr}{scope:Scope}{fr:List Str}{cap:List V}{y:List (Str×Addr)}(h:aA5 H f qual params body scope fr cap y)(e:Kp H H'):aA5 H' f qual params body scope fr cap y:=by
 obtain⟨pm,c',C,h1,h2,Z,Y,J,G⟩:=h
 refine⟨pm,c',C,e _ _ h1 rfl,e _ _ h2 rfl,fun x c q=>?_,Y,J,fun i x v a b=>?_⟩
 ·obtain⟨o,v,z,d⟩:=Z x c q
  exact⟨o,v,e _ _ z rfl,d⟩
 ·obtain⟨c,o,u,z1,z2,F⟩:=G i x v a b
  exact⟨c,o,u,z1,e _ _ z2 rfl,F⟩
theorem an4.kp {H H':Hp}{f:Addr}{name qual:Str}{params:bT}{body:List Stmt}{scope:Scope}{fr:List Str}{cap:List V}{y:List (Str×Addr)}(h:an4 H f name qual params body scope fr cap y)(e:Kp H H'):an4 H' f name qual params body scope fr cap y:=by
 obtain⟨F,pm,c',C,h1,h2,h3,Z,Y,J⟩:=h
 refine⟨F,pm,c',C,e _ _ h1 rfl,e _ _ h2 rfl,fun x c q=>?_,Z,Y,fun i x v a b=>?_⟩
 ·obtain⟨o,v,z,d⟩:=h3 x c q
  exact⟨o,v,e _ _ z rfl,d⟩
 ·obtain⟨c,o,u,z1,z2,G⟩:=J i x v a b
  exact⟨c,o,u,z1,e _ _ z2 rfl,G⟩
theorem CloAt.kp {H H':Hp}{f:Addr}{J:LamI}{cap:List V}{y:List (Str×Addr)}(h:CloAt H f J cap y)(e:Kp H H'):CloAt H' f J cap y:=by
 unfold CloAt at h ⊢
 cases q:J.nm with
 | none=>rw[q]at h;exact aA5.kp h e
 | some p=>rw[q]at h;exact an4.kp h e
theorem av5.kp {H H':Hp}{f:Addr}{J:LamI}{y:List (Str×Addr)}(h:av5 H f J y)(e:Kp H H'):av5 H' f J y:=by
 unfold av5 at h ⊢
 cases q:J.nm with
 | none =>
  rw[q]at h
  obtain⟨G,Y,z,F,C⟩:=h
  exact⟨G,Y,z,e _ _ F rfl,e _ _ C rfl⟩
 | some p =>
  rw[q]at h
  obtain⟨Z,G,Y,z,F,C⟩:=h
  exact⟨Z,G,Y,z,e _ _ F rfl,e _ _ C rfl⟩
theorem CloAt.fn {K:ac}{H:Hp}{f:Addr}{J:LamI}{cap:List V}{y:List (Str×Addr)}(h:CloAt H f J cap y):bL4 K H f:=by
 unfold CloAt at h
 cases q:J.nm with
 | none=>rw[q]at h;obtain⟨F,G,C,z,_⟩:=h;exact .inl ⟨_,z⟩
 | some p=>rw[q]at h;exact an4.fn h
structure Gw (φ:Nat->Addr)(n:Nat)(H:Hp)(φ':Nat->Addr)(H':Hp):Prop where
 map:∀ i,i<n->φ' i=φ i
 kp:Kp H H'
variable {Γ:Gm}
mutual
theorem RV.monoW {φ φ':Nat->Addr}{n:Nat}{H H':Hp}(g:Gw φ n H φ' H'):∀(d:jX) (v:V),d.bnd n=true->RV Γ φ H d v->RV Γ φ' H' d v
 | .non,_,_,h=>by unfold RV at h ⊢;exact h
 | .bl _,_,_,h=>by unfold RV at h ⊢;exact h
 | .int _,_,_,h=>by unfold RV at h ⊢;exact h
 | .str _,_,_,h=>by unfold RV at h ⊢;exact h
 | .tup l,_,b,h=>by
  unfold RV at h ⊢
  unfold j2 at b
  obtain⟨a,C,e,q,r⟩:=h
  exact⟨a,C,e,⟨g.kp.sqT q.1,fun z=>g.kp _ _ (q.2 z) rfl⟩,RVL.monoW g l C b r⟩
 | .ref k,_,b,h=>by
  unfold RV at h ⊢
  unfold j2 at b
  rw[g.map k (of_decide_eq_true b)];exact h
 | .fn _,_,_,h=>by unfold RV at h ⊢;exact h
 | .clo id cs,_,b,h=>by
  unfold RV at h ⊢
  unfold j2 at b
  obtain⟨f,cap,J,y,e,Z,Y,G,F⟩:=h
  exact⟨f,cap,J,y,e,Z,Y.kp g.kp,G,RVL.monoW g cs cap b F⟩
theorem RVL.monoW {φ φ':Nat->Addr}{n:Nat}{H H':Hp}(g:Gw φ n H φ' H'):∀(l:List jX) (y:List V),jY n l=true->RVL Γ φ H l y->RVL Γ φ' H' l y
 | [],_,_,h=>by unfold RVL at h ⊢;exact h
 | d::l,_,b,h=>by
  unfold RVL at h ⊢
  unfold jY at b
  rw[ai]at b
  obtain⟨x,r,e,q,t⟩:=h
  exact⟨x,r,e,RV.monoW g d x b.1 q,RVL.monoW g l r b.2 t⟩
end
mutual
theorem zc {n m:Nat}(h:n<=m):∀ d:jX,d.bnd n=true->d.bnd m=true
 | .non,_=>rfl
 | .bl _,_=>rfl
 | .int _,_=>rfl
 | .str _,_=>rfl
 | .tup l,b=>by unfold j2 at b ⊢;exact aa7 h l b
 | .ref k,b=>by unfold j2 at b ⊢;exact decide_eq_true (ax (of_decide_eq_true b) h)
 | .fn _,_=>rfl
 | .clo _ l,b=>by unfold j2 at b ⊢;exact aa7 h l b
theorem aa7 {n m:Nat}(h:n<=m):∀ l:List jX,jY n l=true->jY m l=true
 | [],_=>rfl
 | d::l,b=>by
  unfold jY at b ⊢
  rw[ai]at b ⊢
  exact⟨zc h d b.1,aa7 h l b.2⟩
end
theorem aa3 {n:Nat}:∀ {l:List jX},jY n l=true↔∀ d∈l,d.bnd n=true
 | []=>by unfold jY;simp
 | d::l=>by
  unfold jY
  rw[ai,aa3 (l:=l)]
  simp
theorem zz {n:Nat}{l m:List jX}(h:jY n l=true)(h':jY n m=true):jY n (l++m)=true :=
 aa3.mpr fun d hd=>(bw.mp hd).elim (aa3.mp h d) (aa3.mp h' d)
theorem aH6 {n:Nat}{l m:List jX}(h:jY n l=true)(s:∀ d∈m,d∈l):jY n m=true:=aa3.mpr fun d hd=>aa3.mp h d (s d hd)
theorem ai9 {n:Nat}{l:List jX}{i:Nat}{d:jX}(h:jY n l=true)(e:l[i]?=some d):d.bnd n=true:=aa3.mp h d (aN e)
section
variable {φ:Nat->Addr} {H:Hp}
theorem RVL.nil:RVL Γ φ H [] []:=by unfold RVL;rfl
theorem RVL.cons {d:jX}{l:List jX}{x:V}{h:List V}(a:RV Γ φ H d x)(b:RVL Γ φ H l h):RVL Γ φ H (d::l) (x::h):=by unfold RVL;exact⟨x,h,rfl,a,b⟩
theorem RVL.unnil {y:List V}(h:RVL Γ φ H [] y):y=[]:=by unfold RVL at h;exact h
theorem RVL.uncons {d:jX}{l:List jX}{y:List V}(h:RVL Γ φ H (d::l) y):∃ x r,y=x::r/\RV Γ φ H d x/\RVL Γ φ H l r:=by unfold RVL at h;exact h
theorem RVL.length:∀ {l:List jX} {y:List V},RVL Γ φ H l y->y.length=l.length
 | [],_,h=>by rw[h.unnil];rfl
 | d::l,_,h=>by
  obtain⟨x,r,rfl,_,t⟩:=h.uncons
  rw[aL,aL,RVL.length t]
theorem RVL.get:∀ {l:List jX} {z:List V} {i:Nat} {d:jX},RVL Γ φ H l z->l[i]?=some d->∃ x,z[i]?=some x/\RV Γ φ H d x
 | [],_,_,_,_,e=>by simp at e
 | d::l,_,0,d',h,e=>by
  obtain⟨x,r,rfl,q,t⟩:=h.uncons
  have e':d=d':=by simpa using e
  subst e'
  exact⟨x,rfl,q⟩
 | d::l,_,i+1,_,h,e=>by
  obtain⟨x,r,rfl,q,t⟩:=h.uncons
  obtain⟨y,e1,e2⟩:=RVL.get (i:=i) t (by simpa using e)
  exact⟨y,by simpa using e1,e2⟩
theorem RVL.append:∀ {l m:List jX} {y ys:List V},RVL Γ φ H l y->RVL Γ φ H m ys->RVL Γ φ H (l++m) (y++ys)
 | [],_,_,_,h,h'=>by rw[h.unnil];exact h'
 | d::l,_,_,_,h,h'=>by
  obtain⟨x,r,rfl,q,t⟩:=h.uncons
  exact .cons q (RVL.append t h')
theorem RVL.drop:∀ {l:List jX} {y:List V} (n:Nat),RVL Γ φ H l y->RVL Γ φ H (l.drop n) (y.drop n)
 | _,_,0,h=>h
 | [],_,n+1,h=>by rw[h.unnil];exact .nil
 | d::l,_,n+1,h=>by
  obtain⟨x,r,rfl,q,t⟩:=h.uncons
  exact RVL.drop n t
theorem RVL.take:∀ {l:List jX} {y:List V} (n:Nat),RVL Γ φ H l y->RVL Γ φ H (l.take n) (y.take n)
 | _,_,0,h=>.nil
 | [],_,n+1,h=>by rw[h.unnil];exact .nil
 | d::l,_,n+1,h=>by
  obtain⟨x,r,rfl,q,t⟩:=h.uncons
  exact .cons q (RVL.take n t)
theorem RVL.set:∀ {l:List jX} {y:List V} {d:jX} {x:V} (i:Nat),RVL Γ φ H l y->RV Γ φ H d x->RVL Γ φ H (l.set i d) (y.set i x)
 | [],_,_,_,_,h,_=>by rw[h.unnil];exact .nil
 | d::l,_,_,_,0,h,q=>by
  obtain⟨x,r,rfl,_,t⟩:=h.uncons
  exact .cons q t
 | d::l,_,_,_,i+1,h,q=>by
  obtain⟨x,r,rfl,z,t⟩:=h.uncons
  exact .cons z (RVL.set i t q)
theorem RVL.reverse:∀ {l:List jX} {y:List V},RVL Γ φ H l y->RVL Γ φ H l.reverse y.reverse
 | [],_,h=>by rw[h.unnil];exact .nil
 | d::l,_,h=>by
  obtain⟨x,r,rfl,q,t⟩:=h.uncons
  rw[dC,dC]
  exact(RVL.reverse t).append (.cons q .nil)
theorem RV.intE {i:Int}{v:V}(h:RV Γ φ H (.int i) v):v=.int i:=by unfold RV at h;exact h
theorem RV.blE {i:Bool}{v:V}(h:RV Γ φ H (.bl i) v):v=.bl i:=by unfold RV at h;exact h
theorem RV.nonE {v:V}(h:RV Γ φ H .non v):v=.non:=by unfold RV at h;exact h
theorem RV.strE {x:List Nat}{v:V}(h:RV Γ φ H (.str x) v):v=.str ⟨x.toArray⟩:=by unfold RV at h;exact h.1
theorem RV.strL {x:List Nat}{v:V}(h:RV Γ φ H (.str x) v):x.length<=j4:=by unfold RV at h;exact h.2
theorem RV.tupE {l:List jX}{v:V}(h:RV Γ φ H (.tup l) v):∃ a y,v=.ref a/\SqT Γ.K H a y/\RVL Γ φ H l y:=by unfold RV at h;obtain⟨a,y,e,q,r⟩:=h;exact⟨a,y,e,q.1,r⟩
theorem RV.tupZ {l:List jX}{v:V}(h:RV Γ φ H (.tup l) v):∃ a y,(v=.ref a/\(j7 l=true->H a=some (.tup y)))/\SqT Γ.K H a y/\RVL Γ φ H l y:=by unfold RV at h;obtain⟨a,y,e,q,r⟩:=h;exact⟨a,y,⟨e,q.2⟩,q.1,r⟩
theorem RVL.tonil {l:List jX}(h:RVL Γ φ H l []):l=[]:=cE.mp h.length.symm
theorem RV.tupK {l:List jX}{v:V}(h:RV Γ φ H (.tup l) v)(z:j7 l=true):∃ a y,v=.ref a/\H a=some (.tup y)/\RVL Γ φ H l y:=by unfold RV at h;obtain⟨a,y,e,q,r⟩:=h;exact⟨a,y,e,q.2 z,r⟩
theorem RV.refE {n:Nat}{v:V}(h:RV Γ φ H (.ref n) v):v=.ref (φ n):=by unfold RV at h;exact h
theorem RV.intI {i:Int}:RV Γ φ H (.int i) (.int i):=by unfold RV;rfl
theorem RV.blI {i:Bool}:RV Γ φ H (.bl i) (.bl i):=by unfold RV;rfl
theorem RV.nonI:RV Γ φ H .non .non:=by unfold RV;rfl
theorem RV.strI {x:List Nat}(h:x.length<=j4):RV Γ φ H (.str x) (.str ⟨x.toArray⟩):=by unfold RV;exact⟨rfl,h⟩
theorem RV.tupI {l:List jX}{a:Addr}{y:List V}(h:H a=some (.tup y))(q:RVL Γ φ H l y):RV Γ φ H (.tup l) (.ref a):=by unfold RV;exact⟨a,y,rfl,⟨SqT.of h,fun _=>h⟩,q⟩
theorem RV.tupC {l:List jX}{a:Addr}{y:List V}(h:SqT Γ.K H a y)(z:j7 l=true->H a=some (.tup y))(q:RVL Γ φ H l y):RV Γ φ H (.tup l) (.ref a):=by unfold RV;exact⟨a,y,rfl,⟨h,z⟩,q⟩
theorem RV.refI {n:Nat}:RV Γ φ H (.ref n) (.ref (φ n)):=by unfold RV;rfl
end
theorem bn9 {n:Nat}{l:List jX}(h:j7 (kG n l)=true):j7 l=true:=by
 cases n with
 | zero=>cases h
 | succ n =>
  cases l with
  | nil => 
   have:∀ k,kG k ([]:List jX)=[]:=fun k=>by
    induction k with
    | zero=>rfl
    | succ k ih=>show[]++kG k []=[];rw[ih];rfl
   rw[this]at h;cases h
  | cons a l =>
   have e:kG (n+1) (a::l)=a::(l++kG n (a::l)):=rfl
   rw[e]at h
   cases a with
   | int _=>rfl
   | _=>cases h
theorem aT5 {α:Type}{l:List α}{y C:Option Int}(h:(ky l y C).length=l.length):ky l y C=l:=by
 unfold ky at h ⊢
 rw[bu,dN]at h
 by_cases z:l=[]
 ·subst z;simp
 ·have F:=gY.mpr z
  have e1:kJ l.length y=0:=by omega
  rw[e1]at h ⊢
  rw[dG]
  exact fZ (by omega)
def SqF (K:ac)(H:Hp)(a:Addr)(xs:List V):Prop:=SqL K H a xs/\∀ H',Kp H H'->SqL K H' a xs
noncomputable def aE2:jX->Option Key
 | .int i=>some (.inl i)
 | .str x=>some (.inr ⟨x.toArray⟩)
 | _=>none
noncomputable def zT:List jX->Option (List Key)
 | []=>some []
 | d::l=>match aE2 d,zT l with
  | some k,some r=>some (k::r)
  | _,_=>none
noncomputable def bB3:jX->Option (List Key)
 | .tup l=>if(j7 l&&(l.all kq&&decide (l.length<=1000)))=true then zT l else none
 | _=>none
noncomputable def RVD {κ:Type}(kf:jX->Option κ)(Γ:Gm)(φ:Nat->Addr)(H:Hp):List (jX×jX)->List (κ×V)->Prop
 | [],kvs=>kvs=[]
 | (d,e)::l,kvs=>∃ k v r,kvs=(k,v)::r/\kf d=some k/\RV Γ φ H e v/\RVD kf Γ φ H l r
variable (Γ)
noncomputable def RO (φ:Nat->Addr)(H:Hp)(a:Addr):kz->Prop
 | .lst l=>∃ xs,H a=some (.lst xs)/\RVL Γ φ H l xs
 | .ro l=>∃ xs,SqF Γ.K H a xs/\RVL Γ φ H l xs
 | .dic l=>∃ kvs,H a=some (.dK kvs)/\RVD aE2 Γ φ H l kvs
 | .dit l=>∃ kvs,H a=some (.dT kvs)/\RVD bB3 Γ φ H l kvs
 | .ins _ _=>False
noncomputable abbrev okd:kz->Nat:=DV.O.kd
noncomputable def isMut:kz->Bool
 | .ro _=>false
 | _=>true
structure Rp (φ:Nat->Addr)(H:Hp)(s:jW):Prop where
 inj:∀(i j:Nat) (o o':kz),s[i]?=some o->s[j]?=some o'->isMut o=true->isMut o'=true->φ i=φ j->i=j
 obj:∀(i:Nat) (o:kz),s[i]?=some o->RO Γ φ H (φ i) o
 wf:∀(i:Nat) (o:kz),s[i]?=some o->o.bnd s.length=true
 tab:TabsH Γ.T H
structure RE (φ:Nat->Addr)(H:Hp)(n:Nat)(ρ:jZ)(σ:St):Prop where
 len:ρ.length=σ.length
 val:∀(i:Nat) (d:jX),ρ[i]?=some (some d)->d.bnd n=true/\∃ v,σ[i]?=some (some v)/\RV Γ φ H d v
structure Gr (φ:Nat->Addr)(s:jW)(H:Hp)(φ':Nat->Addr)(s':jW)(H':Hp):Prop where
 w:Gw φ s.length H φ' H'
 le:s.length<=s'.length
 new:∀ i:Nat,s.length<=i->i<s'.length->H (φ' i)=none
 kd:∀(i:Nat) (o o':kz),s[i]?=some o->s'[i]?=some o'->okd o'=okd o
 st:∀ b,H b≠none->H' b≠none
 fr:∀ b o,H b=some o->(∀ ps,o≠.tbl ps)->(∀(i:Nat) (ob:kz),s[i]?=some ob->isMut ob=true->φ i≠b)->H' b=some o
variable {Γ}
theorem bm8 {o y:kz}(h:okd y=okd o)(m:isMut y=true):isMut o=true:=by
 cases o with
 | ro _=>cases y with
  | ro _=>cases m
  | _=>cases h
 | _=>rfl
theorem Gr.mu {φ φ':Nat->Addr}{s s':jW}{H H':Hp}(g:Gr φ s H φ' s' H')(i:Nat)(o h:kz)(e:s[i]?=some o)(e':s'[i]?=some h)(m:isMut h=true):isMut o=true:=bm8 (g.kd i o h e e') m
theorem Gr.refl (φ:Nat->Addr)(s:jW)(H:Hp):Gr φ s H φ s H:=⟨⟨fun _ _=>rfl,Kp.refl H⟩,am _,fun i C y=>absurd y (by omega),fun i o z e e'=>by rw[e]at e';cases e';rfl,fun _ h=>h,fun _ _ h _ _=>h⟩
theorem Gr.trans {φ φ1 φ2:Nat->Addr}{s s1 s2:jW}{H J Z:Hp}(a:Gr φ s H φ1 s1 J)(b:Gr φ1 s1 J φ2 s2 Z)(_h:s.length<=s1.length):Gr φ s H φ2 s2 Z:=by
 refine⟨⟨fun i y=>(b.w.map i (ax y a.le)).trans (a.w.map i y),a.w.kp.trans b.w.kp⟩,aj a.le b.le,fun i h1 h2=>?_,fun i o o' e e'=>?_,fun c h=>b.st c (a.st c h),fun c o h G ne=>?_⟩
 ·by_cases y:i<s1.length
  ·rw[b.w.map i y];exact a.new i h1 y
  ·have e:=b.new i (by omega) h2
   cases q:H (φ2 i)with
   | none=>rfl
   | some o=>exact absurd e (a.st _ (by rw[q];simp))
 ·have hl:i<s1.length:=ax (ag.mp e).1 a.le
  obtain⟨F,e1⟩:∃ F,s1[i]?=some F:=⟨s1[i],ak hl⟩
  exact(b.kd i F o' e1 e').trans (a.kd i o F e e1)
 ·refine b.fr c o (a.fr c o h G ne) G fun i ob e m z=>?_
  by_cases y:i<s.length
  ·obtain⟨C,Y⟩:∃ C,s[i]?=some C:=⟨s[i],ak y⟩
   exact ne i C Y (a.mu i C ob Y e m) (by rw[<-a.w.map i y];exact z)
  ·have:=a.new i (by omega) (ag.mp e).1
   rw[z,h]at this;cases this
theorem RV.mono {φ φ':Nat->Addr}{s s':jW}{H H':Hp}(g:Gr φ s H φ' s' H')(d:jX)(v:V)(b:d.bnd s.length=true)(h:RV Γ φ H d v):RV Γ φ' H' d v:=RV.monoW g.w d v b h
theorem RVL.mono {φ φ':Nat->Addr}{s s':jW}{H H':Hp}(g:Gr φ s H φ' s' H')(d:List jX)(v:List V)(b:jY s.length d=true)(h:RVL Γ φ H d v):RVL Γ φ' H' d v:=RVL.monoW g.w d v b h
theorem RE.mono {φ φ':Nat->Addr}{s s':jW}{H H':Hp}{ρ:jZ}{σ:St}(h:RE Γ φ H s.length ρ σ)(g:Gr φ s H φ' s' H')(hn:s.length<=s'.length):RE Γ φ' H' s'.length ρ σ :=
 ⟨h.len,fun i d e=>by
  obtain⟨b,v,e1,e2⟩:=h.val i d e
  exact⟨zc hn d b,v,e1,RV.mono g d v b e2⟩⟩
def ae0 (Γ:Gm)(φ:Nat->Addr)(s:jW)(H:Hp)(d:jX)(s':jW)(Q:VK):Prop :=
 ∀ v φ' H',Gr φ s H φ' s' H'->s.length<=s'.length->d.bnd s'.length=true->RV Γ φ' H' d v->Rp Γ φ' H' s'->Q v H'
theorem ae0.trans {φ φ1:Nat->Addr}{s s1 s':jW}{H y:Hp}{d:jX}{Q:VK}(h:ae0 Γ φ s H d s' Q)(g:Gr φ s H φ1 s1 y)(l:s.length<=s1.length):ae0 Γ φ1 s1 y d s' Q :=
 fun v φ' H' g' z b r p=>h v φ' H' (g.trans g' l) (aj l z) b r p
theorem ae0.here {φ:Nat->Addr}{s:jW}{H:Hp}{d:jX}{Q:VK}{v:V}(h:ae0 Γ φ s H d s Q)(p:Rp Γ φ H s)(b:d.bnd s.length=true)(r:RV Γ φ H d v):Q v H :=
 h v φ H (Gr.refl φ s H) (am _) b r p
theorem RVD.monoW {κ:Type}{z:jX->Option κ}{φ φ':Nat->Addr}{n:Nat}{H H':Hp}(g:Gw φ n H φ' H'):∀(l:List (jX×jX)) (y:List (κ×V)),jY n (l.map (·.2))=true->RVD z Γ φ H l y->RVD z Γ φ' H' l y
 | [],_,_,h=>h
 | (d,e)::l,_,b,h=>by
  obtain⟨k,v,r,e1,e2,C,F⟩:=h
  rw[aB]at b
  unfold jY at b
  rw[ai]at b
  exact⟨k,v,r,e1,e2,RV.monoW g e v b.1 C,RVD.monoW g l r b.2 F⟩
theorem RO.mono {φ φ':Nat->Addr}{n:Nat}{H H':Hp}{a:Addr}{o:kz}(h:RO Γ φ H a o)(g:Gw φ n H φ' H')(b:o.bnd n=true)(hl:isMut o=true->∀ u,H a=some u->H' a=some u):RO Γ φ' H' a o:=by
 cases o with
 | lst l =>
  unfold j3 at b
  obtain⟨z,e,r⟩:=h
  exact⟨z,hl rfl _ e,RVL.monoW g l z b r⟩
 | ro l =>
  unfold j3 at b
  obtain⟨z,e,r⟩:=h
  exact⟨z,⟨e.2 _ g.kp,fun C k=>e.2 _ (g.kp.trans k)⟩,RVL.monoW g l z b r⟩
 | dic l =>
  unfold j3 at b
  rw[ai]at b
  obtain⟨y,e,r⟩:=h
  exact⟨y,hl rfl _ e,RVD.monoW g l y b.2 r⟩
 | dit l =>
  unfold j3 at b
  rw[ai]at b
  obtain⟨y,e,r⟩:=h
  exact⟨y,hl rfl _ e,RVD.monoW g l y b.2 r⟩
 | ins _ _=>exact h.elim
theorem RO.there {φ:Nat->Addr}{H:Hp}{a:Addr}{o:kz}(h:RO Γ φ H a o)(m:isMut o=true):∃ u,H a=some u/\bL1 u=false/\∀ ps,u≠.tbl ps:=by
 cases o with
 | lst l=>obtain⟨y,e,_⟩:=h;exact⟨_,e,rfl,by nofun⟩
 | ro l=>cases m
 | dic l=>obtain⟨y,e,_⟩:=h;exact⟨_,e,rfl,by nofun⟩
 | dit l=>obtain⟨y,e,_⟩:=h;exact⟨_,e,rfl,by nofun⟩
 | ins _ _=>exact h.elim
theorem Rp.addr {φ:Nat->Addr}{H:Hp}{s:jW}(p:Rp Γ φ H s){i:Nat}{l:List jX}(e:s[i]?=some (.lst l)):∃ h,H (φ i)=some (.lst h)/\RVL Γ φ H l h:=p.obj i _ e
theorem zO {n m:Nat}(h:n<=m)(o:kz)(b:o.bnd n=true):o.bnd m=true:=by
 cases o with
 | lst l=>unfold j3 at b ⊢;exact aa7 h l b
 | ro l=>unfold j3 at b ⊢;exact aa7 h l b
 | dic l =>
  unfold j3 at b ⊢
  rw[ai]at b ⊢
  exact⟨aa7 h _ b.1,aa7 h _ b.2⟩
 | dit l =>
  unfold j3 at b ⊢
  rw[ai]at b ⊢
  exact⟨aa7 h _ b.1,aa7 h _ b.2⟩
 | ins c l=>unfold j3 at b ⊢;exact aa7 h _ b
theorem TabsH.keepF {T:List (Addr×Str)}{H H':Hp}(h:TabsH T H)(k:∀ b o,(bL1 o=true\/∃ ps,o=.tbl ps)->H b=some o->H' b=some o):TabsH T H':=fun y hy=>by
 obtain⟨ps,e,t,c⟩:=h y hy
 refine⟨ps,k _ _ (.inr ⟨_,rfl⟩) e,t,fun pos C q=>?_⟩
 obtain⟨z,e1,e2⟩:=c pos C q
 exact⟨z,e1,k _ _ (.inl rfl) e2⟩
theorem Rp.new {φ:Nat->Addr}{H:Hp}{s:jW}{p:Addr}{u:HO}{o:kz}(r:Rp Γ φ H s)(C:H p=none)(hb:o.bnd s.length=true)
  (ho:∀ φ' H',Gw φ s.length H φ' H'->H' p=some u->RO Γ φ' H' p o):Gr φ s H (fun i=>if i=s.length then p else φ i) (s++[o]) (upd H p u)/\Rp Γ (fun i=>if i=s.length then p else φ i) (upd H p u) (s++[o]):=by
 have g:Gw φ s.length H (fun i=>if i=s.length then p else φ i) (upd H p u):=⟨fun i y=>if_neg (aw y),(Kp.refl H).new C⟩
 have key:∀ i z,(s++[o])[i]?=some z->(i<s.length/\s[i]?=some z)\/(i=s.length/\z=o):=fun i z e=>by
  rcases e8 i s.length with h|h|h
  ·rw[aP h]at e;exact .inl ⟨h,e⟩
  ·subst h;simp at e;exact .inr ⟨rfl,e.symm⟩
  ·rw[bU (by simp;omega)]at e;cases e
 refine⟨⟨g,by simp,fun i h1 h2=>?_,fun i o1 o2 e1 e2=>?_,fun b hb=>?_,fun b ob hb _ _=>by rw[zm (zq hb C)];exact hb⟩,fun i j J Y G ej Z mj e=>?_,fun i z e=>?_,fun i z e=>?_,r.tab.new C⟩
 ·rw[aD,cN]at h2
  rw[if_pos (by omega)];exact C
 ·rcases key i o2 e2 with⟨_,e⟩|⟨y,_⟩
  ·rw[e1]at e;cases e;rfl
  ·have:=(ag.mp e1).1;omega
 ·unfold upd;split
  ·simp
  ·exact hb
 ·rcases key i J G with⟨y,G⟩|⟨y,rfl⟩<;>rcases key j Y ej with⟨hj,ej⟩|⟨hj,ej'⟩
  ·rw[if_neg (aw y),if_neg (aw hj)]at e
   exact r.inj i j J Y G ej Z mj e
  ·rw[if_neg (aw y),if_pos hj]at e
   obtain⟨u,F,_,_⟩:=(r.obj i J G).there Z
   rw[e,C]at F;cases F
  ·rw[if_neg (aw hj),if_pos y]at e
   obtain⟨u,F,_,_⟩:=(r.obj j Y ej).there mj
   rw[<-e,C]at F;cases F
  ·rw[y,hj]
 ·rcases key i z e with⟨y,e⟩|⟨y,rfl⟩
  ·show RO Γ _ _ (if i=s.length then p else φ i) z
   rw[if_neg (aw y)]
   exact(r.obj i z e).mono g (r.wf i z e) fun _ v hv=>by rw[zm (zq hv C)];exact hv
  ·show RO Γ _ _ (if i=s.length then p else φ i) z
   rw[if_pos y]
   exact ho _ _ g zo
 ·rw[aD,cN]
  rcases key i z e with⟨y,e⟩|⟨y,rfl⟩
  ·exact zO (d0 _) _ (r.wf i z e)
  ·exact zO (d0 _) _ hb
theorem Rp.set {φ:Nat->Addr}{H:Hp}{s:jW}{k:Nat}{u:HO}{o C:kz}(r:Rp Γ φ H s)(hk:s[k]?=some C)(J:isMut C=true)(hb:o.bnd s.length=true)
  (ho:∀ H',Gw φ s.length H φ H'->H' (φ k)=some u->RO Γ φ H' (φ k) o) (a1:okd o=okd C:=by rfl):Gr φ s H φ (s.set k o) (upd H (φ k) u)/\Rp Γ φ (upd H (φ k) u) (s.set k o):=by
 obtain⟨v0,F,f0,Y⟩:=(r.obj k C hk).there J
 have a0:k<s.length:=(ag.mp hk).1
 have g:Gw φ s.length H φ (upd H (φ k) u):=⟨fun _ _=>rfl,(Kp.refl H).put F f0⟩
 have key:∀ i y,(s.set k o)[i]?=some y->(i≠k/\s[i]?=some y)\/(i=k/\y=o):=fun i y e=>by
  by_cases h:i=k
  ·subst h;rw[aZ a0]at e;exact .inr ⟨rfl,(av e).symm⟩
  ·rw[bj (dw h)]at e;exact .inl ⟨h,e⟩
 have mm:∀ i y,(s.set k o)[i]?=some y->isMut y=true->∃ G,s[i]?=some G/\isMut G=true:=fun i y e m=>by
  rcases key i y e with⟨_,e⟩|⟨h,_⟩
  ·exact⟨y,e,m⟩
  ·exact⟨C,by rw[h];exact hk,J⟩
 refine⟨⟨g,by simp,fun i h1 h2=>by rw[bA]at h2;omega,fun i o1 Z e1 e2=>?_,fun b hb=>?_,fun b ob hb nt ne=>by rw[zm (dw (ne k C hk J))];exact hb⟩,fun i j oi oj ei ej mi mj e=>?_,fun i y e=>?_,fun i y e=>?_,r.tab.keepF fun b v hv q=>?_⟩
 ·rcases key i Z e2 with⟨_,e⟩|⟨h,rfl⟩
  ·rw[e1]at e;cases e;rfl
  ·subst h;rw[hk]at e1;cases e1;exact a1
 ·unfold upd;split
  ·simp
  ·exact hb
 ·obtain⟨o1,e1,m1⟩:=mm i oi ei mi
  obtain⟨Z,e2,m2⟩:=mm j oj ej mj
  exact r.inj i j o1 Z e1 e2 m1 m2 e
 ·rcases key i y e with⟨h,e⟩|⟨h,rfl⟩
  ·refine(r.obj i y e).mono g (r.wf i y e) fun m v hv=>?_
   rw[zm fun z=>h (r.inj i k y C e hk m J z)];exact hv
  ·subst h
   exact ho _ g zo
 ·rw[bA]
  rcases key i y e with⟨_,e⟩|⟨_,rfl⟩
  ·exact r.wf i y e
  ·exact hb
 ·rw[zm fun z=>by
   subst z;rw[F]at q;cases q
   rcases hv with h|⟨ps,h⟩
   ·rw[f0]at h;cases h
   ·exact Y _ h]
  exact q
theorem Rp.same {φ:Nat->Addr}{H H':Hp}{s:jW}(r:Rp Γ φ H s)(e:ae7 H H'):Gr φ s H φ s H'/\Rp Γ φ H' s:=by
 have g:Gw φ s.length H φ H':=⟨fun _ _=>rfl,fun b o h _=>e b o h⟩
 exact⟨⟨g,am _,fun i F y=>absurd y (by omega),fun i o C e e'=>by rw[e]at e';cases e';rfl,fun b hb=>by
  cases q:H b with
  | none=>exact absurd q hb
  | some o=>rw[e b o q];simp,fun b o h _ _=>e b o h⟩,r.inj,fun i o h=>(r.obj i o h).mono g (r.wf i o h) fun _ u z=>e _ u z,r.wf,r.tab.same e⟩
section
variable {φ:Nat->Addr} {H:Hp} {s:jW} {Q:VK}
theorem ae0.alloc {l:List jX}{y:List V}(h:ae0 Γ φ s H (.ref s.length) (s++[.lst l]) Q)(r:Rp Γ φ H s)(hl:RVL Γ φ H l y)(hb:jY s.length l=true){p:Addr}(z:H p=none):Q (.ref p) (upd H p (.lst y)):=by
 obtain⟨g,C⟩:=r.new (o:=.lst l) (u:=.lst y) z hb fun φ' H' g e=>⟨y,e,RVL.monoW g l y hb hl⟩
 have:=h (.ref p) _ _ g (by simp) (by unfold j2;simp) (by unfold RV;simp) C
 exact this
theorem ae0.tup {l:List jX}{y:List V}(h:ae0 Γ φ s H (.tup l) s Q)(r:Rp Γ φ H s)(hl:RVL Γ φ H l y)(hb:jY s.length l=true){p:Addr}(z:H p=none):Q (.ref p) (upd H p (.tup y)):=by
 obtain⟨g,C⟩:=r.same (H':=upd H p (.tup y)) ((ae7.refl H).new z)
 exact h _ _ _ g (am _) (by unfold j2;exact hb) (RV.tupI zo (RVL.mono g l y hb hl)) C
theorem ae0.put {k:Nat}{l l0:List jX}{y:List V}{d:jX}{v:V}(h:ae0 Γ φ s H d (s.set k (.lst l)) Q)(r:Rp Γ φ H s)(hk:s[k]?=some (.lst l0))(hl:RVL Γ φ H l y)(hb:jY s.length l=true)
  (hd:d.bnd s.length=true) (hv:RV Γ φ H d v):Q v (upd H (φ k) (.lst y)):=by
 obtain⟨g,z⟩:=r.set (o:=.lst l) (u:=.lst y) hk rfl hb fun H' g e=>⟨y,e,RVL.monoW g l y hb hl⟩
 exact h _ _ _ g (by simp) (by rw[bA];exact hd) (RV.mono g d v hd hv) z
end
variable {Γ:Gm}
theorem keyOf_inj {a b:jX}{k:Key}(ha:aE2 a=some k)(hb:aE2 b=some k):a=b:=by
 cases a with
 | int i =>
  cases ha
  cases b with
  | int j=>cases hb;rfl
  | str y=>cases hb
  | _=>cases hb
 | str x =>
  cases ha
  cases b with
  | int j=>cases hb
  | str y =>
   have h:=av hb
   injection h with h
   injection h with h
   have z:y=x:=by simpa using h
   rw[z]
  | _=>cases hb
 | _=>cases ha
theorem ai3 {d:jX}(h:d.key=true):∃ k,aE2 d=some k:=by
 cases d with
 | int i=>exact⟨_,rfl⟩
 | str x=>exact⟨_,rfl⟩
 | _=>cases h
theorem ay9 {φ:Nat->Addr}{H:Hp}{d:jX}{k:Key}{v:V}(h:aE2 d=some k)(r:RV Γ φ H d v):v=kV k:=by
 cases d with
 | int i=>cases h;exact r.intE
 | str x=>cases h;exact r.strE
 | _=>cases h
def bx0 {κ:Type}(kf:jX->Option κ):Prop:=∀ {a b:jX} {k:κ},kf a=some k->kf b=some k->a=b
theorem ap7:∀ {a b:List jX} {k:List Key},zT a=some k->zT b=some k->a=b
 | [],[],k,_,_=>rfl
 | [],y::b,k,ha,hb=>by
  cases ha
  unfold zT at hb
  split at hb<;>cases hb
 | x::a,[],k,ha,hb=>by
  cases hb
  unfold zT at ha
  split at ha<;>cases ha
 | x::a,y::b,k,ha,hb=>by
  unfold zT at ha hb
  split at ha
  ·rename_i k1 r1 e1 e2
   cases ha
   split at hb
   ·rename_i k2 C h z
    cases hb
    rw[keyOf_inj e1 h,ap7 e2 z]
   ·cases hb
  ·cases ha
theorem ar7 {d:jX}{k:List Key}(h:bB3 d=some k):∃ l,d=.tup l/\(j7 l=true/\l.all kq=true/\l.length<=1000)/\zT l=some k:=by
 cases d with
 | tup l =>
  have h:(if(j7 l&&(l.all kq&&decide (l.length<=1000)))=true then zT l else none)=some k:=h
  by_cases z:(j7 l&&(l.all kq&&decide (l.length<=1000)))=true
  ·rw[if_pos z]at h;rw[ai,ai]at z;exact⟨l,rfl,⟨z.1,z.2.1,of_decide_eq_true z.2.2⟩,h⟩
  ·rw[if_neg z]at h;cases h
 | _=>cases h
theorem keyT_inj:bx0 bB3:=fun ha hb=>by
 obtain⟨l,rfl,_,y⟩:=ar7 ha
 obtain⟨m,rfl,_,h⟩:=ar7 hb
 rw[ap7 y h]
theorem aO2 {d:jX}(h:d.keyS=true):∃ k,aE2 d=some k:=by
 cases d with
 | int i=>exact⟨_,rfl⟩
 | str x=>exact⟨_,rfl⟩
 | _=>cases h
theorem aj6:∀ {l:List jX},l.all kq=true->∃ k,zT l=some k
 | [],_=>⟨[],rfl⟩
 | d::l,h=>by
  rw[cM,ai]at h
  obtain⟨k,hk⟩:=aO2 h.1
  obtain⟨r,hr⟩:=aj6 h.2
  exact⟨k::r,by unfold zT;rw[hk,hr]⟩
theorem am5 {d:jX}(h:d.keyT=true):∃ k,bB3 d=some k:=by
 cases d with
 | tup l =>
  have h:(j7 l&&(l.all kq&&decide (l.length<=1000)))=true:=h
  have h':=h
  rw[ai,ai]at h'
  obtain⟨k,hk⟩:=aj6 h'.2.1
  exact⟨k,by show(if(j7 l&&(l.all kq&&decide (l.length<=1000)))=true then zT l else none)=some k;rw[if_pos h];exact hk⟩
 | _=>cases h
theorem aT3 {φ:Nat->Addr}{H:Hp}:∀ {l:List jX} {k:List Key} {y:List V},zT l=some k->RVL Γ φ H l y->y=k.map kV
 | [],k,y,h,r=>by cases h;exact r.unnil
 | d::l,k,y,h,r=>by
  unfold zT at h
  split at h
  ·rename_i k1 r1 e1 e2
   cases h
   obtain⟨x,ys,rfl,z,C⟩:=r.uncons
   rw[ay9 e1 z,aT3 e2 C,aB]
  ·cases h
theorem aC8 {φ:Nat->Addr}{H:Hp}{d:jX}{k:List Key}{v:V}(h:bB3 d=some k)(r:RV Γ φ H d v):∃ b,v=.ref b/\H b=some (.tup (k.map kV)):=by
 obtain⟨l,rfl,z,hk⟩:=ar7 h
 obtain⟨a,F,e,y,C⟩:=r.tupK z.1
 rw[aT3 hk C]at y
 exact⟨a,e,y⟩
section
variable {κ:Type} [DecidableEq κ] {kf:jX->Option κ}
theorem RVD.val {φ:Nat->Addr}{H:Hp}{d:jX}{k:κ}(C:bx0 kf)(hk:kf d=some k):∀ {l:List (jX×jX)} {y:List (κ×V)},RVD kf Γ φ H l y->(kA d l=none/\az6 y k=none)\/∃ e v,kA d l=some e/\az6 y k=some v/\RV Γ φ H e v/\e∈l.map (·.2)
 | [],y,h=>by
  have h:y=[]:=h
  subst h
  exact .inl ⟨rfl,rfl⟩
 | (a,e)::l,y,h=>by
  obtain⟨F,v,r,rfl,e2,J,e4⟩:=h
  by_cases z:a=d
  ·subst z
   rw[hk]at e2;cases e2
   exact .inr ⟨e,v,by unfold kA;rw[if_pos rfl],ai4 rfl,J,by simp⟩
  ·have Y:¬ F=k:=fun q=>z (C e2 (by rw[q];exact hk))
   have Z:kA d ((a,e)::l)=kA d l:=by
    conv=>lhs;unfold kA
    rw[if_neg z]
   rw[Z,aj3 (show ¬(F,v).1=k from Y)]
   rcases RVD.val C hk e4 with q|⟨e',v',G,q2,q3,q4⟩
   ·exact .inl q
   ·exact .inr ⟨e',v',G,q2,q3,by simp at q4 ⊢;exact .inr q4⟩
theorem RVD.repl {φ:Nat->Addr}{H:Hp}{d e:jX}{k:κ}{v:V}(C:bx0 kf)(hk:kf d=some k)(hv:RV Γ φ H e v):∀ {l:List (jX×jX)} {y:List (κ×V)},RVD kf Γ φ H l y->RVD kf Γ φ H (l.map fun p=>if p.1=d then(p.1,e)else p) (y.map fun F=>if F.1=k then(F.1,v)else F)
 | [],y,h=>by
  have h:y=[]:=h
  subst h;exact(rfl:([]:List (κ×V))=[])
 | (a,e0)::l,y,h=>by
  obtain⟨G,v0,r,rfl,e2,Y,J⟩:=h
  rw[aB,aB]
  by_cases z:a=d
  ·subst z
   rw[hk]at e2;cases e2
   rw[if_pos rfl,if_pos rfl]
   exact⟨k,v,_,rfl,hk,hv,RVD.repl C hk hv J⟩
  ·have Z:¬ G=k:=fun q=>z (C e2 (by rw[q];exact hk))
   rw[if_neg z,if_neg Z]
   exact⟨G,v0,_,rfl,e2,Y,RVD.repl C hk hv J⟩
theorem RVD.snoc {φ:Nat->Addr}{H:Hp}{d e:jX}{k:κ}{v:V}(z:bx0 kf)(hk:kf d=some k)(hv:RV Γ φ H e v):∀ {l:List (jX×jX)} {y:List (κ×V)},RVD kf Γ φ H l y->RVD kf Γ φ H (l++[(d,e)]) (y++[(k,v)])
 | [],y,h=>by
  have h:y=[]:=h
  subst h;exact⟨k,v,[],rfl,hk,hv,rfl⟩
 | (a,e0)::l,y,h=>by
  obtain⟨F,v0,r,rfl,e2,C,G⟩:=h
  exact⟨F,v0,_,rfl,e2,C,RVD.snoc z hk hv G⟩
theorem RVD.put {φ:Nat->Addr}{H:Hp}{d e:jX}{k:κ}{v:V}{l:List (jX×jX)}{y:List (κ×V)}(z:bx0 kf)(hk:kf d=some k)(hv:RV Γ φ H e v)(h:RVD kf Γ φ H l y):RVD kf Γ φ H (ka d e l) (ao2 y k v):=by
 unfold ka ao2
 rw[at3]
 rcases h.val z hk with⟨C,q2⟩|⟨e',v',C,q2,_⟩
 ·rw[C,q2];exact h.snoc z hk hv
 ·rw[C,q2];exact h.repl z hk hv
theorem RVD.get {φ:Nat->Addr}{H:Hp}:∀ {l:List (jX×jX)} {y:List (κ×V)} {i:Nat} {d e:jX},RVD kf Γ φ H l y->l[i]?=some (d,e)->∃ k v,y[i]?=some (k,v)/\kf d=some k/\RV Γ φ H e v
 | [],_,_,_,_,_,h=>by cases h
 | (a,b)::l,y,0,d,e,h,q=>by
  obtain⟨k,v,r,rfl,e2,z,C⟩:=h
  cases q
  exact⟨k,v,rfl,e2,z⟩
 | (a,b)::l,y,i+1,d,e,h,q=>by
  obtain⟨k,v,r,rfl,e2,z,C⟩:=h
  exact RVD.get (i:=i) C (show l[i]?=some (d,e)from q)
theorem RVD.keys {φ:Nat->Addr}{H:Hp}:∀ {l:List (jX×jX)} {y:List (κ×V)},RVD kf Γ φ H l y->∀ kv∈y,∃ d,kf d=some kv.1
 | [],y,h,kv,hk=>by
  have h:y=[]:=h
  subst h;cases hk
 | (a,b)::l,y,h,kv,hk=>by
  obtain⟨k,v,r,rfl,e2,F,C⟩:=h
  rcases az.mp hk with z|z
  ·subst z;exact⟨a,e2⟩
  ·exact RVD.keys C kv z
theorem RVD.length {φ:Nat->Addr}{H:Hp}:∀ {l:List (jX×jX)} {y:List (κ×V)},RVD kf Γ φ H l y->y.length=l.length
 | [],y,h=>by
  have h:y=[]:=h
  subst h;rfl
 | (a,e)::l,y,h=>by
  obtain⟨F,v,r,rfl,e2,C,z⟩:=h
  rw[aL,aL,RVD.length z]
end
theorem aE5 {n:Nat}{d e:jX}{l:List (jX×jX)}(h:(DV.O.dic l).bnd n=true)(hd:d.bnd n=true)(he:e.bnd n=true):(DV.O.dic (ka d e l)).bnd n=true:=by
 unfold j3 at h ⊢
 rw[ai]at h ⊢
 obtain⟨F,C⟩:=h
 have g1:=aa3.mp F
 have z:=aa3.mp C
 unfold ka
 refine⟨aa3.mpr fun x hx=>?_,aa3.mpr fun x hx=>?_⟩
 ·obtain⟨p,y,rfl⟩:=aE.mp hx
  split at y
  ·obtain⟨q,hq,rfl⟩:=aE.mp y
   split
   ·exact g1 _ (bF (f:=(·.1)) hq)
   ·exact g1 _ (bF (f:=(·.1)) hq)
  ·rcases bw.mp y with q|q
   ·exact g1 _ (bF (f:=(·.1)) q)
   ·rw[bn.mp q];exact hd
 ·obtain⟨p,y,rfl⟩:=aE.mp hx
  split at y
  ·obtain⟨q,hq,rfl⟩:=aE.mp y
   split
   ·exact he
   ·exact z _ (bF (f:=(·.2)) hq)
  ·rcases bw.mp y with q|q
   ·exact z _ (bF (f:=(·.2)) q)
   ·rw[bn.mp q];exact he
theorem bc1 {n:Nat}{d e:jX}{l:List (jX×jX)}(h:(DV.O.dit l).bnd n=true)(hd:d.bnd n=true)(he:e.bnd n=true):(DV.O.dit (ka d e l)).bnd n=true:=aE5 h hd he
theorem ai8 {f:jX->jX->Option Bool}{a b:jX}{l m:List jX}{z:Bool}(h:kj f (a::l) (b::m)=some z):∃ x y,f a b=some x/\kj f l m=some y/\z=(x&&y):=by
 unfold kj at h
 cases e1:f a b with
 | none=>rw[e1]at h;cases h
 | some x =>
  cases e2:kj f l m with
  | none=>rw[e1,e2]at h;cases h
  | some y=>rw[e1,e2]at h;exact⟨x,y,rfl,rfl,(av h).symm⟩
theorem aV1 {f:jX->jX->Option Bool}:∀ {l m:List jX} {z:Bool},kj f l m=some z->∃ e:Nat->Bool,(∀ j d d',l[j]?=some d->m[j]?=some d'->f d d'=some (e j))/\((l.length==m.length)&&(aS (min l.length m.length)).all e)=z
 | [],[],z,h=>by
  unfold kj at h
  cases h
  exact⟨fun _=>true,fun j d d' h=>by simp at h,by simp⟩
 | [],b::m,z,h=>by
  unfold kj at h
  cases h
  exact⟨fun _=>true,fun j d d' h=>by simp at h,by simp⟩
 | a::l,[],z,h=>by
  unfold kj at h
  cases h
  exact⟨fun _=>true,fun j d d' G C=>by simp at C,by simp⟩
 | a::l,b::m,z,h=>by
  obtain⟨x,y,e1,e2,J⟩:=ai8 h
  obtain⟨e,G,C⟩:=aV1 e2
  refine⟨fun j=>match j with|0=>x|j+1=>e j,fun j d d' g1 F=>?_,?_⟩
  ·cases j with
   | zero=>simp at g1 F;subst g1;subst F;exact e1
   | succ j=>exact G j d d' (by simpa using g1) (by simpa using F)
  ·rw[aL,aL,show min (l.length+1) (m.length+1)=min l.length m.length+1 by omega,f6,cM,List.all_map,J,<-C]
   have:((l.length+1==m.length+1)=(l.length==m.length)):=by
    by_cases q:l.length=m.length
    ·simp[q]
    ·have:¬ l.length+1=m.length+1:=by omega
     simp[q]
   rw[this]
   show((l.length==m.length)&&(x&&(aS _).all e))=_
   cases x<;>cases(l.length==m.length)<;>simp
section
variable {X:Cx} {pins:List (Addr×Obj)} {σ:St} {H:Hp} {sh:ae} {φ:Nat->Addr} {s:jW}
theorem am4 (I:Inv X pins σ H sh){a:Addr}{y ys:List V}(h:H a=some (.lst y))(h':SqT X.K H a ys):False:=by
 rcases h' with(z|⟨o,z⟩)|⟨o,its,n,hk,_⟩
 ·rw[h]at z;cases z
 ·rw[h]at z;cases z
 ·have:=(I.bs a o (I.mod.kin a o hk)).2
  rw[h]at this;cases this
theorem rv_two (I:Inv X pins σ H sh)(Z:X.K=Γ.K)(R:Rp Γ φ H s){a b:jX}{x:V}(F:RV Γ φ H a x)(y:RV Γ φ H b x)(n1:ko s a≠9)(z:ko s b≠9):a=b\/∃ l m p G,a=.tup l/\b=.tup m/\x=.ref p/\RVL Γ φ H l G/\RVL Γ φ H m G:=by
 have C:∀ {r:Nat},ko s (.ref r)≠9->∃ l,s[r]?=some (.lst l):=fun {r} h=>by
  have h:(match s[r]? with|some (DV.O.lst l)=>4|_=>9:Nat)≠9:=h
  cases hs:s[r]? with
  | none=>rw[hs]at h;exact absurd rfl h
  | some o =>
   rw[hs]at h
   cases o with
   | lst l=>exact⟨l,rfl⟩
   | _=>exact absurd rfl h
 cases a with
 | non=>have e:=F.nonE;subst e;cases b with
  | non=>exact .inl rfl
  | bl _=>cases y.blE
  | int _=>cases y.intE
  | str _=>cases y.strE
  | tup _=>obtain⟨_,_,e,_⟩:=y.tupE;cases e
  | ref _=>cases y.refE
  | fn _=>exact absurd rfl z
  | clo _ _=>exact absurd rfl z
 | bl p=>have e:=F.blE;subst e;cases b with
  | non=>cases y.nonE
  | bl _=>cases y.blE;exact .inl rfl
  | int _=>cases y.intE
  | str _=>cases y.strE
  | tup _=>obtain⟨_,_,e,_⟩:=y.tupE;cases e
  | ref _=>cases y.refE
  | fn _=>exact absurd rfl z
  | clo _ _=>exact absurd rfl z
 | int p=>have e:=F.intE;subst e;cases b with
  | non=>cases y.nonE
  | bl _=>cases y.blE
  | int _=>cases y.intE;exact .inl rfl
  | str _=>cases y.strE
  | tup _=>obtain⟨_,_,e,_⟩:=y.tupE;cases e
  | ref _=>cases y.refE
  | fn _=>exact absurd rfl z
  | clo _ _=>exact absurd rfl z
 | str p=>have e:=F.strE;subst e;cases b with
  | non=>cases y.nonE
  | bl _=>cases y.blE
  | int _=>cases y.intE
  | str q =>
   have e':p.toArray=q.toArray:=Str.mk.inj (V.str.inj y.strE)
   have a0:p=q:=by simpa using congrArg ik e'
   subst a0;exact .inl rfl
  | tup _=>obtain⟨_,_,e,_⟩:=y.tupE;cases e
  | ref _=>cases y.refE
  | fn _=>exact absurd rfl z
  | clo _ _=>exact absurd rfl z
 | tup l =>
  obtain⟨p,G,e,J,d1⟩:=F.tupE;subst e;cases b with
  | non=>cases y.nonE
  | bl _=>cases y.blE
  | int _=>cases y.intE
  | str _=>cases y.strE
  | tup m =>
   obtain⟨p',ys,e,q2,d2⟩:=y.tupE
   cases e
   rw[<-Z]at J q2
   rw[I.tuple_inj q2 J]at d2
   exact .inr ⟨l,m,p,G,rfl,rfl,rfl,d1,d2⟩
  | ref r =>
   cases y.refE
   obtain⟨m,Y⟩:=C z
   obtain⟨ys,hy,_⟩:=R.addr Y
   rw[<-Z]at J
   exact(am4 I hy J).elim
  | fn _=>exact absurd rfl z
  | clo _ _=>exact absurd rfl z
 | ref r =>
  have e:=F.refE;subst e
  obtain⟨l,hl⟩:=C n1
  obtain⟨G,hx,_⟩:=R.addr hl
  cases b with
  | non=>cases y.nonE
  | bl _=>cases y.blE
  | int _=>cases y.intE
  | str _=>cases y.strE
  | tup m =>
   obtain⟨p',ys,e,q2,d2⟩:=y.tupE
   cases e
   rw[<-Z]at q2
   exact(am4 I hx q2).elim
  | ref r' =>
   obtain⟨m,Y⟩:=C z
   have e:φ r=φ r':=V.ref.inj y.refE
   rw[R.inj r r' _ _ hl Y rfl rfl e]
   exact .inl rfl
  | fn _=>exact absurd rfl z
  | clo _ _=>exact absurd rfl z
 | fn _=>exact absurd rfl n1
 | clo _ _=>exact absurd rfl n1
theorem qt {a b:jX}{z:Bool}(h:kr s a b=some z):lq a b=some z\/(lq a b=none/\kP (ko s a) (ko s b)=false/\z=false):=by
 unfold kr at h
 cases e:lq a b with
 | some w=>rw[e]at h;exact .inl h
 | none =>
  rw[e]at h
  cases q:kP (ko s a) (ko s b)with
  | true=>rw[q]at h;cases h
  | false=>rw[q]at h;exact .inr ⟨rfl,rfl,(av h).symm⟩
theorem bb0 {a b:jX}{z:Bool}(h:lq a b=some z):ko s a≠9/\ko s b≠9:=by
 cases a<;>cases b<;>first|(cases h;done)|(constructor<;>(intro z;cases z))
theorem ag5 {a b:jX}{z:Bool}(h:kr s a b=some z):ko s a≠9/\ko s b≠9:=by
 rcases qt h with h|⟨_,h,_⟩
 ·exact bb0 h
 ·unfold kP at h
  simp only[dZ,beq_eq_false_iff_ne]at h
  exact⟨h.1.1,h.1.2⟩
theorem aB3 {a:jX}{z:Bool}(h:kr s a a=some z):z=true:=by
 rcases qt h with h|⟨_,h,_⟩
 ·cases a<;>cases h<;>first|rfl|exact beq_self_eq_true _
 ·unfold kP at h;simp at h
theorem aH2 (I:Inv X pins σ H sh)(hK:X.K=Γ.K)(R:Rp Γ φ H s):∀(n:Nat) (a b:jX) (x:V) (z:Bool),j5 s n a b=some z->RV Γ φ H a x->RV Γ φ H b x->z=true:=by
 have G:∀(a b:jX) (x:V) (z:Bool),kr s a b=some z->RV Γ φ H a x->RV Γ φ H b x->z=true:=by
  intro a b x z h C y
  rcases rv_two I hK R C y (ag5 h).1 (ag5 h).2 with e|⟨l,m,_,_,rfl,rfl,_⟩
  ·subst e;exact aB3 h
  ·rcases qt h with h|⟨_,h,_⟩
   ·cases h
   ·unfold kP at h;simp[ko]at h
 intro n
 induction n with
 | zero=>intro a b x z h;unfold j5 at h;exact G a b x z h
 | succ n ih =>
  have Y:∀(l m:List jX) (F:List V) (z:Bool),kj (j5 s n) l m=some z->RVL Γ φ H l F->RVL Γ φ H m F->z=true:=by
   intro l
   induction l with
   | nil =>
    intro m F z h C y
    cases m with
    | nil=>unfold kj at h;exact(av h).symm
    | cons b m=>obtain⟨x,r,e,_⟩:=y.uncons;rw[C.unnil]at e;cases e
   | cons a l ihl =>
    intro m F z h C y
    cases m with
    | nil=>obtain⟨x,r,e,_⟩:=C.uncons;rw[y.unnil]at e;cases e
    | cons b m =>
     obtain⟨p,q,e1,e2,ez⟩:=ai8 h
     obtain⟨v,r,rfl,g1,g2⟩:=C.uncons
     obtain⟨v',r',e,g3,g4⟩:=y.uncons
     cases e
     rw[ez,ih a b v p e1 g1 g3,ihl m r q e2 g2 g4];rfl
  intro a b x z h C y
  unfold j5 at h
  split at h
  ·rename_i l m
   obtain⟨a,F,rfl,q1,d1⟩:=C.tupE
   obtain⟨b,ys,e,q2,Z⟩:=y.tupE
   cases e
   rw[<-hK]at q1 q2
   rw[I.tuple_inj q2 q1]at Z
   exact Y l m F z h d1 Z
  ·rename_i p q
   split at h
   ·rename_i l m hl hm
    obtain⟨F,e1,d1⟩:=R.addr hl
    obtain⟨ys,e2,Z⟩:=R.addr hm
    have e:=C.refE.symm.trans y.refE
    have e':φ p=φ q:=V.ref.inj e
    rw[e',e2]at e1
    have e3:ys=F:=by injection (av e1)
    subst e3
    split at h
    ·exact Y l m ys z h d1 Z
    ·rename_i J;exact absurd (d1.length.symm.trans Z.length) J
   ·cases h
  ·exact G a b x z h C y
end
variable {Γ:Gm}
inductive Vw (sh:ae):Nat->Value->Prop where
 | non:Vw sh 0 .none
 | bl (b:Bool):Vw sh 1 (.bool b)
 | int (i:Int) (t:Tok):Vw sh 1 (.int i t)
 | str (x:Str) (t:Tok):Vw sh 2 (.str x t)
 | tup {l:Addr} {items:Array Value} (h:sh.heap.IsTuple l items):Vw sh 3 (.ref l)
 | lst {l:Addr} {items:Array Value} (h:sh.heap.IsList l items):Vw sh 4 (.ref l)
theorem Vw.eq {A:aQ}{sh:ae}{k C:Nat}{u v:Value}(a:Vw sh k u)(b:Vw sh C v)(z:k≠C)(y:A.units<cLine):f7 A sh u v false:=by
 cases a with
 | non=>cases b with
  | non=>exact absurd rfl z
  | bl b=>exact SeqAt.EqAt.none_bool b
  | int i t=>exact SeqAt.EqAt.none_int i t
  | str x t=>exact SeqAt.EqAt.none_str x t
  | tup h=>exact SeqAt.EqAt.none_tuple h y
  | lst h=>exact SeqAt.EqAt.none_list h y
 | bl a=>cases b with
  | non=>exact SeqAt.EqAt.bool_none a
  | bl b=>exact absurd rfl z
  | int i t=>exact absurd rfl z
  | str x t=>exact SeqAt.EqAt.bool_str a x t
  | tup h=>exact SeqAt.EqAt.bool_tuple a h y
  | lst h=>exact SeqAt.EqAt.bool_list a h y
 | int a q=>cases b with
  | non=>exact SeqAt.EqAt.int_none a q
  | bl b=>exact absurd rfl z
  | int i t=>exact absurd rfl z
  | str x t=>exact hU a q x t
  | tup h=>exact SeqAt.EqAt.int_tuple a q h y
  | lst h=>exact SeqAt.EqAt.int_list a q h y
 | str a q=>cases b with
  | non=>exact SeqAt.EqAt.str_none a q
  | bl b=>exact SeqAt.EqAt.str_bool a q b
  | int i t=>exact hV a q i t
  | str x t=>exact absurd rfl z
  | tup h=>exact SeqAt.EqAt.str_tuple a q h y
  | lst h=>exact SeqAt.EqAt.str_list a q h y
 | tup g=>cases b with
  | non=>exact SeqAt.EqAt.tuple_none g y
  | bl b=>exact SeqAt.EqAt.tuple_bool b g y
  | int i t=>exact SeqAt.EqAt.tuple_int i t g y
  | str x t=>exact SeqAt.EqAt.tuple_str x t g y
  | tup h=>exact absurd rfl z
  | lst h=>exact SeqAt.EqAt.tuple_list g h y
 | lst g=>cases b with
  | non=>exact SeqAt.EqAt.list_none g y
  | bl b=>exact SeqAt.EqAt.list_bool b g y
  | int i t=>exact SeqAt.EqAt.list_int i t g y
  | str x t=>exact SeqAt.EqAt.list_str x t g y
  | tup h=>exact SeqAt.EqAt.list_tuple g h y
  | lst h=>exact absurd rfl z
theorem Vw.rc {A:aQ}{sh:ae}{k C:Nat}{u v:Value}(a:Vw sh k u)(b:Vw sh C v)(z:k≠C)(y:A.units<cLine):jV A sh u v false:=by
 cases a with
 | non=>cases b with
  | non=>exact absurd rfl z
  | bl b=>exact SeqAt.RcAt.none_bool b
  | int i t=>exact SeqAt.RcAt.none_int i t
  | str x t=>exact SeqAt.RcAt.none_str x t
  | tup h=>exact SeqAt.RcAt.none_tuple h y
  | lst h=>exact SeqAt.RcAt.none_list h y
 | bl a=>cases b with
  | non=>exact SeqAt.RcAt.bool_none a
  | bl b=>exact absurd rfl z
  | int i t=>exact absurd rfl z
  | str x t=>exact SeqAt.RcAt.bool_str a x t
  | tup h=>exact SeqAt.RcAt.bool_tuple a h y
  | lst h=>exact SeqAt.RcAt.bool_list a h y
 | int a q=>cases b with
  | non=>exact SeqAt.RcAt.int_none a q
  | bl b=>exact absurd rfl z
  | int i t=>exact absurd rfl z
  | str x t=>exact SeqAt.RcAt.int_str a q x t
  | tup h=>exact SeqAt.RcAt.int_tuple a q h y
  | lst h=>exact SeqAt.RcAt.int_list a q h y
 | str a q=>cases b with
  | non=>exact SeqAt.RcAt.str_none a q
  | bl b=>exact SeqAt.RcAt.str_bool a q b
  | int i t=>exact SeqAt.RcAt.str_int a q i t
  | str x t=>exact absurd rfl z
  | tup h=>exact SeqAt.RcAt.str_tuple a q h y
  | lst h=>exact SeqAt.RcAt.str_list a q h y
 | tup g=>cases b with
  | non=>exact SeqAt.RcAt.tuple_none g y
  | bl b=>exact SeqAt.RcAt.tuple_bool b g y
  | int i t=>exact SeqAt.RcAt.tuple_int i t g y
  | str x t=>exact SeqAt.RcAt.tuple_str x t g y
  | tup h=>exact absurd rfl z
  | lst h=>exact SeqAt.RcAt.tuple_list g h y
 | lst g=>cases b with
  | non=>exact SeqAt.RcAt.list_none g y
  | bl b=>exact SeqAt.RcAt.list_bool b g y
  | int i t=>exact SeqAt.RcAt.list_int i t g y
  | str x t=>exact SeqAt.RcAt.list_str x t g y
  | tup h=>exact SeqAt.RcAt.list_tuple g h y
  | lst h=>exact absurd rfl z
theorem Vw.ne {A:aQ}{sh:ae}{k C:Nat}{u v:Value}(a:Vw sh k u)(b:Vw sh C v)(z:k≠C)(y:A.units<cLine):jJ A sh u v true:=by
 cases a with
 | non=>cases b with
  | non=>exact absurd rfl z
  | bl b=>exact SeqAt.RcNeAt.none_bool b
  | int i t=>exact SeqAt.RcNeAt.none_int i t
  | str x t=>exact SeqAt.RcNeAt.none_str x t
  | tup h=>exact SeqAt.RcNeAt.none_tuple h y
  | lst h=>exact SeqAt.RcNeAt.none_list h y
 | bl a=>cases b with
  | non=>exact SeqAt.RcNeAt.bool_none a
  | bl b=>exact absurd rfl z
  | int i t=>exact absurd rfl z
  | str x t=>exact SeqAt.RcNeAt.bool_str a x t
  | tup h=>exact SeqAt.RcNeAt.bool_tuple a h y
  | lst h=>exact SeqAt.RcNeAt.bool_list a h y
 | int a q=>cases b with
  | non=>exact SeqAt.RcNeAt.int_none a q
  | bl b=>exact absurd rfl z
  | int i t=>exact absurd rfl z
  | str x t=>exact SeqAt.RcNeAt.int_str a q x t
  | tup h=>exact SeqAt.RcNeAt.int_tuple a q h y
  | lst h=>exact SeqAt.RcNeAt.int_list a q h y
 | str a q=>cases b with
  | non=>exact SeqAt.RcNeAt.str_none a q
  | bl b=>exact SeqAt.RcNeAt.str_bool a q b
  | int i t=>exact SeqAt.RcNeAt.str_int a q i t
  | str x t=>exact absurd rfl z
  | tup h=>exact SeqAt.RcNeAt.str_tuple a q h y
  | lst h=>exact SeqAt.RcNeAt.str_list a q h y
 | tup g=>cases b with
  | non=>exact SeqAt.RcNeAt.tuple_none g y
  | bl b=>exact SeqAt.RcNeAt.tuple_bool b g y
  | int i t=>exact SeqAt.RcNeAt.tuple_int i t g y
  | str x t=>exact SeqAt.RcNeAt.tuple_str x t g y
  | tup h=>exact absurd rfl z
  | lst h=>exact SeqAt.RcNeAt.tuple_list g h y
 | lst g=>cases b with
  | non=>exact SeqAt.RcNeAt.list_none g y
  | bl b=>exact SeqAt.RcNeAt.list_bool b g y
  | int i t=>exact SeqAt.RcNeAt.list_int i t g y
  | str x t=>exact SeqAt.RcNeAt.list_str x t g y
  | tup h=>exact SeqAt.RcNeAt.list_tuple g h y
  | lst h=>exact absurd rfl z
theorem bI7 (a b:List Nat):((⟨a.toArray⟩:Str)==⟨b.toArray⟩)=(a==b):=by
 by_cases e:a=b
 ·subst e;simp
 ·have:(⟨a.toArray⟩:Str)≠⟨b.toArray⟩:=fun q=>e (by simpa using congrArg (fun z=>z.cps.toList) q)
  rw[beq_eq_false_iff_ne.mpr this,beq_eq_false_iff_ne.mpr e]
structure Cmp (A:aQ)(sh:ae)(u v:Value)(z:Bool):Prop where
 rc:jV A sh u v z
 ne:jJ A sh u v (!z)
section
variable {X:Cx} {pins:List (Addr×Obj)} {σ:St} {H:Hp} {sh:ae} {φ:Nat->Addr} {s:jW}
theorem bD6 (I:Inv X pins σ H sh)(z:X.K=Γ.K)(R:Rp Γ φ H s){d:jX}{x:V}{u:Value}(h:RV Γ φ H d x)(r:RelV x u)(hk:ko s d≠9):Vw sh (ko s d) u:=by
 cases d with
 | non=>have e:=h.nonE;subst e;cases r;exact .non
 | bl b=>have e:=h.blE;subst e;cases r;exact .bl b
 | int i=>have e:=h.intE;subst e;obtain⟨t,rfl⟩:=r;exact .int i t
 | str y=>have e:=h.strE;subst e;obtain⟨t,rfl⟩:=r;exact .str _ t
 | tup l =>
  obtain⟨a,C,e,q,_⟩:=h.tupE
  subst e;cases r
  rw[<-z]at q
  obtain⟨its,_,t,_⟩:=I.tuple q
  exact .tup t
 | ref n =>
  have e:=h.refE;subst e;cases r
  have hk:(match s[n]? with|some (DV.O.lst l)=>4|_=>9:Nat)≠9:=hk
  show Vw sh (match s[n]? with|some (DV.O.lst l)=>4|_=>9:Nat) _
  cases hs:s[n]? with
  | none=>rw[hs]at hk;exact absurd rfl hk
  | some o =>
   rw[hs]at hk
   cases o with
   | lst l =>
    obtain⟨C,e,_⟩:=R.addr hs
    obtain⟨its,_,t,_⟩:=I.list (SqL.of e)
    exact .lst t.isList
   | _=>exact absurd rfl hk
 | fn _=>exact absurd rfl hk
 | clo _ _=>exact absurd rfl hk
theorem ax0 (I:Inv X pins σ H sh)(Z:X.K=Γ.K)(R:Rp Γ φ H s){a b:jX}{x y:V}{u v:Value}{A:aQ}{z:Bool}(h:kr s a b=some z)(F:RV Γ φ H a x)(C:RV Γ φ H b y)(r1:RelV x u)(G:RelV y v)(J:A.units<cLine) :
  f7 A sh u v z/\Cmp A sh u v z:=by
 rcases qt h with h|⟨_,hn,hz⟩
 ·cases a<;>cases b<;>try cases h
  ·cases F.nonE;cases C.nonE;cases r1;cases G
   exact⟨gi _,SeqAt.RcAt.none_none,SeqAt.RcNeAt.none_none⟩
  ·cases F.blE;cases C.blE;cases r1;cases G
   exact⟨SeqAt.EqAt.bool_bool _ _,SeqAt.RcAt.bool_bool _ _,SeqAt.RcNeAt.bool_bool _ _⟩
  ·cases F.blE;cases C.intE;cases r1;obtain⟨t',rfl⟩:=G
   exact⟨SeqAt.EqAt.bool_int _ _ _,SeqAt.RcAt.bool_int _ _ _,SeqAt.RcNeAt.bool_int _ _ _⟩
  ·cases F.intE;cases C.blE;obtain⟨t,rfl⟩:=r1;cases G
   exact⟨SeqAt.EqAt.int_bool _ _ _,SeqAt.RcAt.int_bool _ _ _,SeqAt.RcNeAt.int_bool _ _ _⟩
  ·cases F.intE;cases C.intE;obtain⟨t,rfl⟩:=r1;obtain⟨t',rfl⟩:=G
   exact⟨SeqAt.EqAt.int_int _ _ _ _,SeqAt.RcAt.int_int _ _ _ _,SeqAt.RcNeAt.int_int _ _ _ _⟩
  ·cases F.strE;cases C.strE;obtain⟨t,rfl⟩:=r1;obtain⟨t',rfl⟩:=G
   rw[<-bI7]
   exact⟨SeqAt.EqAt.str_str _ _ _ _,SeqAt.RcAt.str_str _ _ _ _,SeqAt.RcNeAt.str_str _ _ _ _⟩
 ·subst hz
  unfold kP at hn
  simp only[dZ,beq_eq_false_iff_ne]at hn
  have Y:=bD6 I Z R F r1 hn.1.1
  have w2:=bD6 I Z R C G hn.1.2
  exact⟨Y.eq w2 hn.2 J,Y.rc w2 hn.2 J,Y.ne w2 hn.2 J⟩
theorem aQ8 (I:Inv X pins σ H sh)(hK:X.K=Γ.K)(R:Rp Γ φ H s):∀(n:Nat) (a b:jX) (x y:V) (u v:Value) (A:aQ) (z:Bool),j5 s n a b=some z->RV Γ φ H a x->RV Γ φ H b y->RelV x u->RelV y v->Room n A ->
  f7 A sh u v z/\Cmp A sh u v z:=by
 intro n
 induction n with
 | zero=>intro a b x y u v A z h h1 h2 r1 r2 hr;unfold j5 at h;exact ax0 I hK R h h1 h2 r1 r2 hr.units0
 | succ n ih =>
  have C:∀ {l m:List jX} {xs ys:List V} {its its':List Value} {A:aQ} {e:Nat->Bool},RVL Γ φ H l xs->RVL Γ φ H m ys->Vals xs its->Vals ys its'->Room n A->(∀ j d d',l[j]?=some d->m[j]?=some d'->j5 s n d d'=some (e j)) ->
    ∀ j (h1:j<its.toArray.size) (h2:j<its'.toArray.size),f7 A sh its.toArray[j] its'.toArray[j] (e j):=by
   intro l m xs ys its its' A e d1 Z Y J hr he j h1 h2
   have l1:=Y.length
   have l2:=J.length
   have e1:=d1.length
   have e2:=Z.length
   have a3:j<its.length:=by simpa using h1
   have a4:j<its'.length:=by simpa using h2
   have hj:j<l.length:=by omega
   have a1:j<m.length:=by omega
   obtain⟨x,ex,dx⟩:=d1.get (ak hj)
   obtain⟨y,ey,dy⟩:=Z.get (ak a1)
   obtain⟨u,eu,ru⟩:=Y.get ex
   obtain⟨w,ew,a2⟩:=J.get ey
   have g1:its.toArray[j]=u:=by
    have:=ak a3
    rw[eu]at this
    simpa using(av this).symm
   have g2:its'.toArray[j]=w:=by
    have:=ak a4
    rw[ew]at this
    simpa using(av this).symm
   rw[g1,g2]
   exact(ih _ _ x y u w A (e j) (he j _ _ (ak hj) (ak a1)) dx dy ru a2 hr).1
  intro a b x y u v A z h h1 h2 r1 r2 hr
  have hz:=h
  unfold j5 at h
  split at h
  ·rename_i l m
   obtain⟨p,xs,ex,q1,d1⟩:=id h1.tupE
   obtain⟨q,ys,ey,q2,Z⟩:=id h2.tupE
   subst ex;subst ey
   cases r1;cases r2
   rw[<-hK]at q1 q2
   obtain⟨its,Y,t1,_⟩:=I.tuple q1
   obtain⟨its',J,t2,_⟩:=I.tuple q2
   obtain⟨e,he,G⟩:=aV1 h
   have l1:=Y.length
   have l2:=J.length
   have e1:=d1.length
   have e2:=Z.length
   have sz:((aS (min its.toArray.size its'.toArray.size)).all e&&its.toArray.size==its'.toArray.size)=z:=by
    rw[<-G,Bool.and_comm,show its.toArray.size=l.length by simp;omega,show its'.toArray.size=m.length by simp;omega]
   have key:=SeqAt.RcAt.tuples (A:=A) (s:=sh) (e:=e) t1 t2 hr.units0 (C d1 Z Y J hr.in1 he)
   have F:=SeqAt.RcNeAt.tuples (A:=A) (s:=sh) (e:=e) t1 t2 hr.units0 (C d1 Z Y J hr.in1 he)
   rw[sz]at key F
   refine⟨?_,key,F⟩
   by_cases hab:p=q
   ·subst hab
    rw[aH2 I hK R _ _ _ _ _ hz h1 h2]
    exact gi _
   ·exact ii hab key
  ·rename_i p q
   split at h
   ·rename_i l m hl hm
    obtain⟨xs,e1,d1⟩:=R.addr hl
    obtain⟨ys,e2,Z⟩:=R.addr hm
    have ex:=h1.refE
    have ey:=h2.refE
    subst ex;subst ey
    cases r1;cases r2
    obtain⟨its,Y,t1,_⟩:=I.list (SqL.of e1)
    obtain⟨its',J,t2,_⟩:=I.list (SqL.of e2)
    have l1:=Y.length
    have l2:=J.length
    have c1:=d1.length
    have c2:=Z.length
    have fin:Cmp A sh (.ref (φ p)) (.ref (φ q)) z:=by
     split at h
     ·rename_i a0
      obtain⟨e,he,G⟩:=aV1 h
      have sz:(aS its.toArray.size).all e=z:=by
       rw[<-G,show its.toArray.size=l.length by simp;omega,a0]
       simp
      have key:=SeqAt.RcAt.lists (A:=A) (s:=sh) (e:=e) t1.isList t2.isList (by simp;omega) hr.units0 (C d1 Z Y J hr.in1 he)
      have F:=SeqAt.RcNeAt.lists (A:=A) (s:=sh) (e:=e) t1.isList t2.isList (by simp;omega) hr.units0 (C d1 Z Y J hr.in1 he)
      rw[sz]at key F
      exact⟨key,F⟩
     ·rename_i a0
      cases h
      have hs:(its.toArray.size != its'.toArray.size)=true:=by simp;omega
      exact⟨SeqAt.RcAt.lists_lengths t1.isList t2.isList hs hr.units0,SeqAt.RcNeAt.lists_lengths t1.isList t2.isList hs hr.units0⟩
    refine⟨?_,fin⟩
    by_cases hab:φ p=φ q
    ·rw[aH2 I hK R _ _ _ _ _ hz RV.refI (by rw[hab];exact RV.refI),hab]
     exact gi _
    ·exact ii hab fin.rc
   ·cases h
  ·exact ax0 I hK R h h1 h2 r1 r2 hr.units0
end
variable {Γ:Gm} {X:Cx}
noncomputable def bO2:lz->Operator
 | .add=>.Add|.sub=>.Sub|.mul=>.Mult|.fdiv=>.FloorDiv|.mod=>.Mod|.pow=>.Pow|.shl=>.LShift|.shr=>.RShift|.band=>.BitAnd|.bor=>.BitOr
noncomputable def an6:k6->CmpOp
 | .eq=>.Eq|.ne=>.NotEq|.lt=>.Lt|.le=>.LtE|.gt=>.Gt|.ge=>.GtE|.isin=>.In|.notin=>.NotIn
def rOp (Γ:Gm)(f:jX->jX->jW->j0 jX):R2:=fun x y H Q=>∃ φ s a b d s',Rp Γ φ H s/\RV Γ φ H a x/\RV Γ φ H b y/\a.bnd s.length=true/\b.bnd s.length=true/\f a b s=.ok d s'/\ae0 Γ φ s H d s' Q
theorem zG {d e:jX}{s t:jW}(h:lr d s=.ok e t):d=e/\s=t:=by
 unfold lr at h
 cases h
 exact⟨rfl,rfl⟩
theorem zM {o:kz}{e:jX}{s t:jW}(h:kH o s=.ok e t):e=.ref s.length/\t=s++[o]:=by
 unfold kH at h
 cases h
 exact⟨rfl,rfl⟩
theorem aq8 (a b:List Nat):(⟨a.toArray⟩:Str)++⟨b.toArray⟩=⟨(a++b).toArray⟩:=by
 show Str.append _ _=_
 unfold Str.append
 simp
theorem zC:j4<=aC:=by rw[eV];decide
theorem br4:OpR X (bR .Mult) (rI (fun i j=>DV.mulOk i j=true) fun i j=>.int (i*j)):=opI fun i j _ _ _ _ _ hc q=>mul_int q (by
 unfold DV.mulOk at hc
 simp only[bt,ai,decide_eq_true_eq]at hc
 rcases hc with(h|h)|⟨z,y⟩
 ·exact bL7.ok (.inl (by omega))
 ·exact bL7.ok (.inr (by omega))
 ·unfold DV.BIG at z y
  exact IntMulOk.of_le (m:=60000) (n:=60000) (intBits_le_iff.mpr z) (intBits_le_iff.mpr y) (by decide))
theorem aF0 (l:List Nat):∀(n:Nat) (h:Array Nat),(aA n l.toArray).foldl (·++·) h=h++(km n l).toArray
 | 0,h=>by simp[km]
 | n+1,h=>by
  rw[bD,da,aF0 l n]
  simp[km,hX]
theorem bp0 (l:List Nat):km 1 l=l:=by simp[km]
theorem aP1:∀ n,km n []=[]
 | 0=>rfl
 | n+1=>by simp[km,aP1 n]
theorem rep_len (l:List Nat):∀ n,(km n l).length=l.length*n
 | 0=>by simp[km]
 | n+1=>by simp[km,rep_len l n,i7];omega
theorem bk3:OpR X (bR .Mult) (fun x y H Q=>∃(l:List Nat) (n:Int),x=.str ⟨l.toArray⟩/\y=.int n/\(0<=n/\n<=1000000/\l.length*n.toNat<=j4)/\Q (.str ⟨(km n.toNat l).toArray⟩) H):=by
 intro F s σ H x y v u Q I rx ry h
 obtain⟨l,n,rfl,rfl,⟨h0,Y,J⟩,q⟩:=h
 obtain⟨t,rfl⟩:=rx
 obtain⟨t',rfl⟩:=ry
 have z:(⟨l.toArray⟩:Str).length=l.length:=by show l.toArray.size=_;simp
 have hL:=zC
 have Z:=al5
 refine SB.mul ⟨?_,fun hn _=>?_,fun hn _=>?_⟩ fun t2 k=>?_
 ·rw[decide_eq_false (by omega),decide_eq_false (by omega)];rfl
 ·rw[z]
  have C:1<=n:=by omega
  intro G
  have h3:(l.length:Int)*n<=1000000:=by
   have:((l.length*n.toNat:Nat):Int)<=(j4:Nat):=Int.ofNat_le.mpr J
   rw[jb,et h0]at this
   have e:((j4:Nat):Int)=1000000:=by unfold j4;rfl
   omega
  have h4:(l.length:Int)<=1000000:=by
   have:(l.length:Int)*1<=(l.length:Int)*n:=d3 C (by omega)
   omega
  have h5:(1000000:Int)<=(2^63 - 1) / n:=by
   rw[Int.le_ediv_iff_mul_le (by omega)]
   have:(1000000:Int)*n<=1000000*1000000:=d3 Y (by omega)
   omega
  omega
 ·rw[z]
  unfold dI
  exact decide_eq_false (by omega)
 ·have e:Txt.mul ⟨l.toArray⟩ n=⟨(km n.toNat l).toArray⟩:=by
   unfold Txt.mul
   split
   ·have:n.toNat=0:=by omega
    rw[this];rfl
   ·split
    ·rename_i hc
     rw[bt]at hc
     rcases hc with hc|hc
     ·have:n=1:=by simpa using hc
      subst this
      show(⟨l.toArray⟩:Str)=⟨(km 1 l).toArray⟩
      rw[bp0]
     ·have:l=[]:=by
       have:=eq_of_beq hc
       rw[z]at this
       exact cE.mp this
      subst this
      rw[aP1]
    ·show(⟨(aA n.toNat l.toArray).foldl (·++·) #[]⟩:Str)=_
     rw[aF0];simp
  rw[e]
  exact⟨.str _,H,I.tok _,⟨_,rfl⟩,q⟩
theorem al1 {n:Nat}{l:List jX}(h:jY n l=true):∀ k,jY n (kG k l)=true
 | 0=>rfl
 | k+1=>zz h (al1 h k)
theorem RVL.repD {φ:Nat->Addr}{H:Hp}{l:List jX}{y:List V}(h:RVL Γ φ H l y):∀ k,RVL Γ φ H (kG k l) (am8 k y)
 | 0=>RVL.nil
 | k+1=>h.append (RVL.repD h k)
theorem ax7 {α:Type}(h:List α):∀ k,am8 k h=(aA k h).flatten
 | 0=>rfl
 | k+1=>by rw[bD,cy,<-ax7 h k];rfl
theorem bG7 (hK:X.K=Γ.K)(op:lz):OpR X (bR (bO2 op)) (rOp Γ (DV.qi op)):=by
 intro C s σ H x y v u Q I G J h
 obtain⟨φ,st,a,b,d,a0,R,ha,hb,na,nb,hf,q⟩:=h
 cases op with
 | add =>
  cases a with
  | int a =>
   cases b with
   | int b =>
    change(lr _) st=_ at hf
    obtain⟨rfl,rfl⟩:=zG hf
    have ex:=ha.intE;have F:=hb.intE;subst ex;subst F
    exact bF5 C s σ H _ _ v u Q I G J ⟨_,_,rfl,rfl,q.here R rfl RV.intI⟩
   | _=>exact fb hf
  | str a =>
   cases b with
   | str b =>
    change(if _ then _ else _:kQ jX) st=_ at hf
    split at hf
    ·rename_i hl
     obtain⟨rfl,rfl⟩:=zG hf
     have ex:=ha.strE;have F:=hb.strE;subst ex;subst F
     refine aL8 C s σ H _ _ v u Q I G J ⟨_,_,rfl,rfl,?_,?_⟩
     ·show a.toArray.size+b.toArray.size<=_
      simp only[aq]
      exact aj hl zC
     ·rw[aq8];exact q.here R rfl (RV.strI (by rw[aD];exact hl))
    ·exact fb hf
   | _=>exact fb hf
  | tup a =>
   cases b with
   | tup b =>
    change(if _ then _ else _:kQ jX) st=_ at hf
    split at hf
    ·rename_i hl
     obtain⟨rfl,rfl⟩:=zG hf
     obtain⟨p,Z,⟨rfl,z1⟩,Y,d1⟩:=ha.tupZ
     obtain⟨p',ys,⟨rfl,z2⟩,h2,d2⟩:=hb.tupZ
     refine bt2 hK C s σ H _ _ v u Q I G J ⟨p,p',Z,ys,rfl,rfl,Y,h2,?_,fun t H' e ht hn=>?_⟩
     ·rw[d1.length,d2.length];exact aj hl zC
     ·obtain⟨g,r'⟩:=R.same e
      unfold j2 at na nb
      refine q _ _ _ g (am _) (by unfold j2;exact zz na nb) (RV.tupC ht (fun z=>?_) ((RVL.mono g _ _ na d1).append (RVL.mono g _ _ nb d2))) r'
      rcases hn with hn|⟨rfl,rfl⟩|⟨rfl,rfl⟩
      ·exact hn
      ·rw[d2.tonil,aW]at z;rw[aW];exact e _ _ (z1 z)
      ·rw[d1.tonil]at z;exact e _ _ (z2 z)
    ·exact fb hf
   | _=>exact fb hf
  | ref a =>
   cases b with
   | ref b =>
    change(match st[a]?,st[b]? with|some (DV.O.lst l),some (DV.O.lst m)=>if l.length+m.length<=j4 then kH (.lst (l++m)) st else .bad|_,_=>.bad:j0 jX)=_ at hf
    split at hf
    ·rename_i l m Y h2
     split at hf
     ·rename_i hl
      obtain⟨rfl,rfl⟩:=zM hf
      obtain⟨Z,e1,d1⟩:=R.addr Y
      obtain⟨ys,e2,d2⟩:=R.addr h2
      have ex:=ha.refE;have F:=hb.refE;subst ex;subst F
      have b1:=R.wf _ _ Y
      have b2:=R.wf _ _ h2
      unfold j3 at b1 b2
      refine bB2 C s σ H _ _ v u Q I G J ⟨φ a,φ b,Z,ys,rfl,rfl,e1,e2,?_,fun p hp=>?_⟩
      ·rw[d1.length,d2.length];exact aj hl zC
      ·exact q.alloc R (d1.append d2) (zz b1 b2) hp
     ·exact fb hf
    ·exact fb hf
   | _=>exact fb hf
  | _=>exact fb hf
 | sub =>
  cases a with
  | int a =>
   cases b with
   | int b =>
    change(lr _) st=_ at hf
    obtain⟨rfl,rfl⟩:=zG hf
    have ex:=ha.intE;have F:=hb.intE;subst ex;subst F
    exact bz1 C s σ H _ _ v u Q I G J ⟨_,_,rfl,rfl,q.here R rfl RV.intI⟩
   | _=>exact fb hf
  | _=>exact fb hf
 | mul =>
  cases a with
  | int a =>
   cases b with
   | int b =>
    change(if _ then _ else _:kQ jX) st=_ at hf
    split at hf
    ·rename_i hc
     obtain⟨rfl,rfl⟩:=zG hf
     have ex:=ha.intE;have F:=hb.intE;subst ex;subst F
     exact br4 C s σ H _ _ v u Q I G J ⟨_,_,rfl,rfl,hc,q.here R rfl RV.intI⟩
    ·exact fb hf
   | _=>exact fb hf
  | str a =>
   cases b with
   | int b =>
    change(if _ then _ else _:kQ jX) st=_ at hf
    split at hf
    ·rename_i hc
     obtain⟨rfl,rfl⟩:=zG hf
     have ex:=ha.strE;have F:=hb.intE;subst ex;subst F
     exact bk3 C s σ H _ _ v u Q I G J ⟨_,_,rfl,rfl,hc,q.here R rfl (RV.strI (by rw[rep_len];exact hc.2.2))⟩
    ·exact fb hf
   | _=>exact fb hf
  | tup a =>
   cases b with
   | int b =>
    change(if _ then _ else _:kQ jX) st=_ at hf
    split at hf
    ·rename_i hc
     obtain⟨rfl,rfl⟩:=zG hf
     obtain⟨p,Z,⟨rfl,z1⟩,Y,d1⟩:=ha.tupZ
     have F:=hb.intE;subst F
     refine bp3 hK C s σ H _ _ v u Q I G J ⟨p,Z,_,rfl,rfl,Y,⟨hc.1,hc.2.1,by rw[d1.length];exact hc.2.2⟩,fun t H' e ht hn=>?_⟩
     obtain⟨g,r'⟩:=R.same e
     unfold j2 at na
     refine q _ _ _ g (am _) (by unfold j2;exact al1 na _) (RV.tupC ht (fun z=>?_) (RVL.repD (RVL.mono g _ _ na d1) _)) r'
     rcases hn with hn|⟨rfl,ex⟩
     ·exact hn
     ·rw[ex];exact e _ _ (z1 (bn9 z))
    ·exact fb hf
   | _=>exact fb hf
  | ref a =>
   cases b with
   | int b =>
    change(match st[a]? with|some (DV.O.lst l)=>if 0<=b/\b<=1000000/\l.length*b.toNat<=j4 then kH (.lst (kG b.toNat l)) st else .bad|_=>.bad:j0 jX)=_ at hf
    split at hf
    ·rename_i l Y
     split at hf
     ·rename_i hc
      obtain⟨rfl,rfl⟩:=zM hf
      obtain⟨Z,e1,d1⟩:=R.addr Y
      have ex:=ha.refE;have F:=hb.intE;subst ex;subst F
      have b1:=R.wf _ _ Y
      unfold j3 at b1
      refine bF1 C s σ H _ _ v u Q I G J ⟨φ a,b,Z,rfl,rfl,e1,by omega,by omega,?_,fun p hp=>?_⟩
      ·rw[d1.length];exact aj hc.2.2 zC
      ·rw[<-ax7];exact q.alloc R (RVL.repD d1 _) (al1 b1 _) hp
     ·exact fb hf
    ·exact fb hf
   | _=>exact fb hf
  | _=>exact fb hf
 | fdiv =>
  cases a with
  | int a =>
   cases b with
   | int b =>
    change(if _ then _ else _:kQ jX) st=_ at hf
    split at hf
    ·rename_i hc
     obtain⟨rfl,rfl⟩:=zG hf
     have ex:=ha.intE;have F:=hb.intE;subst ex;subst F
     refine aY6 C s σ H _ _ v u Q I G J ⟨_,_,rfl,rfl,⟨hc.1,?_⟩,q.here R rfl RV.intI⟩
     have:=hc.2
     unfold DV.DIVL at this
     simpa using this
    ·exact fb hf
   | _=>exact fb hf
  | _=>exact fb hf
 | mod =>
  cases a with
  | int a =>
   cases b with
   | int b =>
    change(if _ then _ else _:kQ jX) st=_ at hf
    split at hf
    ·rename_i hc
     obtain⟨rfl,rfl⟩:=zG hf
     have ex:=ha.intE;have F:=hb.intE;subst ex;subst F
     exact bw8 C s σ H _ _ v u Q I G J ⟨_,_,rfl,rfl,hc,q.here R rfl RV.intI⟩
    ·exact fb hf
   | _=>exact fb hf
  | _=>exact fb hf
 | pow =>
  cases a with
  | int a =>
   cases b with
   | int b =>
    change(if _ then _ else _:kQ jX) st=_ at hf
    split at hf
    ·rename_i hc
     obtain⟨rfl,rfl⟩:=zG hf
     have ex:=ha.intE;have F:=hb.intE;subst ex;subst F
     exact bE5 C s σ H _ _ v u Q I G J ⟨_,_,rfl,rfl,hc,q.here R rfl RV.intI⟩
    ·exact fb hf
   | _=>exact fb hf
  | _=>exact fb hf
 | shl =>
  cases a with
  | int a =>
   cases b with
   | int b =>
    change(if _ then _ else _:kQ jX) st=_ at hf
    split at hf
    ·rename_i hc
     obtain⟨rfl,rfl⟩:=zG hf
     have ex:=ha.intE;have F:=hb.intE;subst ex;subst F
     exact bF3 C s σ H _ _ v u Q I G J ⟨_,_,rfl,rfl,hc,q.here R rfl RV.intI⟩
    ·exact fb hf
   | _=>exact fb hf
  | _=>exact fb hf
 | shr =>
  cases a with
  | int a =>
   cases b with
   | int b =>
    change(if _ then _ else _:kQ jX) st=_ at hf
    split at hf
    ·rename_i hc
     obtain⟨rfl,rfl⟩:=zG hf
     have ex:=ha.intE;have F:=hb.intE;subst ex;subst F
     exact bC6 C s σ H _ _ v u Q I G J ⟨_,_,rfl,rfl,hc,q.here R rfl RV.intI⟩
    ·exact fb hf
   | _=>exact fb hf
  | _=>exact fb hf
 | band =>
  cases a with
  | int a =>
   cases b with
   | int b =>
    change(if _ then _ else _:kQ jX) st=_ at hf
    split at hf
    ·rename_i hc
     obtain⟨rfl,rfl⟩:=zG hf
     have ex:=ha.intE;have F:=hb.intE;subst ex;subst F
     exact bq0 C s σ H _ _ v u Q I G J ⟨_,_,rfl,rfl,hc,q.here R rfl RV.intI⟩
    ·exact fb hf
   | _=>exact fb hf
  | _=>exact fb hf
 | bor=>exact fb hf
variable {Γ:Gm} {X:Cx} {pins:List (Addr×Obj)} {σ:St} {H:Hp} {sh:ae} {φ:Nat->Addr} {s:jW}
theorem aF3 {n:Nat}{a b:jX}{z:Bool}(h:j5 s n a b=some z):ko s a≠9:=by
 cases n with
 | zero=>unfold j5 at h;exact(ag5 h).1
 | succ n =>
  unfold j5 at h
  split at h
  ·simp[ko]
  ·split at h
   ·rename_i y _;simp[ko,y]
   ·cases h
  ·exact(ag5 h).1
theorem aR6 (I:Inv X pins σ H sh)(F:X.K=Γ.K)(R:Rp Γ φ H s):∀(n:Nat) (a b c:jX) (x:V) (p q:Bool),RV Γ φ H a x->RV Γ φ H b x->j5 s n a c=some p->j5 s n b c=some q->p=q:=by
 intro n
 induction n with
 | zero =>
  intro a b c x p q y h e1 e2
  rcases rv_two I F R y h (aF3 e1) (aF3 e2)with e|⟨l,m,_,_,rfl,rfl,_⟩
  ·subst e;rw[e1]at e2;exact av e2
  ·unfold j5 at e1 e2
   have:kr s (.tup l) c=kr s (.tup m) c:=by unfold kr;cases c<;>rfl
   rw[this,e2]at e1;exact(av e1).symm
 | succ n ih =>
  have C:∀(l m k:List jX) (z:List V) (p q:Bool),RVL Γ φ H l z->RVL Γ φ H m z->kj (j5 s n) l k=some p->kj (j5 s n) m k=some q->p=q:=by
   intro l
   induction l with
   | nil =>
    intro m k z p q y h e1 e2
    have:=y.unnil;subst this
    have J:m=[]:=by have:=h.length;exact cE.mp this.symm
    subst J
    rw[e1]at e2;exact av e2
   | cons a l ihl =>
    intro m k z p q y h e1 e2
    obtain⟨x,r,rfl,g1,g2⟩:=y.uncons
    cases m with
    | nil=>have:=h.unnil;cases this
    | cons b m =>
     obtain⟨x',r',e,g3,Z⟩:=h.uncons
     cases e
     cases k with
     | nil=>unfold kj at e1 e2;rw[<-av e1,<-av e2]
     | cons c k =>
      obtain⟨p1,p2,a1,a2,a3⟩:=ai8 e1
      obtain⟨G,q2,b1,b2,Y⟩:=ai8 e2
      rw[a3,Y,ih a b c x p1 G g1 g3 a1 b1,ihl m k r p2 q2 g2 Z a2 b2]
  intro a b c x p q y h e1 e2
  rcases rv_two I F R y h (aF3 e1) (aF3 e2)with e|⟨l,m,_,z,rfl,rfl,_,d1,d2⟩
  ·subst e;rw[e1]at e2;exact av e2
  ·cases c with
   | tup k=>unfold j5 at e1 e2;exact C l m k z p q d1 d2 e1 e2
   | _ =>
    unfold j5 at e1 e2
    simp only at e1 e2
    have e3:kr s (.tup l)=kr s (.tup m):=by funext c;unfold kr;cases c<;>rfl
    rw[e3]at e1
    exact av (e1.symm.trans e2)
theorem bf8 {x:jX}:∀ {l:List jX} {z:Bool},kK s x l=some z->∃ e:Nat->Bool,(∀ j d,l[j]?=some d->j5 s j9 d x=some (e j))/\(z=true↔∃ j,j<l.length/\e j=true)
 | [],z,h=>by
  unfold kK at h
  cases h
  exact⟨fun _=>true,fun j d h=>by simp at h,by simp⟩
 | y::l,z,h=>by
  unfold kK at h
  cases e1:j5 s j9 y x with
  | none=>rw[e1]at h;cases h
  | some a =>
   cases e2:kK s x l with
   | none=>rw[e1,e2]at h;cases h
   | some b =>
    rw[e1,e2]at h
    obtain⟨e,F,C⟩:=bf8 e2
    refine⟨fun j=>match j with|0=>a|j+1=>e j,fun j d g=>?_,?_⟩
    ·cases j with
     | zero=>simp at g;subst g;exact e1
     | succ j=>exact F j d (by simpa using g)
    ·have hz:(a||b)=z:=av h
     rw[<-hz,bt,C]
     constructor
     ·rintro(q|⟨j,hj,q⟩)
      ·exact⟨0,by simp,q⟩
      ·exact⟨j+1,by simpa using hj,q⟩
     ·rintro⟨j,hj,q⟩
      cases j with
      | zero=>exact .inl q
      | succ j=>exact .inr ⟨j,by simpa using hj,q⟩
theorem bj5 (I:Inv X pins σ H sh)(hK:X.K=Γ.K)(R:Rp Γ φ H s){x:jX}{Y:V}{xu:Value}(hx:RV Γ φ H x Y)(rx:RelV Y xu){l:List jX}{ys:List V}{its:List Value}(hl:RVL Γ φ H l ys)(hv:Vals ys its){z:Bool}(h:kK s x l=some z){A:aQ}(hr:Room j9 A) :
  ∃ e:Value->Bool,(∀ y,y∈its.toArray->f7 A sh y xu (e y))/\its.toArray.any e=z:=by
 obtain⟨e,Z,h2⟩:=bf8 h
 have len:its.length=l.length:=by rw[<-hv.length];exact hl.length
 have C:∀ j u,its[j]?=some u->∃ d y,l[j]?=some d/\ys[j]?=some y/\RV Γ φ H d y/\RelV y u:=fun j u g=>by
  have hj:j<l.length:=by rw[<-len];exact(ag.mp g).1
  obtain⟨y,g1,g2⟩:=hl.get (ak hj)
  obtain⟨u',F,G⟩:=hv.get g1
  rw[g]at F;cases F
  exact⟨_,y,ak hj,g1,g2,G⟩
 classical
 let f:Value->Bool:=fun u=>decide (∃ j,its[j]?=some u/\e j=true)
 have hf:∀ j u,its[j]?=some u->f u=e j:=fun j u g=>by
  obtain⟨d,y,g1,g2,F,G⟩:=C j u g
  cases q:e j with
  | true=>exact decide_eq_true ⟨j,g,q⟩
  | false =>
   refine decide_eq_false fun⟨k,g',q'⟩=>?_
   obtain⟨d',y',k1,k2,k3,k4⟩:=C k u g'
   have ey:y'=y:=k4.inj G
   subst ey
   have:=aR6 I hK R _ d d' x _ _ _ F k3 (Z j d g1) (Z k d' k1)
   rw[q,q']at this;cases this
 refine⟨f,fun u hu=>?_,?_⟩
 ·obtain⟨j,hj,g⟩:=cV.mp (by simpa using hu:u∈its)
  have g':its[j]?=some u:=by rw[ak hj,g]
  obtain⟨d,y,g1,g2,F,G⟩:=C j u g'
  rw[hf j u g']
  exact(aQ8 I hK R _ d x y Y u xu A _ (Z j d g1) F hx G rx hr).1
 ·have e1:its.toArray.any f=true↔z=true:=by
   rw[h2,List.any_toArray,iR]
   constructor
   ·rintro⟨u,hu,q⟩
    obtain⟨j,hj,g⟩:=cV.mp hu
    have g':its[j]?=some u:=by rw[ak hj,g]
    exact⟨j,by omega,by rw[<-hf j u g'];exact q⟩
   ·rintro⟨j,hj,q⟩
    have J:j<its.length:=by omega
    exact⟨its[j],cX J,by rw[hf j _ (ak J)];exact q⟩
  cases z<;>cases q:its.toArray.any f
  ·rfl
  ·have:=e1.mp q;cases this
  ·rw[q]at e1;have:=e1.mpr rfl;cases this
  ·rfl
variable {Γ:Gm} {X:Cx}
theorem aa0 {α β:Type}{r:j0 α}{f:α->jW->j0 β}{b:β}{t:jW}(h:r.bind f=.ok b t):∃ a s,r=.ok a s/\f a s=.ok b t:=DV.R.bind_inv h
theorem bi3 (hK:X.K=Γ.K)(hr:Room (j9+1) X.A)(h:Bool){F:List (Addr×Obj)}{sh:ae}{σ:St}{H:Hp}{x y:V}{v u:Value}{φ:Nat->Addr}{st a2:jW}{a b:jX}{z:Bool}
  (I:Inv X F σ H sh) (J:RelV x v) (ry:RelV y u) (R:Rp Γ φ H st) (ha:RV Γ φ H a x) (hb:RV Γ φ H b y) (hf:ls a b st=.ok z a2) :
  a2=st/\∀ Q:Value->ae->Prop,(∀ a3,Inv X F σ H a3->Q (.bool (if h then !z else z)) a3)->wpAny (model X.prog X.w) X.A (cb (if h then .NotIn else .In) v u) Q X.xe sh:=by
 unfold ls at hf
 cases b with
 | tup l =>
  simp only at hf
  cases e:kK st a l with
  | none=>rw[e]at hf;cases hf
  | some w =>
   rw[e]at hf
   cases hf
   obtain⟨p,ys,rfl,q,d⟩:=hb.tupE
   cases ry
   rw[<-hK]at q
   obtain⟨its,rv,t,_⟩:=I.tuple q
   obtain⟨f,h1,h2⟩:=bj5 I hK R ha J d rv e (A:=X.A.in1) hr.in1
   refine⟨rfl,fun Q hq=>?_⟩
   cases h with
   | false=>exact SeqAt.in_tupleAt f t h1 (by rw[h2];exact hq _ I)
   | true=>exact SeqAt.notIn_tupleAt f t h1 (by rw[h2];exact hq _ I)
 | str y0 =>
  simp only at hf
  split at hf
  case h_2=>exact fb hf
  rename_i c
  cases hf
  refine⟨rfl,fun Q hq=>?_⟩
  have e1:=ha.strE
  have e2:=hb.strE
  subst e1 e2
  obtain⟨t1,rfl⟩:=J
  obtain⟨t2,rfl⟩:=ry
  have a0:=jC (⟨y0.toArray⟩:Str) c
  cases h with
  | false=>exact in_str (by rw[show(⟨[c].toArray⟩:Str)=⟨#[c]⟩from rfl,a0];simpa using hq _ I)
  | true=>exact notIn_str (by rw[show(⟨[c].toArray⟩:Str)=⟨#[c]⟩from rfl,a0];simpa using hq _ I)
 | ref r =>
  simp only at hf
  cases hs:st[r]? with
  | none=>rw[hs]at hf;cases hf
  | some o =>
   rw[hs]at hf
   cases o with
   | lst l =>
    simp only at hf
    cases e:kK st a l with
    | none=>rw[e]at hf;cases hf
    | some w =>
     rw[e]at hf
     cases hf
     obtain⟨ys,e1,d⟩:=R.addr hs
     have Z:=hb.refE;subst Z
     cases ry
     obtain⟨its,rv,t,_⟩:=I.list (SqL.of e1)
     obtain⟨f,h1,h2⟩:=bj5 I hK R ha J d rv e (A:=X.A.in1) hr.in1
     refine⟨rfl,fun Q hq=>?_⟩
     cases h with
     | false=>exact SeqAt.in_listAt f t.isList h1 (by rw[h2];exact hq _ I)
     | true=>exact SeqAt.notIn_listAt f t.isList h1 (by rw[h2];exact hq _ I)
   | dic l =>
    simp only at hf
    split at hf
    case isFalse=>exact fb hf
    rename_i C
    cases hf
    obtain⟨k,hk⟩:=ai3 C
    obtain⟨G,e1,d⟩:=R.obj r _ hs
    have Z:=hb.refE;subst Z
    cases ry
    have ex:=ay9 hk ha;subst ex
    have ez:(kA a l).isSome=(az6 G k).isSome:=by
     rcases d.val keyOf_inj hk with⟨Y,q2⟩|⟨_,_,Y,q2,_⟩<;>rw[Y,q2]<;>rfl
    refine⟨rfl,fun Q hq=>?_⟩
    rw[ez]at hq
    cases h with
    | false=>exact bT7 (aL2 hr) I (az7.k e1) J hq
    | true=>exact aP8 (aL2 hr) I (az7.k e1) J hq
   | dit l =>
    simp only at hf
    split at hf
    case isFalse=>exact fb hf
    rename_i C
    cases hf
    obtain⟨k,hk⟩:=am5 C
    obtain⟨G,e1,d⟩:=R.obj r _ hs
    have Z:=hb.refE;subst Z
    cases ry
    obtain⟨kb,ex,a1⟩:=aC8 hk ha;subst ex
    have ez:(kA a l).isSome=(az6 G k).isSome:=by
     rcases d.val keyT_inj hk with⟨Y,q2⟩|⟨_,_,Y,q2,_⟩<;>rw[Y,q2]<;>rfl
    refine⟨rfl,fun Q hq=>?_⟩
    rw[ez]at hq
    cases h with
    | false=>exact bT7 (aL2 hr) I (az7.t e1 a1) J hq
    | true=>exact aP8 (aL2 hr) I (az7.t e1 a1) J hq
   | ro l=>exact fb hf
   | ins c l=>exact fb hf
 | _=>exact fb hf
theorem at1 {op:k6}{a b d:jX}{st y:jW}(ho:op=.lt\/op=.le\/op=.gt\/op=.ge)(h:DV.zV op a b st=.ok d y):∃ i j,a=.int i/\b=.int j:=by
 rcases ho with rfl|rfl|rfl|rfl <;>
 (cases a with
 | int i =>
  (cases b with
  | int j=>exact⟨i,j,rfl,rfl⟩
  | _=>cases h)
 | _=>cases h)
theorem aV5 (Z:X.K=Γ.K)(hr:Room (j9+1) X.A)(op:k6):OpR X (cb (an6 op)) (rOp Γ (DV.zV op)):=by
 intro C s σ H x y v u Q I G J h
 obtain⟨φ,st,a,b,d,F,R,ha,hb,na,nb,hf,q⟩:=h
 cases op with
 | eq =>
  have hf:DV.eqM a b st=.ok d F:=hf
  unfold DV.eqM at hf
  cases e:j5 st j9 a b with
  | none=>rw[e]at hf;cases hf
  | some z =>
   rw[e]at hf;cases hf
   exact(aQ8 I Z R _ a b x y v u X.A z e ha hb G J (hr.mono (by omega))).2.rc X.prog X.w X.xe _ ⟨.bl z,H,I,rfl,q.here R rfl RV.blI⟩
 | ne =>
  have hf:(match j5 st j9 a b with|some r=>.ok (.bl (!r)) st|none=>.bad:j0 jX)=.ok d F:=hf
  cases e:j5 st j9 a b with
  | none=>rw[e]at hf;cases hf
  | some z =>
   rw[e]at hf;cases hf
   exact(aQ8 I Z R _ a b x y v u X.A z e ha hb G J (hr.mono (by omega))).2.ne X.prog X.w X.xe _ ⟨.bl (!z),H,I,rfl,q.here R rfl RV.blI⟩
 | lt =>
  obtain⟨i,j,rfl,rfl⟩:=at1 (.inl rfl) hf
  cases hf
  have ex:=ha.intE;have Y:=hb.intE;subst ex;subst Y
  exact bO1 C s σ H _ _ v u Q I G J ⟨_,_,rfl,rfl,q.here R rfl RV.blI⟩
 | le =>
  obtain⟨i,j,rfl,rfl⟩:=at1 (.inr (.inl rfl)) hf
  cases hf
  have ex:=ha.intE;have Y:=hb.intE;subst ex;subst Y
  exact bR7 C s σ H _ _ v u Q I G J ⟨_,_,rfl,rfl,q.here R rfl RV.blI⟩
 | gt =>
  obtain⟨i,j,rfl,rfl⟩:=at1 (.inr (.inr (.inl rfl))) hf
  cases hf
  have ex:=ha.intE;have Y:=hb.intE;subst ex;subst Y
  exact bM5 C s σ H _ _ v u Q I G J ⟨_,_,rfl,rfl,q.here R rfl RV.blI⟩
 | ge =>
  obtain⟨i,j,rfl,rfl⟩:=at1 (.inr (.inr (.inr rfl))) hf
  cases hf
  have ex:=ha.intE;have Y:=hb.intE;subst ex;subst Y
  exact bP2 C s σ H _ _ v u Q I G J ⟨_,_,rfl,rfl,q.here R rfl RV.blI⟩
 | isin =>
  have hf:(ls a b st).bind (fun r s=>.ok (.bl r) s)=.ok d F:=hf
  obtain⟨z,s1,e1,e2⟩:=aa0 hf
  obtain⟨rfl,w⟩:=bi3 Z hr false I G J R ha hb e1
  cases e2
  exact w _ fun s' I'=>⟨.bl z,H,I',rfl,q.here R rfl RV.blI⟩
 | notin =>
  have hf:(ls a b st).bind (fun r s=>.ok (.bl (!r)) s)=.ok d F:=hf
  obtain⟨z,s1,e1,e2⟩:=aa0 hf
  obtain⟨rfl,w⟩:=bi3 Z hr true I G J R ha hb e1
  cases e2
  exact w _ fun s' I'=>⟨.bl (!z),H,I',rfl,q.here R rfl RV.blI⟩
theorem aO3 {φ:Nat->Addr}{H:Hp}{l:List jX}{y:List V}{i:Int}{d:jX}(h:RVL Γ φ H l y)(e:((kL l.length i).bind fun j=>l[j]?)=some d):∃ v,atI y i=some v/\RV Γ φ H d v:=by
 cases hj:kL l.length i with
 | none=>rw[hj]at e;cases e
 | some j =>
  rw[hj]at e
  obtain⟨v,e1,e2⟩:=h.get (show l[j]?=some d from e)
  refine⟨v,?_,e2⟩
  unfold atI
  have:ixN y.length i=some j:=by rw[h.length];exact hj
  rw[this];exact e1
theorem aB6 {l:List jX}{i:Int}{d:jX}(e:((kL l.length i).bind fun j=>l[j]?)=some d):d∈l:=by
 cases hj:kL l.length i with
 | none=>rw[hj]at e;cases e
 | some j=>rw[hj]at e;exact aN (show l[j]?=some d from e)
theorem bT0 (hK:X.K=Γ.K)(hu:X.A.units+1<cLine):IxR X (rOp Γ DV.ixM):=by
 intro z C F s σ H x y v u Q I rx ry h hs
 obtain⟨φ,st,a,b,d,a2,R,ha,hb,na,nb,hf,q⟩:=h
 unfold DV.ixM at hf
 cases a with
 | tup l =>
  cases b with
  | int i =>
   simp only at hf
   split at hf
   ·rename_i d' e
    cases hf
    obtain⟨p,xs,rfl,h1,d1⟩:=ha.tupE
    have G:=hb.intE;subst G
    obtain⟨w,e1,e2⟩:=aO3 d1 e
    unfold j2 at na
    exact bq9 hK z C F s σ H _ _ v u Q I rx ry ⟨p,xs,i,w,rfl,rfl,h1,e1,q.here R (aa3.mp na _ (aB6 e)) e2⟩ hs
   ·exact fb hf
  | _=>exact fb hf
 | str l =>
  cases b with
  | int i =>
   simp only at hf
   split at hf
   ·rename_i c e
    cases hf
    have hl:=ha.strL
    have ex:=ha.strE;have G:=hb.intE;subst ex;subst G
    exact ix_str z C F s σ H _ _ v u Q I rx ry ⟨⟨l.toArray⟩,i,c,rfl,rfl,by show l.toArray.size<=_;rw[aq];exact aj hl zC,e,q.here R rfl (RV.strI (by simp;decide))⟩ hs
   ·exact fb hf
  | _=>exact fb hf
 | ref r =>
  have ex:=ha.refE;subst ex
  simp only at hf
  cases hsr:st[r]? with
  | none=>rw[hsr]at hf;cases hf
  | some o =>
   rw[hsr]at hf
   cases o with
   | lst l =>
    cases b with
    | int i =>
     simp only at hf
     split at hf
     ·rename_i d' e
      cases hf
      have G:=hb.intE;subst G
      obtain⟨xs,e1,d1⟩:=R.addr hsr
      obtain⟨w,e2,e3⟩:=aO3 d1 e
      have wf:=R.wf _ _ hsr
      unfold j3 at wf
      exact aF5 hK z C F s σ H _ _ v u Q I rx ry ⟨φ r,xs,i,w,rfl,rfl,SqL.of e1,e2,q.here R (aa3.mp wf _ (aB6 e)) e3⟩ hs
     ·exact fb hf
    | _=>exact fb hf
   | ro l =>
    cases b with
    | int i =>
     simp only at hf
     split at hf
     ·rename_i d' e
      cases hf
      have G:=hb.intE;subst G
      obtain⟨xs,e1,d1⟩:=R.obj _ _ hsr
      obtain⟨w,e2,e3⟩:=aO3 d1 e
      have wf:=R.wf _ _ hsr
      unfold j3 at wf
      exact aF5 hK z C F s σ H _ _ v u Q I rx ry ⟨φ r,xs,i,w,rfl,rfl,e1.1,e2,q.here R (aa3.mp wf _ (aB6 e)) e3⟩ hs
     ·exact fb hf
    | _=>exact fb hf
   | dic l =>
    simp only at hf
    split at hf
    case isFalse=>exact fb hf
    rename_i J
    obtain⟨k,hk⟩:=ai3 J
    obtain⟨a0,e1,d1⟩:=R.obj r _ hsr
    have G:=ay9 hk hb;subst G
    cases rx
    rcases d1.val keyOf_inj hk with⟨Y,_⟩|⟨e,v',Y,q2,q3,q4⟩
    ·rw[Y]at hf;cases hf
    ·rw[Y]at hf
     cases hf
     have wf:=R.wf _ _ hsr
     unfold j3 at wf
     rw[ai]at wf
     have g:az7 H (φ r) (kV k) (some v'):=by rw[<-q2];exact az7.k e1
     exact jo (ak3 I g) eQ.lookup (av1 hu I g ry fun w' s' I' Z=>⟨v',H,I',Z,q.here R (aa3.mp wf.2 _ q4) q3⟩) hs
   | dit l =>
    simp only at hf
    split at hf
    case isFalse=>exact fb hf
    rename_i J
    obtain⟨k,hk⟩:=am5 J
    obtain⟨a0,e1,d1⟩:=R.obj r _ hsr
    obtain⟨kb,G,a1⟩:=aC8 hk hb;subst G
    cases rx
    rcases d1.val keyT_inj hk with⟨Y,_⟩|⟨e,v',Y,q2,q3,q4⟩
    ·rw[Y]at hf;cases hf
    ·rw[Y]at hf
     cases hf
     have wf:=R.wf _ _ hsr
     unfold j3 at wf
     rw[ai]at wf
     have g:az7 H (φ r) (.ref kb) (some v'):=by rw[<-q2];exact az7.t e1 a1
     exact jo (ak3 I g) eQ.lookup (av1 hu I g ry fun w' s' I' Z=>⟨v',H,I',Z,q.here R (aa3.mp wf.2 _ q4) q3⟩) hs
   | ins c l=>cases b<;>cases hf
 | _=>cases b<;>cases hf
theorem aQ9 (n d:Nat)(i:Int):HT.sIx n d (some i)=kI n i:=by
 show(if i<0 then(i+(n:Int)).toNat else min i.toNat n)=_
 unfold kI
 by_cases h:i<0
 ·rw[if_pos h,if_neg (by omega)]
 ·rw[if_neg h,if_pos (by omega)]
theorem bj1 {φ:Nat->Addr}{H:Hp}{l:List jX}{z:List V}(h:RVL Γ φ H l z)(y C:Option Int):RVL Γ φ H (ky l y C) (aJ9 z y C):=by
 unfold ky aJ9
 have e1:HT.sIx z.length 0 y=kJ l.length y:=by
  cases y with
  | none=>rfl
  | some i=>rw[aQ9,h.length];rfl
 have e2:HT.sIx z.length z.length C=k7 l.length C:=by
  cases C with
  | none=>exact h.length
  | some i=>rw[aQ9,h.length];rfl
 rw[e1,e2]
 exact(h.drop _).take _
theorem aH7 {α:Type}{l:List α}{h y:Option Int}:∀ d∈ky l h y,d∈l:=fun d hd=>d4 (gI hd)
theorem be5 {α:Type}(l:List α)(h y:Option Int):(ky l h y).length<=l.length:=by
 unfold ky
 rw[bu,dN]
 omega
theorem bR6 (y z:Option Int)(n:Nat):bq y z 1 n=(aS (k7 n z - kJ n y)).map (kJ n y+·):=by
 rw[<-sliceRange_one]
 unfold bq
 have cl:∀ i:Int,max 0 (min (if i<0 then i+(n:Int)else i) (n:Int))=((kI n i:Nat):Int):=fun i=>by
  unfold kI
  by_cases h:i<0
  ·rw[if_pos h,if_neg (by omega)];omega
  ·rw[if_neg h,if_pos (by omega)];omega
 simp only[show((1:Int) > 0)=True by simp,if_true]
 cases y<;>cases z<;>simp only[cl,kJ,k7]<;>rfl
theorem aJ0 {l:List Nat}:∀(a k:Nat),a+k<=l.length->((aS k).map (a+·)).filterMap (fun x=>l.toArray[x]?)=(l.drop a).take k
 | a,0,_=>by simp
 | a,k+1,h=>by
  rw[jc,bM,gx,aJ0 a k (by omega)]
  have hk:a+k<l.length:=by omega
  rw[List.take_add_one,dq]
  simp[hk]
theorem aO6 (l:List Nat)(h y:Option Int):ed ⟨l.toArray⟩ h y=⟨(ky l h y).toArray⟩:=by
 unfold ed
 have hn:(⟨l.toArray⟩:Str).length=l.length:=by show l.toArray.size=_;simp
 rw[hn,bR6]
 have hb:k7 l.length y<=l.length:=by
  cases y with
  | none=>exact am _
  | some i=>show kI l.length i<=_;unfold kI;split<;>omega
 have ha:kJ l.length h<=l.length:=by
  cases h with
  | none=>exact cz _
  | some i=>show kI l.length i<=_;unfold kI;split<;>omega
 unfold ky
 generalize k7 l.length y=b at *
 generalize kJ l.length h=a at *
 by_cases hc:((1:Int)==1&&((aS (b - a)).map (a+·)).length==l.length)=true
 ·rw[if_pos hc]
  have:b - a=l.length:=by simpa using hc
  have h0:a=0\/l.length=0:=by omega
  rcases h0 with h0|h0
  ·subst h0
   rw[this];simp
  ·have:l=[]:=cE.mp h0
   subst this;simp
 ·rw[if_neg hc]
  by_cases hab:a<=b
  ·have e:=aJ0 (l:=l) a (b - a) (by omega)
   show(⟨(gG (fun x=>l.toArray[x]?) _).toArray⟩:Str)=_
   rw[e]
  ·rw[show b - a=0 by omega];simp
def rSl (Γ:Gm):V->Option Int->Option Int->Hp->VK->Prop:=fun x lo hi H Q=>∃ φ s a d s',Rp Γ φ H s/\RV Γ φ H a x/\a.bnd s.length=true/\k8 a lo hi s=.ok d s'/\ae0 Γ φ s H d s' Q
theorem bF0 (hK:X.K=Γ.K):SlR X (rSl Γ):=by
 intro y s σ H x v vl vu F C sl Q I Y hs G pu h
 obtain⟨φ,st,a,d,a0,R,ha,J,hf,q⟩:=h
 unfold k8 at hf
 cases a with
 | tup l =>
  cases hf
  obtain⟨p,Z,⟨rfl,z1⟩,h1,d1⟩:=ha.tupZ
  unfold j2 at J
  refine bu0 hK y s σ H _ v vl vu F C sl Q I Y hs G pu ⟨p,Z,rfl,h1,fun t H' e ht hn=>?_⟩
  obtain⟨g,r'⟩:=R.same e
  have d2:=bj1 (RVL.mono g _ _ J d1) F C
  refine q _ _ _ g (am _) (by unfold j2;exact aH6 J aH7) (RV.tupC ht (fun z=>?_) d2) r'
  rcases hn with hn|⟨rfl,ex⟩
  ·exact hn
  ·rw[ex]
   refine e _ _ (z1 ?_)
   have hl:(ky l F C).length=l.length:=by rw[<-d2.length,ex,d1.length]
   rwa [aT5 hl]at z
 | str l =>
  cases hf
  have hl:=ha.strL
  have ex:=ha.strE;subst ex
  refine bH0 y s σ H _ v vl vu F C sl Q I Y hs G pu ⟨_,rfl,by show l.toArray.size<=_;rw[aq];exact aj hl zC,?_⟩
  rw[aO6]
  exact q.here R rfl (RV.strI (aj (be5 l F C) hl))
 | ref r =>
  have ex:=ha.refE;subst ex
  simp only at hf
  cases hsr:st[r]? with
  | none=>rw[hsr]at hf;cases hf
  | some o =>
   rw[hsr]at hf
   cases o with
   | lst l =>
    obtain⟨rfl,rfl⟩:=zM hf
    obtain⟨Z,e1,d1⟩:=R.addr hsr
    have wf:=R.wf _ _ hsr
    unfold j3 at wf
    exact aZ6 hK y s σ H _ v vl vu F C sl Q I Y hs G pu ⟨φ r,Z,rfl,SqL.of e1,fun p hp=>q.alloc R (bj1 d1 F C) (aH6 wf aH7) hp⟩
   | _=>exact fb hf
 | _=>exact fb hf
variable {Γ:Gm} {X:Cx}
def rCl (Γ:Gm)(f:List jX->jW->j0 jX):List V->Hp->VK->Prop:=fun xs H Q=>∃ φ s l d s',Rp Γ φ H s/\RVL Γ φ H l xs/\jY s.length l=true/\f l s=.ok d s'/\ae0 Γ φ s H d s' Q
theorem RVL.one {φ:Nat->Addr}{H:Hp}{d:jX}{y:List V}(h:RVL Γ φ H [d] y):∃ x,y=[x]/\RV Γ φ H d x:=by
 obtain⟨x,r,rfl,C,z⟩:=h.uncons
 rw[z.unnil];exact⟨x,rfl,C⟩
noncomputable def biN:kD->Option (String×Nat)
 | .len=>some ("len",1)|.abs=>some ("abs",1)|.min2=>some ("min",2)|.max2=>some ("max",2)|_=>none
theorem zY:∀ {l:List jX} {is:List Int},kR l=some is->l=is.map DV.D.int
 | [],is,h=>by unfold kR at h;cases h;rfl
 | d::l,is,h=>by
  cases d with
  | int i =>
   have h:(kR l).map (i::·)=some is:=h
   cases e:kR l with
   | none=>rw[e]at h;cases h
   | some m=>rw[e]at h;cases h;rw[zY e];rfl
  | _=>cases h
theorem ak0:∀ {l:List jX} {is:List Bool},kS l=some is->l=is.map DV.D.bl
 | [],is,h=>by unfold kS at h;cases h;rfl
 | d::l,is,h=>by
  cases d with
  | bl i =>
   have h:(kS l).map (i::·)=some is:=h
   cases e:kS l with
   | none=>rw[e]at h;cases h
   | some m=>rw[e]at h;cases h;rw[ak0 e];rfl
  | _=>cases h
theorem RVL.ints {φ:Nat->Addr}{H:Hp}:∀ {is:List Int} {y:List V},RVL Γ φ H (is.map DV.D.int) y->y=is.map V.int
 | [],_,h=>h.unnil
 | i::is,_,h=>by
  obtain⟨x,r,rfl,C,z⟩:=RVL.uncons h
  rw[C.intE,RVL.ints z];rfl
theorem RVL.bls {φ:Nat->Addr}{H:Hp}:∀ {is:List Bool} {y:List V},RVL Γ φ H (is.map DV.D.bl) y->y=is.map V.bl
 | [],_,h=>h.unnil
 | i::is,_,h=>by
  obtain⟨x,r,rfl,C,z⟩:=RVL.uncons h
  rw[C.blE,RVL.bls z];rfl
theorem aP3 {f:jX->kQ jX}{l:List jX}{s s':jW}{d:jX}(h:lu f l s=.ok d s'):∃ a,l=[a]/\f a s=.ok d s':=by
 match l,h with
 | [a],h=>exact⟨a,rfl,h⟩
 | [],h=>exact fb h
 | _::_::_,h=>exact fb h
theorem aY7 (C:X.K=Γ.K)(hc:X.calm=true){b:kD}{F:String}{k:Nat}(hn:biN b=some (F,k)):ac8 X (.builtin F) (rCl Γ (lf b)):=by
 intro y s σ H Z us Q I r h
 obtain⟨φ,st,l,d,z,R,hl,Y,hf,q⟩:=h
 cases b with
 | len =>
  cases hn
  have hf:lu DV.bu9 l st=.ok d z:=hf
  obtain⟨a,rfl,hg⟩:=aP3 hf
  clear hf
  obtain⟨x,rfl,hx⟩:=hl.one
  unfold DV.bu9 at hg
  cases a with
  | tup l =>
   cases hg
   obtain⟨p,ys,rfl,G,d1⟩:=hx.tupE
   refine ak2 C y s σ H _ us Q I r ⟨p,ys,rfl,.inr G,?_⟩
   rw[d1.length];exact q.here R rfl RV.intI
  | str l =>
   cases hg
   have J:=hx.strL
   have e:=hx.strE;subst e
   refine aw5 y s σ H _ us Q I r ⟨_,rfl,by show l.toArray.size<=_;rw[aq];exact aj J zC,?_⟩
   show Q (.int ((l.toArray.size:Nat):Int)) H
   rw[aq]
   exact q.here R rfl RV.intI
  | ref n =>
   have e:=hx.refE;subst e
   simp only at hg
   cases hs:st[n]? with
   | none=>rw[hs]at hg;cases hg
   | some o =>
    rw[hs]at hg
    cases o with
    | lst l =>
     cases hg
     obtain⟨ys,e1,d1⟩:=R.addr hs
     refine ak2 C y s σ H _ us Q I r ⟨φ n,ys,rfl,.inl (SqL.of e1),?_⟩
     rw[d1.length];exact q.here R rfl RV.intI
    | ro l =>
     cases hg
     obtain⟨ys,e1,d1⟩:=R.obj _ _ hs
     refine ak2 C y s σ H _ us Q I r ⟨φ n,ys,rfl,.inl e1.1,?_⟩
     rw[d1.length];exact q.here R rfl RV.intI
    | dic l=>exact fb hg
    | dit l=>exact fb hg
    | ins c l=>exact fb hg
  | _=>exact fb hg
 | abs =>
  cases hn
  have hf:(match kR l with|some [i]=>.ok (.int (if i<0 then -i else i)) st|_=>.bad:j0 jX)=.ok d z:=hf
  split at hf
  ·rename_i i e
   cases hf
   have:=zY e;subst this
   have:=RVL.ints hl;subst this
   exact be7 y s σ H _ us Q I r ⟨i,rfl,q.here R rfl RV.intI⟩
  ·exact fb hf
 | min2 =>
  cases hn
  have hf:(match kR l with|some [a,b]=>.ok (.int (if b<a then b else a)) st|_=>.bad:j0 jX)=.ok d z:=hf
  split at hf
  ·rename_i a b e
   cases hf
   have:=zY e;subst this
   have:=RVL.ints hl;subst this
   exact aS5 hc y s σ H _ us Q I r ⟨_,_,rfl,q.here R rfl RV.intI⟩
  ·exact fb hf
 | max2 =>
  cases hn
  have hf:(match kR l with|some [a,b]=>.ok (.int (if b > a then b else a)) st|_=>.bad:j0 jX)=.ok d z:=hf
  split at hf
  ·rename_i a b e
   cases hf
   have:=zY e;subst this
   have:=RVL.ints hl;subst this
   exact aU1 hc y s σ H _ us Q I r ⟨_,_,rfl,q.here R rfl RV.intI⟩
  ·exact fb hf
 | _=>cases hn
theorem aF9:∀ j:Nat,j<=9->bJ (toString (j:Int))=(⟨[48+j].toArray⟩:Str):=by decide
theorem bA1:ac8 X (.type "int") (rCl Γ (lf .int)):=by
 intro y s σ H J us Q I r h
 obtain⟨φ,st,l,d,C,R,hl,G,hf,q⟩:=h
 have hf:(match kS l with|some [b]=>.ok (.int (if b then 1 else 0)) st|some _=>.bad|none=>DV.aM5 l st:j0 jX)=.ok d C:=hf
 split at hf
 ·rename_i b e
  cases hf
  have:=ak0 e;subst this
  have:=RVL.bls hl;subst this
  exact aV0 y s σ H _ us Q I r (.inr ⟨b,rfl,q.here R rfl RV.intI⟩)
 ·exact fb hf
 ·unfold DV.aM5 at hf
  split at hf
  ·rename_i c _ _
   split at hf
   ·rename_i hc
    cases hf
    obtain⟨x,z,rfl,r1,F⟩:=hl.uncons
    cases(show z=[]from F)
    have:=r1.strE
    subst this
    obtain⟨u,rfl,t,rfl⟩:=af6 r
    obtain⟨j,hj,rfl⟩:∃ j:Nat,j<=9/\c=48+j:=⟨c - 48,by omega,by omega⟩
    rw[show(⟨[48+j].toArray⟩:Str)=bJ (toString (j:Int))from(aF9 j hj).symm]
    refine PySem.W.KIN.call_num (by omega) (by omega) ⟨.int (j:Int),H,I.tok _,⟨_,rfl⟩,?_⟩
    have:=q.here R rfl (RV.intI (i:=((48+j - 48:Nat):Int)))
    rw[show 48+j - 48=j by omega]at this
    exact this
   ·exact fb hf
  ·exact fb hf
theorem bA7:ac8 X (.type "str") (rCl Γ (lf .str)):=by
 intro F s σ H Y us Q I r h
 obtain⟨φ,st,l,d,C,R,hl,G,hf,q⟩:=h
 have hf:DV.aO7 l st=.ok d C:=hf
 unfold DV.aO7 at hf
 split at hf
 ·rename_i i _
  split at hf
  ·rename_i J
   cases hf
   obtain⟨x,y,rfl,r1,z⟩:=hl.uncons
   cases(show y=[]from z)
   have:=r1.intE
   subst this
   obtain⟨u,rfl,t,rfl⟩:=af6 r
   obtain⟨j,rfl⟩:∃ j:Nat,i=(j:Int):=⟨i.toNat,by omega⟩
   have hj:j<=9:=by omega
   refine PySem.P.str_of_int ?_ ⟨.str ⟨[48+j].toArray⟩,H,I.tok _,⟨s.toks,?_⟩,?_⟩
   ·have:(j:Int).natAbs.log2<=(j:Int).natAbs:=Nat.log2_le_self _
    omega
   ·rw[<-aF9 j hj]
   ·have:=q.here R rfl (RV.strI (x:=[48+(j:Int).toNat]) (by show 1<=j4;decide))
    rw[cA]at this
    exact this
  ·exact fb hf
 ·rename_i w _
  cases hf
  obtain⟨x,y,rfl,r1,z⟩:=hl.uncons
  cases(show y=[]from z)
  have e:=r1.strE
  subst e
  obtain⟨u,rfl,t,rfl⟩:=af6 r
  refine PySem.P.str_of_str ⟨.str ⟨w.toArray⟩,H,I,⟨_,rfl⟩,?_⟩
  unfold jY at G
  exact q.here R rfl r1
 ·exact fb hf
noncomputable def an1:Nat->String
 | 1 => "int" | 2 => "bool" | 3 => "str" | 4 => "tuple" | _ => "list"
theorem bo0 {K:ac}(k:Nat)(hk:1<=k/\k<=5):bW K (.type "NoneType") (.type (an1 k))=some false/\bW K (.type "bool") (.type (an1 k))=some (k==1||k==2) /\
  bW K (.type "int") (.type (an1 k))=some (k==1)/\bW K (.type "str") (.type (an1 k))=some (k==3)/\bW K (.type "tuple") (.type (an1 k))=some (k==4)/\bW K (.type "list") (.type (an1 k))=some (k==5):=by
 obtain⟨y,z⟩:=hk
 rcases(by omega:k=1\/k=2\/k=3\/k=4\/k=5)with h|h|h|h|h<;>subst h<;>refine⟨?_,?_,?_,?_,?_,?_⟩<;>with_unfolding_all rfl
theorem aJ8 {y:List (Addr×Obj)}{σ:St}{H:Hp}{s:ae}{A:aQ}{E:Value->ae->Prop}{Q:Value->ae->Prop}{c:Value}{b:Bool}{a:Addr}{F:List V}(I:Inv X y σ H s)(C:SqT X.K H a F)(e:bW X.K (.type "tuple") c=some b)
  (h:∀ tk,Q (.bool b) { s with toks:=tk }):wpAny (model X.prog X.w) A (call (.builtin "isinstance") [.ref a,c]) Q E s:=by
 obtain⟨its,_,⟨o,g1,G,_⟩,_⟩:=I.tuple C
 exact bz h9 I.kIn ⟨o,g1,G⟩ e (fun z=>nomatch z) h
theorem bA8 (Z:X.K=Γ.K){k:Nat}(hk:1<=k/\k<=5):ac8 X (.builtin "isinstance") (fun F H Q=>∃ x,F=[x,.ty (an1 k)]/\rCl Γ (lu (lA k)) [x] H Q):=by
 intro z s σ H F us Q I r h
 obtain⟨x,rfl,φ,st,l,d,y,R,hl,nl,hf,q⟩:=h
 obtain⟨a,rfl,hg⟩:=aP3 hf
 clear hf
 obtain⟨u,w',rfl,r1,G⟩:=bl1 r
 cases G
 obtain⟨x',e',hx⟩:=hl.one
 cases e'
 obtain⟨k0,k1,k2,Y,J,k5⟩:=bo0 (K:=X.K) k hk
 unfold lA at hg
 cases a with
 | non=>cases hg;have e:=hx.nonE;subst e;exact qh I r1 .non k0 fun tk=>⟨.bl _,H,I.tok _,rfl,q.here R rfl RV.blI⟩
 | bl b=>cases hg;have e:=hx.blE;subst e;exact qh I r1 (.bl b) k1 fun tk=>⟨.bl _,H,I.tok _,rfl,q.here R rfl RV.blI⟩
 | int b=>cases hg;have e:=hx.intE;subst e;exact qh I r1 (.int b) k2 fun tk=>⟨.bl _,H,I.tok _,rfl,q.here R rfl RV.blI⟩
 | str b=>cases hg;have e:=hx.strE;subst e;exact qh I r1 (.str _) Y fun tk=>⟨.bl _,H,I.tok _,rfl,q.here R rfl RV.blI⟩
 | tup l =>
  cases hg
  obtain⟨p,ys,rfl,C,d1⟩:=hx.tupE
  cases r1
  rw[<-Z]at C
  exact aJ8 I C J fun tk=>⟨.bl _,H,I.tok _,rfl,q.here R rfl RV.blI⟩
 | ref n =>
  have e:=hx.refE;subst e
  have hg:(match st[n]? with|some (.lst _)=>.ok (.bl (k==5)) st|_=>.bad:j0 jX)=.ok d y:=hg
  cases hs:st[n]? with
  | none=>rw[hs]at hg;cases hg
  | some o =>
   rw[hs]at hg
   cases o with
   | lst l =>
    cases hg
    obtain⟨ys,e1,d1⟩:=R.addr hs
    exact qh I r1 (.lst e1) k5 fun tk=>⟨.bl _,H,I.tok _,rfl,q.here R rfl RV.blI⟩
   | _=>exact fb hg
 | _=>exact fb hg
variable {X:Cx}
theorem bt6 {bs:List Bool}{its:List Value}(r:Vals (bs.map V.bl) its){i:Nat}{v:Value}(h:its[i]?=some v):∃ z,bs[i]?=some z/\v=Value.bool z:=by
 induction bs generalizing its i with
 | nil=>rw[cG]at r;cases r;simp at h
 | cons b bs ih =>
  rw[aB]at r
  cases r with
  | cons r1 r2 =>
   cases i with
   | zero =>
    cases r1
    have:_=v:=av h
    exact⟨b,rfl,this.symm⟩
   | succ i=>exact ih r2 h
theorem aV9 {bs:List Bool}:(aS bs.length).all (fun i=>bs.getD i false)=bs.all id:=by
 rw[gj,aV,aV]
 constructor
 ·intro h b hb
  obtain⟨i,y,e⟩:=cV.mp hb
  have:=h i (bQ.mpr y)
  rw[bv,ak y]at this
  rw[<-e];exact this
 ·intro h i y
  have y:=bQ.mp y
  rw[bv,ak y]
  exact h _ (cX y)
theorem aX7 {K:ac}(hc:X.calm=true)(Z:X.K=K):ac8 X (.builtin "all") (fun Y H Q=>∃(a:Addr) (bs:List Bool),Y=[.ref a]/\SqL K H a (bs.map V.bl)/\Q (.bl (bs.all id)) H):=by
 subst Z
 intro J s σ H Y us Q I r h
 obtain⟨a,bs,rfl,hS,q⟩:=h
 obtain⟨u,rfl,ru⟩:=af6 r
 cases ru
 obtain⟨its,G,C,hz⟩:=I.list hS
 have hl:=G.length
 rw[ar]at hl
 refine call_all_walk (dz C.isList ?_)
 have F:a<s.heap.objs.size:=by obtain⟨o,_,e,_⟩:=C;exact aH e
 have W:=jU (prog:=X.prog) (w:=X.w) (A:=X.A.in1) (I.ok.hd hc) s.heap.objs.size a (aw F) its.toArray
 refine⟨_,_,_,_,_,_,fun i=>bs.getD i false,rfl,W,⟨⟨_,aK _ rfl,rfl,rfl⟩,?_⟩,fun i v s' Q' E' y hQ=>?_,fun h' tk k=>?_⟩
 ·obtain⟨o,e,r⟩:=C.isList
  exact⟨o,ah _ e,r⟩
 ·obtain⟨z,e1,e2⟩:=bt6 G (i:=i) (v:=v) (by have y:its.toArray[i]?=some v:=y;rw[dH]at y;exact y)
  subst e2
  refine bG ?_
  have:bs.getD i false=z:=by rw[bv,e1];rfl
  rw[<-this];exact hQ
 ·have es:its.toArray.size=bs.length:=by rw[aq];omega
  rw[es,aV9]
  refine⟨.bl (bs.all id),H,I.kept (h':=h') (t':=tk) fun b o q=>k b o ?_ (ah _ q),rfl,q⟩
  intro z
  have z':b=s.heap.objs.size:=by simpa using z
  exact absurd (aH q) (by rw[z'];exact bC _)
noncomputable def sgV (x:List Nat):List V:=x.map fun c=>.str ⟨#[c]⟩
theorem bu7 {vs:List V}{y:List Value}(hl:vs.length=y.length)(h:∀(i:Nat) (x:V) (u:Value),vs[i]?=some x->y[i]?=some u->RelV x u):Vals vs y:=by
 induction vs generalizing y with
 | nil=>cases y with
  | nil=>exact .nil
  | cons _ _=>cases hl
 | cons v vs ih=>cases y with
  | nil=>cases hl
  | cons a y=>exact .cons (h 0 v a rfl rfl) (ih (by simpa using hl) fun i x u e1 e2=>h (i+1) x u e1 e2)
theorem ao6 {x:List Nat}{y:Array Value}(h:ItemsOf (SignAt ⟨x.toArray⟩) y x.length):Vals (sgV x) y.toList:=by
 have hl:(sgV x).length=y.toList.length:=by unfold sgV;rw[ar];simpa using h.1.symm
 refine bu7 hl fun i v u e1 e2=>?_
 obtain⟨c,t,z,C⟩:=h.2 i u (by rw[<-Array.getElem?_toList];exact e2)
 unfold sgV at e1
 rw[aG]at e1
 have z:x[i]?=some c:=by simpa using z
 rw[z]at e1
 cases e1
 exact⟨t,C⟩
theorem aA4 (hc:X.calm=true):ac8 X (.type "tuple") (fun G H Q=>∃ x:List Nat,G=[.str ⟨x.toArray⟩]/\x.length<=j4/\∀ l,H l=none->Q (.ref l) (upd H l (.tup (sgV x)))):=by
 intro y s σ H G us Q I r h
 obtain⟨x,rfl,hl,q⟩:=h
 obtain⟨u,rfl,Z⟩:=af6 r
 obtain⟨t,rfl⟩:=Z
 have hz:(sgV x).length<=aC:=by unfold sgV;rw[ar];exact aj hl zC
 refine call_tuple_str (I.ok.hd hc) _ t (fun h' tk z kp C=>?_) (by show x.toArray.size<=_;rw[aq];exact aj hl zC)
 have C:ItemsOf (SignAt ⟨x.toArray⟩) z x.length:=by simpa using C
 have Y:=ao6 C
 have F:Inv X y σ H { s with heap:=h',toks:=tk }:=I.kept (t':=tk) kp
 have J:Inv X y σ (upd H h'.objs.size (.tup (sgV x))) { s with heap:=h'.push { cls:=.type "tuple",data:=.seq z },toks:=tk } :=
  F.laid (t':=tk) (fun b o e=>ah _ e) (am _) (show ac7 X.prog X.w _ _ _ (.tup (sgV x))from⟨hz,z.toList,Y,iO _ _⟩)
 exact⟨.ref h'.objs.size,_,J,rfl,q _ (F.hok.fresh (am _))⟩
theorem aM3 (hc:X.calm=true):ac8 X (.type "list") (fun F H Q=>∃ x:List Nat,F=[.str ⟨x.toArray⟩]/\x.length<=j4/\∀ l,H l=none->Q (.ref l) (upd H l (.lst (sgV x)))):=by
 intro C s σ H F us Q I r h
 obtain⟨x,rfl,hl,q⟩:=h
 obtain⟨u,rfl,Y⟩:=af6 r
 obtain⟨t,rfl⟩:=Y
 have hz:(sgV x).length<=aC:=by unfold sgV;rw[ar];exact aj hl zC
 refine call_list_str (I.ok.hd hc) _ t (fun h' tk y J kp e z=>?_) (by show x.toArray.size<=_;rw[aq];exact aj hl zC)
 have z:ItemsOf (SignAt ⟨x.toArray⟩) y x.length:=by simpa using z
 have G:=ao6 z
 exact⟨.ref s.heap.objs.size,_,I.laid (t':=tk) kp (am _) (show ac7 X.prog X.w _ h' _ (.lst (sgV x))from⟨hz,y.toList,J,G,e⟩),rfl,q _ (I.hok.fresh (am _))⟩
section
variable {Γ:Gm} {φ φ':Nat->Addr} {H H' H1 H2 H3:Hp} {clos:List (Str×Addr)} {s s':jW}
theorem zF (hc:Cells clos H){a:Addr}{u:HO}(e:H a=some u)(h:∀ o,u≠.frz o (.own a)):isC clos a≠true:=fun z=>by
 obtain⟨o,v,q,_⟩:=hc.at z
 rw[e]at q;cases q;exact h o rfl
theorem SqT.dropC {K:ac}{a:Addr}{y:List V}(hc:Cells clos H)(h:SqT K H a y):SqT K (ac4 clos H) a y:=by
 rcases h with(h|⟨o,h⟩)|h
 ·exact .inl (.inl (by rw[ac4.ne (zF hc h (fun _ z=>by cases z))];exact h))
 ·exact .inl (.inr ⟨o,by rw[ac4.ne (zF hc h (fun _ z=>by cases z))];exact h⟩)
 ·exact .inr h
theorem SqL.dropC {K:ac}{a:Addr}{y:List V}(hc:Cells clos H)(h:SqL K H a y):SqL K (ac4 clos H) a y:=by
 rcases h with(h|⟨o,h⟩)|h
 ·exact .inl (.inl (by rw[ac4.ne (zF hc h (fun _ z=>by cases z))];exact h))
 ·exact .inl (.inr ⟨o,by rw[ac4.ne (zF hc h (fun _ z=>by cases z))];exact h⟩)
 ·exact .inr h
theorem SqF.dropC {K:ac}{a:Addr}{C:List V}(hc:Cells clos H)(h:SqF K H a C):SqF K (ac4 clos H) a C:=by
 refine⟨SqL.dropC hc h.1,fun y k=>?_⟩
 have hk:Kp H (fun b=>if isC clos b=true then H b else y b):=fun b o e f=>by
  by_cases z:isC clos b=true
  ·show(if isC clos b=true then H b else y b)=_;rw[if_pos z];exact e
  ·show(if isC clos b=true then H b else y b)=_
   rw[if_neg z]
   exact k b o (by rw[ac4.ne z];exact e) f
 have q:=h.2 _ hk
 have at_:∀ u,(if isC clos a=true then H a else y a)=some u->(∀ o,u≠.frz o (.own a))->y a=some u:=fun u e F=>by
  by_cases z:isC clos a=true
  ·rw[if_pos z]at e
   exact absurd z (zF hc e F)
  ·rw[if_neg z]at e;exact e
 rcases q with(q|⟨o,q⟩)|q
 ·exact .inl (.inl (at_ _ q (fun _ z=>by cases z)))
 ·exact .inl (.inr ⟨o,at_ _ q (fun _ z=>by cases z)⟩)
 ·exact .inr q
mutual
theorem RV.dropC (hc:Cells clos H):∀(d:jX) (v:V),d.ncl=true->RV Γ φ H d v->RV Γ φ (ac4 clos H) d v
 | .non,_,_,h=>by unfold RV at h ⊢;exact h
 | .bl _,_,_,h=>by unfold RV at h ⊢;exact h
 | .int _,_,_,h=>by unfold RV at h ⊢;exact h
 | .str _,_,_,h=>by unfold RV at h ⊢;exact h
 | .tup l,_,n,h=>by
  unfold RV at h ⊢
  unfold lB at n
  obtain⟨a,y,e,q,r⟩:=h
  exact⟨a,y,e,⟨SqT.dropC hc q.1,fun z=>by rw[ac4.ne (zF hc (q.2 z) (fun _ z=>by cases z))];exact q.2 z⟩,RVL.dropC hc l y n r⟩
 | .ref k,_,_,h=>by unfold RV at h ⊢;exact h
 | .fn _,_,_,h=>by unfold RV at h ⊢;exact h
 | .clo id cs,_,n,h=>by unfold lB at n;cases n
theorem RVL.dropC (hc:Cells clos H):∀(l:List jX) (y:List V),kM l=true->RVL Γ φ H l y->RVL Γ φ (ac4 clos H) l y
 | [],_,_,h=>by unfold RVL at h ⊢;exact h
 | d::l,_,n,h=>by
  unfold kM at n
  rw[ai]at n
  obtain⟨x,r,e,C,z⟩:=h.uncons
  subst e
  exact .cons (RV.dropC hc d x n.1 C) (RVL.dropC hc l r n.2 z)
end
theorem RVD.dropC {κ:Type}{z:jX->Option κ}(hc:Cells clos H):∀(l:List (jX×jX)) (y:List (κ×V)),kM (l.map (·.2))=true->RVD z Γ φ H l y->RVD z Γ φ (ac4 clos H) l y
 | [],_,_,h=>h
 | (d,e)::l,_,n,h=>by
  obtain⟨k,v,r,e1,e2,C,F⟩:=h
  rw[aB]at n
  unfold kM at n
  rw[ai]at n
  exact⟨k,v,r,e1,e2,RV.dropC hc e v n.1 C,RVD.dropC hc l r n.2 F⟩
theorem RO.dropC {a:Addr}{o:kz}(hc:Cells clos H)(h:RO Γ φ H a o)(n:o.ncl=true):RO Γ φ (ac4 clos H) a o:=by
 cases o with
 | lst l =>
  obtain⟨y,e,r⟩:=h
  exact⟨y,by rw[ac4.ne (zF hc e (fun _ z=>by cases z))];exact e,RVL.dropC hc l y n r⟩
 | ro l =>
  obtain⟨y,e,r⟩:=h
  exact⟨y,SqF.dropC hc e,RVL.dropC hc l y n r⟩
 | dic l =>
  obtain⟨y,e,r⟩:=h
  exact⟨y,by rw[ac4.ne (zF hc e (fun _ z=>by cases z))];exact e,RVD.dropC hc l y n r⟩
 | dit l =>
  obtain⟨y,e,r⟩:=h
  exact⟨y,by rw[ac4.ne (zF hc e (fun _ z=>by cases z))];exact e,RVD.dropC hc l y n r⟩
 | ins _ _=>exact h.elim
theorem TabsH.dropC {T:List (Addr×Str)}(hc:Cells clos H)(h:TabsH T H):TabsH T (ac4 clos H):=fun y hy=>by
 obtain⟨ps,e,t,c⟩:=h y hy
 refine⟨ps,by rw[ac4.ne (zF hc e (fun _ z=>by cases z))];exact e,t,fun pos F q=>?_⟩
 obtain⟨C,e1,e2⟩:=c pos F q
 exact⟨C,e1,by rw[ac4.ne (zF hc e2 (fun _ z=>by unfold av3 at z;cases z))];exact e2⟩
theorem Rp.dropC (hc:Cells clos H)(r:Rp Γ φ H s)(n:s.all DV.O.ncl=true):Rp Γ φ (ac4 clos H) s :=
 ⟨r.inj,fun i o e=>RO.dropC hc (r.obj i o e) (aV.mp n o (aN e)),r.wf,TabsH.dropC hc r.tab⟩
theorem aT1 (h:∀ b,isC clos b=true->H' b=none):ae7 H' (Put clos H H'):=fun b o e=>by
 rw[Put.ne (fun z=>by rw[h b z]at e;cases e)];exact e
theorem Gr.put (hc:Cells clos H)(y:∀ b,isC clos b=true->H' b=none)(Y:∀ b o,Γ.K.lookup b=some o->H b=none)(R':Rp Γ φ' H' s')(g:Gr φ s (ac4 clos H) φ' s' H'):Gr φ s H φ' s' (Put clos H H'):=by
 refine⟨⟨g.w.map,fun b o e f=>?_⟩,g.le,fun i G F=>?_,g.kd,fun b e=>?_,fun b o e Z no=>?_⟩
 ·by_cases z:isC clos b=true
  ·rw[Put.cell z];exact e
  ·rw[Put.ne z];exact g.w.kp b o (by rw[ac4.ne z];exact e) f
 ·have hd:=g.new i G F
  by_cases z:isC clos (φ' i)=true
  ·have hg:=y _ z
   obtain⟨o,J⟩:∃ o,s'[i]?=some o:=⟨s'[i],ak F⟩
   have h:=R'.obj i o J
   cases o with
   | lst l=>obtain⟨C,e,_⟩:=h;rw[hg]at e;cases e
   | ro l =>
    obtain⟨C,e,_⟩:=h
    rcases e.1 with(e|⟨_,e⟩)|⟨ob,its,n,e,_⟩
    ·rw[hg]at e;cases e
    ·rw[hg]at e;cases e
    ·exact Y _ _ e
   | dic l=>obtain⟨C,e,_⟩:=h;rw[hg]at e;cases e
   | dit l=>obtain⟨C,e,_⟩:=h;rw[hg]at e;cases e
   | ins _ _=>exact h.elim
  ·rw[ac4.ne z]at hd;exact hd
 ·by_cases z:isC clos b=true
  ·rw[Put.cell z];exact e
  ·rw[Put.ne z];exact g.st b (by rw[ac4.ne z];exact e)
 ·by_cases z:isC clos b=true
  ·rw[Put.cell z];exact e
  ·rw[Put.ne z];exact g.fr b o (by rw[ac4.ne z];exact e) Z no
theorem bq6 {P:aI}{w:World}{K:ac}{mg:Str->Option Value}{base:Heap}{k:Nat}{f:Addr}{N ps fr:List Str}{name qual:Str}{params:bT}{body:List Stmt}{scope:Scope}{h:List (Str×Addr)}{cap:List V}{sp:Sp}
  (S:LamScope N ps fr scope) (len:∀ vs H Q E,sp vs H Q E->vs.length=ps.length) (a5:cap.length=fr.length)
  (Z:∀(Y pm:Value) (c':Addr) (G:Value) (us:List Value),us.length=ps.length->dA (e6 name qual params body scope h .none .none Y pm none (.ref c') G) ⟨us,[]⟩=pure (ps.zip us))
  (a0:∀(A:aQ) (C:List Env) (s:ae) (H:Hp) (cd:Value) (vs:List V) (Q:VK),Room k (A.deeper (cH qual scope s.heap.objs.size f cd (aJ (s.heap.objs.size+1) scope.names h)))->an4 H f name qual params body scope fr cap h->(∀ b o,K.lookup b=some o->H b=none)->sp vs H Q E0 ->
   ∃ t,PSs (aD2 P w K mg base N qual scope f cd h A C s H) body t/\t { nx:=fun _ H'=>(∀ b,isC h b=true->H' b=none)->Q .non (Put h H H'),rt:=fun v H'=>(∀ b,isC h b=true->H' b=none)->Q v (Put h H H') } (vs.map some++cap.map some) (ac4 h H)) :
  ClOk P w K mg base (k+1) (fun H=>an4 H f name qual params body scope fr cap h) f sp:=by
 refine⟨fun A C s H us vs Q hr F hR r a2=>?_⟩
 have hl:=len _ _ _ _ a2
 obtain⟨Y,pm,c',G,h1,h2,h3,h4,h5,h6⟩:=id hR
 have a4:s.heap.NoLimit:=F.mod.nolimit.keeps fun b o e=>(F.bs b o e).1
 refine gm hr.depth (as2 F.hok h1) rfl S.co S.gen rfl (av2 F.hok h2) ?_
 rw[Z Y pm c' G us (by rw[<-r.length];exact hl)]
 refine ay (ap3 S.kind (fun y hy=>?_) fun env he s1 x=>?_)
 ·rcases S.par y.1 (c9 (show(y.1,y.2)∈ps.zip us from hy)).1 with q|q
  ·exact .inl q
  ·exact .inr ⟨q,zI q⟩
 ·subst he
  refine⟨a4.keeps x.toInCall.keep,codeAny_func ?_⟩
  obtain⟨t,ht,hq⟩:=a0 A C s H (.ref c') vs Q (hr.deeper _) hR (fun b o e=>(F.bs b o (F.mod.kin b o e)).2) a2
  have I:=aU5 S hr.hd F hl a5 r h3 h4 h5 h6 x
  refine bN (ht [] s1 _ _ _ I hq) (fun fl s' hs=>?_) fun e s' hs=>hs.elim
  have fin:∀ {σ':St} {H':Hp} {v:V} {u:Value},Inv (aD2 P w K mg base N qual scope f (.ref c') h A C s H) [] σ' H' s'->RelV v u->((∀ b,isC h b=true->H' b=none)->Q v (Put h H H'))->CE C P w H s Q u s':=fun {σ' H' v u} J rv q=>by
   obtain⟨un,a3⟩:=aS0 F.hok h3 F.frf J.base J.hok
   have a1:∀ b,isC h b=true->H' b=none:=fun b y=>by
    obtain⟨o,v,z,_⟩:=h3.at y
    exact(show Un (frs C) [] (ac4 h H) H' s.heap s'.heap from J.base).free b o (F.hok b _ z).1 (ac4.cell y) (by simp)
   exact⟨v,_,J.os,J.bare,un,a3,rv,q a1⟩
  cases fl with
  | ret u =>
   obtain⟨v,σ',H',J,rv,q⟩:=hs
   exact fin J rv q
  | next =>
   obtain⟨σ',H',J,q⟩:=hs
   exact fin (v:=V.non) (u:=Value.none) J rfl q
  | brk =>
   obtain⟨_,_,_,q⟩:=hs
   exact bZ q
  | cont =>
   obtain⟨_,_,_,q⟩:=hs
   exact bZ q
theorem bo4 {P:aI}{w:World}{K:ac}{mg:Str->Option Value}{base:Heap}{k:Nat}{f:Addr}{N ps fr:List Str}{qual:Str}{params:bT}{body:Expr}{scope:Scope}{h:List (Str×Addr)}{cap:List V}{sp:Sp}
  (S:LamScope N ps fr scope) (len:∀ vs H Q E,sp vs H Q E->vs.length=ps.length) (a4:cap.length=fr.length)
  (Y:∀(pm:Value) (c':Addr) (G:Value) (us:List Value),us.length=ps.length->dA (cU "<lambda>" qual params body scope h pm (.ref c') G) ⟨us,[]⟩=pure (ps.zip us))
  (Z:∀(A:aQ) (C:List Env) (s:ae) (H:Hp) (cd:Value) (vs:List V) (Q:VK),Room k (A.deeper (cH qual scope s.heap.objs.size f cd (aJ (s.heap.objs.size+1) scope.names h)))->aA5 H f qual params body scope fr cap h->(∀ b o,K.lookup b=some o->H b=none)->sp vs H Q E0 ->
   ∃ t,PE (aD2 P w K mg base N qual scope f cd h A C s H) body t/\t (vs.map some++cap.map some) (ac4 h H) fun v H'=>(∀ b,isC h b=true->H' b=none)->Q v (Put h H H')) :
  ClOk P w K mg base (k+1) (fun H=>aA5 H f qual params body scope fr cap h) f sp:=by
 refine⟨fun A C s H us vs Q hr F hR r a1=>?_⟩
 have hl:=len _ _ _ _ a1
 obtain⟨pm,c',G,h1,h2,h3,h4,h5,h6⟩:=id hR
 have a3:s.heap.NoLimit:=F.mod.nolimit.keeps fun b o e=>(F.bs b o e).1
 refine PySem.W.kla_callFunE hr.depth (as2 F.hok h1) rfl S.co S.gen rfl (av2 F.hok h2) ?_
 rw[Y pm c' G us (by rw[<-r.length];exact hl)]
 refine ay (ap3 S.kind (fun y hy=>?_) fun env he s1 x=>?_)
 ·rcases S.par y.1 (c9 (show(y.1,y.2)∈ps.zip us from hy)).1 with q|q
  ·exact .inl q
  ·exact .inr ⟨q,zI q⟩
 ·subst he
  refine⟨a3.keeps x.toInCall.keep,PySem.W.kla_codeExpr ?_⟩
  obtain⟨t,ht,hq⟩:=Z A C s H (.ref c') vs Q (hr.deeper _) hR (fun b o e=>(F.bs b o (F.mod.kin b o e)).2) a1
  have I:=aU5 S hr.hd F hl a4 r h3 h4 h5 h6 x
  refine bN (ht [] s1 _ _ _ I hq) (fun u s' hs=>?_) fun e s' hs=>hs.elim
  obtain⟨v,H',J,rv,q⟩:=hs
  obtain⟨un,a2⟩:=aS0 F.hok h3 F.frf J.base J.hok
  have a0:∀ b,isC h b=true->H' b=none:=fun b y=>by
   obtain⟨o,v,z,_⟩:=h3.at y
   exact(show Un (frs C) [] (ac4 h H) H' s.heap s'.heap from J.base).free b o (F.hok b _ z).1 (ac4.cell y) (by simp)
  exact⟨v,_,J.os,J.bare,un,a2,rv,q a0⟩
theorem Cells.kp {H H':Hp}(h:Cells clos H)(k:Kp H H'):Cells clos H':=fun x c e=>by
 obtain⟨o,v,q,d⟩:=h x c e
 exact⟨o,v,k _ _ q rfl,d⟩
noncomputable def PVp (Γ : Gm) (cells : List (Str × Addr)) (N : List Str) (σ : St) (φ : Nat -> Addr) (H : Hp) (d : DV.D) (v : V) : Prop := RV Γ φ H d v \/ ∃ id cs, d = .clo id cs /\ ∃ f J, v = .ref f /\ Γ.lg id J /\ av5 H f J (an0 cells J.scope.names []) /\
      cs.length = J.fr.length /\ (∀ x, J.scope.names.lookup x = some .free -> ∃ c, cells.lookup x = some c) /\
      ∃ cap, RVL Γ φ H cs cap /\ ∀(i : Nat) (x : Str) (v : V), J.fr[i]? = some x -> cap[i]? = some v -> J.scope.names.lookup x = some .free /\ ∃ j : Nat, N[j]? = some x /\ σ[j]? = some (some v)
inductive PVL (Γ:Gm)(cells:List (Str×Addr))(N:List Str)(σ:St)(φ:Nat->Addr)(H:Hp):List jX->List V->Prop where
 | nil:PVL Γ cells N σ φ H [] []
 | cons {d v l vs} (a:PVp Γ cells N σ φ H d v) (b:PVL Γ cells N σ φ H l vs):PVL Γ cells N σ φ H (d::l) (v::vs)
theorem PVp.mono {cells:List (Str×Addr)}{N:List Str}{σ:St}{φ φ':Nat->Addr}{s s':jW}{H H':Hp}(g:Gr φ s H φ' s' H'){d:jX}{v:V}(b:d.bnd s.length=true)(h:PVp Γ cells N σ φ H d v):PVp Γ cells N σ φ' H' d v:=by
 rcases h with h|⟨id,cs,rfl,h⟩
 ·exact .inl (RV.mono g _ _ b h)
 ·obtain⟨f,J,e,G,F,C,z,cap,y,h7⟩:=h
  unfold j2 at b
  exact .inr ⟨id,cs,rfl,f,J,e,G,F.kp g.w.kp,C,z,cap,RVL.mono g cs cap b y,h7⟩
end
variable {Γ:Gm} {X:Cx}
def TEv (Γ:Gm)(m:jZ->jW->j0 jX):TE:=fun σ H Q=>∃ φ ρ s d s',RE Γ φ H s.length ρ σ/\Rp Γ φ H s/\m ρ s=.ok d s'/\ae0 Γ φ s H d s' Q
def bI9 (Γ:Gm)(φ:Nat->Addr)(s:jW)(H:Hp)(l:List jX)(s':jW)(Q:List V->Hp->Prop):Prop :=
 ∀ vs φ' H',Gr φ s H φ' s' H'->s.length<=s'.length->jY s'.length l=true->RVL Γ φ' H' l vs->Rp Γ φ' H' s'->Q vs H'
def TAv (Γ:Gm)(m:jZ->jW->j0 (List jX)):TA:=fun σ H Q=>∃ φ ρ s l s',RE Γ φ H s.length ρ σ/\Rp Γ φ H s/\m ρ s=.ok l s'/\bI9 Γ φ s H l s' Q
def aH3 (Γ:Gm)(φ:Nat->Addr)(s:jW)(H:Hp)(b:Bool)(s':jW)(Q:Bool->Hp->Prop):Prop :=
 ∀ φ' H',Gr φ s H φ' s' H'->s.length<=s'.length->Rp Γ φ' H' s'->Q b H'
def TTv (Γ:Gm)(m:jZ->jW->j0 jX):TT:=fun σ H Q=>∃ φ ρ s b s',RE Γ φ H s.length ρ σ/\Rp Γ φ H s/\m ρ s=.ok (.bl b) s'/\aH3 Γ φ s H b s' Q
theorem PE.imp {e:Expr}{t t':TE}(h:PE X e t)(i:∀ σ H Q,t' σ H Q->t σ H Q):PE X e t':=fun y s σ H Q I q=>h y s σ H Q I (i σ H Q q)
theorem PT.imp {e:Expr}{t t':TT}(h:PT X e t)(i:∀ σ H Q,t' σ H Q->t σ H Q):PT X e t':=fun y s σ H Q I q=>h y s σ H Q I (i σ H Q q)
theorem PA.imp {e:List Expr}{t t':TA}(h:PA X e t)(i:∀ σ H Q,t' σ H Q->t σ H Q):PA X e t':=fun pos y s σ H Q I q=>h pos y s σ H Q I (i σ H Q q)
theorem aH3.trans {φ φ1:Nat->Addr}{s s1 s':jW}{H y:Hp}{b:Bool}{Q:Bool->Hp->Prop}(h:aH3 Γ φ s H b s' Q)(g:Gr φ s H φ1 s1 y)(l:s.length<=s1.length):aH3 Γ φ1 s1 y b s' Q :=
 fun φ' H' g' z p=>h φ' H' (g.trans g' l) (aj l z) p
theorem bJ5 (i:Nat){σ:St}{H:Hp}{Q:VK}(h:TEv Γ (fun ρ s=>DV.aP0 ρ i s) σ H Q):bU8 i σ H Q:=by
 obtain⟨φ,ρ,s,d,s',E,R,y,q⟩:=h
 simp only[DV.aP0]at y
 split at y
 ·rename_i d' e
  cases y
  obtain⟨b,v,e1,e2⟩:=E.val i _ e
  exact⟨v,e1,q.here R b e2⟩
 ·exact fb y
theorem ay2 {c:jX}{v:V}(hb:∀ n,c.bnd n=true)(hv:∀ φ H,RV Γ φ H c v){σ:St}{H:Hp}{Q:VK}(h:TEv Γ (fun ρ s=>.ok c s) σ H Q):tC v σ H Q:=by
 obtain⟨φ,ρ,s,d,s',E,R,y,q⟩:=h
 cases y
 exact q.here R (hb _) (hv _ _)
theorem bc3 {J G:jZ->jW->j0 jX}{f:jX->jX->jW->j0 jX}{σ:St}{H:Hp}{Q:VK}(h:TEv Γ (fun ρ s=>(J ρ s).bind fun x s=>(G ρ s).bind fun y s=>f x y s) σ H Q):tOp (rOp Γ f) (TEv Γ J) (TEv Γ G) σ H Q:=by
 obtain⟨φ,ρ,s,d,s',E,R,z,q⟩:=h
 obtain⟨x,s1,e1,z⟩:=aa0 z
 obtain⟨y,s2,e2,z⟩:=aa0 z
 refine⟨φ,ρ,s,x,s1,E,R,e1,fun Z φ1 H1 g1 l1 b1 r1 R1=>?_⟩
 refine⟨φ1,ρ,s1,y,s2,E.mono g1 l1,R1,e2,fun v2 φ2 H2 F C b2 Y R2=>?_⟩
 exact⟨φ2,s2,x,y,d,s',R2,RV.mono F x Z b1 r1,Y,zc C x b1,b2,z,q.trans (g1.trans F l1) (aj l1 C)⟩
theorem zw {α:Type}{r:j0 jX}{f:Bool->jW->j0 α}{a:α}{t:jW}(h:j8 r f=.ok a t):∃ b s,r=.ok (.bl b) s/\f b s=.ok a t:=by
 unfold j8 at h
 obtain⟨d,s,e,h⟩:=aa0 h
 cases d with
 | bl b=>exact⟨b,s,e,h⟩
 | _=>exact fb h
theorem bj6 {m:jZ->jW->j0 jX}{σ:St}{H:Hp}{Q:Bool->Hp->Prop}(h:TTv Γ m σ H Q):tB (TEv Γ m) σ H Q:=by
 obtain⟨φ,ρ,s,b,s',E,R,y,q⟩:=h
 refine⟨φ,ρ,s,.bl b,s',E,R,y,fun v φ' H' g l C r z=>?_⟩
 exact⟨b,r.blE,q φ' H' g l z⟩
theorem aR9 {m:jZ->jW->j0 jX}{σ:St}{H:Hp}{Q:Bool->Hp->Prop}(h:TTv Γ m σ H Q):bt9 (TEv Γ m) σ H Q:=bj6 h
theorem bJ4 {m:jZ->jW->j0 jX}{σ:St}{H:Hp}{Q:Bool->Hp->Prop}(h:TTv Γ (fun ρ s=>j8 (m ρ s) fun b s=>.ok (.bl (!b)) s) σ H Q):bV4 (TTv Γ m) σ H Q:=by
 obtain⟨φ,ρ,s,b,s',E,R,y,q⟩:=h
 obtain⟨c,s1,e1,y⟩:=zw y
 cases y
 exact⟨φ,ρ,s,c,_,E,R,e1,q⟩
theorem bg1 {z C:jZ->jW->j0 jX}{σ:St}{H:Hp}{Q:Bool->Hp->Prop}(h:TTv Γ (fun ρ s=>j8 (z ρ s) fun c s=>if c then j8 (C ρ s) fun c s=>.ok (.bl c) s else .ok (.bl false) s) σ H Q):bW1 (TTv Γ z) (TTv Γ C) σ H Q:=by
 obtain⟨φ,ρ,s,b,s',E,R,y,q⟩:=h
 obtain⟨c,s1,e1,y⟩:=zw y
 refine⟨φ,ρ,s,c,s1,E,R,e1,fun φ1 F g1 l1 R1=>?_⟩
 cases c with
 | true =>
  rw[if_pos rfl]at y ⊢
  obtain⟨G,s2,e2,y⟩:=zw y
  cases y
  exact⟨φ1,ρ,s1,_,_,E.mono g1 l1,R1,e2,q.trans g1 l1⟩
 | false =>
  rw[if_neg aO]at y ⊢
  cases y
  exact q φ1 F g1 l1 R1
theorem bJ0 {z C:jZ->jW->j0 jX}{σ:St}{H:Hp}{Q:Bool->Hp->Prop}(h:TTv Γ (fun ρ s=>j8 (z ρ s) fun c s=>if c then .ok (.bl true) s else j8 (C ρ s) fun c s=>.ok (.bl c) s) σ H Q):tOr (TTv Γ z) (TTv Γ C) σ H Q:=by
 obtain⟨φ,ρ,s,b,s',E,R,y,q⟩:=h
 obtain⟨c,s1,e1,y⟩:=zw y
 refine⟨φ,ρ,s,c,s1,E,R,e1,fun φ1 F g1 l1 R1=>?_⟩
 cases c with
 | true =>
  rw[if_pos rfl]at y ⊢
  cases y
  exact q φ1 F g1 l1 R1
 | false =>
  rw[if_neg aO]at y ⊢
  obtain⟨G,s2,e2,y⟩:=zw y
  cases y
  exact⟨φ1,ρ,s1,_,_,E.mono g1 l1,R1,e2,q.trans g1 l1⟩
theorem bw1 {m:jZ->jW->j0 jX}{σ:St}{H:Hp}{Q:VK}(h:TEv Γ (fun ρ s=>j8 (m ρ s) fun b s=>.ok (.bl (!b)) s) σ H Q):bD2 (TEv Γ m) σ H Q:=by
 obtain⟨φ,ρ,s,d,s',E,R,y,q⟩:=h
 obtain⟨c,s1,e1,y⟩:=zw y
 cases y
 exact⟨φ,ρ,s,.bl c,_,E,R,e1,fun v φ1 z g l b r R1=>⟨c,r.blE,q _ φ1 z g l rfl RV.blI R1⟩⟩
theorem bh3 {z C:jZ->jW->j0 jX}{σ:St}{H:Hp}{Q:VK}(h:TEv Γ (fun ρ s=>j8 (z ρ s) fun c s=>if c then j8 (C ρ s) fun c s=>.ok (.bl c) s else .ok (.bl false) s) σ H Q):bB8 (TEv Γ z) (TEv Γ C) σ H Q:=by
 obtain⟨φ,ρ,s,d,s',E,R,y,q⟩:=h
 obtain⟨c,s1,e1,y⟩:=zw y
 refine⟨φ,ρ,s,.bl c,s1,E,R,e1,fun v φ1 F g1 l1 b1 r1 R1=>⟨c,r1.blE,?_⟩⟩
 cases c with
 | true =>
  rw[if_pos rfl]at y ⊢
  obtain⟨c,s2,e2,y⟩:=zw y
  cases y
  exact⟨φ1,ρ,s1,.bl c,_,E.mono g1 l1,R1,e2,q.trans g1 l1⟩
 | false =>
  rw[if_neg aO]at y ⊢
  cases y
  exact q _ φ1 F g1 l1 rfl RV.blI R1
theorem bJ3 {z C:jZ->jW->j0 jX}{σ:St}{H:Hp}{Q:VK}(h:TEv Γ (fun ρ s=>j8 (z ρ s) fun c s=>if c then .ok (.bl true) s else j8 (C ρ s) fun c s=>.ok (.bl c) s) σ H Q):bV8 (TEv Γ z) (TEv Γ C) σ H Q:=by
 obtain⟨φ,ρ,s,d,s',E,R,y,q⟩:=h
 obtain⟨c,s1,e1,y⟩:=zw y
 refine⟨φ,ρ,s,.bl c,s1,E,R,e1,fun v φ1 F g1 l1 b1 r1 R1=>⟨c,r1.blE,?_⟩⟩
 cases c with
 | true =>
  rw[if_pos rfl]at y ⊢
  cases y
  exact q _ φ1 F g1 l1 rfl RV.blI R1
 | false =>
  rw[if_neg aO]at y ⊢
  obtain⟨c,s2,e2,y⟩:=zw y
  cases y
  exact⟨φ1,ρ,s1,.bl c,_,E.mono g1 l1,R1,e2,q.trans g1 l1⟩
theorem bG6 {mc z C:jZ->jW->j0 jX}{σ:St}{H:Hp}{Q:VK}(h:TEv Γ (fun ρ s=>j8 (mc ρ s) fun k s=>if k then z ρ s else C ρ s) σ H Q):tIf (TTv Γ mc) (TEv Γ z) (TEv Γ C) σ H Q:=by
 obtain⟨φ,ρ,s,d,s',E,R,y,q⟩:=h
 obtain⟨c,s1,e1,y⟩:=zw y
 refine⟨φ,ρ,s,c,s1,E,R,e1,fun φ1 F g1 l1 R1=>?_⟩
 cases c with
 | true =>
  rw[if_pos rfl]at y ⊢
  exact⟨φ1,ρ,s1,d,s',E.mono g1 l1,R1,y,q.trans g1 l1⟩
 | false =>
  rw[if_neg aO]at y ⊢
  exact⟨φ1,ρ,s1,d,s',E.mono g1 l1,R1,y,q.trans g1 l1⟩
theorem aJ1 {ma mb mc:jZ->jW->j0 jX}{f g:jX->jX->jW->j0 jX}{σ:St}{H:Hp}{Q:VK}(h:TEv Γ (fun ρ s=>(ma ρ s).bind fun x s=>(mb ρ s).bind fun y s=>j8 (f x y s) fun k s=>if k then(mc ρ s).bind fun z s=>g y z s else .ok (.bl false) s) σ H Q) :
  aV2 (rOp Γ f) (rOp Γ g) (TEv Γ ma) (TEv Γ mb) (TEv Γ mc) σ H Q:=by
 obtain⟨φ,ρ,s,d,s',E,R,C,q⟩:=h
 obtain⟨x,s1,e1,C⟩:=aa0 C
 obtain⟨y,s2,e2,C⟩:=aa0 C
 obtain⟨c,s3,e3,C⟩:=zw C
 refine⟨φ,ρ,s,x,s1,E,R,e1,fun v1 φ1 H1 g1 l1 b1 r1 R1=>?_⟩
 refine⟨φ1,ρ,s1,y,s2,E.mono g1 l1,R1,e2,fun v2 φ2 H2 g2 F J Z R2=>?_⟩
 refine⟨φ2,s2,x,y,.bl c,s3,R2,RV.mono g2 x v1 b1 r1,Z,zc F x b1,J,e3,fun v3 φ3 H3 g3 Y b3 r3 R3=>⟨c,r3.blE,?_⟩⟩
 have G:=(g1.trans g2 l1).trans g3 (aj l1 F)
 have L:=aj (aj l1 F) Y
 cases c with
 | true =>
  rw[if_pos rfl]at C ⊢
  obtain⟨z,s4,e4,C⟩:=aa0 C
  refine⟨φ3,ρ,s3,z,s4,E.mono G L,R3,e4,fun v4 φ4 H4 g4 l4 b4 r4 R4=>?_⟩
  exact⟨φ4,s4,y,z,d,s',R4,RV.mono (g3.trans g4 Y) y v2 J Z,r4,zc (aj Y l4) y J,b4,C,q.trans (G.trans g4 L) (aj L l4)⟩
 | false =>
  rw[if_neg aO]at C ⊢
  cases C
  exact q _ φ3 H3 G L rfl RV.blI R3
theorem aG0 {σ:St}{H:Hp}{Q:List V->Hp->Prop}(h:TAv Γ (fun ρ s=>.ok [] s) σ H Q):bg8 σ H Q:=by
 obtain⟨φ,ρ,s,d,s',E,R,y,q⟩:=h
 cases y
 exact q [] φ H (Gr.refl _ _ _) (am _) rfl .nil R
theorem bu5 {m:jZ->jW->j0 jX}{C:jZ->jW->j0 (List jX)}{σ:St}{H:Hp}{Q:List V->Hp->Prop}(h:TAv Γ (fun ρ s=>(m ρ s).bind fun d s=>(C ρ s).bind fun l s=>.ok (d::l) s) σ H Q):au2 (TEv Γ m) (TAv Γ C) σ H Q:=by
 obtain⟨φ,ρ,s,l,s',E,R,z,q⟩:=h
 obtain⟨x,s1,e1,z⟩:=aa0 z
 obtain⟨y,s2,e2,z⟩:=aa0 z
 cases z
 refine⟨φ,ρ,s,x,s1,E,R,e1,fun F φ1 H1 g1 l1 b1 r1 R1=>?_⟩
 refine⟨φ1,ρ,s1,y,_,E.mono g1 l1,R1,e2,fun Y φ2 H2 J G b2 Z R2=>?_⟩
 refine q (F::Y) φ2 H2 (g1.trans J l1) (aj l1 G) ?_ (.cons (RV.mono J x F b1 r1) Z) R2
 unfold jY
 rw[zc G x b1,b2];rfl
theorem aA3 {z:jZ->jW->j0 (List jX)}{f:List jX->jW->j0 jX}{σ:St}{H:Hp}{Q:VK}(h:TEv Γ (fun ρ s=>(z ρ s).bind fun l s=>f l s) σ H Q):tCB (rCl Γ f) (TAv Γ z) σ H Q:=by
 obtain⟨φ,ρ,s,d,s',E,R,y,q⟩:=h
 obtain⟨l,s1,e1,y⟩:=aa0 y
 exact⟨φ,ρ,s,l,s1,E,R,e1,fun vs φ1 C g1 l1 b1 r1 R1=>⟨φ1,s1,l,d,s',R1,r1,b1,y,q.trans g1 l1⟩⟩
theorem bI5 {m:jZ->jW->j0 jX}{ml mh:jZ->jW->j0 jX}{σ:St}{H:Hp}{Q:VK} :
  (TEv Γ (fun ρ s=>(m ρ s).bind fun x s=>(ml ρ s).bind fun y s=>match y with|.int i=>k8 x (some i) none s|_=>.bad) σ H Q->tSl (rSl Γ) (TEv Γ m) (aP6 (TEv Γ ml)) aB8 σ H Q) /\
  (TEv Γ (fun ρ s=>(m ρ s).bind fun x s=>(mh ρ s).bind fun y s=>match y with|.int i=>k8 x none (some i) s|_=>.bad) σ H Q->tSl (rSl Γ) (TEv Γ m) aB8 (aP6 (TEv Γ mh)) σ H Q) /\
  (TEv Γ (fun ρ s=>(m ρ s).bind fun x s=>(ml ρ s).bind fun y s=>match y with|.int i=>(mh ρ s).bind (fun z s=>match z with|.int j=>k8 x (some i) (some j) s|_=>.bad)|_=>.bad) σ H Q->tSl (rSl Γ) (TEv Γ m) (aP6 (TEv Γ ml)) (aP6 (TEv Γ mh)) σ H Q):=by
 refine⟨fun h=>?_,fun h=>?_,fun h=>?_⟩
 ·obtain⟨φ,ρ,s,d,s',E,R,C,q⟩:=h
  obtain⟨x,s1,e1,C⟩:=aa0 C
  obtain⟨y,s2,e2,C⟩:=aa0 C
  refine⟨φ,ρ,s,x,s1,E,R,e1,fun Y φ1 H1 g1 l1 b1 r1 R1=>?_⟩
  refine⟨φ1,ρ,s1,y,s2,E.mono g1 l1,R1,e2,fun Z φ2 H2 G F b2 J R2=>?_⟩
  cases y with
  | int i=>exact⟨i,J.intE,φ2,s2,x,d,s',R2,RV.mono G x Y b1 r1,zc F x b1,C,q.trans (g1.trans G l1) (aj l1 F)⟩
  | _=>exact fb C
 ·obtain⟨φ,ρ,s,d,s',E,R,C,q⟩:=h
  obtain⟨x,s1,e1,C⟩:=aa0 C
  obtain⟨y,s2,e2,C⟩:=aa0 C
  refine⟨φ,ρ,s,x,s1,E,R,e1,fun Y φ1 H1 g1 l1 b1 r1 R1=>?_⟩
  refine⟨φ1,ρ,s1,y,s2,E.mono g1 l1,R1,e2,fun Z φ2 H2 G F b2 J R2=>?_⟩
  cases y with
  | int i=>exact⟨i,J.intE,φ2,s2,x,d,s',R2,RV.mono G x Y b1 r1,zc F x b1,C,q.trans (g1.trans G l1) (aj l1 F)⟩
  | _=>exact fb C
 ·obtain⟨φ,ρ,s,d,s',E,R,C,q⟩:=h
  obtain⟨x,s1,e1,C⟩:=aa0 C
  obtain⟨y,s2,e2,C⟩:=aa0 C
  refine⟨φ,ρ,s,x,s1,E,R,e1,fun Y φ1 H1 g1 l1 b1 r1 R1=>?_⟩
  refine⟨φ1,ρ,s1,y,s2,E.mono g1 l1,R1,e2,fun Z φ2 H2 G F b2 J R2=>?_⟩
  cases y with
  | int i =>
   obtain⟨z,s3,e3,C⟩:=aa0 C
   refine⟨i,J.intE,φ2,ρ,s2,z,s3,E.mono (g1.trans G l1) (aj l1 F),R2,e3,fun v3 φ3 H3 g3 l3 b3 r3 R3=>?_⟩
   cases z with
   | int j=>exact⟨j,r3.intE,φ3,s3,x,d,s',R3,RV.mono (G.trans g3 F) x Y b1 r1,zc (aj F l3) x b1,C,q.trans ((g1.trans G l1).trans g3 (aj l1 F)) (aj (aj l1 F) l3)⟩
   | _=>exact fb C
  | _=>exact fb C
variable {Γ:Gm} {X:Cx}
def qv (Γ:Gm)(J:It)(φ0:Nat->Addr)(H0:Hp)(s0:jW)(q:kN):Prop :=
 ∀ φ H s,Gr φ0 s0 H0 φ s H->s0.length<=s.length->Rp Γ φ H s->kt s0 s q.src=true->∀ i:Nat,
  (i<q.its.length->J.go i H/\∀ x H',J.yld i H x H'->ae7 H H'/\∀ d,q.its[i]?=some d->RV Γ φ H' d x)/\(q.its.length<=i->J.stop i H)
def TIv (Γ:Gm)(m:jZ->jW->j0 kN):TI:=fun σ H R=>∃ φ ρ s q s',RE Γ φ H s.length ρ σ/\Rp Γ φ H s/\m ρ s=.ok q s' /\
 ∀ J φ' H',Gr φ s H φ' s' H'->s.length<=s'.length->jY s'.length q.its=true->Rp Γ φ' H' s'->qv Γ J φ' H' s' q->R J H'
theorem PI.imp {tg e:Expr}{t t':TI}(h:PI X tg e t)(i:∀ σ H R,t' σ H R->t σ H R):PI X tg e t':=fun y s σ H R I q=>h y s σ H R I (i σ H R q)
theorem PI.or {tg e:Expr}{t t':TI}(h:PI X tg e t)(h':PI X tg e t'):PI X tg e (fun σ H R=>t σ H R\/t' σ H R):=fun y s σ H R I q=>q.elim (h y s σ H R I) (h' y s σ H R I)
theorem aE9 {φ0:Nat->Addr}{H0:Hp}{s0:jW}{a:Addr}{C:List V}{l:List jX}(h:SqT Γ.K H0 a C)(hl:RVL Γ φ0 H0 l C)(hb:jY s0.length l=true):qv Γ (Itt Γ.K a) φ0 H0 s0 ⟨l,[]⟩:=by
 intro φ H s g _ R _ i
 have h':=g.w.kp.sqT h
 have z:=RVL.mono g l C hb hl
 refine⟨fun hlt=>⟨⟨C,C[i]'(by rw[z.length];exact hlt),h',ak _⟩,fun x H' y=>?_⟩,fun F=>⟨C,h',by rw[z.length];exact F⟩⟩
 obtain⟨e,y⟩:=y
 subst e
 refine⟨ae7.refl _,fun d hd=>?_⟩
 obtain⟨v,e1,e2⟩:=z.get hd
 rw[y C h']at e1;cases e1
 exact e2
theorem aR0 {φ0:Nat->Addr}{H0:Hp}{s0:jW}{a:Addr}{C:List V}{l:List jX}(h:SqF Γ.K H0 a C)(hl:RVL Γ φ0 H0 l C)(hb:jY s0.length l=true):qv Γ (Itl Γ.K a) φ0 H0 s0 ⟨l,[]⟩:=by
 intro φ H s g _ R _ i
 have h':=h.2 _ g.w.kp
 have z:=RVL.mono g l C hb hl
 refine⟨fun hlt=>⟨⟨C,C[i]'(by rw[z.length];exact hlt),h',ak _⟩,fun x H' y=>?_⟩,fun F=>⟨C,h',by rw[z.length];exact F⟩⟩
 obtain⟨e,y⟩:=y
 subst e
 refine⟨ae7.refl _,fun d hd=>?_⟩
 obtain⟨v,e1,e2⟩:=z.get hd
 rw[y C h']at e1;cases e1
 exact e2
theorem aJ5 {φ0:Nat->Addr}{H0:Hp}{s0:jW}{r:Nat}{l:List jX}(hr:s0[r]?=some (.lst l)):qv Γ (Itl Γ.K (φ0 r)) φ0 H0 s0 ⟨l,[r]⟩:=by
 intro φ H s g _ R F i
 have z:r<s0.length:=(ag.mp hr).1
 have hs:s[r]?=some (.lst l):=by
  unfold kt at F
  simp only[cM,iE,fx,decide_eq_true_eq]at F
  rw[F];exact hr
 obtain⟨C,e,h⟩:=R.addr hs
 rw[g.w.map r z]at e
 have h':SqL Γ.K H (φ0 r) C:=SqL.of e
 refine⟨fun hlt=>⟨⟨C,C[i]'(by rw[h.length];exact hlt),h',ak _⟩,fun x H' y=>?_⟩,fun G=>⟨C,h',by rw[h.length];exact G⟩⟩
 obtain⟨e,y⟩:=y
 subst e
 refine⟨ae7.refl _,fun d hd=>?_⟩
 obtain⟨v,e1,e2⟩:=h.get hd
 rw[y C h']at e1;cases e1
 exact e2
theorem aJ2 {φ0:Nat->Addr}{H0:Hp}{s0:jW}{l:List Nat}:qv Γ (Its ⟨l.toArray⟩) φ0 H0 s0 ⟨l.map fun c=>.str [c],[]⟩:=by
 intro φ H s g _ R _ i
 have hsz:(⟨l.toArray⟩:Str).cps.size=l.length:=by simp
 refine⟨fun hlt=>?_,fun h=>?_⟩
 ·simp only[ar]at hlt
  refine⟨show i<(⟨l.toArray⟩:Str).cps.size by rw[hsz];exact hlt,fun x H' y=>?_⟩
  obtain⟨e,c,hc,rfl⟩:=y
  subst e
  refine⟨ae7.refl _,fun d hd=>?_⟩
  have z:l[i]?=some c:=by simpa using hc
  rw[aG,z]at hd
  cases hd
  exact RV.strI (by simp;decide)
 ·simp only[ar]at h
  show(⟨l.toArray⟩:Str).cps.size<=i
  rw[hsz];exact h
theorem aZ5 {φ0:Nat->Addr}{H0:Hp}{s0:jW}{a b:Int}:qv Γ (Itr a (b - a).toNat) φ0 H0 s0 ⟨kT a b,[]⟩:=by
 intro φ H s g _ R _ i
 have hn:(kT a b).length=(b - a).toNat:=by simp[kT]
 refine⟨fun hlt=>⟨show i<(b - a).toNat by rw[<-hn];exact hlt,fun x H' y=>?_⟩,fun h=>show(b - a).toNat<=i by rw[<-hn];exact h⟩
 obtain⟨e,rfl⟩:=y
 subst e
 refine⟨ae7.refl _,fun d hd=>?_⟩
 simp only[kT]at hd hlt
 rw[aG,c5 (by simpa using hlt)]at hd
 cases hd
 exact RV.intI
theorem bq5 {m:jZ->jW->j0 jX}{σ:St}{H:Hp}{R:It->Hp->Prop}(h:TIv Γ (fun ρ s=>(m ρ s).bind fun x s=>match x with|.int i=>if -lC<=i/\i<lC then .ok ⟨kT 0 i,[]⟩ s else .bad|_=>.bad) σ H R) :
  bK1 (au2 (TEv Γ m) bg8) σ H R:=by
 obtain⟨φ,ρ,s,q,s',E,P,y,k⟩:=h
 obtain⟨x,s1,e1,y⟩:=aa0 y
 refine⟨φ,ρ,s,x,s1,E,P,e1,fun v φ1 C g l b r F=>?_⟩
 cases x with
 | int i =>
  simp only at y
  split at y
  ·rename_i z
   cases y
   have hw:lC=2^62:=by decide
   rw[hw]at z
   refine⟨i,by rw[r.intE],z.1,z.2,k _ φ1 C g l ?_ F ?_⟩
   ·refine aa3.mpr fun d hd=>?_
    simp only[kT,aE]at hd
    obtain⟨_,_,rfl⟩:=hd
    rfl
   ·have:=aZ5 (Γ:=Γ) (φ0:=φ1) (H0:=C) (s0:=s') (a:=0) (b:=i)
    rwa [jK]at this
  ·exact fb y
 | _=>exact fb y
theorem bK2 {m:jZ->jW->j0 jX}{σ:St}{H:Hp}{R:It->Hp->Prop}(h:TIv Γ (fun ρ s=>(m ρ s).bind fun d s=>DV.ah8 d s) σ H R) :
  bT2 Γ.K (TEv Γ m) σ H R\/br0 Γ.K (TEv Γ m) σ H R\/bV5 (TEv Γ m) σ H R:=by
 obtain⟨φ,ρ,s,q,s',E,P,y,k⟩:=h
 obtain⟨x,s1,e1,y⟩:=aa0 y
 unfold DV.ah8 at y
 cases x with
 | tup l =>
  cases y
  refine .inl ⟨φ,ρ,s,_,_,E,P,e1,fun v φ1 C g l b r z=>?_⟩
  obtain⟨a,F,rfl,Y,d1⟩:=r.tupE
  unfold j2 at b
  exact⟨a,rfl,⟨F,Y⟩,k _ φ1 C g l b z (aE9 Y d1 b)⟩
 | str l =>
  cases y
  refine .inr (.inr ⟨φ,ρ,s,_,_,E,P,e1,fun v φ1 C g G b r z=>?_⟩)
  refine⟨_,r.strE,k _ φ1 C g G ?_ z aJ2⟩
  refine aa3.mpr fun d hd=>?_
  simp only[aE]at hd
  obtain⟨_,_,rfl⟩:=hd
  rfl
 | ref r =>
  simp only at y
  cases hs:s1[r]? with
  | none=>rw[hs]at y;cases y
  | some o =>
   rw[hs]at y
   cases o with
   | lst l =>
    cases y
    refine .inr (.inl ⟨φ,ρ,s,_,_,E,P,e1,fun v φ1 C g G b J z=>?_⟩)
    have e:=J.refE;subst e
    obtain⟨F,e2,d1⟩:=z.addr hs
    have wf:=z.wf _ _ hs
    unfold j3 at wf
    exact⟨φ1 r,rfl,⟨F,SqL.of e2⟩,k _ φ1 C g G wf z (aJ5 hs)⟩
   | ro l =>
    cases y
    refine .inr (.inl ⟨φ,ρ,s,_,_,E,P,e1,fun v φ1 C g G b J z=>?_⟩)
    have e:=J.refE;subst e
    obtain⟨F,e2,d1⟩:=z.obj _ _ hs
    have wf:=z.wf _ _ hs
    unfold j3 at wf
    exact⟨φ1 r,rfl,⟨F,e2.1⟩,k _ φ1 C g G wf z (aR0 e2 d1 wf)⟩
   | dic l=>exact fb y
   | dit l=>exact fb y
   | ins c l=>exact fb y
 | _=>exact fb y
theorem aP4 {d:jX}{s s':jW}{q:kN}(h:lv d s=.ok q s'):s'=s/\∀ φ H v,RV Γ φ H d v->Rp Γ φ H s->d.bnd s.length=true ->
  ∃ J,Sr Γ.K H v J/\qv Γ J φ H s q/\jY s.length q.its=true:=by
 unfold lv at h
 cases d with
 | tup l =>
  cases h
  refine⟨rfl,fun φ H v r P b=>?_⟩
  obtain⟨a,y,rfl,C,d1⟩:=r.tupE
  unfold j2 at b
  exact⟨_,.inr (.inl ⟨a,rfl,⟨y,C⟩,rfl⟩),aE9 C d1 b,b⟩
 | str l =>
  cases h
  refine⟨rfl,fun φ H v r P b=>⟨_,.inr (.inr ⟨_,r.strE,rfl⟩),aJ2,?_⟩⟩
  refine aa3.mpr fun d hd=>?_
  simp only[aE]at hd
  obtain⟨_,_,rfl⟩:=hd
  rfl
 | ref r =>
  simp only at h
  cases hs:s[r]? with
  | none=>rw[hs]at h;cases h
  | some o =>
   rw[hs]at h
   cases o with
   | lst l =>
    cases h
    refine⟨rfl,fun φ H v z P b=>?_⟩
    have e:=z.refE;subst e
    obtain⟨y,e2,d1⟩:=P.addr hs
    have wf:=P.wf _ _ hs
    unfold j3 at wf
    exact⟨_,.inl ⟨_,rfl,⟨y,SqL.of e2⟩,rfl⟩,aJ5 hs,wf⟩
   | ro l =>
    cases h
    refine⟨rfl,fun φ H v z P b=>?_⟩
    have e:=z.refE;subst e
    obtain⟨y,e2,d1⟩:=P.obj _ _ hs
    have wf:=P.wf _ _ hs
    unfold j3 at wf
    exact⟨_,.inl ⟨_,rfl,⟨y,e2.1⟩,rfl⟩,aR0 e2 d1 wf,wf⟩
   | dic l=>exact fb h
   | dit l=>exact fb h
   | ins c l=>exact fb h
 | _=>exact fb h
theorem bm7 {s0 s:jW}{a b:List Nat}:kt s0 s (a++b)=(kt s0 s a&&kt s0 s b):=by unfold kt;exact List.all_append
theorem ar6:∀(l m:List jX) (i:Nat),(kn l m)[i]?=(match l[i]?,m[i]? with|some a,some b=>some (.tup [a,b])|_,_=>none)
 | [],m,i=>by rw[kn]<;>simp
 | a::l,[],i=>by
  rw[kn]<;>simp
 | a::l,b::m,0=>by rw[kn];rfl
 | a::l,b::m,i+1=>by
  rw[kn]
  exact ar6 l m i
theorem ar2:∀(l m:List jX),(kn l m).length=min l.length m.length
 | [],m=>by rw[kn]<;>simp
 | a::l,[]=>by rw[kn]<;>simp
 | a::l,b::m=>by rw[kn];simp[ar2 l m]
theorem bf2 {φ0:Nat->Addr}{H0:Hp}{s0:jW}{Y J2:It}{p q:kN}(w1:qv Γ Y φ0 H0 s0 p)(w2:qv Γ J2 φ0 H0 s0 q)(b1:jY s0.length p.its=true)(b2:jY s0.length q.its=true) :
  qv Γ (Jz Y J2) φ0 H0 s0 ⟨kn p.its q.its,p.src++q.src⟩:=by
 intro φ H s g hl R F i
 rw[bm7,ai]at F
 obtain⟨Z,u2⟩:=w1 φ H s g hl R F.1 i
 obtain⟨v1,v2⟩:=w2 φ H s g hl R F.2 i
 refine⟨fun hlt=>?_,fun G=>?_⟩
 ·simp only[ar2]at hlt
  have h:i<p.its.length:=ax hlt (Nat.min_le_left ..)
  have C:i<q.its.length:=ax hlt (iM ..)
  obtain⟨g1,y1⟩:=Z h
  obtain⟨g2,y2⟩:=v1 C
  refine⟨⟨g1,g2⟩,fun x H' y=>?_⟩
  obtain⟨a,x1,x2,e1,e2,hn,rfl,rfl⟩:=y
  have J:ae7 H (upd H a (.tup [x1,x2])):=(ae7.refl H).new hn
  refine⟨J,fun d hd=>?_⟩
  have z:(kn p.its q.its)[i]?=some d:=hd
  rw[ar6,ak h,ak C]at z
  cases z
  obtain⟨gr,R'⟩:=R.same J
  have c1:=aa3.mp b1 _ (cX h)
  have c2:=aa3.mp b2 _ (cX C)
  exact RV.tupI zo (RVL.cons (RV.mono gr _ _ (zc hl _ c1) ((y1 _ _ e1).2 _ (ak h))) (RVL.cons (RV.mono gr _ _ (zc hl _ c2) ((y2 _ _ e2).2 _ (ak C))) RVL.nil))
 ·simp only[ar2]at G
  by_cases h:p.its.length<=i
  ·exact .inl (u2 h)
  ·refine .inr ⟨(Z (by omega)).1,v2 (by omega)⟩
theorem bm9 {n:Nat}{l m:List jX}(a:jY n l=true)(b:jY n m=true):jY n (kn l m)=true:=by
 refine aa3.mpr fun d hd=>?_
 obtain⟨i,h⟩:=cB hd
 rw[ar6]at h
 split at h
 ·rename_i x y e1 e2
  cases h
  unfold j2
  exact aa3.mpr fun d hd=>by
   simp only[az,aM,or_false]at hd
   rcases hd with rfl|rfl
   ·exact aa3.mp a _ (aN e1)
   ·exact aa3.mp b _ (aN e2)
 ·cases h
theorem bH9 {m1 m2:jZ->jW->j0 jX}{σ:St}{H:Hp}{R:It->Hp->Prop}(h:TIv Γ (fun ρ s=>(m1 ρ s).bind fun x s=>(m2 ρ s).bind fun y s=>(lv x s).bind fun p s=>(lv y s).bind fun q s=>.ok ⟨kn p.its q.its,p.src++q.src⟩ s) σ H R) :
  bT4 Γ.K (au2 (TEv Γ m1) (au2 (TEv Γ m2) bg8)) σ H R:=by
 obtain⟨φ,ρ,s,q,s',E,P,z,k⟩:=h
 obtain⟨x,s1,e1,z⟩:=aa0 z
 obtain⟨y,s2,e2,z⟩:=aa0 z
 obtain⟨p1,s3,e3,z⟩:=aa0 z
 obtain⟨p2,s4,e4,z⟩:=aa0 z
 cases z
 obtain⟨rfl,d1⟩:=aP4 (Γ:=Γ) e3
 obtain⟨rfl,d2⟩:=aP4 (Γ:=Γ) e4
 refine⟨φ,ρ,s,x,s1,E,P,e1,fun v φ1 H1 g l b r P1=>?_⟩
 refine⟨φ1,ρ,s1,y,_,E.mono g l,P1,e2,fun G φ2 C g2 Y b2 r2 F=>?_⟩
 obtain⟨J1,S1,w1,J⟩:=d1 φ2 C v (RV.mono g2 _ _ b r) F (zc Y _ b)
 obtain⟨J2,S2,w2,Z⟩:=d2 φ2 C G r2 F b2
 exact⟨v,G,J1,J2,rfl,S1,S2,k _ φ2 C (g.trans g2 l) (aj l Y) (bm9 J Z) F (bf2 w1 w2 J Z)⟩
variable {Γ:Gm} {X:Cx}
noncomputable def bK9:List Nat->TGs
 | []=>bV6
 | i::is=>bE9 (au1 i) (bK9 is)
noncomputable def gOf (K:ac):kE->TG
 | .one i=>au1 i
 | .tup is=>bS3 K is.length (bK9 is)
theorem bj0 {φ:Nat->Addr}{H:Hp}{n:Nat}{ρ ρ':jZ}{σ:St}{i:Nat}{d:jX}{v:V}(E:RE Γ φ H n ρ σ)(r:RV Γ φ H d v)(b:d.bnd n=true)(h:kU ρ i d=some ρ'):RE Γ φ H n ρ' (σ.set i (some v)):=by
 unfold kU at h
 split at h
 ·rename_i y
  cases h
  refine⟨by rw[bA,bA];exact E.len,fun j e hj=>?_⟩
  by_cases hij:j=i
  ·subst hij
   rw[aZ y]at hj
   cases hj
   exact⟨b,v,by rw[aZ (by rw[<-E.len];exact y)],r⟩
  ·rw[bj (dw hij)]at hj
   obtain⟨F,w,C,z⟩:=E.val j e hj
   exact⟨F,w,by rw[bj (dw hij)];exact C,z⟩
 ·cases h
theorem by5 {φ:Nat->Addr}{H:Hp}{n:Nat}{Q:St->Hp->Prop}:∀(is:List Nat) (l:List jX) (y:List V) (ρ ρ':jZ) (σ:St),RE Γ φ H n ρ σ->RVL Γ φ H l y->jY n l=true->k9 ρ is l=some ρ'->(∀ σ',RE Γ φ H n ρ' σ'->Q σ' H)->bK9 is y σ H Q
 | [],[],y,ρ,ρ',σ,E,r,_,h,k=>by
  cases h
  exact⟨r.unnil,k σ E⟩
 | [],d::l,_,_,_,_,_,_,_,h,_=>by cases h
 | i::is,[],_,_,_,_,_,_,_,h,_=>by cases h
 | i::is,d::l,y,ρ,ρ',σ,E,r,b,h,k=>by
  have h:(kU ρ i d).bind (fun ρ=>k9 ρ is l)=some ρ':=h
  obtain⟨x,z,rfl,F,C⟩:=r.uncons
  unfold jY at b
  rw[ai]at b
  cases e:kU ρ i d with
  | none=>rw[e]at h;cases h
  | some ρ1 =>
   rw[e]at h
   exact⟨x,z,rfl,by5 is l z ρ1 ρ' _ (bj0 E F b.1 e) C b.2 h k⟩
theorem aW2 {l:List jX}:∀ {is:List Nat} {ρ ρ':jZ},k9 ρ is l=some ρ'->is.length=l.length:=by
 induction l with
 | nil=>intro is ρ ρ' h;cases is with
  | nil=>rfl
  | cons i is=>cases h
 | cons d l ih=>intro is ρ ρ' h;cases is with
  | nil=>cases h
  | cons i is =>
   have h:(kU ρ i d).bind (fun ρ=>k9 ρ is l)=some ρ':=h
   cases e:kU ρ i d with
   | none=>rw[e]at h;cases h
   | some ρ1=>rw[e]at h;rw[aL,aL,ih h]
theorem bm4 {φ:Nat->Addr}{H:Hp}{n:Nat}{Q:St->Hp->Prop}{tg:kE}{d:jX}{v:V}{ρ ρ':jZ}{σ:St}(E:RE Γ φ H n ρ σ)(r:RV Γ φ H d v)(b:d.bnd n=true)(h:ku ρ tg d=some ρ')(k:∀ σ',RE Γ φ H n ρ' σ'->Q σ' H):gOf Γ.K tg v σ H Q:=by
 cases tg with
 | one i=>exact k _ (bj0 E r b h)
 | tup is =>
  cases d with
  | tup l =>
   have h:k9 ρ is l=some ρ':=h
   obtain⟨a,y,rfl,z,d1⟩:=r.tupE
   unfold j2 at b
   exact⟨a,y,rfl,z,by rw[d1.length,aW2 h],by5 is l y ρ ρ' σ E d1 b h k⟩
  | _=>cases h
def Off (φ:Nat->Addr)(s:jW)(b:Addr):Prop:=∀(i:Nat) (ob:kz),s[i]?=some ob->isMut ob=true->φ i≠b
theorem Off.mono {φ φ':Nat->Addr}{s s':jW}{H H':Hp}{b:Addr}{o:HO}(h:Off φ s b)(g:Gr φ s H φ' s' H')(hb:H b=some o):Off φ' s' b:=fun i ob e m z=>by
 by_cases C:i<s.length
 ·obtain⟨y,F⟩:∃ y,s[i]?=some y:=⟨s[i],ak C⟩
  exact h i y F (g.mu i y ob F e m) (by rw[<-g.w.map i C];exact z)
 ·have:=g.new i (by omega) (ag.mp e).1
  rw[z,hb]at this;cases this
theorem Off.new {φ:Nat->Addr}{s:jW}{H:Hp}{b:Addr}(r:Rp Γ φ H s)(h:H b=none):Off φ s b:=fun i ob e m z=>by
 obtain⟨u,y,_⟩:=(r.obj i ob e).there m
 rw[z,h]at y;cases y
theorem Rp.foreign {φ:Nat->Addr}{s:jW}{H:Hp}{b:Addr}{ys h:List V}(r:Rp Γ φ H s)(hb:H b=some (.lst ys))(ho:Off φ s b):Rp Γ φ (upd H b (.lst h)) s:=by
 have g:Gw φ s.length H φ (upd H b (.lst h)):=⟨fun _ _=>rfl,(Kp.refl H).put hb rfl⟩
 exact⟨r.inj,fun i o e=>(r.obj i o e).mono g (r.wf i o e) fun m u y=>by rw[zm (ho i o e m)];exact y,r.wf,r.tab.put hb⟩
theorem Gr.foreign {φ φ':Nat->Addr}{s s':jW}{H H':Hp}{b:Addr}{ys h:List V}(g:Gr φ s H φ' s' H')(h0:H b=none)(hb:H' b=some (.lst ys)):Gr φ s H φ' s' (upd H' b (.lst h)):=by
 have ne:∀ c o,H c=some o->c≠b:=fun c o e=>zq e h0
 refine⟨⟨g.w.map,fun c o e f=>?_⟩,g.le,g.new,g.kd,fun c hc=>?_,fun c o e y no=>?_⟩
 ·rw[zm (ne c o e)];exact g.w.kp c o e f
 ·unfold upd;split
  ·simp
  ·exact g.st c hc
 ·rw[zm (ne c o e)];exact g.fr c o e y no
def by3 (Γ:Gm)(φ:Nat->Addr)(s:jW)(H:Hp)(l:List jX)(s':jW)(Q:VK):Prop :=
 ∀ p ys φ' H',Gr φ s H φ' s' H'->s.length<=s'.length->jY s'.length l=true->H' p=some (.lst ys)->H p=none->Off φ' s' p->RVL Γ φ' H' l ys->Rp Γ φ' H' s'->Q (.ref p) H'
def TFv (Γ:Gm)(m:jZ->jW->j0 (List jX)):TE:=fun σ H Q=>∃ φ ρ s l s',RE Γ φ H s.length ρ σ/\Rp Γ φ H s/\m ρ s=.ok l s'/\by3 Γ φ s H l s' Q
theorem aR8 {m:jZ->jW->j0 (List jX)}{σ:St}{H:Hp}{Q:VK}(h:TEv Γ (fun ρ s=>(m ρ s).bind fun l s=>kH (.lst l) s) σ H Q):TFv Γ m σ H Q:=by
 obtain⟨φ,ρ,s,d,s',E,R,J,q⟩:=h
 obtain⟨l,s1,e1,J⟩:=aa0 J
 obtain⟨rfl,rfl⟩:=zM J
 refine⟨φ,ρ,s,l,s1,E,R,e1,fun p ys φ' H' g hl hb hp h0 ho r C=>?_⟩
 have gw:Gw φ' s1.length H' (fun i=>if i=s1.length then p else φ' i) H':=⟨fun i y=>if_neg (aw y),Kp.refl _⟩
 have key:∀(i:Nat) (z:kz),(s1++[DV.O.lst l])[i]?=some z->(i<s1.length/\s1[i]?=some z)\/(i=s1.length/\z=.lst l):=fun i z e=>by
  rcases e8 i s1.length with h|h|h
  ·rw[aP h]at e;exact .inl ⟨h,e⟩
  ·subst h;simp at e;exact .inr ⟨rfl,e.symm⟩
  ·rw[bU (by simp;omega)]at e;cases e
 have G:Gr φ s H (fun i=>if i=s1.length then p else φ' i) (s1++[.lst l]) H':=by
  refine⟨⟨fun i y=>by show(if i=s1.length then p else φ' i)=_;rw[if_neg (by omega)];exact g.w.map i y,g.w.kp⟩,by simp;omega,fun i h1 h2=>?_,fun i o z e e'=>?_,g.st,g.fr⟩
  ·by_cases y:i=s1.length
   ·show H (if i=s1.length then p else φ' i)=none
    rw[if_pos y];exact h0
   ·show H (if i=s1.length then p else φ' i)=none
    rw[if_neg y];exact g.new i h1 (by simp at h2;omega)
  ·rcases key i z e' with⟨_,e2⟩|⟨y,_⟩
   ·exact g.kd i o z e e2
   ·have:=(ag.mp e).1;omega
 have P:Rp Γ (fun i=>if i=s1.length then p else φ' i) H' (s1++[.lst l]):=by
  refine⟨fun i j Y Z F ej mi mj e=>?_,fun i o e=>?_,fun i o e=>?_,C.tab⟩
  ·rcases key i Y F with⟨y,F⟩|⟨y,_⟩<;>rcases key j Z ej with⟨hj,ej⟩|⟨hj,_⟩
   ·rw[if_neg (aw y),if_neg (aw hj)]at e
    exact C.inj i j Y Z F ej mi mj e
   ·rw[if_neg (aw y),if_pos hj]at e
    exact absurd e (ho i Y F mi)
   ·rw[if_neg (aw hj),if_pos y]at e
    exact absurd e.symm (ho j Z ej mj)
   ·rw[y,hj]
  ·rcases key i o e with⟨y,e⟩|⟨y,rfl⟩
   ·show RO Γ _ _ (if i=s1.length then p else φ' i) o
    rw[if_neg (aw y)]
    exact(C.obj i o e).mono gw (C.wf i o e) fun _ u hu=>hu
   ·show RO Γ _ _ (if i=s1.length then p else φ' i) _
    rw[if_pos y]
    exact⟨ys,hp,RVL.monoW gw l ys hb r⟩
  ·rw[aD,cN]
   rcases key i o e with⟨_,e⟩|⟨_,rfl⟩
   ·exact zO (d0 _) _ (C.wf i o e)
   ·exact zO (d0 _) _ (by unfold j3;exact hb)
 exact q (.ref p) _ H' G (by simp;omega) (by unfold j2;simp) (by unfold RV;simp) P
theorem bz3 {φ:Nat->Addr}{H:Hp}{n:Nat}{ρ:jZ}{σ:St}(E:RE Γ φ H n ρ σ)(h:List (Option Nat)):RE Γ φ H n (kW ρ h) (at9 h σ):=by
 refine⟨by unfold kW at9;simp,fun i d e=>?_⟩
 unfold kW at e
 rw[aG]at e
 cases q:h[i]? with
 | none=>rw[q]at e;cases e
 | some o =>
  rw[q]at e
  cases o with
  | none=>cases e
  | some j =>
   have e':(ρ[j]?).join=some d:=av e
   have ej:ρ[j]?=some (some d):=by
    cases q2:ρ[j]? with
    | none=>rw[q2]at e';cases e'
    | some o2=>rw[q2]at e';exact congrArg some e'
   obtain⟨b,v,z,y⟩:=E.val j d ej
   refine⟨b,v,?_,y⟩
   unfold at9
   rw[aG,q]
   show some ((σ[j]?).join)=_
   rw[z];rfl
theorem aR5 {mI:jZ->jW->j0 kN}{mc me:jZ->jW->j0 jX}{tg:kE}{F:List (Option Nat)}{σ:St}{H:Hp}{Q:VK}
  (h:TFv Γ (fun ρ s=>(mI ρ s).bind fun q s0=>if q.its.length<=j4 then lh (fun s=>kt s0 s q.src) (fun d ρ s=>match ku ρ tg d with
   | some ρ=>j8 (mc ρ s) fun k s=>if k then(me ρ s).bind fun v s=>.ok (some v,ρ) s else .ok (none,ρ) s
   | none=>.bad) q.its (kW ρ F) s0 else .bad) σ H Q):tComp F (TIv Γ mI) (gOf Γ.K tg) (TTv Γ mc) (TEv Γ me) σ H Q:=by
 obtain⟨φ,ρ,s,l,s',E,R,hm,k⟩:=h
 obtain⟨q,s0,e1,hm⟩:=aa0 hm
 split at hm
 case isFalse=>exact fb hm
 rename_i hlim
 refine⟨φ,ρ,s,q,s0,E,R,e1,fun J φ1 H1 g1 l1 b1 R1 wk D hD=>?_⟩
 have h0:H D=none:=by
  cases e:H D with
  | none=>rfl
  | some o=>exact absurd hD (g1.st D (by rw[e];simp))
 refine⟨fun i m σ' H'=>∃ φ' ρ' t y ys rest,Gr φ1 s0 H1 φ' t H'/\Rp Γ φ' H' t/\RE Γ φ' H' t.length ρ' σ'/\H' D=some (.lst ys)/\Off φ' t D/\RVL Γ φ' H' y ys/\jY t.length y=true/\y.length<=i/\i<=q.its.length/\m=q.its.length - i /\
  lh (fun s=>kt s0 s q.src) (fun d ρ s=>match ku ρ tg d with
   | some ρ=>j8 (mc ρ s) fun k s=>if k then(me ρ s).bind fun v s=>.ok (some v,ρ) s else .ok (none,ρ) s
   | none=>.bad) (q.its.drop i) ρ' t=.ok rest s'/\l=y++rest,⟨q.its.length,?_⟩,?_⟩
 ·obtain⟨g2,R2⟩:=R1.same (H':=upd H1 D (.lst [])) ((ae7.refl H1).new hD)
  exact⟨φ1,kW ρ F,s0,[],[],l,g2,R2,bz3 ((E.mono g1 l1).mono g2 (am _)) F,zo,Off.new R1 hD,.nil,rfl,am _,cz _,by simp,by rw[dG];exact hm,rfl⟩
 ·rintro i m σ' H' ⟨φ',ρ',t,y,ys,rest,g,R',E',hy,a2,ra,ba,a9,b0,rfl,hc,hl⟩
  have C:=g.le
  rcases jL i q.its.length with hlt|hge
  ·have hd:q.its[i]?=some q.its[i]:=ak hlt
   rw[eR hlt]at hc
   unfold lh at hc
   split at hc
   case isFalse=>exact fb hc
   rename_i a1
   obtain⟨a7,a5⟩:=(wk φ' H' t g C R' a1 i).1 hlt
   refine .inr ⟨a7,_,fun σ2 H2 n=>⟨q.its.length - (i+1),by omega,n⟩,fun x H2 a8=>?_⟩
   obtain⟨sm,rv⟩:=a5 x H2 a8
   obtain⟨g2,R2⟩:=R'.same sm
   have rd:=rv _ hd
   have bd:(q.its[i]).bnd t.length=true:=zc C _ (ai9 b1 hd)
   obtain⟨p,t3,hs,hc⟩:=aa0 hc
   obtain⟨r2,t4,a4,hc⟩:=aa0 hc
   cases hb:ku ρ' tg q.its[i]with
   | none=>rw[hb]at hs;cases hs
   | some ρ3 =>
    rw[hb]at hs
    refine bm4 (E'.mono g2 (am _)) rd bd hb fun σ3 E3=>?_
    obtain⟨c,t1,ec,hs⟩:=zw hs
    refine⟨φ',ρ3,t,c,t1,E3,R2,ec,fun φ2 H4 g4 l4 R4=>?_⟩
    have a3:H2 D=some (.lst ys):=sm _ _ hy
    have a0:H4 D=some (.lst ys):=g4.fr D _ a3 (by nofun) a2
    have G:Off φ2 t1 D:=a2.mono g4 a3
    have G4:=(g.trans g2 C).trans g4 C
    cases c with
    | true =>
     rw[if_pos rfl]at hs
     refine iteT ?_
     obtain⟨v,t2,ev,hs⟩:=aa0 hs
     cases hs
     refine⟨φ2,ρ3,t1,v,t3,E3.mono g4 l4,R4,ev,fun w φ3 H5 g5 l5 b5 r5 R5=>?_⟩
     have Y:H5 D=some (.lst ys):=g5.fr D _ a0 (by nofun) G
     have Z:Off φ3 t3 D:=G.mono g5 a0
     refine⟨ys,Y,?_,?_⟩
     ·rw[ra.length]
      have:=zC
      omega
     ·have gw:Gw φ3 t3.length H5 φ3 (upd H5 D (.lst (ys++[w]))):=⟨fun _ _=>rfl,(Kp.refl H5).put Y rfl⟩
      have G5:=G4.trans g5 (aj C l4)
      have GG:=g2.trans (g4.trans g5 l4) (am _)
      have a6:RVL Γ φ3 H5 y ys:=RVL.mono GG _ _ ba ra
      have bb:jY t3.length (y++[v])=true:=zz (aa7 GG.le _ ba) (by unfold jY;rw[b5];rfl)
      refine⟨φ3,ρ3,t3,y++[v],ys++[w],r2,G5.foreign hD Y,R5.foreign Y Z,?_,zo,Z,RVL.monoW gw _ _ bb (a6.append (.cons r5 .nil)),bb,by simp;omega,hlt,rfl,?_,?_⟩
      ·have E5:=(E3.mono g4 l4).mono g5 l5
       exact⟨E5.len,fun j e hj=>by
        obtain⟨h1,z,h2,h3⟩:=E5.val j e hj
        exact⟨h1,z,h2,RV.monoW gw _ _ h1 h3⟩⟩
      ·cases hc;exact a4
      ·cases hc;rw[hl];simp
    | false =>
     rw[if_neg aO]at hs
     refine bY7 ?_
     cases hs
     have GG:=g2.trans g4 (am _)
     exact⟨φ2,ρ3,t3,y,ys,r2,G4,R4,E3.mono g4 l4,a0,G,RVL.mono GG _ _ ba ra,aa7 l4 _ ba,by omega,hlt,rfl,by cases hc;exact a4,by cases hc;exact hl⟩
  ·have hi:i=q.its.length:=by omega
   rw[f8 hge]at hc
   unfold lh at hc
   split at hc
   case isFalse=>exact fb hc
   rename_i a1
   cases hc
   refine .inl ⟨(wk φ' H' s' g C R' a1 i).2 hge,?_⟩
   rw[aW]at hl
   subst hl
   exact k D ys φ' H' (g1.trans g l1) (aj l1 C) ba hy h0 a2 ra R'
variable {Γ:Gm} {X:Cx}
noncomputable def bU3 (Γ:Gm)(φ:Nat->Addr)(H:Hp)(n:Nat)(D:Ends):kF->Prop
 | .next ρ=>∀ σ,RE Γ φ H n ρ σ->D.nx σ H
 | .ret d=>∀ v,d.bnd n=true->RV Γ φ H d v->D.rt v H
 | .cont ρ=>∀ σ,RE Γ φ H n ρ σ->D.ct σ H
 | .brk ρ=>∀ σ,RE Γ φ H n ρ σ->D.bk σ H
def al4 (Γ:Gm)(φ:Nat->Addr)(s:jW)(H:Hp)(c:kF)(s':jW)(D:Ends):Prop :=
 ∀ φ' H',Gr φ s H φ' s' H'->s.length<=s'.length->Rp Γ φ' H' s'->bU3 Γ φ' H' s'.length D c
def TSv (Γ:Gm)(m:jZ->jW->j0 kF):TS:=fun D σ H=>∃ φ ρ s c s',RE Γ φ H s.length ρ σ/\Rp Γ φ H s/\m ρ s=.ok c s'/\al4 Γ φ s H c s' D
theorem PS.imp {e:Stmt}{t t':TS}(h:PS X e t)(i:∀ D σ H,t' D σ H->t D σ H):PS X e t':=fun y s σ H Q I q=>h y s σ H Q I (i Q σ H q)
theorem PSs.imp {e:List Stmt}{t t':TS}(h:PSs X e t)(i:∀ D σ H,t' D σ H->t D σ H):PSs X e t':=fun y s σ H Q I q=>h y s σ H Q I (i Q σ H q)
theorem al4.trans {φ φ1:Nat->Addr}{s s1 s':jW}{H y:Hp}{c:kF}{D:Ends}(h:al4 Γ φ s H c s' D)(g:Gr φ s H φ1 s1 y)(l:s.length<=s1.length):al4 Γ φ1 s1 y c s' D :=
 fun φ' H' g' z p=>h φ' H' (g.trans g' l) (aj l z) p
theorem al4.here {φ:Nat->Addr}{s:jW}{H:Hp}{c:kF}{D:Ends}(h:al4 Γ φ s H c s D)(p:Rp Γ φ H s):bU3 Γ φ H s.length D c:=h φ H (Gr.refl φ s H) (am _) p
variable {D:Ends} {σ:St} {H:Hp}
theorem bv0 {m:jZ->jW->j0 kF}(y:∀ ρ s,m ρ s=.ok (.next ρ) s)(h:TSv Γ m D σ H):by2 D σ H:=by
 obtain⟨φ,ρ,s,c,s',E,R,e,q⟩:=h
 rw[y]at e;cases e
 exact q.here R σ E
theorem bF7 {m:jZ->jW->j0 jX}(h:TSv Γ (fun ρ s=>(m ρ s).bind fun d s=>.ok (.ret d) s) D σ H):bT8 (TEv Γ m) D σ H:=by
 obtain⟨φ,ρ,s,c,s',E,R,e,q⟩:=h
 obtain⟨x,s1,e1,e⟩:=aa0 e
 cases e
 exact⟨φ,ρ,s,x,_,E,R,e1,fun v φ1 y g1 l1 b1 r1 R1=>q φ1 y g1 l1 R1 v b1 r1⟩
theorem bt7 {m:jZ->jW->j0 jX}(h:TSv Γ (fun ρ s=>(m ρ s).bind fun _ s=>.ok (.next ρ) s) D σ H):bF6 (TEv Γ m) D σ H:=by
 obtain⟨φ,ρ,s,c,s',E,R,e,q⟩:=h
 obtain⟨x,s1,e1,e⟩:=aa0 e
 cases e
 exact⟨φ,ρ,s,x,_,E,R,e1,fun v φ1 y g1 l1 b1 r1 R1=>q φ1 y g1 l1 R1 σ (E.mono g1 l1)⟩
theorem aQ7 {m:jZ->jW->j0 jX}{tg:kE}(h:TSv Γ (fun ρ s=>(m ρ s).bind fun d s=>match ku ρ tg d with|some ρ=>.ok (.next ρ) s|none=>.bad) D σ H):bd4 (TEv Γ m) (gOf Γ.K tg) D σ H:=by
 obtain⟨φ,ρ,s,c,s',E,R,e,q⟩:=h
 obtain⟨x,s1,e1,e⟩:=aa0 e
 refine⟨φ,ρ,s,x,s1,E,R,e1,fun v φ1 z g1 l1 b1 r1 R1=>?_⟩
 cases hb:ku ρ tg x with
 | none=>rw[hb]at e;cases e
 | some ρ1 =>
  rw[hb]at e
  cases e
  exact bm4 (E.mono g1 l1) r1 b1 hb fun σ' y=>q φ1 z g1 l1 R1 σ' y
theorem aZ7 {m:jZ->jW->j0 (List jX)}(h:TSv Γ (fun ρ s=>((m ρ s).bind fun l s=>kH (.lst l) s).bind fun d s=>match ku ρ tg d with|some ρ=>.ok (.next ρ) s|none=>.bad) D σ H):bd4 (TFv Γ m) (gOf Γ.K tg) D σ H :=
 aR8 (aQ7 h)
def bH7 (Γ:Gm):bL9:=fun o i v H Q=>∃ φ s x y d s',Rp Γ φ H s/\RV Γ φ H x o/\RV Γ φ H y i/\RV Γ φ H d v/\x.bnd s.length=true/\y.bnd s.length=true/\d.bnd s.length=true/\DV.setIx x y d s=.ok () s' /\
 ∀ φ' H',Gr φ s H φ' s' H'->s.length<=s'.length->Rp Γ φ' H' s'->Q H'
theorem bd8 {me Z G:jZ->jW->j0 jX}(h:TSv Γ (fun ρ s=>(me ρ s).bind fun d s=>(Z ρ s).bind fun x s=>(G ρ s).bind fun y s=>(DV.setIx x y d s).bind fun _ s=>.ok (.next ρ) s) D σ H) :
  bd4 (TEv Γ me) (bV0 (TEv Γ Z) (TEv Γ G) (bH7 Γ)) D σ H:=by
 obtain⟨φ,ρ,s,c,s',E,R,e,q⟩:=h
 obtain⟨d,s1,e1,e⟩:=aa0 e
 obtain⟨x,s2,e2,e⟩:=aa0 e
 obtain⟨y,s3,e3,e⟩:=aa0 e
 obtain⟨u,s4,e4,e⟩:=aa0 e
 cases e
 refine⟨φ,ρ,s,d,s1,E,R,e1,fun v1 φ1 H1 g1 l1 b1 r1 R1=>?_⟩
 refine⟨φ1,ρ,s1,x,s2,E.mono g1 l1,R1,e2,fun v2 φ2 H2 g2 C b2 r2 R2=>?_⟩
 have G2:=g1.trans g2 l1
 have L2:=aj l1 C
 refine⟨φ2,ρ,s2,y,s3,E.mono G2 L2,R2,e3,fun v3 φ3 H3 z F b3 r3 R3=>?_⟩
 refine⟨φ3,s3,x,y,d,_,R3,RV.mono z x v2 b2 r2,r3,RV.mono (g2.trans z C) d v1 b1 r1,zc F x b2,b3,zc (aj C F) d b1,e4,fun φ4 H4 J l4 R4=>?_⟩
 have Y:=G2.trans z L2
 have L3:=aj L2 F
 exact q φ4 H4 (Y.trans J L3) (aj L3 l4) R4 σ (E.mono (Y.trans J L3) (aj L3 l4))
theorem bw3 (hu:X.A.units+1<cLine):bT1 X (bH7 Γ):=by
 intro Z sh σ H o i v ov iv u Q I ro ri rv h
 obtain⟨φ,s,x,y,d,s',R,rx,ry,rd,bx,Y,bd,C,q⟩:=h
 cases x with
 | ref r =>
  have C:(match s[r]? with
   | some (.lst l)=>(match y with
    | .int i=>(match kL l.length i with|some j=>DV.R.ok () (s.set r (.lst (l.set j d)))|none=>.bad)
    | _=>.bad)
   | some (.dic l)=>if y.key&&decide (l.length<j4)then .ok () (s.set r (.dic (ka y d l)))else .bad
   | some (.dit l)=>if y.keyT&&decide (l.length<j4)then .ok () (s.set r (.dit (ka y d l)))else .bad
   | _=>.bad)=.ok () s':=C
  cases e:s[r]? with
  | none=>rw[e]at C;cases C
  | some ob =>
   rw[e]at C
   cases ob with
   | lst l =>
    cases y with
    | int k =>
     have C:(match kL l.length k with|some j=>DV.R.ok () (s.set r (.lst (l.set j d)))|none=>.bad)=.ok () s':=C
     cases ej:kL l.length k with
     | none=>rw[ej]at C;cases C
     | some j =>
      rw[ej]at C
      cases C
      obtain⟨xs,h1,F⟩:=R.addr e
      have hb:jY s.length (l.set j d)=true:=aa3.mpr fun z hz=>by
       rcases List.mem_or_eq_of_mem_set hz with h|h
       ·exact aa3.mp (by have:=R.wf r _ e;unfold j3 at this;exact this) z h
       ·subst h;exact bd
      refine aZ0 Z sh σ H o i v ov iv u Q I ro ri rv ⟨φ r,xs,k,j,rx.refE,ry.intE,h1,?_,?_⟩
      ·rw[F.length];exact ej
      ·obtain⟨g,R'⟩:=R.set (o:=.lst (l.set j d)) (u:=.lst (xs.set j v)) e rfl hb fun H' g e=>⟨_,e,RVL.monoW g _ _ hb (F.set j rd)⟩
       exact q _ _ g (by simp) R'
    | _=>exact fb C
   | dic l =>
    have C:(if y.key&&decide (l.length<j4)then DV.R.ok () (s.set r (.dic (ka y d l)))else .bad)=.ok () s':=C
    split at C
    case isFalse=>exact fb C
    rename_i hc
    cases C
    rw[ai]at hc
    obtain⟨k,hk⟩:=ai3 hc.1
    have hlt:=of_decide_eq_true hc.2
    obtain⟨J,h1,F⟩:=R.obj r _ e
    have ex:=rx.refE;subst ex
    cases ro
    have ey:=ay9 hk ry;subst ey
    have hb:(DV.O.dic (ka y d l)).bnd s.length=true:=aE5 (R.wf r _ e) Y bd
    have G:jY s.length ((ka y d l).map (·.2))=true:=by
     unfold j3 at hb
     rw[ai]at hb
     exact hb.2
    obtain⟨g,R'⟩:=R.set (o:=.dic (ka y d l)) (u:=.dK (ao2 J k v)) e rfl hb fun H' g e=>⟨_,e,RVD.monoW g _ _ G (F.put keyOf_inj hk rd)⟩
    exact az0 hu I (bv2.k h1 (by rw[F.length];exact ax hlt zC)) ri rv fun s4 I4=>⟨_,I4,q _ _ g (by simp) R'⟩
   | dit l =>
    have C:(if y.keyT&&decide (l.length<j4)then DV.R.ok () (s.set r (.dit (ka y d l)))else .bad)=.ok () s':=C
    split at C
    case isFalse=>exact fb C
    rename_i hc
    cases C
    rw[ai]at hc
    obtain⟨k,hk⟩:=am5 hc.1
    have hlt:=of_decide_eq_true hc.2
    obtain⟨J,h1,F⟩:=R.obj r _ e
    have ex:=rx.refE;subst ex
    cases ro
    obtain⟨kb,ey,a0⟩:=aC8 hk ry;subst ey
    have hb:(DV.O.dit (ka y d l)).bnd s.length=true:=bc1 (R.wf r _ e) Y bd
    have G:jY s.length ((ka y d l).map (·.2))=true:=by
     unfold j3 at hb
     rw[ai]at hb
     exact hb.2
    obtain⟨g,R'⟩:=R.set (o:=.dit (ka y d l)) (u:=.dT (ao2 J k v)) e rfl hb fun H' g e=>⟨_,e,RVD.monoW g _ _ G (F.put keyT_inj hk rd)⟩
    exact az0 hu I (bv2.t h1 a0 (by rw[F.length];exact ax hlt zC)) ri rv fun s4 I4=>⟨_,I4,q _ _ g (by simp) R'⟩
   | _=>exact fb C
 | _=>exact fb C
theorem bS8 {mc:jZ->jW->j0 jX}{z C:jZ->jW->j0 kF}(h:TSv Γ (fun ρ s=>j8 (mc ρ s) fun k s=>if k then z ρ s else C ρ s) D σ H):bU0 (TTv Γ mc) (TSv Γ z) (TSv Γ C) D σ H:=by
 obtain⟨φ,ρ,s,d,s',E,R,y,q⟩:=h
 obtain⟨c,s1,e1,y⟩:=zw y
 refine⟨φ,ρ,s,c,s1,E,R,e1,fun φ1 F g1 l1 R1=>?_⟩
 cases c with
 | true =>
  rw[if_pos rfl]at y ⊢
  exact⟨φ1,ρ,s1,d,s',E.mono g1 l1,R1,y,q.trans g1 l1⟩
 | false =>
  rw[if_neg aO]at y ⊢
  exact⟨φ1,ρ,s1,d,s',E.mono g1 l1,R1,y,q.trans g1 l1⟩
theorem bG4 {C G:jZ->jW->j0 kF}(h:TSv Γ (fun ρ s=>(C ρ s).bind fun c s=>match c with|.next ρ=>G ρ s|c=>.ok c s) D σ H):bT9 (TSv Γ C) (TSv Γ G) D σ H:=by
 obtain⟨φ,ρ,s,c,s',E,R,y,q⟩:=h
 obtain⟨F,s1,e1,y⟩:=aa0 y
 refine⟨φ,ρ,s,F,s1,E,R,e1,fun φ1 z g1 l1 R1=>?_⟩
 cases F with
 | next ρ1=>exact fun σ1 J=>⟨φ1,ρ1,s1,c,s',J,R1,y,q.trans g1 l1⟩
 | ret d=>cases y;exact q φ1 z g1 l1 R1
 | cont ρ=>cases y;exact q φ1 z g1 l1 R1
 | brk ρ=>cases y;exact q φ1 z g1 l1 R1
theorem bd9 {mc:jZ->jW->j0 jX}{z:jZ->jW->j0 kF}(h:TSv Γ (DV.whl mc z) D σ H):bh2 (TTv Γ mc) (TSv Γ z) D σ H:=by
 obtain⟨φ,ρ,s,c,s',E,R,y,q⟩:=h
 unfold DV.whl at y
 split at y
 case isFalse=>exact fb y
 rename_i hn
 generalize hn.choose=n at y
 refine⟨fun n σ H=>∃ φ ρ s,RE Γ φ H s.length ρ σ/\Rp Γ φ H s/\DV.qz mc z n ρ s=.ok c s'/\al4 Γ φ s H c s' D,⟨n,φ,ρ,s,E,R,y,q⟩,?_⟩
 clear E R y q hn
 rintro n σ H ⟨φ,ρ,s,E,R,y,q⟩
 cases n with
 | zero=>exact fb y
 | succ n =>
  unfold DV.qz at y
  obtain⟨b,s1,e1,y⟩:=zw y
  refine⟨φ,ρ,s,b,s1,E,R,e1,fun φ1 Y g1 l1 R1=>?_⟩
  cases b with
  | false =>
   rw[if_neg aO]at y ⊢
   cases y
   exact q φ1 Y g1 l1 R1 σ (E.mono g1 l1)
  | true =>
   rw[if_pos rfl]at y ⊢
   obtain⟨J,s2,e2,y⟩:=aa0 y
   refine⟨_,fun σ' H' w=>⟨n,cW n,w⟩,φ1,ρ,s1,J,s2,E.mono g1 l1,R1,e2,fun φ2 F g2 Z R2=>?_⟩
   have G:=g1.trans g2 l1
   have L:=aj l1 Z
   cases J with
   | next ρ1=>exact fun σ1 C=>⟨φ2,ρ1,s2,C,R2,y,q.trans G L⟩
   | cont ρ1=>exact fun σ1 C=>⟨φ2,ρ1,s2,C,R2,y,q.trans G L⟩
   | ret d=>cases y;exact q φ2 F G L R2
   | brk ρ=>cases y;exact q φ2 F G L R2
theorem bE8 {mI : DV.Env -> DV.Sto -> DV.R DV.Sq} {mb : DV.Env -> DV.Sto -> DV.R DV.Ct} {tg : DV.Tg} (h : TSv Γ (fun ρ s => (mI ρ s).bind fun q s0 => DV.aN9 (fun s => DV.chk s0 s q.src) (fun d ρ s => match DV.ad4 ρ tg d with
      | some ρ => mb ρ s
      | none => .bad) q.its ρ s0) D σ H) : bU6 (TIv Γ mI) (gOf Γ.K tg) (TSv Γ mb) D σ H := by
  obtain⟨φ, ρ, s, c, s', E, R, hm, k⟩ := h
  obtain⟨q, s0, e1, hm⟩ := aa0 hm
  refine⟨φ, ρ, s, q, s0, E, R, e1, fun J φ1 H1 g1 l1 b1 R1 wk => ?_⟩
  refine⟨fun i m σ' H' => ∃ φ' ρ' t, Gr φ1 s0 H1 φ' t H' /\ Rp Γ φ' H' t /\ RE Γ φ' H' t.length ρ' σ' /\ i <= q.its.length /\ m = q.its.length - i /\
    lw (fun s => kt s0 s q.src) (fun d ρ s => match ku ρ tg d with
      | some ρ => mb ρ s
      | none => .bad) (q.its.drop i) ρ' t = .ok c s', ⟨q.its.length, ?_⟩, ?_⟩
  · exact⟨φ1, ρ, s0, Gr.refl _ _ _, R1, E.mono g1 l1, cz _, by simp, by rw[dG]; exact hm⟩
  · rintro i m σ' H' ⟨φ', ρ', t, g, R', E', hil, rfl, hc⟩
    have hle := g.le
    rcases jL i q.its.length with hlt|hge
    · have hd : q.its[i]? = some q.its[i] := ak hlt
      rw[eR hlt]at hc
      unfold lw at hc
      split at hc
      case isFalse => exact fb hc
      rename_i hck
      obtain⟨hgo, hy2⟩ := (wk φ' H' t g hle R' hck i).1 hlt
      refine .inr ⟨hgo, _, fun σ2 H2 n => ⟨q.its.length - (i + 1), by omega, n⟩, fun x H2 hyl => ?_⟩
      obtain⟨sm, rv⟩ := hy2 x H2 hyl
      obtain⟨g2, R2⟩ := R'.same sm
      have rd := rv _ hd
      have bd : (q.its[i]).bnd t.length = true := zc hle _ (ai9 b1 hd)
      obtain⟨c1, t3, hs, hc⟩ := aa0 hc
      cases hb : ku ρ' tg q.its[i]with
      | none => rw[hb]at hs; cases hs
      | some ρ3 =>
        rw[hb]at hs
        refine bm4 (E'.mono g2 (am _)) rd bd hb fun σ3 E3 => ?_
        refine⟨φ', ρ3, t, c1, t3, E3, R2, hs, fun φ2 H4 g4 l4 R4 => ?_⟩
        have G4 := (g.trans g2 hle).trans g4 hle
        have L4 := aj hle l4
        have GG := g1.trans G4 l1
        cases c1 with
        | next ρ1 => exact fun σ1 E1 => ⟨φ2, ρ1, t3, G4, R4, E1, hlt, rfl, hc⟩
        | cont ρ1 => exact fun σ1 E1 => ⟨φ2, ρ1, t3, G4, R4, E1, hlt, rfl, hc⟩
        | ret d => cases hc; exact k φ2 H4 GG (aj l1 L4) R4
        | brk ρ => cases hc; exact k φ2 H4 GG (aj l1 L4) R4
    · rw[f8 hge]at hc
      unfold lw at hc
      split at hc
      case isFalse => exact fb hc
      rename_i hck
      cases hc
      exact .inl ⟨(wk φ' H' s' g hle R' hck i).2 hge, k φ' H' (g1.trans g l1) (aj l1 hle) R' σ' E'⟩
structure Ck where
 N:List Str
 sc:Scope
 lk:String->List Nat->Expr->Bool
noncomputable abbrev ck0 (N:List Str)(sc:Scope):Ck:=⟨N,sc,fun _ _ _=>false⟩
noncomputable def Ck.vis (c:Ck)(x:Str):Bool:=match c.sc.names.lookup x with|some .local=>true|some .cell=>true|some .free=>true|_=>false
noncomputable def Ck.loc (c:Ck)(x:Str):Bool:=match c.sc.names.lookup x with|some .local=>true|some .cell=>true|_=>false
noncomputable def Ck.gl (c:Ck)(x:Str):Bool:=(match c.sc.names.lookup x with|some .globalImplicit=>true|_=>false)&&!(x==("__debug__":Str))&&!decide (x=("__name__":Str))
noncomputable def Ck.var (c:Ck)(i:Nat)(x:Str):Bool:=decide (c.N[i]?=some x)&&c.vis x&&!(x==("__debug__":Str))&&!(x==("__classdict__":Str))
noncomputable def shp:Expr->Bool
 | .Starred ..=>false
 | .Set ..=>false
 | .SetComp ..=>false
 | .DictComp ..=>false
 | .GeneratorExp ..=>false
 | .Slice ..=>false
 | .NamedExpr ..=>false
 | _=>true
noncomputable def az1:Expr->Bool
 | .ListComp ..=>false
 | .SetComp ..=>false
 | .DictComp ..=>false
 | _=>true
noncomputable def bD9:Expr->Bool
 | .Tuple ..=>false
 | _=>true
noncomputable def bd6:Expr->Bool
 | .Call _ [] [] _=>false
 | _=>true
noncomputable def mC:DV.Cn->Const->Bool
 | .non,.none=>true
 | .bl b,.bool c=>b==c
 | .int i,.int j=>decide (i=j)
 | .str x,.str y=>decide (y=⟨x.toArray⟩)&&decide (x.length<=1000)
 | _,_=>false
noncomputable def bL3 (ck:Ck):List Nat->List Expr->Bool
 | [],[]=>true
 | i::is,.Name x _::es=>decide (ck.N[i]?=some x)&&ck.loc x&&bL3 ck is es
 | _,_=>false
noncomputable def mTg (ck:Ck):kE->Expr->Bool
 | .one i,.Name x _=>decide (ck.N[i]?=some x)&&ck.loc x
 | .tup is,.Tuple es _ _=>bL3 ck is es
 | _,_=>false
noncomputable def tgN:Expr->List Str
 | .Name x _=>[x]
 | .Tuple es _ _=>es.filterMap fun e=>match e with|.Name x _=>some x|_=>none
 | _=>[]
structure ItT where
 x:Str
 y:Str
 ob:Expr
 sc:Scope
 p1:Pos
 p2:Pos
 p3:Pos
 p4:Pos
 p5:Pos
 p6:Pos
 p7:Pos
 k1:Nat
 k2:Nat
 ap:Pos
 cp:Pos
 pos:Pos
noncomputable def ItT.tg (q:ItT):Expr:=.Tuple [.Name q.x q.p5,.Name q.y q.p6] q.k2 q.p7
noncomputable def ItT.it (q:ItT):Expr:=.Call (.Attribute q.ob "items" q.ap) [] [] q.cp
noncomputable def ItT.text (q:ItT):Expr:=.ListComp (.BinOp (.Name q.x q.p1) .Add (.Tuple [.Name q.y q.p2] q.k1 q.p3) q.p4) [⟨q.tg,q.it,[],0⟩] q.sc q.pos
noncomputable def ckC (ck:Ck)(tgt:Expr)(caps:List (Option Nat))(scope:Scope):Ck:=⟨tgN tgt++(caps.filterMap id).map fun j=>ck.N.getD j "",scope,fun _ _ _=>false⟩
noncomputable def aK9 (ck:Ck)(tg:kE)(tgt iter:Expr)(caps:List (Option Nat))(scope:Scope):Bool :=
 zJ (ckC ck tgt caps scope).N caps scope ck.N ck.sc&&decide ((ckC ck tgt caps scope).N.Nodup)&&mTg (ckC ck tgt caps scope) tg tgt&&shp iter
noncomputable def bI8:Expr->Bool
 | .Tuple ..=>true
 | _=>false
noncomputable def biT:kD->Option Str
 | .len=>some "len" | .abs=>some "abs" | .min2=>some "min" | .max2=>some "max" | .int=>some "int" | .str=>some "str" | _=>none
noncomputable def biK:kD->Option (Nat×Str)
 | .isInt=>some (1, "int")|.isBool=>some (2, "bool")|.isStr=>some (3, "str")|.isTup=>some (4, "tuple")|.isList=>some (5, "list")|_=>none
noncomputable def mkT:li->Option Str
 | .tuple=>some "tuple" | .list=>some "list" | _=>none
noncomputable def mkF:li->Option Str
 | .all=>some "all" | .min=>some "min" | _=>none
noncomputable def mtT:lj->Option (Str×Nat)
 | .append=>some ("append",1)|_=>none
noncomputable def bK8 (ck:Ck)(b:kD)(x:Str)(xs:List Expr)(m1 m2:Bool):Bool:=match biK b with
 | some p=>(match xs with|[_,.Name y _]=>decide (x=("isinstance":Str))&&ck.gl x&&decide (y=p.2)&&ck.gl y&&m2|_=>false)
 | none=>(match xs with|_::_=>decide (biT b=some x)&&ck.gl x&&m1|[]=>false)
noncomputable def lamArgs:bT->Option (List Str)
 | ⟨[],args,none,[],[],none,[]⟩=>some (args.map (·.arg))
 | _=>none
mutual
noncomputable def mE (ck:Ck):kO->Expr->Bool
 | .var i,E=>match E with|.Name x _=>ck.var i x|_=>false
 | .cst c,E=>match E with|.Constant v _ _=>mC c v|_=>false
 | .glob g,E=>match E with|.Name x _=>decide (x=(g:Str))&&ck.gl x|_=>false
 | .bin op a b,E=>match E with|.BinOp l o r _=>decide (o=bO2 op)&&mE ck a l&&mE ck b r|_=>false
 | .neg _,_=>false
 | .not a,E=>match E with|.UnaryOp .Not l _=>mE ck a l|_=>false
 | .cmp op a b,E=>match E with|.Compare l [o] [r] _=>decide (o=an6 op)&&mE ck a l&&mE ck b r|_=>false
 | .chain o p a b c,E=>match E with|.Compare l [o1,o2] [m,r] _=>decide (o1=an6 o)&&decide (o2=an6 p)&&mE ck a l&&mE ck b m&&mE ck c r|_=>false
 | .isN _,_=>false
 | .notN _,_=>false
 | .isB _ _,_=>false
 | .notB _ _,_=>false
 | .and a b,E=>match E with
  | .BoolOp .And [l,r] _=>mE ck a l&&mE ck b r
  | .BoolOp .And (l::m::r::es) p=>mE ck a l&&mE ck b (.BoolOp .And (m::r::es) p)
  | _=>false
 | .or a b,E=>match E with
  | .BoolOp .Or [l,r] _=>mE ck a l&&mE ck b r
  | .BoolOp .Or (l::m::r::es) p=>mE ck a l&&mE ck b (.BoolOp .Or (m::r::es) p)
  | _=>false
 | .ite c a b,E=>match E with|.IfExp t l r _=>mE ck c t&&mE ck a l&&mE ck b r|_=>false
 | .tup es,E=>match E with|.Tuple xs _ _=>mEs ck es xs&&decide (xs.length<=1000)|_=>false
 | .lst es,E=>match E with|.List xs _=>mEs ck es xs&&decide (xs.length<=1000)|_=>false
 | .dic ks vs,E=>match E with|.Dict a b _=>(match a,b with|[],[]=>mEs ck ks []&&mEs ck vs []|[some x],[y]=>mEs ck ks [x]&&mEs ck vs [y]|_,_=>false)|_=>false
 | .slL a lo,E=>match E with|.Subscript o (.Slice (some l) none none _) _=>mE ck a o&&mE ck lo l|_=>false
 | .slU a hi,E=>match E with|.Subscript o (.Slice none (some h) none _) _=>mE ck a o&&mE ck hi h|_=>false
 | .slLU _ _ _,_=>false
 | .rev _,_=>false
 | .fstr _,_=>false
 | .inC _ _,_=>false
 | .getC _ _,_=>false
 | .bitl _,_=>false
 | .lrng _,_=>false
 | .dicT,_=>false
 | .get2 _ _ _,_=>false
 | .ix a b,E=>match E with|.Subscript o i _=>mE ck a o&&mE ck b i|_=>false
 | .call f as,E=>match E with|.Call (.Name x _) xs [] _=>decide (x=(f:Str))&&ck.gl x&&mAs ck as xs|_=>false
 | .callC _ _,_=>false
 | .callV _ _,_=>false
 | .bi b es,E=>match E with|.Call (.Name x _) xs [] _=>bK8 ck b x xs (mEs ck es xs) (mEs ck es (xs.take 1))|_=>false
 | .mk k l,E=>match E with
  | .Call (.Name x _) [a] [] _=>ck.gl x&&shp a&&((decide (mkT k=some x)&&mL ck 2 l a)||(decide (mkF k=some x)&&mL ck 1 l a))
  | .ListComp e gs sc p=>decide (k=.list)&&mL ck 0 l (.ListComp e gs sc p)
  | _=>false
 | .mkD _ _ _,_=>false
 | .meth m o es,E=>match E with
  | .Call (.Attribute ob x ap) xs [] cp=>decide (mtT m=some (x,xs.length))&&bd6 ob&&(ap.endLine==cp.line)&&mE ck o ob&&mEs ck es xs
  | _=>false
 | .ext o l,E=>match E with
  | .Call (.Attribute ob x ap) [a] [] cp=>decide (x=("extend":Str))&&bd6 ob&&(ap.endLine==cp.line)&&mE ck o ob&&mL ck 1 l a&&shp a
  | _=>false
 | .extS _ _,_=>false
 | .mks _ _,_=>false
 | .mkDs _ _ _,_=>false
 | .minK _ _ _,_=>false
 | .spl o c,E=>match E with
  | .Call (.Attribute ob x ap) [a] [] cp=>(match a with|.Constant v _ _=>decide (v=.str ⟨#[c]⟩)|_=>false)&&decide (x=("split":Str))&&bd6 ob&&(ap.endLine==cp.line)&&mE ck o ob
  | _=>false
 | .join o e,E=>match E with
  | .Call (.Attribute ob x ap) [a] [] cp=>decide (x=("join":Str))&&bd6 ob&&(ap.endLine==cp.line)&&mE ck o ob&&mE ck e a&&shp a
  | _=>false
noncomputable def mEs (ck:Ck):kx->List Expr->Bool
 | .nil,xs=>match xs with|[]=>true|_=>false
 | .cons e es,xs=>match xs with|x::xs=>mE ck e x&&shp x&&mEs ck es xs|_=>false
noncomputable def mFs (ck:Ck):kx->List Expr->Bool
 | .nil,xs=>match xs with|[]=>true|_=>false
 | .cons e es,xs=>match xs with
  | .FormattedValue v c none _::xs=>decide (c=-1)&&mE ck e v&&mFs ck es xs
  | .Constant v j p::xs=>mE ck e (.Constant v j p)&&mFs ck es xs
  | _=>false
noncomputable def mAs (ck:Ck):lp->List Expr->Bool
 | .nil,xs=>match xs with|[]=>true|_=>false
 | .ex e es,xs=>match xs with|x::xs=>mE ck e x&&shp x&&mAs ck es xs|_=>false
 | .lam _ _ _,_=>false
 | .fn _ _,_=>false
noncomputable def bW3 (ck:Ck):lp->List Expr->Bool
 | .nil,xs=>match xs with|[]=>true|_=>false
 | .ex e es,xs=>match xs with|x::xs=>mE ck e x&&shp x&&bW3 ck es xs|_=>false
 | .lam _ _ _,_=>false
 | .fn _ _,_=>false
noncomputable def mI (ck:Ck)(tgt:Expr):DV.I->Expr->Bool
 | .rng1 a,E=>match E with|.Call (.Name x _) [l] [] _=>decide (x=("range":Str))&&ck.gl x&&mE ck a l&&shp l|_=>false
 | .rng2 _ _,_=>false
 | .seq e,x=>mE ck e x&&shp x
 | .rng3 _ _ _,_=>false
 | .enum (.seq _),_=>false
 | .zip (.seq a) (.seq b),E=>match E with|.Call (.Name x _) [l,r] [] _=>decide (x=("zip":Str))&&ck.gl x&&mE ck a l&&shp l&&mE ck b r&&shp r&&bI8 tgt|_=>false
 | .enum _,_=>false
 | .zip _ _,_=>false
 | .items _,_=>false
noncomputable def mL (ck:Ck)(k:Nat):DV.L->Expr->Bool
 | .comp tg it e caps,E=>match E with|.ListComp elt [⟨tgt,iter,[],z⟩] scope _=>decide (z=0)&&aK9 ck tg tgt iter caps scope&&mI ck tgt it iter&&mE (ckC ck tgt caps scope) e elt|_=>false
 | .compIf tg it c e caps,E=>match E with|.ListComp elt [⟨tgt,iter,[i],z⟩] scope _=>decide (z=0)&&aK9 ck tg tgt iter caps scope&&mI ck tgt it iter&&mE (ckC ck tgt caps scope) c i&&mE (ckC ck tgt caps scope) e elt|_=>false
 | .disp es,E=>match E with|.List xs _=>decide (1<=k)&&mEs ck es xs&&decide (xs.length<=1000)|_=>false
 | .seq e,x=>decide (k=2)&&mE ck e x
 | .itm _,_=>false
end
theorem ff {p:Prop}(h:false=true):p:=Bool.noConfusion h
mutual
noncomputable def mS (ck:Ck):DV.S->Stmt->Bool
 | .asg tg e,S=>match S with
  | .Assign [t] v _=>mTg ck tg t&&mE ck e v&&(match tg with|.one _=>true|.tup _=>bD9 v&&az1 v)
  | _=>false
 | .setIx o i e,S=>match S with|.Assign [.Subscript ob ix _] v _=>mE ck o ob&&mE ck i ix&&mE ck e v&&az1 v|_=>false
 | .aug _ _,_=>false
 | .ex e,S=>match S with|.Expr v _=>mE ck e v&&az1 v|_=>false
 | .ret e,S=>match S with|.Return (some v) _=>mE ck e v|_=>false
 | .retN,_=>false
 | .ite c a b,S=>match S with|.If t l r _=>mE ck c t&&mSs ck a l&&mSs ck b r|_=>false
 | .whl c b,S=>match S with|.While t l [] _=>mE ck c t&&mSs ck b l|_=>false
 | .for_ tg it b,S=>match S with|.For tgt iter l [] _=>mTg ck tg tgt&&mI ck tgt it iter&&mSs ck b l|_=>false
 | .pass,_=>false
 | .cont,_=>false
 | .brk,_=>false
 | .raise,_=>true
 | .und _,_=>false
noncomputable def mSs (ck:Ck):DV.Ss->List Stmt->Bool
 | .nil,xs=>match xs with|[]=>true|_=>false
 | .cons s ss,xs=>match xs with|x::xs=>(mS ck s x&&mSs ck ss xs)|_=>false
end
theorem au9 {y:Ck}{e:kO}{E:Expr}(h:mE y e E=true):shp E=true:=by
 cases E<;>first|rfl|(exfalso;cases e<;>exact ff h)
theorem bI3 {z:Ck}{y:Expr}{e:DV.I}{E:Expr}(h:mI z y e E=true):shp E=true:=by
 cases e with
 | seq e=>have h:(mE z e E&&shp E)=true:=h;rw[ai]at h;exact h.2
 | enum a=>cases E<;>first|rfl|(exfalso;cases a<;>exact ff h)
 | zip a b=>cases E<;>first|rfl|(exfalso;cases a<;>first|exact ff h|(cases b<;>exact ff h))
 | _=>cases E<;>first|rfl|exact ff h
theorem za {e:Expr}{es:List Expr}{env:Env}(h:shp e=true):br (e::es) env=(false,eval e env)::br es env:=by
 cases e<;>first|rfl|cases h
theorem zD {env:Env}{pos:Pos}:∀ {es:List Expr},(∀ e∈es,shp e=true)->(d5 pos (br es env)).any (·.1)=false/\(d5 pos (br es env)).all (fun x=>!x.1)=true
 | [],_=>⟨rfl,rfl⟩
 | e::es,h=>by
  have C:=za (es:=es) (env:=env) (h e (au ..))
  obtain⟨y,z⟩:=zD (env:=env) (pos:=pos) (es:=es) fun x hx=>h x (ao _ hx)
  rw[C]
  unfold d5 at y z ⊢
  simp only[aB,fw,cM,y,z]
  exact⟨rfl,rfl⟩
theorem aA9 {e:Expr}{env:Env}(h:shp e=true)(x:Value):cP e env x=pure x:=by
 cases e<;>first|rfl|cases h
theorem am0 {e:Expr}{op:CmpOp}(h:shp e=true):fj op e=false:=by
 cases e<;>first|rfl|cases h
theorem as5 {e:Expr}{t:Option Expr}{l:Nat}{env:Env}(h:az1 e=true):eD e t l env=pure false:=by
 cases e<;>first|rfl|cases h
theorem al3 {e:Expr}{f:Str}{env:Env}(h:bd6 e=true):ft e f env (eval e env)=eval e env:=by
 cases e with
 | Call g a k p =>
  cases g with
  | Name x p' =>
   cases a with
   | nil=>cases k with
    | nil=>cases h
    | cons _ _=>rfl
   | cons _ _=>rfl
  | _=>rfl
 | _=>rfl
theorem aL5 {es:List Expr}{k:Nat}{p:Pos}{e:Expr}{env:Env}(h:bD9 e=true):g9 [.Tuple es k p] e env=pure none:=by
 cases e<;>first|rfl|cases h
theorem aM8 {o i:Expr}{p:Pos}{e:Expr}{env:Env}:g9 [.Subscript o i p] e env=pure none:=by
 cases e<;>rfl
theorem aN5 {e:Expr}(h:shp e=true):aW9 e:=by
 intro o i
 cases e<;>first|rfl|cases h
def spV (Γ:Gm)(c:List jX->jW->j0 jX):Sp:=fun vs H Q _=>rCl Γ c vs H Q
noncomputable def bNames:List Str:=["len", "abs", "min", "max", "int", "isinstance", "bool", "str", "tuple", "list", "range", "sum", "all", "any", "sorted", "zip", "enumerate", "ord"]
def spL (Γ:Gm)(c:List jX->List jX->jW->j0 jX)(cap:List V):Sp:=fun vs H Q _=>∃ φ s cs l d s',Rp Γ φ H s/\RVL Γ φ H l vs/\RVL Γ φ H cs cap/\jY s.length l=true/\jY s.length cs=true/\c cs l s=.ok d s'/\ae0 Γ φ s H d s' Q
noncomputable def LamI.own (J:LamI):Str:=match J.nm with|none => "<lambda>" | some p=>p.1
noncomputable def lamText (J:LamI)(params:bT)(body:Expr)(scope:Scope)(pos:Pos):Expr:=match J.nm with
 | none=>.Lambda params body scope pos
 | some p=>.NamedExpr (.Name p.1 p.2) (.Lambda params body scope pos) pos
structure LamHere (Γ:Gm)(X:Cx)(N:List Str)(id:String)(caps:List Nat)(params:bT)(body:Expr)(scope:Scope)(c P:Addr)(J:LamI):Prop where
 code:X.env.code=.ref c
 hd:cj X.base c P
 bm:BM X.mg X.base
 ck:lamCheck scope X.env.scope=true
 df:defaultsOf params X.env=([],[])
 lg:Γ.lg id J
 q:J.qual=X.env.qual++J.own
 p:J.params=params
 b:J.body=body
 s:J.scope=scope
 len:J.fr.length=caps.length
 at_:∀(i j:Nat) (x:Str),caps[i]?=some j->J.fr[i]?=some x->N[j]?=some x
 fr:∀ x∈J.fr,scope.names.lookup x=some .free
 cl:∀ x,scope.names.lookup x=some .free->∃ c,X.env.cells.lookup x=some c
 tab:(P,J.qual)∈Γ.T
 nd:(Γ.T.map (·.1)).Nodup
 fn:∀ x,X.fn x=true
 kd:∀ x c,X.env.cells.lookup x=some c->X.env.kindOf x=some .cell\/X.env.kindOf x=some .free
 gs:LamScope (J.ps++J.fr) J.ps J.fr J.scope
 gp:lamArgs J.params=some J.ps
 gb:∀(clos:List (Str×Addr)) (pm:Value) (c':Addr) (ctv:Value) (us:List Value),us.length=J.ps.length->dA (cU "<lambda>" J.qual J.params J.body J.scope clos pm (.ref c') ctv) ⟨us,[]⟩=pure (J.ps.zip us)
noncomputable def strD (kvs:List (List Nat×List Nat)):List (PyData×PyData):=kvs.map fun p=>(.str ⟨p.1.toArray⟩,.str ⟨p.2.toArray⟩)
structure CG (Γ:Gm)(F:ke)(n:Nat)(X:Cx)(ck:Ck):Prop where
 K:X.K=Γ.K
 N:X.N=ck.N
 nd:ck.N.Nodup
 xe:X.xe=fun _ _=>False
 calm:X.calm=true
 deep:j9+1<=n
 room:Room n X.A
 sc:∀ x k,ck.sc.names.lookup x=some k->X.env.scope.names.lookup x=some k\/(k=.free/\X.env.scope.names.lookup x=some .cell)
 fn:∀ x,ck.sc.names.lookup x=some .cell->X.fn x=true
 bi:∀ x∈bNames,X.mg x=none
 call:∀ f:String,(∀ l s,F.call f l s=.bad)\/∃ a fd ps,FnOk X.prog X.w X.K X.mg X.base CX0 n a fd ps (spV Γ (F.call f))/\X.mg (f:Str)=some (.ref a)/\cg X.K (.ref a)=true/\Binds X.K fd ps []
 con:∀ x d,F.con x=some d->∃ v u,X.mg (x:Str)=some u/\RelV v u/\(∀ m,d.bnd m=true)/\∀ φ H,RV Γ φ H d v
 lam:∀ id caps E,ck.lk id caps E=true->∃ c P params body scope pos J,E=lamText J params body scope pos/\LamHere Γ X ck.N id caps params body scope c P J
 cl:∀(id:String) (J:LamI) (f:Addr) (cap:List V) (clos:List (Str×Addr)),Γ.lg id J->cap.length=J.fr.length->ClOk X.prog X.w X.K X.mg X.base n (fun H=>CloAt H f J cap clos) f (spL Γ (F.lam id) cap)
 fa:∀(f:String) (a:Addr),Γ.fa f=some a->X.mg (f:Str)=some (.ref a)/\∃ oc od fd sl,X.K.lookup a=some ⟨oc,od,.func fd,sl⟩
 fk:DV.FK F
 cdc:∀ c kvs,F.cdc c=some kvs->∃ a,X.mg (c:Str)=some (.ref a)/\∀ h:Heap,X.K.In h->StrTab X.prog X.w h a (strD kvs)
section
variable {Γ:Gm} {F:ke} {n:Nat} {X:Cx} {ck:Ck}
theorem CG.vis (G:CG Γ F n X ck){x:Str}(h:ck.vis x=true):Vis X.env.scope x:=by
 unfold Ck.vis at h
 split at h
 ·rename_i e;rcases G.sc _ _ e with z|⟨z,_⟩
  ·exact .inl z
  ·cases z
 ·rename_i e;rcases G.sc _ _ e with z|⟨z,_⟩
  ·exact .inr (.inl z)
  ·cases z
 ·rename_i e;rcases G.sc _ _ e with z|⟨_,z⟩
  ·exact .inr (.inr z)
  ·exact .inr (.inl z)
 ·cases h
theorem CG.loc (G:CG Γ F n X ck){x:Str}(h:ck.loc x=true):Loc X.env.scope x/\(X.fn x=true\/X.env.scope.names.lookup x=some .local):=by
 unfold Ck.loc at h
 split at h
 ·rename_i e;rcases G.sc _ _ e with z|⟨z,_⟩
  ·exact⟨.inl z,.inr z⟩
  ·cases z
 ·rename_i e;rcases G.sc _ _ e with z|⟨z,_⟩
  ·exact⟨.inr z,.inl (G.fn _ e)⟩
  ·cases z
 ·cases h
theorem CG.gl (G:CG Γ F n X ck){x:Str}(h:ck.gl x=true):Gl X x/\(x==("__debug__":Str))=false/\x ≠ "__name__":=by
 unfold Ck.gl at h
 simp only[ai,e9]at h
 obtain⟨⟨y,C⟩,J⟩:=h
 refine⟨?_,C,of_decide_eq_false J⟩
 split at y
 ·rename_i e;rcases G.sc _ _ e with z|⟨z,_⟩
  ·exact z
  ·cases z
 ·cases y
theorem bh1 (G:CG Γ F n X ck):∀ {is:List Nat} {es:List Expr},bL3 ck is es=true->PGs X es (bK9 is)/\(cf es X.env).length=is.length/\(cf es X.env).findIdx? (·.1)=none
 | [],[],_=>⟨bn2,rfl,rfl⟩
 | [],_::_,h=>by cases h
 | i::is,[],h=>by cases h
 | i::is,e::es,h=>by
  cases e with
  | Name x p =>
   unfold bL3 at h
   simp only[ai,decide_eq_true_eq]at h
   obtain⟨⟨C,y⟩,J⟩:=h
   obtain⟨l1,z⟩:=G.loc y
   obtain⟨a,b,c⟩:=bh1 G J
   have hs:cf (.Name x p::es) X.env=(false,fJ (.Name x p) X.env)::cf es X.env:=rfl
   refine⟨bb9 (aW6 (by rw[G.N];exact G.nd) (by rw[G.N];exact C) l1 z) a (by rw[hs];rfl),by rw[hs,aL,aL,b],?_⟩
   rw[hs,List.findIdx?_cons]
   simp[c]
  | _=>cases h
theorem bk1 (G:CG Γ F n X ck){tg:kE}{e:Expr}(h:mTg ck tg e=true):PG X e (gOf Γ.K tg):=by
 unfold mTg at h
 split at h
 ·simp only[ai,decide_eq_true_eq]at h
  obtain⟨l1,y⟩:=G.loc h.2
  exact aW6 (by rw[G.N];exact G.nd) (by rw[G.N];exact h.1) l1 y
 ·obtain⟨a,b,c⟩:=bh1 G h
  exact br5 G.K G.calm a b c
 ·cases h
theorem CG.comp (G:CG Γ F n X ck){tg:kE}{Y iter:Expr}{J:List (Option Nat)}{scope:Scope}(h:aK9 ck tg Y iter J scope=true) :
  zJ (ckC ck Y J scope).N J scope X.N X.env.scope=true/\shp iter=true /\
  ∀(C:Addr) (cells:List (Str×Addr)) (s:ae) (H:Hp) (ex:List Addr),CG Γ F n (zx X (ckC ck Y J scope).N scope C cells s H ex) (ckC ck Y J scope)/\PG (zx X (ckC ck Y J scope).N scope C cells s H ex) Y (gOf Γ.K tg):=by
 unfold aK9 at h
 simp only[ai,decide_eq_true_eq]at h
 obtain⟨⟨⟨Z,h2⟩,h3⟩,h4⟩:=h
 refine⟨?_,h4,fun C cells s H ex=>?_⟩
 ·rw[G.N]
  unfold zJ at Z ⊢
  simp only[ai]at Z ⊢
  obtain⟨⟨⟨⟨⟨a1,a2⟩,a3⟩,a4⟩,a5⟩,a6⟩:=Z
  refine⟨⟨⟨⟨⟨a1,?_⟩,a3⟩,a4⟩,a5⟩,a6⟩
  rw[aV]at a2 ⊢
  intro y hy
  have:=a2 y hy
  rw[bt]at this ⊢
  rcases this with q|q
  ·exact .inl q
  ·right
   rw[bt]at q ⊢
   rcases q with q|q
   ·rcases G.sc _ _ (eq_of_beq q)with z|⟨z,_⟩
    ·left;rw[z];exact beq_self_eq_true _
    ·cases z
   ·rcases G.sc _ _ (eq_of_beq q)with z|⟨_,z⟩
    ·right;rw[z];exact beq_self_eq_true _
    ·left;rw[z];exact beq_self_eq_true _
 ·have G':CG Γ F n (zx X (ckC ck Y J scope).N scope C cells s H ex) (ckC ck Y J scope):=by
   refine⟨G.K,rfl,h2,rfl,G.calm,G.deep,G.room,fun x k e=>?_,fun x e=>?_,G.bi,G.call,G.con,fun _ _ _ h=>(by cases h),G.cl,G.fa,G.fk,G.cdc⟩
   ·have q:=zU (env:=X.env) e
    have q':(dX scope X.env).names.lookup x=some (if(k==NameKind.free&&X.env.scope.kind==.function&&X.env.kindOf x==some .cell)then NameKind.cell else k):=q
    show(dX scope X.env).names.lookup x=some k\/_
    rw[q']
    split
    ·rename_i hc
     simp only[ai]at hc
     exact .inr ⟨eq_of_beq hc.1.1,rfl⟩
    ·exact .inl rfl
   ·show(scope.names.lookup x==some .cell)=true
    rw[show scope.names.lookup x=some .cell from e];rfl
  exact⟨G',bk1 G' h3⟩
end
section
variable {Γ:Gm} {F:ke} {n:Nat} {X:Cx} {ck:Ck} {σ:St} {H:Hp} {Q:VK}
theorem TEv.eq {m m':jZ->jW->j0 jX}(e:∀ ρ s,m ρ s=m' ρ s)(q:TEv Γ m σ H Q):TEv Γ m' σ H Q:=by
 have:m=m':=funext fun ρ=>funext fun s=>e ρ s
 subst this;exact q
theorem TTv.eq {m m':jZ->jW->j0 jX}{Q:Bool->Hp->Prop}(e:∀ ρ s,m ρ s=m' ρ s)(q:TTv Γ m σ H Q):TTv Γ m' σ H Q:=by
 have:m=m':=funext fun ρ=>funext fun s=>e ρ s
 subst this;exact q
theorem TAv.eq {m m':jZ->jW->j0 (List jX)}{Q:List V->Hp->Prop}(e:∀ ρ s,m ρ s=m' ρ s)(q:TAv Γ m σ H Q):TAv Γ m' σ H Q:=by
 have:m=m':=funext fun ρ=>funext fun s=>e ρ s
 subst this;exact q
theorem TFv.eq {m m':jZ->jW->j0 (List jX)}(e:∀ ρ s,m ρ s=m' ρ s)(q:TFv Γ m σ H Q):TFv Γ m' σ H Q:=by
 have:m=m':=funext fun ρ=>funext fun s=>e ρ s
 subst this;exact q
theorem TIv.eq {m m':jZ->jW->j0 kN}{R:It->Hp->Prop}(e:∀ ρ s,m ρ s=m' ρ s)(q:TIv Γ m σ H R):TIv Γ m' σ H R:=by
 have:m=m':=funext fun ρ=>funext fun s=>e ρ s
 subst this;exact q
theorem TSv.eq {m m':jZ->jW->j0 kF}{D:Ends}(e:∀ ρ s,m ρ s=m' ρ s)(q:TSv Γ m D σ H):TSv Γ m' D σ H:=by
 have:m=m':=funext fun ρ=>funext fun s=>e ρ s
 subst this;exact q
def EvT (Γ:Gm)(X:Cx)(E:Expr)(m:jZ->jW->j0 jX):Prop:=PE X E (TEv Γ m)/\PT X E (TTv Γ m)
theorem EvT.val {E:Expr}{m:jZ->jW->j0 jX}(h:PE X E (TEv Γ m))(he:∀ y,db E X.env y=(do let v <- y;standAt E.pos;jf [v] (truthy v)):=by intro _;rfl):EvT Γ X E m :=
 ⟨h,(bG5 h he).imp fun σ H Q q=>bj6 q⟩
theorem bb2 {c a b:Expr}{pos:Pos}{J tb G:TT}(hc:PT X c J)(ha:PT X a tb)(hb:PT X b G):PT X (.IfExp c a b pos) (fun σ H Q=>J σ H fun k z=>if k=true then tb σ z Q else G σ z Q):=by
 intro y s σ H Q I h
 have e:db (.IfExp c a b pos) X.env (eval (.IfExp c a b pos) X.env)=(do if <- db c X.env (eval c X.env)then db a X.env (eval a X.env)else db b X.env (eval b X.env)):=by rw[db]
 rw[e]
 refine af (thn (hc y s σ H _ I h) fun k s1 ⟨z,F,C⟩=>?_)
 cases k with
 | true=>exact ha y s1 σ z Q F C
 | false=>exact hb y s1 σ z Q F C
theorem by1 {mc C F:jZ->jW->j0 jX}{Q:Bool->Hp->Prop}(h:TTv Γ (fun ρ s=>j8 (mc ρ s) fun k s=>if k then C ρ s else F ρ s) σ H Q):TTv Γ mc σ H fun k z=>if k=true then TTv Γ C σ z Q else TTv Γ F σ z Q:=by
 obtain⟨φ,ρ,s,d,s',E,R,y,q⟩:=h
 obtain⟨c,s1,e1,y⟩:=zw y
 refine⟨φ,ρ,s,c,s1,E,R,e1,fun φ1 z g1 l1 R1=>?_⟩
 cases c with
 | true =>
  rw[if_pos rfl]at y ⊢
  exact⟨φ1,ρ,s1,d,s',E.mono g1 l1,R1,y,q.trans g1 l1⟩
 | false =>
  rw[if_neg aO]at y ⊢
  exact⟨φ1,ρ,s1,d,s',E.mono g1 l1,R1,y,q.trans g1 l1⟩
section
variable {a b c:kO} {l r t:Expr} {pos:Pos}
theorem bl6 (G:CG Γ F n X ck)(op:lz)(ha:EvT Γ X l (j1 F a))(hb:EvT Γ X r (j1 F b)):EvT Γ X (.BinOp l (bO2 op) r pos) (j1 F (.bin op a b)) :=
 .val ((bQ4 (bG7 G.K op) ha.1 hb.1).imp fun σ H Q q=>bc3 (TEv.eq (fun ρ s=>rfl) q))
theorem bo6 (ha:EvT Γ X l (j1 F a)):EvT Γ X (.UnaryOp .Not l pos) (j1 F (.not a)) :=
 ⟨(bw0 ha.1).imp fun σ H Q q=>bw1 (TEv.eq (fun ρ s=>rfl) q),(bB0 ha.2).imp fun σ H Q q=>bJ4 (TTv.eq (fun ρ s=>rfl) q)⟩
theorem bk9 (G:CG Γ F n X ck)(op:k6)(hs:shp r=true)(ha:EvT Γ X l (j1 F a))(hb:EvT Γ X r (j1 F b)):EvT Γ X (.Compare l [an6 op] [r] pos) (j1 F (.cmp op a b)):=by
 have ho:=aV5 (Γ:=Γ) G.K (G.room.mono G.deep) op
 refine⟨(br6 ho ha.1 hb.1 (am0 hs)).imp fun σ H Q q=>bc3 (TEv.eq (fun ρ s=>rfl) q),(bs9 ho ha.1 hb.1 (am0 hs)).imp fun σ H Q q=>?_⟩
 have q:=aR9 q
 exact bc3 (TEv.eq (fun ρ s=>rfl) q)
theorem aX8 (G:CG Γ F n X ck)(o p:k6)(z:shp t=true)(ha:EvT Γ X l (j1 F a))(hb:EvT Γ X r (j1 F b))(hc:EvT Γ X t (j1 F c)):EvT Γ X (.Compare l [an6 o,an6 p] [r,t] pos) (j1 F (.chain o p a b c)):=by
 have ho:=aV5 (Γ:=Γ) G.K (G.room.mono G.deep) o
 have h:=aV5 (Γ:=Γ) G.K (G.room.mono G.deep) p
 have y:jB [an6 o,an6 p] [r,t]=false:=by
  show fj (an6 p) t=false
  exact am0 z
 refine⟨(aY3 ho h ha.1 hb.1 hc.1 y).imp fun σ H Q q=>aJ1 (TEv.eq (fun ρ s=>rfl) q),(aZ2 ho h ha.1 hb.1 hc.1 y).imp fun σ H Q q=>?_⟩
 have q:=aR9 q
 exact aJ1 (TEv.eq (fun ρ s=>rfl) q)
theorem aX6 {op:BoolOp}{es:List Expr}{t:TT}(h:PT X (.BoolOp op es pos) t):PW X (.BoolOp op es pos) t:=by
 intro z y s σ H Q I q
 have:=h y s σ H Q I q
 have e:∀ w,db (.BoolOp op es pos) X.env w=allTrue op es X.env:=fun w=>by rw[db]
 rw[e]at this ⊢
 exact this
theorem bp9 (ha:EvT Γ X l (j1 F a))(hb:EvT Γ X r (j1 F b)):EvT Γ X (.BoolOp .And [l,r] pos) (j1 F (.and a b)) :=
 ⟨(bg6 ha.1 (bj8 hb.1)).imp fun σ H Q q=>bh3 (TEv.eq (fun ρ s=>rfl) q),(bf9 ha.2 (bn5 hb.2)).pt.imp fun σ H Q q=>bg1 (TTv.eq (fun ρ s=>rfl) q)⟩
theorem bk0 {es:List Expr}(ha:EvT Γ X l (j1 F a))(hb:EvT Γ X (.BoolOp .And (r::es) pos) (j1 F b)):EvT Γ X (.BoolOp .And (l::r::es) pos) (j1 F (.and a b)) :=
 ⟨(bg6 ha.1 hb.1).imp fun σ H Q q=>bh3 (TEv.eq (fun ρ s=>rfl) q),(bf9 ha.2 (aX6 hb.2)).pt.imp fun σ H Q q=>bg1 (TTv.eq (fun ρ s=>rfl) q)⟩
theorem bB6 (ha:EvT Γ X l (j1 F a))(hb:EvT Γ X r (j1 F b)):EvT Γ X (.BoolOp .Or [l,r] pos) (j1 F (.or a b)) :=
 ⟨(bD3 ha.1 (bj8 hb.1)).imp fun σ H Q q=>bJ3 (TEv.eq (fun ρ s=>rfl) q),(bJ1 ha.2 (bw5 hb.2)).pt.imp fun σ H Q q=>bJ0 (TTv.eq (fun ρ s=>rfl) q)⟩
theorem bz4 {es:List Expr}(ha:EvT Γ X l (j1 F a))(hb:EvT Γ X (.BoolOp .Or (r::es) pos) (j1 F b)):EvT Γ X (.BoolOp .Or (l::r::es) pos) (j1 F (.or a b)) :=
 ⟨(bD3 ha.1 hb.1).imp fun σ H Q q=>bJ3 (TEv.eq (fun ρ s=>rfl) q),(bJ1 ha.2 (aX6 hb.2)).pt.imp fun σ H Q q=>bJ0 (TTv.eq (fun ρ s=>rfl) q)⟩
theorem bn4 (hc:EvT Γ X t (j1 F c))(ha:EvT Γ X l (j1 F a))(hb:EvT Γ X r (j1 F b)):EvT Γ X (.IfExp t l r pos) (j1 F (.ite c a b)) :=
 ⟨(bc6 hc.2 ha.1 hb.1).imp fun σ H Q q=>bG6 (TEv.eq (fun ρ s=>rfl) q),(bb2 hc.2 ha.2 hb.2).imp fun σ H Q q=>by1 (TTv.eq (fun ρ s=>rfl) q)⟩
theorem bH6 (G:CG Γ F n X ck)(hs:shp r=true)(ha:EvT Γ X l (j1 F a))(hb:EvT Γ X r (j1 F b)):EvT Γ X (.Subscript l r pos) (j1 F (.ix a b)) :=
 .val ((bM2 (bT0 G.K (aL2 G.room)) ha.1 hb.1 (aN5 hs)).imp fun σ H Q q=>bc3 (TEv.eq (fun ρ s=>rfl) q))
theorem ev_slL' {h:Pos}(G:CG Γ F n X ck)(ha:EvT Γ X l (j1 F a))(hb:EvT Γ X r (j1 F b)):EvT Γ X (.Subscript l (.Slice (some r) none none h) pos) (j1 F (.slL a b)) :=
 .val ((aG4 (bF0 G.K) ha.1 (aS2 hb.1) aQ1).imp fun σ H Q q=>(bI5 (mh:=j1 F b)).1 (TEv.eq (fun ρ s=>rfl) q))
theorem bu4 {h:Pos}(G:CG Γ F n X ck)(ha:EvT Γ X l (j1 F a))(hb:EvT Γ X r (j1 F b)):EvT Γ X (.Subscript l (.Slice none (some r) none h) pos) (j1 F (.slU a b)) :=
 .val ((aG4 (bF0 G.K) ha.1 aQ1 (aS2 hb.1)).imp fun σ H Q q=>(bI5 (ml:=j1 F b)).2.1 (TEv.eq (fun ρ s=>rfl) q))
end
end
section
variable {Γ:Gm} {F:ke} {n:Nat} {X:Cx} {ck:Ck} {σ:St} {H:Hp} {Q:VK}
theorem ar8:∀ {es:kx} {ρ:jZ} {s s':jW} {l:List jX} {y:List Expr} {z:Ck},kB F es ρ s=.ok l s'->mEs z es y=true->l.length=y.length
 | .nil,ρ,s,s',l,y,z,h,m=>by
  cases h
  cases y with
  | nil=>rfl
  | cons _ _=>rw[mEs]at m<;>first|cases m|(intros;simp_all)
 | .cons e es,ρ,s,s',l,y,z,h,m=>by
  obtain⟨d,s1,e1,h⟩:=aa0 h
  obtain⟨r,s2,e2,h⟩:=aa0 h
  cases h
  cases y with
  | nil=>rw[mEs]at m<;>first|cases m|(intros;simp_all)
  | cons x y =>
   rw[mEs,ai]at m
   rw[aL,aL,ar8 e2 m.2]
theorem aA7:∀ {es:kx} {z:List Expr},mEs ck es z=true->∀ x∈z,shp x=true
 | .nil,[],_,x,hx=>by cases hx
 | .nil,_::_,m,_,_=>by rw[mEs]at m<;>first|cases m|(intros;simp_all)
 | .cons e es,[],m,x,hx=>by cases hx
 | .cons e es,y::z,m,x,hx=>by
  rw[mEs,ai,ai]at m
  rcases az.mp hx with h|h
  ·rw[h];exact m.1.2
  ·exact aA7 m.2 x h
theorem aX9:∀ {es:lp} {z:List Expr},mAs ck es z=true->∀ x∈z,shp x=true
 | .nil,[],_,x,hx=>by cases hx
 | .nil,_::_,m,_,_=>by rw[mAs]at m<;>first|cases m|(intros;simp_all)
 | .ex e es,[],m,x,hx=>by cases hx
 | .lam _ _ _,_,m,_,_=>by rw[mAs]at m<;>first|cases m|(intros;simp_all)
 | .fn _ _,_,m,_,_=>by rw[mAs]at m<;>first|cases m|(intros;simp_all)
 | .ex e es,y::z,m,x,hx=>by
  rw[mAs,ai,ai]at m
  rcases az.mp hx with h|h
  ·rw[h];exact m.1.2
  ·exact aX9 m.2 x h
theorem aG5 {e:kO}{x:Expr}{y:List Expr}{h:jZ->jW->j0 (List jX)}(hs:shp x=true)(C:PE X x (TEv Γ (j1 F e)))(z:PA X y (TAv Γ h)) :
  PA X (x::y) (TAv Γ (fun ρ s=>(j1 F e ρ s).bind fun d s=>(h ρ s).bind fun l s=>.ok (d::l) s)) :=
 (zH C z (za hs)).imp fun σ H Q q=>bu5 q
theorem aI4 {k:Nat}(h:k<=1000):k<=aC:=by rw[eV];omega
theorem bu8 {es:kx}{y:List Expr}{k:Nat}{pos:Pos}(m:mEs ck es y=true)(hz:y.length<=1000)(h:PA X y (TAv Γ (kB F es))):EvT Γ X (.Tuple y k pos) (j1 F (.tup es)) :=
 .val ((bG1 h).imp fun σ H Q q=>tv_tup' hz m q)
where
 tv_tup' {es:kx} {y:List Expr} {σ:St} {H:Hp} {Q:VK} (hz:y.length<=1000) (m:mEs ck es y=true) (q:TEv Γ (j1 F (.tup es)) σ H Q):bV3 (TAv Γ (kB F es)) σ H Q:=by
  obtain⟨φ,ρ,s,d,s',E,R,z,q⟩:=q
  obtain⟨l,s1,e1,z⟩:=aa0 z
  cases z
  refine⟨φ,ρ,s,l,_,E,R,e1,fun vs φ1 G g1 l1 b1 r1 R1=>⟨by rw[r1.length,ar8 e1 m];exact aI4 hz,fun p C=>?_⟩⟩
  exact(q.trans g1 l1).tup R1 r1 b1 C
theorem bp8 {es:kx}{y:List Expr}{pos:Pos}(m:mEs ck es y=true)(hz:y.length<=1000)(h:PA X y (TAv Γ (kB F es))):EvT Γ X (.List y pos) (j1 F (.lst es)):=by
 refine .val ((bj7 h).imp fun σ H Q q=>?_)
 obtain⟨φ,ρ,s,d,s',E,R,z,q⟩:=q
 obtain⟨l,s1,e1,z⟩:=aa0 z
 obtain⟨rfl,rfl⟩:=zM z
 refine⟨φ,ρ,s,l,_,E,R,e1,fun vs φ1 G g1 l1 b1 r1 R1=>⟨by rw[r1.length,ar8 e1 m];exact aI4 hz,fun p C=>?_⟩⟩
 exact(q.trans g1 l1).alloc R1 r1 b1 C
theorem aZ3 {f:String}{y:lp}{C:List Expr}{p pos:Pos}(G:CG Γ F n X ck)(hg:ck.gl (f:Str)=true)(m:mAs ck y C=true)(h:PA X C (TAv Γ (la F y))):EvT Γ X (.Call (.Name (f:Str) p) C [] pos) (j1 F (.call f y)):=by
 refine .val ?_
 obtain⟨g1,g2,g3⟩:=G.gl hg
 rcases G.call f with hbad|⟨a,fd,ps,Z,z,hk,hb⟩
 ·intro a0 s σ H Q I q
  obtain⟨φ,ρ,s,d,s',E,R,J,q⟩:=q
  obtain⟨l,s1,e1,J⟩:=aa0 J
  rw[hbad]at J
  cases J
 have key:∀ σ H Q,TEv Γ (j1 F (.call f y)) σ H Q->aK2 (spV Γ (F.call f)) [] E0 (TAv Γ (la F y)) σ H Q:=fun σ H Q q=>by
  have:=aA3 (TEv.eq (m':=fun ρ s=>(la F y ρ s).bind fun l s=>F.call f l s) (fun ρ s=>rfl) q)
  unfold tCB at this
  unfold aK2 spV
  simpa only[aW]using this
 cases C with
 | nil =>
  have h0:PE X (.Call (.Name (f:Str) p) [] [] pos) (aK2 (spV Γ (F.call f)) [] E0 bg8):=bc4 Z G.room g1 z hk hb .nil bE6 g2
  cases y with
  | nil =>
   refine h0.imp fun σ H Q q=>?_
   have Y:=key σ H Q q
   unfold aK2 at Y ⊢
   exact aG0 (TAv.eq (fun ρ s=>rfl) Y)
  | _=>rw[mAs]at m<;>first|cases m|(intros;simp_all)
 | cons x C =>
  have hs:=aX9 m
  exact(bo8 Z G.room g1 z hk hb .nil bE6 h g2 (za (hs x (au ..))) (zD fun e he=>hs e (ao _ he)).1).imp key
def BiC (Γ:Gm)(X:Cx)(b:kD)(x:Str):Prop:=(∃ id,bf x=some (.builtin id)/\ac8 X (.builtin id) (rCl Γ (lf b)))\/∃ T,bf x=some (.type T)/\ac8 X (.type T) (rCl Γ (lf b))
theorem bG2 (G:CG Γ F n X ck){b:kD}{x:Str}(h:biT b=some x):x∈bNames/\BiC Γ X b x:=by
 cases b<;>first|cases h|skip
 ·exact⟨by decide,.inl ⟨_,bN5,aY7 G.K G.calm (k:=1) rfl⟩⟩
 ·exact⟨by decide,.inl ⟨_,bS4,aY7 G.K G.calm (k:=1) rfl⟩⟩
 ·exact⟨by decide,.inr ⟨_,bF9,bA1⟩⟩
 ·exact⟨by decide,.inr ⟨_,bA3,bA7⟩⟩
 ·exact⟨by decide,.inl ⟨_,bx3,aY7 G.K G.calm (k:=2) rfl⟩⟩
 ·exact⟨by decide,.inl ⟨_,bN0,aY7 G.K G.calm (k:=2) rfl⟩⟩
theorem bF4 {b:kD}{es:kx}{x:Str}{y:Expr}{z:List Expr}{p pos:Pos}(G:CG Γ F n X ck)(hb:biT b=some x)(hg:ck.gl x=true)(m:mEs ck es (y::z)=true)(h:PA X (y::z) (TAv Γ (kB F es))) :
  EvT Γ X (.Call (.Name x p) (y::z) [] pos) (j1 F (.bi b es)):=by
 refine .val ?_
 obtain⟨g1,g2,Z⟩:=G.gl hg
 obtain⟨Y,hc⟩:=bG2 G hb
 have hs:=aA7 m
 have s1:=za (es:=z) (env:=X.env) (hs y (au ..))
 have s2:=(zD (env:=X.env) (pos:=pos) fun e he=>hs e (ao _ he)).1
 rcases hc with⟨id,J,C⟩|⟨T,J,C⟩
 ·exact(aq0 C g1 (G.bi _ Y) J h Z g2 s1 s2).imp fun σ H Q q=>aA3 (TEv.eq (fun ρ s=>rfl) q)
 ·exact(aj9 C g1 (G.bi _ Y) J h Z g2 s1 s2).imp fun σ H Q q=>aA3 (TEv.eq (fun ρ s=>rfl) q)
theorem bB5 {b:kD}{k:Nat}{t:Str}(h:biK b=some (k,t)):(1<=k/\k<=5)/\t∈bNames/\bf t=some (.type (an1 k))/\lf b=lu (lA k):=by
 cases b<;>cases h
 ·exact⟨by omega,by decide,bF9,rfl⟩
 ·exact⟨by omega,by decide,bC7,rfl⟩
 ·exact⟨by omega,by decide,bA3,rfl⟩
 ·exact⟨by omega,by decide,aO5,rfl⟩
 ·exact⟨by omega,by decide,bg7,rfl⟩
noncomputable def PEs (Γ:Gm)(F:ke)(X:Cx):kx->List Expr->Prop
 | .nil,[]=>True
 | .cons e es,x::xs=>(shp x=true/\EvT Γ X x (j1 F e))/\PEs Γ F X es xs
 | _,_=>False
theorem ap2:∀ {es:kx} {y:List Expr},PEs Γ F X es y->PA X y (TAv Γ (kB F es))
 | .nil,[],_=>ad9.imp fun σ H Q q=>aG0 (TAv.eq (fun ρ s=>rfl) q)
 | .nil,_::_,h=>h.elim
 | .cons _ _,[],h=>h.elim
 | .cons e es,x::y,h=>(aG5 h.1.1 h.1.2.1 (ap2 h.2)).imp fun σ H Q q=>TAv.eq (fun ρ s=>rfl) q
theorem bl8 {b:kD}{es:kx}{k:Nat}{t:Str}{a:Expr}{p z pos:Pos}(G:CG Γ F n X ck)(hb:biK b=some (k,t))(hg:ck.gl "isinstance"=true)(C:ck.gl t=true)(h:PEs Γ F X es [a]) :
  EvT Γ X (.Call (.Name "isinstance" p) [a,.Name t z] [] pos) (j1 F (.bi b es)):=by
 refine .val ?_
 obtain⟨g1,g2,g3⟩:=G.gl hg
 obtain⟨Z,t2,t3⟩:=G.gl C
 obtain⟨hk,y,hv,J⟩:=bB5 hb
 have Y:PE X (.Name t z) (tC (.ty (an1 k))):=bp7 Z (G.bi _ y) hv rfl t3 t2
 cases es with
 | nil=>exact h.elim
 | cons e es =>
  cases es with
  | cons _ _=>exact h.2.elim
  | nil =>
   obtain⟨⟨hs,ha,_⟩,_⟩:=h
   have hA:PA X [a,.Name t z] (au2 (TEv Γ (j1 F e)) (au2 (tC (.ty (an1 k))) bg8)):=zH ha (zH Y ad9 (za rfl)) (za hs)
   refine(aq0 (bA8 G.K hk) g1 (G.bi _ (by decide)) av7 hA g3 g2 (za hs) (zD fun e he=>by rw[bn.mp he];rfl).1).imp fun σ H Q q=>?_
   obtain⟨φ,ρ,s,d,s',E,R,y,q⟩:=q
   obtain⟨l,s1,e1,y⟩:=aa0 y
   obtain⟨x,s2,e2,e1⟩:=aa0 e1
   obtain⟨l2,s3,e3,e1⟩:=aa0 e1
   cases e3
   cases e1
   rw[J]at y
   refine⟨φ,ρ,s,x,_,E,R,e2,fun v φ1 H1 g1 l1 b1 r1 R1=>?_⟩
   exact⟨v,rfl,φ1,_,[x],d,s',R1,.cons r1 .nil,by unfold jY;rw[b1];rfl,y,q.trans g1 l1⟩
end
section
variable {Γ:Gm} {F:ke} {n:Nat} {X:Cx} {ck:Ck} {σ:St} {H:Hp}
def TAp (Γ:Gm)(cells:List (Str×Addr))(N:List Str)(m:jZ->jW->j0 (List jX)):TA:=fun σ H Q=>∃ φ ρ s l s',RE Γ φ H s.length ρ σ/\Rp Γ φ H s/\m ρ s=.ok l s' /\
 ∀ vs φ' H',Gr φ s H φ' s' H'->s.length<=s'.length->jY s'.length l=true->PVL Γ cells N σ φ' H' l vs->Rp Γ φ' H' s'->Q vs H'
theorem TAp.eq {cells:List (Str×Addr)}{N:List Str}{m m':jZ->jW->j0 (List jX)}{Q:List V->Hp->Prop}(e:∀ ρ s,m ρ s=m' ρ s)(q:TAp Γ cells N m σ H Q):TAp Γ cells N m' σ H Q:=by
 obtain⟨φ,ρ,s,l,s',E,R,h,q⟩:=q
 exact⟨φ,ρ,s,l,s',E,R,by rw[<-e];exact h,q⟩
theorem bp6 {cells:List (Str×Addr)}{N:List Str}{Q:List V->Hp->Prop}(h:TAp Γ cells N (fun ρ s=>.ok [] s) σ H Q):bg8 σ H Q:=by
 obtain⟨φ,ρ,s,l,s',E,R,y,q⟩:=h
 cases y
 exact q [] φ H (Gr.refl _ _ _) (am _) rfl .nil R
theorem bC5 {cells:List (Str×Addr)}{N:List Str}{m:jZ->jW->j0 jX}{C:jZ->jW->j0 (List jX)}{Q:List V->Hp->Prop}(h:TAp Γ cells N (fun ρ s=>(m ρ s).bind fun d s=>(C ρ s).bind fun l s=>.ok (d::l) s) σ H Q):au2 (TEv Γ m) (TAp Γ cells N C) σ H Q:=by
 obtain⟨φ,ρ,s,l,s',E,R,z,q⟩:=h
 obtain⟨x,s1,e1,z⟩:=aa0 z
 obtain⟨y,s2,e2,z⟩:=aa0 z
 cases z
 refine⟨φ,ρ,s,x,s1,E,R,e1,fun v φ1 H1 g1 l1 b1 r1 R1=>?_⟩
 refine⟨φ1,ρ,s1,y,s',E.mono g1 l1,R1,e2,fun vs φ2 Y G F Z J R2=>?_⟩
 exact q (v::vs) φ2 Y (g1.trans G l1) (aj l1 F) (by unfold jY;rw[zc F x b1,Z];rfl) (.cons (PVp.mono G b1 (.inl r1)) J) R2
end
section
variable {Γ:Gm} {F:ke} {n:Nat} {X:Cx} {ck:Ck} {σ:St} {H:Hp} {Q:VK}
def bX2 (K:ac)(H:Hp)(v:V)(ys:List V)(z:Bool):Prop:=(∃ a,v=.ref a/\(SqL K H a ys\/(SqT K H a ys/\(z=true->H a=some (.tup ys)))))\/∃ x:List Nat,v=.str ⟨x.toArray⟩/\x.length<=j4/\ys=sgV x
def TLv (Γ:Gm)(m:jZ->jW->j0 (List jX)):TE:=fun σ H Q=>∃ φ ρ s l s',RE Γ φ H s.length ρ σ/\Rp Γ φ H s/\m ρ s=.ok l s' /\
 ∀ v ys φ' H',Gr φ s H φ' s' H'->s.length<=s'.length->jY s'.length l=true->bX2 Γ.K H' v ys (j7 l)->RVL Γ φ' H' l ys->Rp Γ φ' H' s'->Q v H'
theorem aI7 {m:jZ->jW->j0 (List jX)}(h:TLv Γ m σ H Q):TFv Γ m σ H Q:=by
 obtain⟨φ,ρ,s,l,s',E,R,z,q⟩:=h
 exact⟨φ,ρ,s,l,s',E,R,z,fun p ys φ' H' g hl hb C h0 ho r y=>q (.ref p) ys φ' H' g hl hb (.inl ⟨p,rfl,.inl (SqL.of C)⟩) r y⟩
theorem av9 {φ:Nat->Addr}:∀ x:List Nat,RVL Γ φ H (x.map fun c=>.str [c]) (sgV x)
 | []=>.nil
 | c::x=>.cons (RV.strI (by unfold j4;simp)) (av9 x)
theorem ao7 {k:Nat}:∀ x:List Nat,jY k (x.map fun c=>.str [c])=true
 | []=>rfl
 | c::x=>by rw[aB];unfold jY;rw[ao7 x];rfl
theorem bG8 {m:jZ->jW->j0 jX}(h:TLv Γ (fun ρ s=>(m ρ s).bind fun d s=>DV.bk8 d s) σ H Q):TEv Γ m σ H Q:=by
 obtain⟨φ,ρ,s,l,s',E,R,y,q⟩:=h
 obtain⟨d,s1,e1,y⟩:=aa0 y
 refine⟨φ,ρ,s,d,s1,E,R,e1,fun v φ1 G g1 l1 b1 r1 R1=>?_⟩
 cases d with
 | tup l' =>
  cases y
  obtain⟨a,F,⟨rfl,z1⟩,C,z⟩:=r1.tupZ
  unfold j2 at b1
  exact q _ F φ1 G g1 l1 b1 (.inl ⟨a,rfl,.inr ⟨C,z1⟩⟩) z R1
 | str x =>
  cases y
  exact q v (sgV x) φ1 G g1 l1 (ao7 x) (.inr ⟨x,r1.strE,r1.strL,rfl⟩) (av9 x) R1
 | ref k =>
  have y:(match s1[k]? with
   | some (.lst l)=>DV.R.ok l s1
   | some (.ro l)=>.ok l s1
   | _=>.bad)=.ok l s':=y
  rw[r1.refE]
  cases e:s1[k]? with
  | none=>rw[e]at y;exact fb y
  | some ob =>
   rw[e]at y
   cases ob with
   | lst l' =>
    cases y
    obtain⟨F,C,z⟩:=R1.addr e
    have:=R1.wf k _ e
    unfold j3 at this
    exact q _ F φ1 G g1 l1 this (.inl ⟨_,rfl,.inl (SqL.of C)⟩) z R1
   | ro l' =>
    cases y
    obtain⟨F,C,z⟩:=R1.obj k _ e
    have:=R1.wf k _ e
    unfold j3 at this
    exact q _ F φ1 G g1 l1 this (.inl ⟨_,rfl,.inl C.1⟩) z R1
   | _=>exact fb y
 | _=>exact fb y
theorem TLv.eq {m m':jZ->jW->j0 (List jX)}(e:∀ ρ s,m ρ s=m' ρ s)(q:TLv Γ m σ H Q):TLv Γ m' σ H Q:=by
 have:m=m':=funext fun ρ=>funext fun s=>e ρ s
 subst this;exact q
theorem aL0 {m:jZ->jW->j0 (List jX)}{a:Expr}{p pos:Pos}(G:CG Γ F n X ck)(hg:ck.gl "tuple"=true)(hs:shp a=true)(h:PE X a (TLv Γ m)) :
  PE X (.Call (.Name "tuple" p) [a] [] pos) (TEv Γ (fun ρ s=>(m ρ s).bind fun l s=>kX .tuple l s)):=by
 obtain⟨g1,Y,J⟩:=G.gl hg
 refine(aj9 ((aD1 G.K).or (aA4 G.calm)) g1 (G.bi _ (by decide)) aO5 (zH h ad9 (za hs)) J Y (za hs) rfl).imp fun σ H Q q=>?_
 obtain⟨φ,ρ,s,d,s',E,R,y,q⟩:=q
 obtain⟨l,s1,e1,y⟩:=aa0 y
 cases y
 refine⟨φ,ρ,s,l,_,E,R,e1,fun v ys φ1 C g1 l1 b1 hq r1 R1=>?_⟩
 rcases hq with⟨a,rfl,hq|hq⟩|⟨x,rfl,hx,rfl⟩
 ·exact .inl ⟨a,ys,rfl,.inl ⟨hq,fun p z=>(q.trans g1 l1).tup R1 r1 b1 z⟩⟩
 ·exact .inl ⟨a,ys,rfl,.inr ⟨hq.1,q _ φ1 C g1 l1 (by unfold j2;exact b1) (RV.tupC hq.1 hq.2 r1) R1⟩⟩
 ·exact .inr ⟨x,rfl,hx,fun p z=>(q.trans g1 l1).tup R1 r1 b1 z⟩
theorem aV8 {m:jZ->jW->j0 (List jX)}{a:Expr}{p pos:Pos}(G:CG Γ F n X ck)(hg:ck.gl "list"=true)(hs:shp a=true)(h:PE X a (TLv Γ m)) :
  PE X (.Call (.Name "list" p) [a] [] pos) (TEv Γ (fun ρ s=>(m ρ s).bind fun l s=>kX .list l s)):=by
 obtain⟨g1,J,C⟩:=G.gl hg
 refine(aj9 ((aK8 G.K).or (aM3 G.calm)) g1 (G.bi _ (by decide)) bg7 (zH h ad9 (za hs)) C J (za hs) rfl).imp fun σ H Q q=>?_
 obtain⟨φ,ρ,s,d,s',E,R,y,q⟩:=q
 obtain⟨l,s1,e1,y⟩:=aa0 y
 obtain⟨rfl,rfl⟩:=zM y
 refine⟨φ,ρ,s,l,_,E,R,e1,fun v ys φ1 Y g1 l1 b1 hq r1 R1=>?_⟩
 rcases hq with⟨a,rfl,hq⟩|⟨x,rfl,hx,rfl⟩
 ·exact .inl ⟨a,ys,rfl,hq.imp id (·.1),fun p z=>(q.trans g1 l1).alloc R1 r1 b1 z⟩
 ·exact .inr ⟨x,rfl,hx,fun p z=>(q.trans g1 l1).alloc R1 r1 b1 z⟩
theorem bz9 {m:jZ->jW->j0 (List jX)}{k:li}{x:Str}{a:Expr}{p pos:Pos}(G:CG Γ F n X ck)(hk:mkT k=some x)(hg:ck.gl x=true)(hs:shp a=true)(h:PE X a (TLv Γ m)) :
  PE X (.Call (.Name x p) [a] [] pos) (TEv Γ (fun ρ s=>(m ρ s).bind fun l s=>kX k l s)):=by
 cases k<;>cases hk
 ·exact aL0 G hg hs h
 ·exact aV8 G hg hs h
def FrC (Γ:Gm)(X:Cx)(x:Str)(k:li):Prop:=∃ id r,bf x=some (.builtin id)/\x∈bNames/\ac8 X (.builtin id) r/\∀ φ H s l ys p d s' Q,Rp Γ φ H s->RVL Γ φ H l ys->H p=some (.lst ys)->kX k l s=.ok d s'->ae0 Γ φ s H d s' Q->r [.ref p] H Q
theorem aI8:∀(l:List Int) (a:Int),(l.foldl min a=a\/l.foldl min a∈l)/\l.foldl min a<=a/\∀ y∈l,l.foldl min a<=y
 | [],a=>⟨.inl rfl,i5 _,fun y hy=>by cases hy⟩
 | b::l,a=>by
  obtain⟨C,G,F⟩:=aI8 l (min a b)
  rw[da]
  refine⟨?_,by omega,fun y hy=>?_⟩
  ·rcases C with h|h
   ·rw[h]
    rcases Int.le_total a b with z|z
    ·left;omega
    ·right;rw[show min a b=b by omega];exact au ..
   ·exact .inr (ao _ h)
  ·rcases az.mp hy with z|z
   ·rw[z];omega
   ·exact F y z
theorem aZ1 {l:List Int}{m:Int}(h:lD l=some m):m∈l/\∀ y∈l,m<=y:=by
 cases l with
 | nil=>cases h
 | cons a l =>
  cases h
  obtain⟨F,C,G⟩:=aI8 l a
  refine⟨?_,fun y hy=>?_⟩
  ·rcases F with h|h
   ·rw[h];exact au ..
   ·exact ao _ h
  ·rcases az.mp hy with z|z
   ·rw[z];exact C
   ·exact G y z
theorem bu3 (G:CG Γ F n X ck){k:li}{x:Str}(hk:mkF k=some x):FrC Γ X x k:=by
 cases k<;>cases hk
 ·refine⟨_,_,bM6,by decide,aX7 G.calm G.K,fun φ H s l ys p d s' Q R r C h q=>?_⟩
  unfold kX at h
  dsimp only at h
  cases e:kS l with
  | none=>rw[e]at h;exact fb h
  | some bs =>
   rw[e]at h
   cases h
   have:=ak0 e
   subst this
   exact⟨p,bs,rfl,SqL.of (by rw[<-r.bls];exact C),q.here R rfl RV.blI⟩
 ·refine⟨_,_,bx3,by decide,aO8 G.calm G.K,fun φ H s l ys p d s' Q R r C h q=>?_⟩
  unfold kX at h
  dsimp only at h
  cases e:kR l with
  | none=>rw[e]at h;exact fb h
  | some is =>
   rw[e]at h
   have h:(match lD is with|some m=>DV.R.ok (DV.D.int m) s|none=>.bad)=.ok d s':=h
   cases e2:lD is with
   | none=>rw[e2]at h;exact fb h
   | some mm =>
    rw[e2]at h
    cases h
    have:=zY e
    subst this
    refine⟨p,is,rfl,SqL.of (by rw[<-r.ints];exact C),(fun(z:is=[])=>by rw[z]at e2;cases e2),fun m h y=>?_⟩
    obtain⟨a,b⟩:=aZ1 e2
    have:m=mm:=Int.le_antisymm (y mm a) (b m h)
    rw[this]
    exact q.here R rfl RV.intI
theorem bJ9 {m:jZ->jW->j0 (List jX)}{k:li}{x:Str}{a:Expr}{p pos:Pos}(G:CG Γ F n X ck)(hk:mkF k=some x)(hg:ck.gl x=true)(hs:shp a=true)(h:PE X a (TFv Γ m)) :
  PE X (.Call (.Name x p) [a] [] pos) (TEv Γ (fun ρ s=>(m ρ s).bind fun l s=>kX k l s)):=by
 obtain⟨g1,J,C⟩:=G.gl hg
 obtain⟨id,r,hb,hx,hc,hr⟩:=bu3 (Γ:=Γ) G hk
 refine(aq0 hc g1 (G.bi _ hx) hb (zH h ad9 (za hs)) C J (za hs) rfl).imp fun σ H Q q=>?_
 obtain⟨φ,ρ,s,d,s',E,R,y,q⟩:=q
 obtain⟨l,s1,e1,y⟩:=aa0 y
 exact⟨φ,ρ,s,l,_,E,R,e1,fun p ys φ1 z g1 l1 b1 Y h0 ho r1 R1=>hr φ1 z s1 l ys p d s' Q R1 r1 Y y (q.trans g1 l1)⟩
theorem bc9 {φ φ':Nat->Addr}{s s':jW}{H':Hp}{r:Nat}{l:List jX}(R:Rp Γ φ H s)(g:Gr φ s H φ' s' H')(hb:r<s.length)(e:s'[r]?=some (.lst l)):tyV Γ.K "list" (.ref (φ r)) H:=by
 obtain⟨h,y⟩:∃ h,s[r]?=some h:=⟨s[r],ak hb⟩
 have C:=g.mu r h _ y e rfl
 have ho:=R.obj r h y
 cases h with
 | lst l0 =>
  obtain⟨F,z,_⟩:=ho
  exact .inl ⟨rfl,F,SqL.of z⟩
 | ro _=>cases C
 | dic _=>have:=g.kd r _ _ y e;cases this
 | dit _=>have:=g.kd r _ _ y e;cases this
 | ins _ _=>exact ho.elim
def mtR (Γ:Gm)(m:lj):V->List V->Hp->VK->Prop:=fun x vs H Q=>∃ φ s a l d s',Rp Γ φ H s/\RV Γ φ H a x/\RVL Γ φ H l vs/\a.bnd s.length=true/\jY s.length l=true/\ly m a l s=.ok d s'/\ae0 Γ φ s H d s' Q
theorem bg3:j4<aC:=by rw[eV];decide
theorem aJ3 {m:lj}{x:Str}{k:Nat}(C:mtT m=some (x,k)){a:jX}{l:List jX}{s s':jW}{d:jX}(h:ly m a l s=.ok d s'):∃ r l0,a=.ref r/\s[r]?=some (.lst l0):=by
 have go:∀ {r:Nat} {f:List jX->j0 jX},(match s[r]? with|some (.lst l)=>f l|_=>.bad)=.ok d s'->∃ l0,s[r]?=some (.lst l0):=fun {r f} h=>by
  cases e:s[r]? with
  | none=>rw[e]at h;exact fb h
  | some ob =>
   cases ob with
   | lst l0=>exact⟨l0,rfl⟩
   | _=>rw[e]at h;exact fb h
 cases a with
 | ref r =>
  have y:∀ {f:List jX->j0 jX},(match s[r]? with|some (.lst l)=>f l|_=>.bad)=.ok d s'->∃ z l0,DV.D.ref r=.ref z/\s[z]?=some (.lst l0):=fun h=>by obtain⟨l0,e⟩:=go h;exact⟨_,l0,rfl,e⟩
  cases m with
  | append=>match l with
   | [d]=>exact y h
   | []=>exact fb h
   | _::_::_=>exact fb h
  | pop=>match l with
   | []=>exact y h
   | _::_=>exact fb h
  | reverse=>match l with
   | []=>exact y h
   | _::_=>exact fb h
  | clear=>match l with
   | []=>exact y h
   | _::_=>exact fb h
  | index=>match l with
   | [d]=>exact y h
   | []=>exact fb h
   | _::_::_=>exact fb h
  | _=>exact fb h
 | _=>cases m<;>exact fb h
theorem aY9:MtR X "list.append" (mtR Γ .append):=by
 intro F sh σ H x vs v us Q I rx Y h
 obtain⟨φ,s,a,l,d,s',R,ra,rl,ba,bl,C,q⟩:=h
 obtain⟨r,l0,rfl,e⟩:=aJ3 (m:=.append) rfl C
 cases l with
 | nil=>exact fb C
 | cons y t =>
  cases t with
  | cons _ _=>exact fb C
  | nil =>
   simp only[ly,e]at C
   split at C
   case isFalse=>exact fb C
   rename_i hlt
   cases C
   obtain⟨z,rfl,Z⟩:=rl.one
   obtain⟨xs,h1,J⟩:=R.addr e
   have G:jY s.length l0=true:=by have:=R.wf r _ e;unfold j3 at this;exact this
   refine aw9 F sh σ H x [z] v us Q I rx Y ⟨φ r,xs,z,ra.refE,rfl,h1,by rw[J.length];have:=bg3;omega,?_⟩
   exact q.put R e (J.append (.cons Z .nil)) (zz G bl) rfl RV.nonI
structure MtOk (Γ:Gm)(X:Cx)(m:lj)(x:Str):Prop where
 ex:∃ id,PySem.Slot "list" x id/\typeOf (.builtin id)=pure (.type "method_descriptor")/\MtR X id (mtR Γ m)
theorem bF8 (z:X.K=Γ.K)(y:Room (j9+1) X.A){m:lj}{x:Str}{k:Nat}(h:mtT m=some (x,k)):MtOk Γ X m x:=by
 cases m<;>cases h
 ·exact⟨_,gu,PySem.F.type_list_append,aY9⟩
theorem bf3 {m:lj}{o:kO}{es:kx}{ob:Expr}{C:List Expr}{x:Str}{ap cp:Pos}(G:CG Γ F n X ck)(Z:mtT m=some (x,C.length))(hab:bd6 ob=true)(hl:(ap.endLine==cp.line)=true)(ho:PE X ob (TEv Γ (j1 F o)))
  (a1:mEs ck es C=true) (h:PEs Γ F X es C):EvT Γ X (.Call (.Attribute ob x ap) C [] cp) (j1 F (.meth m o es)):=by
 refine .val ?_
 obtain⟨id,slot,a0,hr⟩:=(bF8 (Γ:=Γ) (X:=X) G.K (G.room.mono G.deep) Z).ex
 have hs:=aA7 a1
 have key:∀ σ H Q,TEv Γ (j1 F (.meth m o es)) σ H Q->tBM Γ.K "list" (mtR Γ m) (TEv Γ (j1 F o)) (TAv Γ (kB F es)) σ H Q:=fun σ H Q q=>by
  obtain⟨φ,ρ,s,d,s',E,R,z,q⟩:=q
  obtain⟨a,s1,e1,z⟩:=aa0 z
  obtain⟨l,s2,e2,z⟩:=aa0 z
  refine⟨φ,ρ,s,a,s1,E,R,e1,fun v φ1 H1 g1 l1 b1 r1 R1=>?_⟩
  obtain⟨r,l0,rfl,er⟩:=aJ3 Z z
  rw[r1.refE]
  have hk:∀ φ2 H2,Gr φ1 s1 H1 φ2 s2 H2->tyV Γ.K "list" (.ref (φ1 r)) H1:=fun φ2 H2 g2=>bc9 R1 g2 (by unfold j2 at b1;exact of_decide_eq_true b1) er
  have J:TAv Γ (kB F es) σ H1 fun C H2=>mtR Γ m (.ref (φ1 r)) C H2 Q:=by
   refine⟨φ1,ρ,s1,l,s2,E.mono g1 l1,R1,e2,fun vs φ2 H2 g2 l2 b2 r2 R2=>?_⟩
   refine⟨φ2,s2,.ref r,l,d,s',R2,?_,r2,zc l2 _ b1,b2,z,q.trans (g1.trans g2 l1) (aj l1 l2)⟩
   have:=RV.mono g2 _ _ b1 r1
   rw[r1.refE]at this
   exact this
  refine⟨?_,J⟩
  have hlt:r<s1.length:=by unfold j2 at b1;exact of_decide_eq_true b1
  obtain⟨o0,e0⟩:∃ o0,s1[r]?=some o0:=⟨s1[r],ak hlt⟩
  have Y:=R1.obj r o0 e0
  cases o0 with
  | lst l0 =>
   obtain⟨C,h1,_⟩:=Y
   exact .inl ⟨rfl,C,SqL.of h1⟩
  | ro l0 =>
   obtain⟨C,h1,_⟩:=Y
   exact .inl ⟨rfl,C,h1.1⟩
  | dic _ =>
   obtain⟨o',eo,ek⟩:=DV.ae9 G.fk es ρ s1 _ _ e2 r _ e0
   rw[er]at eo;cases eo;cases ek
  | dit _ =>
   obtain⟨o',eo,ek⟩:=DV.ae9 G.fk es ρ s1 _ _ e2 r _ e0
   rw[er]at eo;cases eo;cases ek
  | ins _ _=>exact Y.elim
 cases C with
 | nil =>
  have p0:PE X (.Call (.Attribute ob x ap) [] [] cp) (bU4 X.K "list" (mtR Γ m) (TEv Γ (j1 F o))):=bx9 du slot a0 hr ho (al3 hab) hl
  rw[G.K]at p0
  refine p0.imp fun σ H Q q=>?_
  cases es with
  | cons _ _=>exact h.elim
  | nil =>
   obtain⟨φ,ρ,s,d,s',E,R,z,k⟩:=key σ H Q q
   refine⟨φ,ρ,s,d,s',E,R,z,fun v φ1 H1 g1 l1 b1 r1 R1=>?_⟩
   obtain⟨h1,h2⟩:=k v φ1 H1 g1 l1 b1 r1 R1
   exact⟨h1,aG0 (TAv.eq (fun ρ s=>rfl) h2)⟩
 | cons y ys =>
  refine(aH8 G.K du slot a0 hr ho (ap2 h) (al3 hab) ?_ hl (za (hs y (au ..))) (zD fun e he=>hs e (ao _ he)).1).imp key
  rw[(zD hs).2]
  have:(y::ys).length<=1:=by
   unfold mtT at Z
   split at Z<;>first|(have:=av Z;have:=congrArg Prod.snd this;simp at this;simp;omega)|cases Z
  simp only[hJ,cx,iG]
  show(true&&decide ((y::ys).length+0+0<30))=true
  rw[hJ]
  exact decide_eq_true (by omega)
end
noncomputable abbrev mkS (x:List Nat):Str:=⟨x.toArray⟩
theorem aD8 (sep:List Nat):∀ h:List (List Nat),Str.join (mkS sep) (h.map mkS)=mkS (kh sep h)
 | []=>rfl
 | [x]=>rfl
 | x::y::r=>by
  show mkS x++mkS sep++Str.join (mkS sep) ((y::r).map mkS)=mkS (x++(sep++kh sep (y::r)))
  rw[aD8 sep (y::r),aq8,aq8,aR]
theorem bg4 (sep:List Nat):∀ h:List (List Nat),((h.map mkS).map (·.length)).sum+(h.map mkS).length*(mkS sep).length=(h.map fun w=>w.length+sep.length).sum
 | []=>by simp
 | x::r=>by
  have C:=bg4 sep r
  have z:(mkS x).length=x.length:=by simp[fP]
  have y:(mkS sep).length=sep.length:=by simp[fP]
  simp only[aB,fy,aL,iA,z,y]at C ⊢
  omega
theorem ak5 (sep:List Nat):∀ h:List (List Nat),(kh sep h).length<=(h.map fun w=>w.length+sep.length).sum
 | []=>cz _
 | [x]=>by simp[kh]
 | x::y::r=>by
  have:=ak5 sep (y::r)
  show(x++(sep++kh sep (y::r))).length<=_
  rw[aD,aD,aB,fy]
  omega
theorem au5:∀ h:List (List Nat),kh [] h=h.flatten
 | []=>rfl
 | [x]=>by simp[kh]
 | x::y::r=>by
  show x++([]++kh [] (y::r))=_
  rw[au5 (y::r),d8];simp
theorem be3 {X:Cx}:MtR X "str.join" (fun x vs H Q=>∃(a:Addr) (sep:List Nat) (z:List (List Nat)),x=aI5 sep/\vs=[.ref a]/\H a=some (.lst (z.map aI5))/\(z.map fun w=>w.length+sep.length).sum<=aC/\Q (aI5 (kh sep z)) H):=by
 intro J s σ H x vs v us Q I rx Z h
 obtain⟨a,sep,z,rfl,rfl,hH,hz,q⟩:=h
 obtain⟨t,rfl⟩:=(show ∃ t,v=Value.str (mkS sep) t from rx)
 obtain⟨u,rfl,ru⟩:=Z.one
 cases ru
 obtain⟨_,its,n,r,hl,e⟩:=I.lstM hH
 obtain⟨l,rfl,G⟩:=ax2 r
 replace G:l.map (·.1)=z.map mkS:=G
 have C:dI ((l.map (·.1)).toArray.foldl (·+·.length+(mkS sep).length) 0)=false:=by
  rw[G,StrLaws.joinTotal,bg4]
  unfold dI
  exact decide_eq_false (by omega)
 refine cT gy (dP s _ t) PySem.F.entry_str_join (PySem.F.args_str_join_2 _ _) (meets_str_join_list (mkS sep) t a l C) ⟨⟨_,e,rfl,n,rfl⟩,?_⟩
 have Y:Builtin.Str.glued (mkS sep) (z.map mkS)=mkS (kh sep z):=by rw[StrLaws.glued_eq_join,aD8]
 unfold joinMade
 split
 ·rename_i p
  have e1:[p.1]=z.map mkS:=G
  have:p.1=mkS (kh sep z):=by
   cases z with
   | nil=>cases e1
   | cons y z =>
    cases z with
    | nil=>rw[aB,cG]at e1;rw[fF e1];rfl
    | cons _ _=>rw[aB,aB]at e1;cases fG e1
  show EP X J σ Q (.str p.1 p.2) s
  rw[this]
  exact⟨aI5 (kh sep z),H,I,⟨_,rfl⟩,q⟩
 ·rw[G,Y]
  refine⟨?_,aI5 (kh sep z),H,I.tok _,⟨_,rfl⟩,q⟩
  show(kh sep z).toArray.size<=_
  have:=ak5 sep z
  simp only[aq]
  omega
theorem ak4 {c:Nat}:∀ {p:List Nat},c ∉ p->ki c p=[p]
 | [],_=>rfl
 | x::p,h=>by
  have y:x≠c:=fun z=>h (by rw[z];exact au ..)
  show(if x=c then _ else _)=_
  rw[if_neg y,ak4 (fun z=>h (ao _ z))]
theorem aI9 {c:Nat}{l:List Nat}:∀ {p:List Nat},c ∉ p->ki c (p++c::l)=p::ki c l
 | [],_=>by show(if c=c then _ else _)=_;rw[if_pos rfl]
 | x::p,h=>by
  have y:x≠c:=fun z=>h (by rw[z];exact au ..)
  rw[dQ]
  show(if x=c then _ else(match ki c (p++c::l)with|p::ps=>(x::p)::ps|[]=>[[x]]))=_
  rw[if_neg y,aI9 (fun z=>h (ao _ z))]
theorem ap8 {c:Nat}:∀ {ps:List (List Nat)},ps≠[]->(∀ p∈ps,c ∉ p)->ki c (kh [c] ps)=ps
 | [],h,_=>absurd rfl h
 | [p],_,h=>ak4 (h p (au ..))
 | p::q::ps,_,h=>by
  show ki c (p++([c]++kh [c] (q::ps)))=_
  rw[dJ,aI9 (h p (au ..)),ap8 (by simp) fun x hx=>h x (ao _ hx)]
theorem aX5 (w:List Nat)(c:Nat):dS (mkS w) ⟨#[c]⟩=(ki c w).map mkS:=by
 let y:=(dS (mkS w) ⟨#[c]⟩).map fun p=>p.cps.toList
 have e1:y.map mkS=dS (mkS w) ⟨#[c]⟩:=by
  show c7 _ (c7 _ _)=_
  rw[bV]
  conv=>rhs;rw[<-List.map_id (dS (mkS w) ⟨#[c]⟩)]
  refine eA fun p _=>?_
  simp
 have F:y≠[]:=by
  intro z
  have:=split_pos (mkS w) ⟨#[c]⟩
  rw[<-e1,z]at this
  simp at this
 have h:∀ p∈y,c ∉ p:=fun p G=>by
  obtain⟨q,hq,rfl⟩:=aE.mp G
  exact StrLaws.split_free (mkS w) c q hq
 have hj:mkS (kh [c] y)=mkS w:=by
  rw[<-aD8,e1]
  exact StrLaws.join_split (mkS w) ⟨#[c]⟩
 have C:kh [c] y=w:=by
  have:=congrArg (fun x:Str=>x.cps.toList) hj
  simpa using this
 rw[<-e1,<-ap8 F h,C]
theorem at8:∀(h:List (List Nat)) (tk:Nat),Vals (h.map aI5) (strsFrom tk (h.map mkS))
 | [],_=>.nil
 | x::h,tk=>.cons ⟨tk,rfl⟩ (at8 h (tk+1))
theorem bc0 {X:Cx}:MtR X "str.split" (fun x vs H Q=>∃(w:List Nat) (c:Nat),x=aI5 w/\vs=[.str ⟨#[c]⟩]/\w.length+2<=aC/\∀ p,H p=none->Q (.ref p) (upd H p (.lst ((ki c w).map aI5)))):=by
 intro z s σ H x vs v us Q I rx rv h
 obtain⟨w,c,rfl,rfl,hz,q⟩:=h
 obtain⟨t,rfl⟩:=(show ∃ t,v=Value.str (mkS w) t from rx)
 obtain⟨u,rfl,ru⟩:=rv.one
 obtain⟨Y,rfl⟩:=(show ∃ t,u=Value.str ⟨#[c]⟩ t from ru)
 have F:(mkS w).length=w.length:=by simp[fP]
 have C:=aX5 w c
 have G:=split_le (mkS w) ⟨#[c]⟩
 have y:((ki c w).map aI5).length<=aC:=by
  rw[C,ar,F]at G
  rw[ar];omega
 have one:dS (mkS w) ⟨#[c]⟩=[mkS w]->∀ sh:ae,Inv X z σ H sh->EP X z σ Q (.ref sh.heap.objs.size) { sh with heap:=sh.heap.push { cls:=.type "list",data:=.seq [Value.str (mkS w) t].toArray } }:=fun e1 sh J=>by
  have e2:(ki c w).map mkS=[mkS w]:=by rw[<-C,e1]
  have e3:ki c w=[w]:=by
   cases hd:ki c w with
   | nil=>rw[hd]at e2;cases e2
   | cons a r =>
    rw[hd,aB]at e2
    cases r with
    | nil =>
     have:=congrArg (fun x:Str=>x.cps.toList) (fF e2)
     have:a=w:=by simpa using this
     rw[this]
    | cons b r=>cases fG e2
  refine⟨.ref _,_,J.lnew (t':=sh.toks) (ys:=(ki c w).map aI5) (its:=[Value.str (mkS w) t]) ?_ y,rfl,q _ J.fresh⟩
  rw[e3]
  exact .cons ⟨t,rfl⟩ .nil
 cases h1:(decide ((mkS w).length<(⟨#[c]⟩:Str).length)||decide (g6 (mkS w)<g6 ⟨#[c]⟩))with
 | true =>
  refine cT cI (dP s _ t) dv (c8 _ _) (meets_str_split_cannot_occur (mkS w) ⟨#[c]⟩ t Y h1) ?_
  exact one (by unfold dS;rw[if_pos h1]) s I
 | false =>
  cases hf:(fH (mkS w) ⟨#[c]⟩ 0 (mkS w).length ((mkS w).length+1)).isEmpty with
  | true =>
   refine cT cI (dP s _ t) dv (c8 _ _) (meets_str_split_not_found (mkS w) ⟨#[c]⟩ t Y h1 rfl hf) ?_
   exact one (by unfold dS;rw[if_neg (by rw[h1];decide),if_pos hf]) s I
  | false =>
   have Z:Builtin.Str.partsBetween (mkS w) (fH (mkS w) ⟨#[c]⟩ 0 (mkS w).length ((mkS w).length+1)) (⟨#[c]⟩:Str).length=(ki c w).map mkS:=by
    rw[<-C]
    unfold dS
    rw[if_neg (by rw[h1];decide),if_neg (by rw[hf];decide)]
   refine cT cI (dP s _ t) dv (c8 _ _) (meets_str_split_sep (mkS w) ⟨#[c]⟩ t Y h1 rfl hf (by omega) (by rw[Z,ar];rw[ar]at y;exact y)) ?_
   rw[Z]
   exact⟨.ref _,_,I.lnew (t':=_) (ys:=(ki c w).map aI5) (at8 _ _) y,rfl,q _ I.fresh⟩
section
variable {Γ:Gm} {F:ke} {n:Nat} {X:Cx} {ck:Ck} {σ:St} {H:Hp} {Q:VK}
theorem bn6 {o:kO}{m:jZ->jW->j0 (List jX)}{ob a:Expr}{ap cp:Pos}(G:CG Γ F n X ck)(hab:bd6 ob=true)(hl:(ap.endLine==cp.line)=true)(ho:PE X ob (TEv Γ (j1 F o)))(hs:shp a=true)(h:PE X a (TFv Γ m))(J:∀ ρ s,DV.KR s (m ρ s)) :
  PE X (.Call (.Attribute ob "extend" ap) [a] [] cp) (TEv Γ (fun ρ s=>(j1 F o ρ s).bind fun x s=>(m ρ s).bind fun q s=>DV.bh5 x q s)):=by
 refine(aH8 G.K du gv PySem.F.type_list_extend aS8 ho (zH h ad9 (za hs)) (al3 hab) ?_ hl (za hs) rfl).imp fun σ H Q q=>?_
 ·rw[(zD (es:=[a]) fun e he=>by rw[bn.mp he];exact hs).2];rfl
 ·obtain⟨φ,ρ,s,d,s',E,R,y,q⟩:=q
  obtain⟨x,s1,e1,y⟩:=aa0 y
  obtain⟨l,s2,e2,y⟩:=aa0 y
  refine⟨φ,ρ,s,x,s1,E,R,e1,fun v φ1 H1 g1 l1 b1 r1 R1=>?_⟩
  cases x with
  | ref r =>
   have y:(match s2[r]? with
    | some (.lst m)=>if m.length+l.length<=j4 then DV.R.ok DV.D.non (s2.set r (.lst (m++l)))else .bad
    | _=>.bad)=.ok d s':=y
   cases e:s2[r]? with
   | none=>rw[e]at y;exact fb y
   | some ob' =>
    rw[e]at y
    cases ob' with
    | lst l0 =>
     have y:(if l0.length+l.length<=j4 then DV.R.ok DV.D.non (s2.set r (.lst (l0++l)))else .bad)=.ok d s':=y
     split at y
     case isFalse=>exact fb y
     rename_i hlim
     cases y
     have hlt:r<s1.length:=by unfold j2 at b1;exact of_decide_eq_true b1
     have a0:tyV Γ.K "list" (.ref (φ1 r)) H1:=by
      obtain⟨o0,e0⟩:∃ o0,s1[r]?=some o0:=⟨s1[r],ak hlt⟩
      have z:=R1.obj r o0 e0
      cases o0 with
      | lst l0 =>
       obtain⟨Z,Y,_⟩:=z
       exact .inl ⟨rfl,Z,SqL.of Y⟩
      | ro l0 =>
       obtain⟨Z,Y,_⟩:=z
       exact .inl ⟨rfl,Z,Y.1⟩
      | dic _ =>
       obtain⟨o',C,ek⟩:=J ρ s1 _ _ e2 r _ e0
       rw[e]at C;cases C;cases ek
      | dit _ =>
       obtain⟨o',C,ek⟩:=J ρ s1 _ _ e2 r _ e0
       rw[e]at C;cases C;cases ek
      | ins _ _=>exact z.elim
     rw[r1.refE]
     refine⟨a0,φ1,ρ,s1,l,s2,E.mono g1 l1,R1,e2,fun p ys φ2 H2 g2 l2 b2 hp h0 ho r2 R2=>?_⟩
     obtain⟨Z,Y,h2⟩:=R2.addr e
     have a1:jY s2.length l0=true:=by have:=R2.wf r _ e;unfold j3 at this;exact this
     refine⟨φ1 r,p,Z,ys,rfl,rfl,by rw[<-g2.w.map r hlt];exact Y,hp,by rw[h2.length,r2.length];have:=bg3;omega,?_⟩
     rw[<-g2.w.map r hlt]
     exact(q.trans (g1.trans g2 l1) (aj l1 l2)).put R2 e (h2.append r2) (zz a1 b2) rfl RV.nonI
    | _=>exact fb y
  | _=>exact fb y
theorem aX4 {φ:Nat->Addr}{H:Hp}:∀ {l:List jX} {C:List (List Nat)} {y:List V},kC l=some C->RVL Γ φ H l y->y=C.map aI5
 | [],C,y,h,r=>by cases h;exact r.unnil
 | d::l,C,y,h,r=>by
  obtain⟨w,ws,rfl,r1,F⟩:=r.uncons
  cases d with
  | str z =>
   unfold kC at h
   cases e:kC l with
   | none=>rw[e]at h;cases h
   | some ss' =>
    rw[e]at h
    cases h
    rw[aB,<-aX4 e F,r1.strE];rfl
  | _=>cases h
theorem bu2 {o:kO}{m:jZ->jW->j0 jX}{ob a:Expr}{ap cp:Pos}(G:CG Γ F n X ck)(hab:bd6 ob=true)(hl:(ap.endLine==cp.line)=true)(ho:PE X ob (TEv Γ (j1 F o)))(hs:shp a=true)(h:PE X a (TEv Γ m)) :
  PE X (.Call (.Attribute ob "join" ap) [a] [] cp) (TEv Γ (fun ρ s=>(j1 F o ρ s).bind fun x s=>(m ρ s).bind fun q s=>DV.aB2 x q s)):=by
 refine(aH8 G.K f9 gy PySem.F.type_str_join be3 ho (zH h ad9 (za hs)) (al3 hab) ?_ hl (za hs) rfl).imp fun σ H Q q=>?_
 ·rw[(zD (es:=[a]) fun e he=>by rw[bn.mp he];exact hs).2];rfl
 ·obtain⟨φ,ρ,s,d,s',E,R,z,q⟩:=q
  obtain⟨x,s1,e1,z⟩:=aa0 z
  obtain⟨y,s2,e2,z⟩:=aa0 z
  obtain⟨sep,r,l,C,rfl,rfl,er,es,hlim,rfl,rfl⟩:∃ sep r l C,x=.str sep/\y=.ref r/\s2[r]?=some (.lst l)/\kC l=some C/\(C.map fun w=>w.length+sep.length).sum<=j4/\d=.str (kh sep C)/\s'=s2:=by
   unfold DV.aB2 at z
   split at z
   ·split at z
    ·split at z
     ·split at z
      ·split at z
       ·rename_i C _ hz
        cases z
        have hf:(C.map fun w=>w.length+([]:List Nat).length).sum=C.flatten.length:=by
         rw[List.length_flatten]
         simp
        exact⟨_,_,_,C,rfl,rfl,by assumption,by assumption,by rw[hf];exact hz,by rw[au5],rfl⟩
       ·exact fb z
      ·exact fb z
     ·exact fb z
    ·exact fb z
   ·split at z
    ·split at z
     ·split at z
      ·split at z
       ·cases z;exact⟨_,_,_,_,rfl,rfl,by assumption,by assumption,by assumption,rfl,rfl⟩
       ·exact fb z
      ·exact fb z
     ·exact fb z
    ·exact fb z
   ·exact fb z
  refine⟨φ,ρ,s,_,s1,E,R,e1,fun v φ1 H1 g1 l1 b1 r1 R1=>?_⟩
  have ev:=r1.strE
  subst ev
  refine⟨rfl,φ1,ρ,s1,_,s',E.mono g1 l1,R1,e2,fun v φ2 H2 g2 Z b2 Y R2=>?_⟩
  have ew:=Y.refE
  subst ew
  obtain⟨xs,J,h2⟩:=R2.addr er
  rw[aX4 es h2]at J
  exact⟨φ2 r,sep,C,rfl,rfl,J,aj hlim zC,(q.trans (g1.trans g2 l1) (aj l1 Z)).here R2 rfl (RV.strI (aj (ak5 sep C) hlim))⟩
theorem aG6 {φ:Nat->Addr}{H:Hp}:∀ {y:List (List Nat)},(∀ w∈y,w.length<=j4)->RVL Γ φ H (y.map DV.D.str) (y.map aI5)
 | [],_=>.nil
 | w::y,h=>.cons (RV.strI (h w (au ..))) (aG6 fun x hx=>h x (ao _ hx))
theorem ax3 {m:Nat}:∀ h:List (List Nat),jY m (h.map DV.D.str)=true
 | []=>rfl
 | w::h=>by rw[aB];unfold jY;rw[ax3 h];rfl
theorem ag2 {c:Nat}:∀ {l:List Nat} (w:List Nat),w∈ki c l->w.length<=l.length
 | [],w,h=>by rw[bn.mp h];exact am _
 | x::l,w,h=>by
  have h:w∈(if x=c then[]::ki c l else match ki c l with|p::ps=>(x::p)::ps|[]=>[[x]]):=h
  split at h
  ·rcases az.mp h with rfl|h
   ·exact cz _
   ·exact iH (ag2 w h)
  ·split at h
   ·rename_i p ps e
    rcases az.mp h with rfl|h
    ·have:=ag2 (c:=c) (l:=l) p (by rw[e];exact au ..)
     simp only[aL];omega
    ·exact iH (ag2 w (by rw[e];exact ao _ h))
   ·rw[bn.mp h];simp
theorem bK7 {o:kO}{ob:Expr}{c k:Nat}{p ap cp:Pos}(G:CG Γ F n X ck)(hab:bd6 ob=true)(hl:(ap.endLine==cp.line)=true)(ho:PE X ob (TEv Γ (j1 F o))) :
  PE X (.Call (.Attribute ob "split" ap) [.Constant (.str ⟨#[c]⟩) k p] [] cp) (TEv Γ (fun ρ s=>(j1 F o ρ s).bind fun x s=>DV.bk7 c x s)):=by
 refine(aH8 G.K f9 cI PySem.F.type_str_split bc0 ho (zH bh7 ad9 rfl) (al3 hab) rfl hl rfl rfl).imp fun σ H Q q=>?_
 obtain⟨φ,ρ,s,d,s',E,R,h,q⟩:=q
 obtain⟨x,s1,e1,h⟩:=aa0 h
 unfold DV.bk7 at h
 cases x with
 | str w =>
  have h:(if w.length+2<=j4 then kH (.lst ((ki c w).map DV.D.str)) s1 else .bad)=.ok d s':=h
  split at h
  case isFalse=>exact fb h
  rename_i hz
  obtain⟨rfl,rfl⟩:=zM h
  refine⟨φ,ρ,s,_,s1,E,R,e1,fun v φ1 z g1 l1 b1 r1 R1=>?_⟩
  have ev:=r1.strE
  subst ev
  refine⟨rfl,w,c,rfl,rfl,by have:=zC;omega,fun p y=>?_⟩
  exact(q.trans g1 l1).alloc R1 (aG6 fun x hx=>by have:=ag2 x hx;omega) (ax3 _) y
 | _=>exact fb h
theorem PIf.imp {e:List Expr}{t t':TT}(h:PIf X e t)(i:∀ σ H Q,t' σ H Q->t σ H Q):PIf X e t':=fun y s σ H Q I q=>h y s σ H Q I (i σ H Q q)
structure CompF (Γ:Gm)(X:Cx)(m:jZ->jW->j0 (List jX))(E:Expr):Prop where
 ex:∃ elt tgt iter ifs scope pos N' caps wi g tc te,E=.ListComp elt [⟨tgt,iter,ifs,0⟩] scope pos/\zJ N' caps scope X.N X.env.scope=true/\PI X tgt iter wi /\
  (∀(C:Addr) (cells:List (Str×Addr)) (s:ae) (H:Hp) (ex:List Addr),PG (zx X N' scope C cells s H ex) tgt g/\PIf (zx X N' scope C cells s H ex) ifs tc/\PE (zx X N' scope C cells s H ex) elt te) /\
  (∀ x,cP iter X.env x=pure x)/\∀ σ H Q,TFv Γ m σ H Q->tComp caps wi g tc te σ H Q
theorem CompF.pe {m:jZ->jW->j0 (List jX)}{E:Expr}(h:CompF Γ X m E)(hc:X.calm=true):PE X E (TFv Γ m):=by
 obtain⟨a0,Y,iter,C,scope,pos,N',y,wi,g,tc,te,rfl,Z,J,G,F,z⟩:=h.ex
 exact(aV4 N' y Z J hc G F).imp z
theorem bq8 {tg:kE}{mI:jZ->jW->j0 kN}{mc J:jZ->jW->j0 jX}{h:List (Option Nat)}{z y iter i:Expr}{scope:Scope}{pos:Pos}(G:CG Γ F n X ck)(Y:aK9 ck tg y iter h scope=true)
  (Z:PI X y iter (TIv Γ mI)) (hc:∀ C cells s H ex,PT (zx X (ckC ck y h scope).N scope C cells s H ex) i (TTv Γ mc)) (he:∀ C cells s H ex,PE (zx X (ckC ck y h scope).N scope C cells s H ex) z (TEv Γ J)) :
  CompF Γ X (fun ρ s=>(mI ρ s).bind fun q s0=>if q.its.length<=j4 then lh (fun s=>kt s0 s q.src) (fun d ρ s=>match ku ρ tg d with
   | some ρ=>j8 (mc ρ s) fun k s=>if k then(J ρ s).bind fun v s=>.ok (some v,ρ) s else .ok (none,ρ) s
   | none=>.bad) q.its (kW ρ h) s0 else .bad) (.ListComp z [⟨y,iter,[i],0⟩] scope pos):=by
 obtain⟨c1,c2,c3⟩:=G.comp Y
 exact⟨z,y,iter,[i],scope,pos,_,h,_,_,_,_,rfl,c1,Z,fun C cells s H ex=>⟨(c3 C cells s H ex).2,bv3 (hc C cells s H ex),he C cells s H ex⟩,aA9 c2,fun σ H Q q=>aR5 q⟩
theorem bb3 {tg:kE}{mI:jZ->jW->j0 kN}{Y:jZ->jW->j0 jX}{h:List (Option Nat)}{z y iter:Expr}{scope:Scope}{pos:Pos}(G:CG Γ F n X ck)(J:aK9 ck tg y iter h scope=true)
  (Z:PI X y iter (TIv Γ mI)) (he:∀ C cells s H ex,PE (zx X (ckC ck y h scope).N scope C cells s H ex) z (TEv Γ Y)) :
  CompF Γ X (fun ρ s=>(mI ρ s).bind fun q s0=>if q.its.length<=j4 then lh (fun s=>kt s0 s q.src) (fun d ρ s=>match ku ρ tg d with
   | some ρ=>(Y ρ s).bind fun v s=>.ok (some v,ρ) s
   | none=>.bad) q.its (kW ρ h) s0 else .bad) (.ListComp z [⟨y,iter,[],0⟩] scope pos):=by
 obtain⟨c1,c2,c3⟩:=G.comp J
 refine⟨z,y,iter,[],scope,pos,_,h,_,_,TTv Γ (fun ρ s=>.ok (.bl true) s),_,rfl,c1,Z,fun C cells s H ex=>⟨(c3 C cells s H ex).2,bj9.imp fun σ H Q q=>?_,he C cells s H ex⟩,aA9 c2,fun σ H Q q=>aR5 (TFv.eq (fun ρ s=>?_) q)⟩
 ·obtain⟨φ,ρ,s,b,s',E,R,J,q⟩:=q
  cases J
  exact q φ H (Gr.refl _ _ _) (am _) R
 ·congr 1
theorem bq4 {tg:Expr}{e:kO}{E:Expr}(G:CG Γ F n X ck)(h:PE X E (TEv Γ (j1 F e))):PI X tg E (TIv Γ (lx F (.seq e))):=by
 refine(PI.or (bs3 G.K h) (PI.or (be6 G.K h) (bx4 h))).imp fun σ H R q=>bK2 (TIv.eq (fun ρ s=>rfl) q)
theorem bb4 {tg:Expr}{a:kO}{l:Expr}{p pos:Pos}(G:CG Γ F n X ck)(hg:ck.gl "range"=true)(hs:shp l=true)(h:PE X l (TEv Γ (j1 F a))):PI X tg (.Call (.Name "range" p) [l] [] pos) (TIv Γ (lx F (.rng1 a))) :=
 (aQ6 (G.gl hg).1 (G.bi _ (by decide)) (zH h ad9 (za hs)) (za hs)).imp fun σ H R q=>bq5 (TIv.eq (fun ρ s=>rfl) q)
theorem bs4 {elts:List Expr}{ek:Nat}{epos:Pos}{a b:kO}{l r:Expr}{p pos:Pos}(G:CG Γ F n X ck)(hg:ck.gl "zip"=true)(hs:shp l=true)(y:shp r=true)(h:PE X l (TEv Γ (j1 F a)))(z:PE X r (TEv Γ (j1 F b))):PI X (.Tuple elts ek epos) (.Call (.Name "zip" p) [l,r] [] pos) (TIv Γ (lx F (.zip (.seq a) (.seq b)))):=by
 have q:=bC8 (elts:=elts) (ek:=ek) (epos:=epos) (p:=p) (pos:=pos) (G.gl hg).1 (G.bi _ (by decide)) (zH h (zH z ad9 (za y)) (za hs)) (by rw[za hs,za y];rfl) (za y)
 rw[G.K]at q
 exact q.imp fun σ H R q=>bH9 (TIv.eq (fun ρ s=>rfl) q)
theorem bE0 (h:TEv Γ (fun ρ s=>kH (.dic []) s) σ H Q):bh9 σ H Q:=by
 obtain⟨φ,ρ,s,d,s',E,R,z,q⟩:=h
 obtain⟨rfl,rfl⟩:=zM z
 intro p y
 obtain⟨g,C⟩:=R.new (o:=.dic []) (u:=.dK []) y rfl fun φ' H' g e=>⟨[],e,rfl⟩
 exact q (.ref p) _ _ g (by simp) (by unfold j2;simp) (by unfold RV;simp) C
theorem by9 {mk mv:jZ->jW->j0 jX}(h:TEv Γ (fun ρ s=>(mk ρ (s++[.dic []])).bind fun kd s1=>(mv ρ s1).bind fun C s2=>if kd.key=true/\s2[s.length]?=some (.dic [])then .ok (.ref s.length) (s2.set s.length (.dic [(kd,C)]))else .bad) σ H Q):bI1 [(TEv Γ mk,TEv Γ mv)] σ H Q:=by
 obtain⟨φ,ρ,s,d,s',E,R,y,q⟩:=h
 obtain⟨kd,s1,e1,y⟩:=aa0 y
 obtain⟨C,s2,e2,y⟩:=aa0 y
 split at y
 case isFalse=>exact fb y
 rename_i hc
 cases y
 intro p hp
 obtain⟨g0,R0⟩:=R.new (o:=.dic []) (u:=.dK []) hp rfl fun φ' H' g e=>⟨[],e,rfl⟩
 have l0:s.length<=(s++[DV.O.dic []]).length:=by simp
 refine⟨_,ρ,s++[DV.O.dic []],kd,s1,E.mono g0 l0,R0,e1,fun v1 φ1 H1 g1 l1 b1 r1 R1=>?_⟩
 refine⟨φ1,ρ,s1,C,s2,(E.mono g0 l0).mono g1 l1,R1,e2,fun F φ2 H2 Y J b2 r2 R2=>?_⟩
 have z:φ2 s.length=p:=by
  rw[Y.w.map s.length (ax (by simp) l1),g1.w.map s.length (by simp)];simp
 obtain⟨k,hk⟩:=ai3 hc.1
 have ek:=ay9 hk (RV.mono Y kd v1 b1 r1)
 obtain⟨G,z1,z2⟩:=R2.obj s.length _ hc.2
 have z2:G=[]:=z2
 subst z2
 rw[z]at z1
 refine⟨z1,[(k,F)],by rw[ek];rfl,by simp,?_⟩
 have hb:(DV.O.dic [(kd,C)]).bnd s2.length=true:=by
  unfold j3
  simp only[aB,cG,jY,fx,ai]
  exact⟨zc J _ b1,b2⟩
 obtain⟨Z,R3⟩:=R2.set (o:=.dic [(kd,C)]) (u:=.dK [(k,F)]) hc.2 rfl hb fun H' g e=>⟨_,e,k,F,[],rfl,hk,RV.monoW g _ _ b2 r2,rfl⟩
 rw[z]at Z R3
 have L:s.length<=s2.length:=aj l0 (aj l1 J)
 have lt:s.length<s2.length:=ax (by simp) (aj l1 J)
 exact q (.ref p) _ _ (((g0.trans g1 l0).trans Y (aj l0 l1)).trans Z L) (by rw[bA];exact L) (by unfold j2;rw[bA];exact decide_eq_true lt) (by unfold RV;rw[z]) R3
section
variable {c:String} {kvs:List (List Nat×List Nat)} {a:Addr}
end
end
section
variable {Γ:Gm} {F:ke} {n:Nat} {X:Cx} {ck:Ck}
end
section
variable {Γ:Gm} {F:ke} {n:Nat} {X:Cx} {ck:Ck}
def TJv (Γ:Gm)(m:jZ->jW->j0 (List jX))(out:List Nat):TE:=fun σ H Q=>∃ φ ρ s l s' ws,RE Γ φ H s.length ρ σ/\Rp Γ φ H s/\m ρ s=.ok l s'/\kC l=some ws/\(out++ws.flatten).length<=j4 /\
 ∀ φ' H',Gr φ s H φ' s' H'->s.length<=s'.length->Rp Γ φ' H' s'->Q (.str ⟨(out++ws.flatten).toArray⟩) H'
def PF (Γ:Gm)(X:Cx)(vs:List Expr)(m:jZ->jW->j0 (List jX)):Prop :=
 ∀(out:List Nat) (pins:List (Addr×Obj)) (s:ae) (σ:St) (H:Hp) (Q:VK),Inv X pins σ H s->TJv Γ m out σ H Q->wpAny (model X.prog X.w) X.A (joinParts ⟨out.toArray⟩ (evalEach vs X.env)) (EP X pins σ Q) X.xe s
theorem PF.eq {vs:List Expr}{m m':jZ->jW->j0 (List jX)}(e:∀ ρ s,m ρ s=m' ρ s)(h:PF Γ X vs m):PF Γ X vs m':=fun out y s σ H Q I q=>by
 obtain⟨φ,ρ,s0,l,s',ws,E,R,z,q⟩:=q
 exact h out y s σ H Q I ⟨φ,ρ,s0,l,s',ws,E,R,by rw[e];exact z,q⟩
theorem aE0 (w:List Nat):(⟨w.toArray⟩:Str).length=w.length:=by simp[fP]
theorem bC2:PF Γ X [] (fun _ s=>.ok [] s):=fun out h s σ H Q I q=>by
 obtain⟨φ,ρ,s0,l,s',ws,E,R,y,hw,hl,q⟩:=q
 cases y
 cases hw
 rw[List.flatten_nil,aW]at q hl
 exact joinParts_nilE (joinParts_nil ⟨.str ⟨out.toArray⟩,H,I.tok _,⟨_,rfl⟩,q φ H (Gr.refl _ _ _) (am _) R⟩ (by rw[aE0];exact aj hl zC))
theorem aS9 {d:jX}{l:List jX}{ws:List (List Nat)}(h:kC (d::l)=some ws):∃ w y,d=.str w/\kC l=some y/\ws=w::y:=by
 cases d with
 | str w =>
  have h:(kC l).map (w::·)=some ws:=h
  cases e:kC l with
  | none=>rw[e]at h;cases h
  | some y=>rw[e]at h;cases h;exact⟨w,y,rfl,rfl,rfl⟩
 | _=>cases h
theorem aV6 {v:Expr}{vs:List Expr}{m1:jZ->jW->j0 jX}{m2:jZ->jW->j0 (List jX)}(h2:PF Γ X vs m2)
  (h1:∀(h:List (Addr×Obj)) (s:ae) (σ:St) (H:Hp) (w:List Nat) (Q:VK),w.length<=j4->Inv X h σ H s->TEv Γ m1 σ H (fun x y=>x=.str ⟨w.toArray⟩/\Q x y) ->
   wpAny (model X.prog X.w) X.A (eval v X.env) (fun u s1=>∃ t y,u=.str ⟨w.toArray⟩ t/\Inv X h σ y s1/\Q (.str ⟨w.toArray⟩) y) X.xe s) :
  PF Γ X (v::vs) (fun ρ s=>(m1 ρ s).bind fun d s=>(m2 ρ s).bind fun l s=>.ok (d::l) s):=fun out h s σ H Q I q=>by
 obtain⟨φ,ρ,s0,l,s',ws,E,R,z,hw,hl,q⟩:=q
 obtain⟨d,s1,e1,z⟩:=aa0 z
 obtain⟨Y,s2,e2,z⟩:=aa0 z
 cases z
 obtain⟨w,J,rfl,G,rfl⟩:=aS9 hw
 rw[cy,<-aR]at hl q
 have C:(out++w).length<=j4:=by rw[aD]at hl;omega
 have F:w.length<=j4:=by rw[aD]at C;omega
 refine joinParts_consE (joinParts_cons (bN (h1 h s σ H w (fun x y=>∃ φ1,Gr φ s0 H φ1 s1 y/\s0.length<=s1.length/\Rp Γ φ1 y s1) F I ⟨φ,ρ,s0,.str w,s1,E,R,e1,fun v φ1 y g1 l1 b1 r1 R1=>⟨r1.strE,φ1,g1,l1,R1⟩⟩) (fun u Z hu=>?_) fun _ _ x=>x))
 obtain⟨t,y,rfl,I1,φ1,g1,l1,R1⟩:=hu
 show(_++_:Str).length<=aC/\_
 rw[aq8]
 refine⟨by rw[aE0];exact aj C zC,h2 (out++w) h Z σ y Q I1 ⟨φ1,ρ,s1,Y,s',J,E.mono g1 l1,R1,e2,G,hl,fun φ2 H2 g2 Y R2=>q φ2 H2 (g1.trans g2 l1) (aj l1 Y) R2⟩⟩
theorem bh4 {v:Expr}{z:jZ->jW->j0 jX}(hv:PE X v (TEv Γ z))(h:List (Addr×Obj))(s:ae)(σ:St)(H:Hp)(w:List Nat)(Q:VK)(I:Inv X h σ H s)(q:TEv Γ z σ H (fun x y=>x=.str ⟨w.toArray⟩/\Q x y)) :
  wpAny (model X.prog X.w) X.A (eval v X.env) (fun u s1=>∃ t y,u=.str ⟨w.toArray⟩ t/\Inv X h σ y s1/\Q (.str ⟨w.toArray⟩) y) X.xe s :=
 bN (hv h s σ H _ I q) (fun u s1 C=>by
  obtain⟨x,y,G,J,ex,F⟩:=C
  subst ex
  obtain⟨t,rfl⟩:=(show ∃ t,u=Value.str ⟨w.toArray⟩ t from J)
  exact⟨t,y,rfl,G,F⟩) fun _ _ x=>x
theorem bJ8 {v:Expr}{p:Pos}{vs:List Expr}{z:jZ->jW->j0 jX}{y:jZ->jW->j0 (List jX)}(hv:PE X v (TEv Γ z))(G:PF Γ X vs y) :
  PF Γ X (.FormattedValue v (-1) none p::vs) (fun ρ s=>(z ρ s).bind fun d s=>(y ρ s).bind fun l s=>.ok (d::l) s) :=
 aV6 G fun h s σ H w Q hw I q=>FormattedValue_plain (bN (bh4 hv h s σ H w Q I q) (fun u s1 Y=>by
  obtain⟨t,F,rfl,J,C⟩:=Y
  exact formatField_str (fun t' tk=>⟨t',F,rfl,J.tok tk,C⟩) (by rw[aE0];exact aj hw zC)) fun _ _ x=>x)
theorem bE1 {v:Expr}{vs:List Expr}{y:jZ->jW->j0 jX}{z:jZ->jW->j0 (List jX)}(hv:PE X v (TEv Γ y))(C:PF Γ X vs z) :
  PF Γ X (v::vs) (fun ρ s=>(y ρ s).bind fun d s=>(z ρ s).bind fun l s=>.ok (d::l) s) :=
 aV6 C fun h s σ H w Q hw I q=>bh4 hv h s σ H w Q I q
end
section
variable {Γ:Gm} {F:ke} {n:Nat}
theorem bB7 {X:Cx}{c:DV.Cn}{v:Const}{k:Nat}{pos:Pos}(h:mC c v=true):EvT Γ X (.Constant v k pos) (j1 F (.cst c)):=by
 refine .val ?_
 unfold mC at h
 split at h
 ·exact bw4.imp fun σ H Q q=>ay2 (c:=.non) (fun _=>rfl) (fun _ _=>RV.nonI) (TEv.eq (fun ρ s=>rfl) q)
 ·rename_i b c
  have e:=eq_of_beq h
  subst e
  exact bS6.imp fun σ H Q q=>ay2 (c:=.bl b) (fun _=>rfl) (fun _ _=>RV.blI) (TEv.eq (fun ρ s=>rfl) q)
 ·rename_i i j
  have e:=of_decide_eq_true h
  subst e
  exact bE4.imp fun σ H Q q=>ay2 (c:=.int i) (fun _=>rfl) (fun _ _=>RV.intI) (TEv.eq (fun ρ s=>rfl) q)
 ·rename_i x y
  rw[ai]at h
  have e:=of_decide_eq_true h.1
  have e2:=of_decide_eq_true h.2
  subst e
  exact bh7.imp fun σ H Q q=>ay2 (c:=.str x) (fun _=>rfl) (fun _ _=>RV.strI (by unfold j4;omega)) (TEv.eq (fun ρ s=>rfl) q)
 ·cases h
theorem bo1 {X:Cx}{Y:Ck}{es:kx}{y:List Expr}{pos:Pos}(m:mEs Y es y=true)(hz:y.length<=1000)(h:PA X y (TAv Γ (kB F es))):PE X (.List y pos) (TFv Γ (DV.evL F (.disp es))):=by
 refine(bj7 h).imp fun σ H Q q=>?_
 obtain⟨φ,ρ,s,l,s',E,R,C,q⟩:=q
 refine⟨φ,ρ,s,l,s',E,R,C,fun vs φ1 G g1 l1 b1 r1 R1=>⟨by rw[r1.length,ar8 C m];exact aI4 hz,fun p z=>?_⟩⟩
 obtain⟨J,R2⟩:=R1.same (H':=upd G p (.lst vs)) ((ae7.refl G).new z)
 refine q p vs φ1 _ (g1.trans J l1) l1 b1 zo ?_ (Off.new R1 z) (RVL.mono J _ _ b1 r1) R2
 cases e:H p with
 | none=>rfl
 | some o=>exact absurd z (g1.st p (by rw[e];simp))
theorem CompF.eq {X:Cx}{m m':jZ->jW->j0 (List jX)}{E:Expr}(c:CompF Γ X m E)(e:∀ ρ s,m' ρ s=m ρ s):CompF Γ X m' E:=by
 have:m'=m:=funext fun ρ=>funext fun s=>e ρ s
 subst this;exact c
theorem zh {a b:Bool}(h:(a&&b)=true):a=true/\b=true:=by rw[ai]at h;exact h
theorem bl2 {X:Cx}{z:Ck}{g:String}{p:Pos}(G:CG Γ F n X z)(h:z.gl (g:Str)=true):EvT Γ X (.Name (g:Str) p) (j1 F (.glob g)):=by
 refine .val ?_
 obtain⟨g1,g2,g3⟩:=G.gl h
 cases e:F.con g with
 | none =>
  intro C s σ H Q I q
  obtain⟨φ,ρ,s,d,s',E,R,y,q⟩:=q
  have y:(match F.con g with|some d=>DV.R.ok d s|none=>.bad)=.ok d s':=y
  rw[e]at y
  cases y
 | some d =>
  obtain⟨v,u,h1,Z,Y,J⟩:=G.con g d e
  exact(br3 g1 h1 Z g2).imp fun σ H Q q=>ay2 (c:=d) Y J (TEv.eq (fun ρ s=>by show(match F.con g with|some d=>DV.R.ok d s|none=>.bad)=DV.R.ok d s;rw[e]) q)
theorem bC4 {X:Cx}{y:Ck}{i:Nat}{x:Str}{p:Pos}(G:CG Γ F n X y)(h:y.var i x=true):EvT Γ X (.Name x p) (j1 F (.var i)):=by
 refine .val ?_
 unfold Ck.var at h
 obtain⟨h,C⟩:=zh h
 obtain⟨h,Y⟩:=zh h
 obtain⟨J,z⟩:=zh h
 have e1:(x==("__debug__":Str))=false:=by simpa using Y
 have e2:(x==("__classdict__":Str))=false:=by simpa using C
 exact(bz8 (by rw[G.N];exact of_decide_eq_true J) (G.vis z) e1 e2).imp fun σ H Q q=>bJ5 i (TEv.eq (fun ρ s=>rfl) q)
theorem aI2 {X:Cx}{E:Expr}{m:jZ->jW->j0 jX}(h:∀ ρ s,m ρ s=.bad):EvT Γ X E m:=by
 refine⟨fun y s σ H Q I q=>?_,fun y s σ H Q I q=>?_⟩
 ·obtain⟨φ,ρ,s,d,s',E,R,z,q⟩:=q
  rw[h]at z;exact fb z
 ·obtain⟨φ,ρ,s,d,s',E,R,z,q⟩:=q
  rw[h]at z;exact fb z
inductive LK (Γ:Gm)(X:Cx)(m:jZ->jW->j0 (List jX))(E:Expr)(k:Nat):Prop where
 | c (h:CompF Γ X m E):LK Γ X m E k
 | f (hk:1<=k) (h:PE X E (TFv Γ m)):LK Γ X m E k
 | s (hk:k=2) (h:PE X E (TLv Γ m)):LK Γ X m E k
theorem bA2 {X:Cx}{m:jZ->jW->j0 (List jX)}{E:Expr}(h:LK Γ X m E 0):CompF Γ X m E:=by
 cases h with
 | c h=>exact h
 | f hk h=>omega
 | s hk h=>omega
theorem bz2 {X:Cx}{y:Ck}{m:jZ->jW->j0 (List jX)}{E:Expr}(G:CG Γ F n X y)(h:LK Γ X m E 1):PE X E (TFv Γ m):=by
 cases h with
 | c h=>exact h.pe G.calm
 | f hk h=>exact h
 | s hk h=>omega
theorem bP7 {X:Cx}{y:Ck}{m:jZ->jW->j0 (List jX)}{E:Expr}(G:CG Γ F n X y)(h:LK Γ X m E 2):PE X E (TLv Γ m):=by
 cases h with
 | c h=>exact(h.pe G.calm).imp fun σ H Q q=>aI7 q
 | f hk h=>exact h.imp fun σ H Q q=>aI7 q
 | s hk h=>exact h
theorem biOk_inv {z:Ck}{b:kD}{x:Str}{C:List Expr}{es:kx}(h:bK8 z b x C (mEs z es C) (mEs z es (C.take 1))=true) :
  (∃ k t a y J,biK b=some (k,t)/\C=[a,.Name y J]/\x=("isinstance":Str)/\y=t/\z.gl x=true/\z.gl y=true/\mEs z es [a]=true)\/∃ a ys,C=a::ys/\biT b=some x/\z.gl x=true/\mEs z es (a::ys)=true:=by
 unfold bK8 at h
 cases hk:biK b with
 | none =>
  rw[hk]at h
  cases C with
  | nil=>exact ff h
  | cons a ys =>
   obtain⟨h,Y⟩:=zh h
   obtain⟨G,F⟩:=zh h
   exact .inr ⟨a,ys,rfl,of_decide_eq_true G,F,Y⟩
 | some p =>
  rw[hk]at h
  cases C with
  | nil=>exact ff h
  | cons a ys=>cases ys with
   | nil=>exact ff h
   | cons b ys=>cases b with
    | Name y J=>cases ys with
     | nil =>
      obtain⟨h,h5⟩:=zh h
      obtain⟨h,Z⟩:=zh h
      obtain⟨h,Y⟩:=zh h
      obtain⟨G,F⟩:=zh h
      exact .inl ⟨p.1,p.2,a,y,J,rfl,rfl,of_decide_eq_true G,of_decide_eq_true Y,F,Z,h5⟩
     | cons _ _=>exact ff h
    | _=>exact ff h
mutual
theorem sE:∀(e:kO) (E:Expr) (X:Cx) (z:Ck),CG Γ F n X z->mE z e E=true->EvT Γ X E (j1 F e)
 | .var i,E,X,z,G,h=>by
  cases E with
  | Name x p =>
   exact bC4 G h
  | _=>exact ff h
 | .cst c,E,X,z,G,h=>by
  cases E with
  | Constant v k p =>
   exact bB7 h
  | _=>exact ff h
 | .glob g,E,X,z,G,h=>by
  cases E with
  | Name x p =>
   obtain⟨J,C⟩:=zh h
   have e:=of_decide_eq_true J
   subst e
   exact bl2 G C
  | _=>exact ff h
 | .bin op a b,E,X,z,G,h=>by
  cases E with
  | BinOp l o r pE =>
   obtain⟨h,Y⟩:=zh h
   obtain⟨J,C⟩:=zh h
   have e:=of_decide_eq_true J
   subst e
   exact bl6 G op (sE a _ X z G C) (sE b _ X z G Y)
  | _=>exact ff h
 | .neg _,E,X,z,G,h=>ff h
 | .not a,E,X,z,G,h=>by
  cases E with
  | UnaryOp o l p =>
   cases o with
   | Not =>
    exact bo6 (sE a _ X z G h)
   | _=>exact ff h
  | _=>exact ff h
 | .cmp op a b,E,X,z,G,h=>by
  cases E with
  | Compare l os rs pE =>
   cases os with
   | cons o os_0 =>
    cases os_0 with
    | nil =>
     cases rs with
     | cons r rs_0 =>
      cases rs_0 with
      | nil =>
       obtain⟨h,Y⟩:=zh h
       obtain⟨J,C⟩:=zh h
       have e:=of_decide_eq_true J
       subst e
       exact bk9 G op (au9 Y) (sE a _ X z G C) (sE b _ X z G Y)
      | _=>exact ff h
     | _=>exact ff h
    | _=>exact ff h
   | _=>exact ff h
  | _=>exact ff h
 | .chain o p a b c,E,X,z,G,h=>by
  cases E with
  | Compare l os rs pE =>
   cases os with
   | cons o1 os_0 =>
    cases os_0 with
    | cons o2 os_1 =>
     cases os_1 with
     | nil =>
      cases rs with
      | cons m rs_0 =>
       cases rs_0 with
       | cons r rs_1 =>
        cases rs_1 with
        | nil =>
         obtain⟨h,h5⟩:=zh h
         obtain⟨h,Z⟩:=zh h
         obtain⟨h,Y⟩:=zh h
         obtain⟨J,C⟩:=zh h
         have e:=of_decide_eq_true J
         have e':=of_decide_eq_true C
         subst e
         subst e'
         exact aX8 G o p (au9 h5) (sE a _ X z G Y) (sE b _ X z G Z) (sE c _ X z G h5)
        | _=>exact ff h
       | _=>exact ff h
      | _=>exact ff h
     | _=>exact ff h
    | _=>exact ff h
   | _=>exact ff h
  | _=>exact ff h
 | .isN _,E,X,z,G,h=>ff h
 | .notN _,E,X,z,G,h=>ff h
 | .isB _ _,E,X,z,G,h=>ff h
 | .notB _ _,E,X,z,G,h=>ff h
 | .and a b,E,X,z,G,h=>by
  cases E with
  | BoolOp op vs p=>cases op with
   | And =>
    cases vs with
    | nil=>exact ff h
    | cons l vs=>cases vs with
     | nil=>exact ff h
     | cons r vs=>cases vs with
      | nil =>
       obtain⟨J,C⟩:=zh h
       exact bp9 (sE a _ X z G J) (sE b _ X z G C)
      | cons r2 vs =>
       obtain⟨J,C⟩:=zh h
       exact bk0 (sE a _ X z G J) (sE b _ X z G C)
   | _=>exact ff h
  | _=>exact ff h
 | .or a b,E,X,z,G,h=>by
  cases E with
  | BoolOp op vs p=>cases op with
   | Or =>
    cases vs with
    | nil=>exact ff h
    | cons l vs=>cases vs with
     | nil=>exact ff h
     | cons r vs=>cases vs with
      | nil =>
       obtain⟨J,C⟩:=zh h
       exact bB6 (sE a _ X z G J) (sE b _ X z G C)
      | cons r2 vs =>
       obtain⟨J,C⟩:=zh h
       exact bz4 (sE a _ X z G J) (sE b _ X z G C)
   | _=>exact ff h
  | _=>exact ff h
 | .ite c a b,E,X,z,G,h=>by
  cases E with
  | IfExp tE l r pE =>
   obtain⟨h,Y⟩:=zh h
   obtain⟨J,C⟩:=zh h
   exact bn4 (sE c _ X z G J) (sE a _ X z G C) (sE b _ X z G Y)
  | _=>exact ff h
 | .tup es,E,X,z,G,h=>by
  cases E with
  | Tuple xs k p =>
   obtain⟨J,C⟩:=zh h
   exact bu8 J (of_decide_eq_true C) (ap2 (sEs es _ X z G J))
  | _=>exact ff h
 | .lst es,E,X,z,G,h=>by
  cases E with
  | List xs p =>
   obtain⟨J,C⟩:=zh h
   exact bp8 J (of_decide_eq_true C) (ap2 (sEs es _ X z G J))
  | _=>exact ff h
 | .dic .nil .nil,E,X,z,G,h=>by
  cases E with
  | Dict a b p=>cases a with
   | nil=>cases b with
    | nil=>exact .val (bf4.imp fun σ H Q q=>bE0 (TEv.eq (fun ρ s=>rfl) q))
    | _=>exact ff h
   | cons x a=>cases x with
    | none=>exact ff h
    | some x=>cases a with
     | nil=>cases b with
      | nil=>exact ff h
      | cons y b=>cases b with
       | nil=>exact ff h
       | _=>exact ff h
     | _=>exact ff h
  | _=>exact ff h
 | .dic (.cons k .nil) (.cons v .nil),E,X,z,G,h=>by
  cases E with
  | Dict a b p=>cases a with
   | nil=>cases b with
    | nil=>exact ff h
    | _=>exact ff h
   | cons x a=>cases x with
    | none=>exact ff h
    | some x=>cases a with
     | nil=>cases b with
      | nil=>exact ff h
      | cons y b=>cases b with
       | nil =>
        obtain⟨J,C⟩:=zh h
        obtain⟨J,_⟩:=zh J
        obtain⟨J,_⟩:=zh J
        obtain⟨C,_⟩:=zh C
        obtain⟨C,_⟩:=zh C
        exact .val ((bk5 (ba3 (sE k _ X z G J).1 (sE v _ X z G C).1 bp1) rfl rfl (by nofun) (by show 1<=15;decide)).imp fun σ H Q q=>by9 (TEv.eq (fun ρ s=>rfl) q))
       | _=>exact ff h
     | _=>exact ff h
  | _=>exact ff h
 | .dic .nil (.cons _ _),E,X,z,G,h=>aI2 fun _ _=>rfl
 | .dic (.cons _ .nil) .nil,E,X,z,G,h=>aI2 fun _ _=>rfl
 | .dic (.cons _ .nil) (.cons _ (.cons _ _)),E,X,z,G,h=>aI2 fun _ _=>rfl
 | .dic (.cons _ (.cons _ _)) _,E,X,z,G,h=>aI2 fun _ _=>rfl
 | .bitl _,E,X,z,G,h=>ff h
 | .fstr _,E,X,z,G,h=>ff h
 | .inC _ _,E,X,z,G,h=>ff h
 | .getC _ _,E,X,z,G,h=>ff h
 | .lrng _,E,X,z,G,h=>ff h
 | .dicT,E,X,z,G,h=>ff h
 | .get2 _ _ _,E,X,z,G,h=>ff h
 | .ix a b,E,X,z,G,h=>by
  cases E with
  | Subscript o i p =>
   obtain⟨J,C⟩:=zh h
   exact bH6 G (au9 C) (sE a _ X z G J) (sE b _ X z G C)
  | _=>exact ff h
 | .slL a lo,E,X,z,G,h=>by
  cases E with
  | Subscript o i p =>
   cases i with
   | Slice lo hi st p2 =>
    cases lo with
    | some l =>
     cases hi with
     | none =>
      cases st with
      | none =>
       obtain⟨J,C⟩:=zh h
       exact ev_slL' G (sE a _ X z G J) (sE lo _ X z G C)
      | _=>exact ff h
     | _=>exact ff h
    | _=>exact ff h
   | _=>exact ff h
  | _=>exact ff h
 | .slU a hi,E,X,z,G,h=>by
  cases E with
  | Subscript o i p =>
   cases i with
   | Slice lo hi st p2 =>
    cases lo with
    | none =>
     cases hi with
     | some l =>
      cases st with
      | none =>
       obtain⟨J,C⟩:=zh h
       exact bu4 G (sE a _ X z G J) (sE hi _ X z G C)
      | _=>exact ff h
     | _=>exact ff h
    | _=>exact ff h
   | _=>exact ff h
  | _=>exact ff h
 | .slLU _ _ _,E,X,z,G,h=>ff h
 | .rev _,E,X,z,G,h=>ff h
 | .call f as,E,X,z,G,h=>by
  cases E with
  | Call fE xs kw p =>
   cases fE with
   | Name x pN =>
    cases kw with
    | nil =>
     obtain⟨h,Y⟩:=zh h
     obtain⟨J,C⟩:=zh h
     have e:=of_decide_eq_true J
     subst e
     exact aZ3 G C Y (sAs as _ X z G Y)
    | _=>exact ff h
   | _=>exact ff h
  | _=>exact ff h
 | .callC _ _,E,X,z,G,h=>ff h
 | .callV _ _,E,X,z,G,h=>ff h
 | .bi b es,E,X,z,G,h=>by
  cases E with
  | Call fE xs kw p =>
   cases fE with
   | Name x pN =>
    cases kw with
    | nil =>
     have h:bK8 z b x xs (mEs z es xs) (mEs z es (xs.take 1))=true:=h
     rcases biOk_inv h with⟨k,t,a,y,py,hk,rfl,rfl,rfl,C,Z,h5⟩|⟨a,ys,rfl,J,C,Y⟩
     ·exact bl8 G hk C Z (sEs es _ X z G h5)
     ·exact bF4 G J C Y (ap2 (sEs es _ X z G Y))
    | _=>exact ff h
   | _=>exact ff h
  | _=>exact ff h
 | .mk k l,E,X,z,G,h=>by
  cases E with
  | ListComp e gs sc p =>
   obtain⟨J,C⟩:=zh h
   have e:=of_decide_eq_true J
   subst e
   exact .val (((bA2 (sL l _ X z G 0 C)).pe G.calm).imp fun σ H Q q=>aR8 (TEv.eq (fun ρ s=>rfl) q))
  | Call fE xs kw p =>
   cases fE with
   | Name x pN =>
    cases xs with
    | cons a xs_0 =>
     cases xs_0 with
     | nil =>
      cases kw with
      | nil =>
       obtain⟨h,Z⟩:=zh h
       obtain⟨C,Y⟩:=zh h
       rw[bt]at Z
       rcases Z with Z|Z
       ·obtain⟨h5,h6⟩:=zh Z
        exact .val ((bz9 G (of_decide_eq_true h5) C Y (bP7 G (sL l _ X z G 2 h6))).imp fun σ H Q q=>TEv.eq (fun ρ s=>rfl) q)
       ·obtain⟨h5,h6⟩:=zh Z
        exact .val ((bJ9 G (of_decide_eq_true h5) C Y (bz2 G (sL l _ X z G 1 h6))).imp fun σ H Q q=>TEv.eq (fun ρ s=>rfl) q)
      | _=>exact ff h
     | _=>exact ff h
    | _=>exact ff h
   | _=>exact ff h
  | _=>exact ff h
 | .mks _ _,E,X,z,G,h=>ff h
 | .mkDs _ _ _,E,X,z,G,h=>ff h
 | .minK _ _ _,E,X,z,G,h=>ff h
 | .mkD _ _ _,E,X,z,G,h=>ff h
 | .meth m o es,E,X,z,G,h=>by
  cases E with
  | Call fE xs kw p =>
   cases fE with
   | Attribute ob x ap =>
    cases kw with
    | nil =>
     obtain⟨h,h5⟩:=zh h
     obtain⟨h,Z⟩:=zh h
     obtain⟨h,Y⟩:=zh h
     obtain⟨J,C⟩:=zh h
     exact bf3 G (of_decide_eq_true J) C Y (sE o _ X z G Z).1 h5 (sEs es _ X z G h5)
    | _=>exact ff h
   | _=>exact ff h
  | _=>exact ff h
 | .ext o l,E,X,z,G,h=>by
  cases E with
  | Call fE xs kw p =>
   cases fE with
   | Attribute ob x ap =>
    cases xs with
    | cons a xs_0 =>
     cases xs_0 with
     | nil =>
      cases kw with
      | nil =>
       obtain⟨h,h6⟩:=zh h
       obtain⟨h,h5⟩:=zh h
       obtain⟨h,Z⟩:=zh h
       obtain⟨h,Y⟩:=zh h
       obtain⟨J,C⟩:=zh h
       have e:=of_decide_eq_true J
       subst e
       exact .val ((bn6 G C Y (sE o _ X z G Z).1 h6 (bz2 G (sL l _ X z G 1 h5)) (DV.aE6 G.fk l)).imp fun σ H Q q=>TEv.eq (fun ρ s=>rfl) q)
      | _=>exact ff h
     | _=>exact ff h
    | _=>exact ff h
   | _=>exact ff h
  | _=>exact ff h
 | .extS _ _,E,X,z,G,h=>ff h
 | .spl o c,E,X,z,G,h=>by
  cases E with
  | Call fE xs kw p =>
   cases fE with
   | Attribute ob x ap =>
    cases xs with
    | cons a xs_0 =>
     cases xs_0 with
     | nil =>
      cases kw with
      | nil =>
       obtain⟨h,h5⟩:=zh h
       obtain⟨h,Z⟩:=zh h
       obtain⟨h,Y⟩:=zh h
       obtain⟨J,C⟩:=zh h
       have e:=of_decide_eq_true C
       subst e
       cases a with
       | Constant v k pc =>
        have ev:=of_decide_eq_true J
        subst ev
        exact .val ((bK7 G Y Z (sE o _ X z G h5).1).imp fun σ H Q q=>TEv.eq (fun ρ s=>rfl) q)
       | _=>exact ff J
      | _=>exact ff h
     | _=>exact ff h
    | _=>exact ff h
   | _=>exact ff h
  | _=>exact ff h
 | .join o e',E,X,z,G,h=>by
  cases E with
  | Call fE xs kw p =>
   cases fE with
   | Attribute ob x ap =>
    cases xs with
    | cons a xs_0 =>
     cases xs_0 with
     | nil =>
      cases kw with
      | nil =>
       obtain⟨h,h6⟩:=zh h
       obtain⟨h,h5⟩:=zh h
       obtain⟨h,Z⟩:=zh h
       obtain⟨h,Y⟩:=zh h
       obtain⟨J,C⟩:=zh h
       have e:=of_decide_eq_true J
       subst e
       exact .val ((bu2 G C Y (sE o _ X z G Z).1 h6 (sE e' _ X z G h5).1).imp fun σ H Q q=>TEv.eq (fun ρ s=>rfl) q)
      | _=>exact ff h
     | _=>exact ff h
    | _=>exact ff h
   | _=>exact ff h
  | _=>exact ff h
theorem sEs:∀(es:kx) (y:List Expr) (X:Cx) (z:Ck),CG Γ F n X z->mEs z es y=true->PEs Γ F X es y
 | .nil,y,X,z,G,h=>by
  cases y with
  | nil =>
   exact trivial
  | _=>exact ff h
 | .cons e es,y,X,z,G,h=>by
  cases y with
  | cons x y =>
   obtain⟨h,Y⟩:=zh h
   obtain⟨J,C⟩:=zh h
   exact⟨⟨C,sE e _ X z G J⟩,sEs es _ X z G Y⟩
  | _=>exact ff h
theorem sFs:∀(es:kx) (z:List Expr) (X:Cx) (y:Ck),CG Γ F n X y->mFs y es z=true->PF Γ X z (kB F es)
 | .nil,z,X,y,G,h=>by
  cases z with
  | nil=>exact(bC2).eq fun _ _=>rfl
  | _=>exact ff h
 | .cons e es,z,X,y,G,h=>by
  cases z with
  | cons x z =>
   cases x with
   | FormattedValue v c sp p =>
    cases sp with
    | none =>
     obtain⟨h,Y⟩:=zh h
     obtain⟨J,C⟩:=zh h
     have e1:=of_decide_eq_true J
     subst e1
     exact(bJ8 (sE e _ X y G C).1 (sFs es _ X y G Y)).eq fun _ _=>rfl
    | _=>exact ff h
   | Constant v j p =>
    obtain⟨J,C⟩:=zh h
    exact(bE1 (sE e _ X y G J).1 (sFs es _ X y G C)).eq fun _ _=>rfl
   | _=>exact ff h
  | _=>exact ff h
theorem sAs:∀(es:lp) (y:List Expr) (X:Cx) (z:Ck),CG Γ F n X z->mAs z es y=true->PA X y (TAv Γ (la F es))
 | .nil,y,X,z,G,h=>by
  cases y with
  | nil =>
   exact ad9.imp fun σ H Q q=>aG0 (TAv.eq (fun ρ s=>rfl) q)
  | _=>exact ff h
 | .ex e es,y,X,z,G,h=>by
  cases y with
  | cons x y =>
   obtain⟨h,Y⟩:=zh h
   obtain⟨J,C⟩:=zh h
   exact(aG5 C (sE e _ X z G J).1 (sAs es _ X z G Y)).imp fun σ H Q q=>TAv.eq (fun ρ s=>rfl) q
  | _=>exact ff h
 | .lam _ _ _,y,X,z,G,h=>ff h
 | .fn _ _,y,X,z,G,h=>ff h
theorem bW5:∀(es:lp) (y:List Expr) (X:Cx) (z:Ck),CG Γ F n X z->bW3 z es y=true->PA X y (TAp Γ X.env.cells X.N (la F es))
 | .nil,y,X,z,G,h=>by
  cases y with
  | nil =>
   exact ad9.imp fun σ H Q q=>bp6 (TAp.eq (fun ρ s=>rfl) q)
  | _=>exact ff h
 | .ex e es,y,X,z,G,h=>by
  cases y with
  | cons x y =>
   obtain⟨h,Y⟩:=zh h
   obtain⟨J,C⟩:=zh h
   exact(zH (sE e _ X z G J).1 (bW5 es _ X z G Y) (za C)).imp fun σ H Q q=>bC5 (TAp.eq (fun ρ s=>rfl) q)
  | _=>exact ff h
 | .lam id caps es,y,X,z,G,h=>ff h
 | .fn _ _,y,X,z,G,h=>ff h
theorem sI:∀(i:DV.I) (E tg:Expr) (X:Cx) (y:Ck),CG Γ F n X y->mI y tg i E=true->PI X tg E (TIv Γ (lx F i))
 | .seq e,E,tg,X,y,G,h=>by
  obtain⟨z,C⟩:=zh h
  exact bq4 G (sE e _ X y G z).1
 | .rng1 a,E,tg,X,y,G,h=>by
  cases E with
  | Call fE xs kw p =>
   cases fE with
   | Name x pN =>
    cases xs with
    | cons l xs_0 =>
     cases xs_0 with
     | nil =>
      cases kw with
      | nil =>
       obtain⟨h,J⟩:=zh h
       obtain⟨h,Y⟩:=zh h
       obtain⟨z,C⟩:=zh h
       have e:=of_decide_eq_true z
       subst e
       exact bb4 G C J (sE a _ X y G Y).1
      | _=>exact ff h
     | _=>exact ff h
    | _=>exact ff h
   | _=>exact ff h
  | _=>exact ff h
 | .rng2 _ _,E,tg,X,y,G,h=>ff h
 | .rng3 _ _ _,E,tg,X,y,G,h=>ff h
 | .enum (.seq _),E,tg,X,y,G,h=>ff h
 | .enum (.rng1 _),E,tg,X,y,G,h=>ff h
 | .enum (.rng2 _ _),E,tg,X,y,G,h=>ff h
 | .enum (.rng3 _ _ _),E,tg,X,y,G,h=>ff h
 | .enum (.enum _),E,tg,X,y,G,h=>ff h
 | .enum (.zip _ _),E,tg,X,y,G,h=>ff h
 | .enum (.items _),E,tg,X,y,G,h=>ff h
 | .zip (.seq a) (.seq b),E,tg,X,y,G,h=>by
  cases E with
  | Call fE xs kw p =>
   cases fE with
   | Name x pN =>
    cases xs with
    | cons l xs_0 =>
     cases xs_0 with
     | cons r xs_1 =>
      cases xs_1 with
      | nil =>
       cases kw with
       | nil =>
        obtain⟨h,h7⟩:=zh h
        obtain⟨h,Z⟩:=zh h
        obtain⟨h,h5⟩:=zh h
        obtain⟨h,J⟩:=zh h
        obtain⟨h,Y⟩:=zh h
        obtain⟨z,C⟩:=zh h
        have e:=of_decide_eq_true z
        subst e
        cases tg with
        | Tuple es k p=>exact bs4 G C J Z (sE a _ X y G Y).1 (sE b _ X y G h5).1
        | _=>exact ff h7
       | _=>exact ff h
      | _=>exact ff h
     | _=>exact ff h
    | _=>exact ff h
   | _=>exact ff h
  | _=>exact ff h
 | .zip (.seq _) (.rng1 _),E,tg,X,y,G,h=>ff h
 | .zip (.seq _) (.rng2 _ _),E,tg,X,y,G,h=>ff h
 | .zip (.seq _) (.rng3 _ _ _),E,tg,X,y,G,h=>ff h
 | .zip (.seq _) (.enum _),E,tg,X,y,G,h=>ff h
 | .zip (.seq _) (.zip _ _),E,tg,X,y,G,h=>ff h
 | .zip (.seq _) (.items _),E,tg,X,y,G,h=>ff h
 | .zip (.rng1 _) _,E,tg,X,y,G,h=>ff h
 | .zip (.rng2 _ _) _,E,tg,X,y,G,h=>ff h
 | .zip (.rng3 _ _ _) _,E,tg,X,y,G,h=>ff h
 | .zip (.enum _) _,E,tg,X,y,G,h=>ff h
 | .zip (.zip _ _) _,E,tg,X,y,G,h=>ff h
 | .zip (.items _) _,E,tg,X,y,G,h=>ff h
 | .items _,E,tg,X,y,G,h=>ff h
theorem sL:∀(l:DV.L) (E:Expr) (X:Cx) (y:Ck),CG Γ F n X y->∀ k,mL y k l E=true->LK Γ X (DV.evL F l) E k
 | .comp tg it e caps,E,X,y,G,k,h=>by
  cases E with
  | ListComp elt gs scope p =>
   cases gs with
   | cons g gs1 =>
    cases g with
    | mk tgt iter ifs z =>
     cases ifs with
     | nil =>
      cases gs1 with
      | nil =>
       obtain⟨h,h3⟩:=zh h
       obtain⟨h,Y⟩:=zh h
       obtain⟨h0,J⟩:=zh h
       have Z:=of_decide_eq_true h0
       subst Z
       have c:=bb3 (pos:=p) G J (sI it _ _ X y G Y) fun C cells s H ex=>(sE e _ _ _ ((G.comp J).2.2 C cells s H ex).1 h3).1
       exact .c (c.eq fun ρ s=>rfl)
      | _=>exact ff h
     | _=>exact ff h
   | _=>exact ff h
  | _=>exact ff h
 | .compIf tg it i e caps,E,X,y,G,k,h=>by
  cases E with
  | ListComp elt gs scope p =>
   cases gs with
   | cons g gs1 =>
    cases g with
    | mk tgt iter ifs z =>
     cases ifs with
     | cons i1 ifs1 =>
      cases ifs1 with
      | nil =>
       cases gs1 with
       | nil =>
        obtain⟨h,h4⟩:=zh h
        obtain⟨h,h3⟩:=zh h
        obtain⟨h,Y⟩:=zh h
        obtain⟨h0,J⟩:=zh h
        have Z:=of_decide_eq_true h0
        subst Z
        have c:=bq8 (pos:=p) G J (sI it _ _ X y G Y) (fun C cells s H ex=>(sE i _ _ _ ((G.comp J).2.2 C cells s H ex).1 h3).2) fun C cells s H ex=>(sE e _ _ _ ((G.comp J).2.2 C cells s H ex).1 h4).1
        exact .c (c.eq fun ρ s=>rfl)
       | _=>exact ff h
      | _=>exact ff h
     | _=>exact ff h
   | _=>exact ff h
  | _=>exact ff h
 | .disp es,E,X,y,G,k,h=>by
  cases E with
  | List xs p =>
   obtain⟨h,Y⟩:=zh h
   obtain⟨h0,J⟩:=zh h
   exact .f (of_decide_eq_true h0) (bo1 J (of_decide_eq_true Y) (ap2 (sEs es _ X y G J)))
  | _=>exact ff h
 | .seq e,E,X,y,G,k,h=>by
  obtain⟨h0,J⟩:=zh h
  exact .s (of_decide_eq_true h0) ((sE e _ X y G J).1.imp fun σ H Q q=>bG8 (TLv.eq (fun ρ s=>rfl) q))
 | .itm _,E,X,y,G,k,h=>ff h
end
end
section
variable {Γ:Gm} {F:ke} {n:Nat}
theorem aZ9 {X:Cx}{ck:Ck}{m:jZ->jW->j0 (List jX)}{E:Expr}{x:Str}{i:Nat}{px pos:Pos}(G:CG Γ F n X ck)(c:CompF Γ X m E)(hi:ck.N[i]?=some x)(hl:ck.loc x=true) :
  PS X (.Assign [.Name x px] E pos) (bd4 (TFv Γ m) (au1 i)):=by
 obtain⟨Y,J,iter,z,scope,p2,N',h,wi,g,tc,te,rfl,h1,h2,h3,h4,h5⟩:=c.ex
 obtain⟨l1,l2⟩:=G.loc hl
 have nd:X.N.Nodup:=by rw[G.N];exact G.nd
 have y:X.N[i]?=some x:=by rw[G.N];exact hi
 generalize hb:((X.env.blockKind==.function&&X.env.kindOf x==some .local&&px.line==(Expr.ListComp Y [⟨J,iter,z,0⟩] scope p2).pos.line&&!(scope.names.any fun(n,k)=>n==x&&(k==.local||k==.cell))))=b
 have C:eD (.ListComp Y [⟨J,iter,z,0⟩] scope p2) (some (.Name x px)) pos.line X.env=pure b:=by rw[<-hb];rfl
 have imp:∀ D σ H,bd4 (TFv Γ m) (au1 i) D σ H->bd4 (tComp h wi g tc te) (au1 i) D σ H:=fun D σ H q=>h5 _ _ _ q
 cases b with
 | true =>
  have Z:X.env.scope.names.lookup x=some .local:=by
   simp only[ai]at hb
   exact eq_of_beq hb.1.1.2
  exact(aL1 N' h nd y Z h1 h2 G.calm h3 h4 C).imp imp
 | false=>exact(bi5 nd y l1 (aV4 N' h h1 h2 G.calm h3 h4) C l2).imp imp
theorem bl3 {X:Cx}{y:Ck}{e:kO}{v:Expr}{x:Str}{i:Nat}{J pos:Pos}(G:CG Γ F n X y)(C:y.N[i]?=some x)(hl:y.loc x=true)(h:mE y e v=true) :
  PS X (.Assign [.Name x J] v pos) (TSv Γ (DV.ex F (.asg (.one i) e))):=by
 obtain⟨l1,Y⟩:=G.loc hl
 have nd:X.N.Nodup:=by rw[G.N];exact G.nd
 have z:X.N[i]?=some x:=by rw[G.N];exact C
 by_cases hc:az1 v=true
 ·exact(bi5 nd z l1 (sE e v X y G h).1 (as5 hc) Y).imp fun D σ H q=>aQ7 (tg:=.one i) (TSv.eq (fun ρ s=>rfl) q)
 ·have hs:=au9 h
  cases v with
  | ListComp elt gs sc p =>
   cases e with
   | mk k l =>
    obtain⟨h1,Z⟩:=zh h
    have e:=of_decide_eq_true h1
    subst e
    exact(aZ9 G (bA2 (sL l _ X y G 0 Z)) C hl).imp fun D σ H q=>aZ7 (tg:=.one i) (TSv.eq (fun ρ s=>rfl) q)
   | _=>exact ff h
  | SetComp _ _ _ _=>cases hs
  | DictComp _ _ _ _ _=>cases hs
  | _=>exact absurd rfl hc
mutual
theorem sS:∀(st:DV.S) (S:Stmt) (X:Cx) (y:Ck),CG Γ F n X y->mS y st S=true->PS X S (TSv Γ (DV.ex F st))
 | .asg tg e,S,X,y,G,h=>by
  cases S with
  | Assign ts v p =>
   cases ts with
   | cons t ts1 =>
    cases ts1 with
    | nil =>
     obtain⟨h,J⟩:=zh h
     obtain⟨C,z⟩:=zh h
     cases tg with
     | one i =>
      have h:=C
      cases t with
      | Name x px =>
       obtain⟨a1,a2⟩:=zh h
       exact bl3 G (of_decide_eq_true a1) a2 z
      | _=>exact ff h
     | tup is =>
      obtain⟨a1,a2⟩:=zh J
      have h:=C
      cases t with
      | Tuple te tk tp=>exact(bh0 (sE e _ X y G z).1 (bk1 G C) (show eD v (some (.Tuple te tk tp)) p.line X.env=pure false from as5 a2) (aL5 a1) rfl).imp fun D σ H q=>aQ7 (TSv.eq (fun ρ s=>rfl) q)
      | _=>exact ff h
    | _=>exact ff h
   | _=>exact ff h
  | _=>exact ff h
 | .setIx o i e,S,X,y,G,h=>by
  cases S with
  | Assign ts v p2 =>
   cases ts with
   | cons tt ts1 =>
    cases tt with
    | Subscript ob ix p1 =>
     cases ts1 with
     | nil =>
      obtain⟨h,h4⟩:=zh h
      obtain⟨h,J⟩:=zh h
      obtain⟨C,z⟩:=zh h
      have Y:=au9 z
      refine(bh0 (sE e _ X y G J).1 (bA6 (sE o _ X y G C).1 (sE i _ X y G z).1 (bw3 (aL2 G.room)) ?_) (show eD v (some (.Subscript ob ix p1)) p2.line X.env=pure false from as5 h4) aM8 ?_).imp fun D σ H q=>bd8 (TSv.eq (fun ρ s=>rfl) q)
      ·intro w
       cases ix<;>first|rfl|cases Y
      ·rfl
     | _=>exact ff h
    | _=>exact ff h
   | _=>exact ff h
  | _=>exact ff h
 | .aug _ _,S,X,y,G,h=>ff h
 | .ex e,S,X,y,G,h=>by
  cases S with
  | Expr v p =>
   obtain⟨C,z⟩:=zh h
   exact(bs0 (sE e _ X y G C).1 (as5 z)).imp fun D σ H q=>bt7 (TSv.eq (fun ρ s=>rfl) q)
  | _=>exact ff h
 | .ret e,S,X,y,G,h=>by
  cases S with
  | Return vo p =>
   cases vo with
   | some v =>
    exact(bf7 (sE e _ X y G h).1).imp fun D σ H q=>bF7 (TSv.eq (fun ρ s=>rfl) q)
   | _=>exact ff h
  | _=>exact ff h
 | .retN,S,X,y,G,h=>ff h
 | .ite c a b,S,X,y,G,h=>by
  cases S with
  | If t l r p =>
   obtain⟨h,J⟩:=zh h
   obtain⟨C,z⟩:=zh h
   exact(bS2 (sE c _ X y G C).2 (sSs a _ X y G z) (sSs b _ X y G J)).imp fun D σ H q=>bS8 (TSv.eq (fun ρ s=>rfl) q)
  | _=>exact ff h
 | .whl c b,S,X,y,G,h=>by
  cases S with
  | While t l o p =>
   cases o with
   | nil =>
    obtain⟨C,z⟩:=zh h
    exact(bf0 (by rw[G.xe];exact jd) (sE c _ X y G C).2 (sSs b _ X y G z)).imp fun D σ H q=>bd9 (TSv.eq (fun ρ s=>rfl) q)
   | _=>exact ff h
  | _=>exact ff h
 | .for_ tg it b,S,X,y,G,h=>by
  cases S with
  | For tgt iter l o p =>
   cases o with
   | nil =>
    obtain⟨h,J⟩:=zh h
    obtain⟨C,z⟩:=zh h
    exact(bJ7 (by rw[G.xe];exact jd) G.calm (sI it _ _ X y G z) (bk1 G C) (sSs b _ X y G J) (aA9 (bI3 z))).imp fun D σ H q=>bE8 (TSv.eq (fun ρ s=>rfl) q)
   | _=>exact ff h
  | _=>exact ff h
 | .pass,S,X,y,G,h=>ff h
 | .cont,S,X,y,G,h=>ff h
 | .brk,S,X,y,G,h=>ff h
 | .und _,S,X,y,G,h=>ff h
 | .raise,S,X,y,G,h=>bb7.imp fun D σ H q=>by
  obtain⟨φ,ρ,s,c,s',E,R,Z,q⟩:=q
  cases Z
theorem sSs:∀(st:DV.Ss) (S:List Stmt) (X:Cx) (y:Ck),CG Γ F n X y->mSs y st S=true->PSs X S (TSv Γ (DV.exs F st))
 | .nil,S,X,y,G,h=>by
  cases S with
  | nil =>
   exact aT6.imp fun D σ H q=>bv0 (m:=DV.exs F .nil) (fun ρ s=>rfl) q
  | _=>exact ff h
 | .cons s ss,S,X,y,G,h=>by
  cases S with
  | cons x xs =>
   obtain⟨C,z⟩:=zh h
   exact(aI0 (sS s _ X y G C) (sSs ss _ X y G z)).imp fun D σ H q=>bG4 (TSv.eq (fun ρ s=>rfl) q)
  | _=>exact ff h
end
end
noncomputable def bV1 (ck:Ck):List String->List Expr->Bool
 | [],xs=>match xs with|[]=>true|_=>false
 | c::cs,xs=>match xs with|.Name x _::es=>decide (x=(c:Str))&&ck.gl x&&bV1 ck cs es|_=>false
noncomputable def mHT (ck:Ck)(n:Str):DV.HT->Expr->Bool
 | .isi cs,E=>match E with|.Call (.Name g _) [.Name x _,.Tuple es _ _] [] _=>decide (g=("isinstance":Str))&&ck.gl g&&decide (x=n)&&bV1 ck cs es&&decide (cs.length<=1000)|_=>false
 | .one c,E=>match E with|.Call (.Name g _) [.Name x _,.Name d _] [] _=>decide (g=("isinstance":Str))&&ck.gl g&&decide (x=n)&&decide (d=(c:Str))&&ck.gl d|_=>false
 | .not t,E=>match E with|.UnaryOp .Not e _=>mHT ck n t e|_=>false
 | .or a b,E=>match E with|.BoolOp .Or [x,y] _=>mHT ck n a x&&mHT ck n b y|_=>false
noncomputable def mHd (ck:Ck)(n:Str):DV.Hd->List Stmt->Bool
 | .ret t,S=>match S with|[.Return (some e) _]=>mHT ck n t e|_=>false
 | .iff t b h,S=>match S with|.If e [.Return (some (.Constant (.bool b') _ _)) _] [] _::rest=>mHT ck n t e&&decide (b'=b)&&mHd ck n h rest|_=>false
section
variable {Γ:Gm} {F:ke} {n:Nat} {X:Cx} {ck:Ck} {a C:Addr} {oe:Obj}
end
noncomputable def mX (ck:Ck):DV.XB->List Stmt->Bool
 | .no,_=>true
 | .rais c,S=>match S with|.Raise (some (.Call (.Name x _) [.Constant (.str _) _ _] [] _)) none _::_=>decide (x=(c:Str))&&ck.gl x|_=>false
 | .call f as,S=>match S with
  | .Return (some (.Call (.Name x _) (e::es) [] _)) _::_=>decide (x=(f:Str))&&ck.gl x&&mAs ck as (e::es)
  | .Expr (.Call (.Name x _) (e::es) [] _) _::_=>decide (x=(f:Str))&&ck.gl x&&mAs ck as (e::es)
  | _=>false
 | .iteT c a r,S=>match S with|.If t l [] _::rest=>mE ck c t&&mX ck a l&&mX ck r rest|_=>false
 | .seq s b,S=>match S with|x::rest=>mS ck s x&&mX ck b rest|_=>false
noncomputable def noR:DV.XB->Bool
 | .rais _=>false
 | .iteT _ a r=>noR a&&noR r
 | .seq _ b=>noR b
 | _=>true
section
variable {Γ:Gm} {F:ke} {n:Nat} {X:Cx} {ck:Ck} {a C:Addr} {oe:Obj}
end
section
variable {Γ:Gm}
theorem aD3 {φ φ1:Nat->Addr}{H z:Hp}{s s1:jW}(R:Rp Γ φ H s)(g:Gr φ s H φ1 s1 z)(ho:lE s s1=true){i:Nat}{o:kz}(y:i<s.length)(e:s1[i]?=some o):o.bnd s.length=true:=by
 unfold lE at ho
 have:=aV.mp ho i (bQ.mpr y)
 rw[e,bt]at this
 rcases this with h|h
 ·exact R.wf i o (of_decide_eq_true h).symm
 ·exact h
theorem z9 {s1:jW}{k i:Nat}{o:kz}(e:(s1.take k)[i]?=some o):i<k/\s1[i]?=some o:=by
 rw[dm]at e
 split at e
 ·exact⟨‹_›,e⟩
 ·cases e
theorem aL3 {φ φ1:Nat->Addr}{H h:Hp}{s s1:jW}(R:Rp Γ φ H s)(g:Gr φ s H φ1 s1 h)(R1:Rp Γ φ1 h s1)(ho:lE s s1=true):Gr φ s H φ1 (s1.take s.length) h/\Rp Γ φ1 h (s1.take s.length):=by
 have hl:(s1.take s.length).length=s.length:=by rw[bu];have:=g.le;omega
 refine⟨⟨g.w,by rw[hl];exact am _,fun i F C=>by rw[hl]at C;omega,fun i o y e e'=>g.kd i o y e (z9 e').2,g.st,g.fr⟩,fun i j o y e e' m m' z=>R1.inj i j o y (z9 e).2 (z9 e').2 m m' z,fun i o e=>R1.obj i o (z9 e).2,fun i o e=>?_,R1.tab⟩
 rw[hl]
 exact aD3 R g ho (z9 e).1 (z9 e).2
theorem as6 {φ φ1:Nat->Addr}{H C:Hp}{s s1 s':jW}{v0 d:jX}{v:V}(R:Rp Γ φ H s)(g:Gr φ s H φ1 s1 C)(R1:Rp Γ φ1 C s1)(hb:v0.bnd s1.length=true)(r:RV Γ φ1 C v0 v)(h:DV.zB s v0 s1=.ok d s') :
  ∃ φ',Gr φ s H φ' s' C/\s.length<=s'.length/\d.bnd s'.length=true/\RV Γ φ' C d v/\Rp Γ φ' C s':=by
 have all:d=v0->s'=s1->∃ φ',Gr φ s H φ' s' C/\s.length<=s'.length/\d.bnd s'.length=true/\RV Γ φ' C d v/\Rp Γ φ' C s':=fun e1 e2=>by
  subst e1;subst e2
  exact⟨φ1,g,g.le,hb,r,R1⟩
 unfold DV.zB at h
 split at h
 case isFalse=>cases h;exact all rfl rfl
 rename_i ho
 obtain⟨gt,Rt⟩:=aL3 R g R1 ho
 have hl:(s1.take s.length).length=s.length:=by rw[bu];have:=g.le;omega
 have tk:d=v0->s'=s1.take s.length->v0.bnd s.length=true->∃ φ',Gr φ s H φ' s' C/\s.length<=s'.length/\d.bnd s'.length=true/\RV Γ φ' C d v/\Rp Γ φ' C s':=fun e1 e2 b=>by
  subst e1;subst e2
  exact⟨φ1,gt,by rw[hl];exact am _,by rw[hl];exact b,r,Rt⟩
 split at h
 ·rename_i k
  split at h
  ·cases h
   exact tk rfl rfl (by unfold j2;exact decide_eq_true ‹_›)
  ·rename_i hk
   split at h
   ·rename_i o J
    split at h
    ·rename_i G
     cases h
     have gw:Gw φ1 s.length C (fun i=>if i=s.length then φ1 k else φ1 i) C:=⟨fun i y=>if_neg (aw y),Kp.refl _⟩
     have key:∀(i:Nat) (F:kz),(s1.take s.length++[o])[i]?=some F->(i<s.length/\s1[i]?=some F)\/(i=s.length/\F=o):=fun i F e=>by
      rcases e8 i s.length with h|h|h
      ·rw[aP (by rw[hl];exact h)]at e;exact .inl (z9 e)
      ·subst h
       rw[aU (by rw[hl];exact am _),hl,iI]at e
       exact .inr ⟨rfl,(av e).symm⟩
      ·rw[bU (by rw[aD,hl];simp;omega)]at e;cases e
     have z:(s1.take s.length++[o]).length=s.length+1:=by rw[aD,hl];rfl
     refine⟨fun i=>if i=s.length then φ1 k else φ1 i,⟨⟨fun i y=>?_,g.w.kp⟩,by rw[z];omega,fun i h1 h2=>?_,fun i oo F e e'=>?_,g.st,g.fr⟩,by rw[z];omega,by unfold j2;rw[z];exact decide_eq_true (cW _),?_,⟨fun i j Z oj a1 a0 Y mj e=>?_,fun i F e=>?_,fun i F e=>?_,R1.tab⟩⟩
     ·show(if i=s.length then φ1 k else φ1 i)=φ i
      rw[if_neg (aw y)];exact g.w.map i y
     ·rw[z]at h2
      show H (if i=s.length then φ1 k else φ1 i)=none
      rw[if_pos (by omega)]
      exact g.new k (by omega) (ag.mp J).1
     ·rcases key i F e' with⟨_,e2⟩|⟨y,_⟩
      ·exact g.kd i oo F e e2
      ·have:=(ag.mp e).1;omega
     ·rw[r.refE]
      unfold RV
      show V.ref (φ1 k)=V.ref (if s.length=s.length then φ1 k else φ1 s.length)
      rw[if_pos rfl]
     ·rcases key i Z a1 with⟨y,ei⟩|⟨y,zi⟩<;>rcases key j oj a0 with⟨hj,ej⟩|⟨hj,zj⟩
      ·rw[if_neg (aw y),if_neg (aw hj)]at e
       exact R1.inj i j Z oj ei ej Y mj e
      ·rw[if_neg (aw y),if_pos hj]at e
       subst zj
       have:=R1.inj i k Z _ ei J Y mj e
       omega
      ·rw[if_neg (aw hj),if_pos y]at e
       subst zi
       have:=R1.inj k j _ oj J ej Y mj e
       omega
      ·rw[y,hj]
     ·rcases key i F e with⟨y,e⟩|⟨y,rfl⟩
      ·show RO Γ _ _ (if i=s.length then φ1 k else φ1 i) F
       rw[if_neg (aw y)]
       exact(R1.obj i F e).mono gw (aD3 R g ho y e) fun _ u hu=>hu
      ·show RO Γ _ _ (if i=s.length then φ1 k else φ1 i) F
       rw[if_pos y]
       exact(R1.obj k _ J).mono gw G fun _ u hu=>hu
     ·rw[z]
      rcases key i F e with⟨y,e⟩|⟨_,rfl⟩
      ·exact zO (d0 _) _ (aD3 R g ho y e)
      ·exact zO (d0 _) _ G
    ·cases h;exact all rfl rfl
   ·exact fb h
 ·split at h
  ·cases h;exact tk rfl rfl ‹_›
  ·cases h;exact all rfl rfl
structure LamGood (J:LamI)(L:kY):Prop where
 sc:LamScope (J.ps++J.fr) J.ps J.fr J.scope
 ps:J.ps.length=L.ps
 fr:J.fr.length=L.cs
 m:mE (ck0 (J.ps++J.fr) J.scope) L.body J.body=true
 pa:lamArgs J.params=some J.ps
 bind:∀(clos:List (Str×Addr)) (doc pm:Value) (c':Addr) (ctv:Value) (us:List Value),us.length=J.ps.length->dA (cU "<lambda>" J.qual J.params J.body J.scope clos pm (.ref c') ctv) ⟨us,[]⟩=pure (J.ps.zip us) /\
  ∀(nm:Str) (rp:Pos),dA (e6 nm J.qual J.params [.Return (some J.body) rp] J.scope clos .none .none doc pm none (.ref c') ctv) ⟨us,[]⟩=pure (J.ps.zip us)
structure LkAt (Γ:Gm)(cds:List (Addr×Addr))(f:Str)(sc:Scope)(N:List Str)(fd:bI)(id:String)(caps:List Nat)(params:bT)(body:Expr)(scope:Scope)(c P:Addr)(J:LamI):Prop where
 code:fd.code=.ref c
 cd:(c,P)∈cds
 ck:lamCheck scope sc=true
 fre:∀ x,scope.names.lookup x=some .free->sc.names.lookup x=some .cell
 cel:∀ y∈sc.names,y.2=.cell->sc.names.lookup y.1=some .cell
 df:∀ env,defaultsOf params env=([],[])
 lg:Γ.lg id J
 q:J.qual=f ++ ".<locals>."++J.own
 p:J.params=params
 b:J.body=body
 s:J.scope=scope
 len:J.fr.length=caps.length
 at_:∀(i j:Nat) (x:Str),caps[i]?=some j->J.fr[i]?=some x->N[j]?=some x
 fr:∀ x∈J.fr,scope.names.lookup x=some .free
 tab:(P,J.qual)∈Γ.T
def bz6 (Γ:Gm)(cds:List (Addr×Addr))(f:Str)(sc:Scope)(N:List Str)(fd:bI)(lk:String->List Nat->Expr->Bool):Prop :=
 ∀ id caps E,lk id caps E=true->∃ c P params body scope pos J,E=lamText J params body scope pos/\LkAt Γ cds f sc N fd id caps params body scope c P J
def GoodB (Γ:Gm)(cds:List (Addr×Addr))(mg:Str->Option Value)(f:String)(pc vc:Nat)(m:Ck->List Stmt->Bool):Prop:=∃ st N ps a fd lk,DefAt Γ.K mg (f:Str) st ps a fd/\FnScope N ps (defScope st)/\ps.length=pc/\N.length=pc+vc/\m ⟨N,defScope st,lk⟩ (zy st)=true/\bz6 Γ cds (f:Str) (defScope st) N fd lk
def Good (Γ:Gm)(cds:List (Addr×Addr))(mg:Str->Option Value)(f:String)(d:kZ):Prop:=GoodB Γ cds mg f d.ps d.vs fun ck S=>mSs ck d.body S
noncomputable def mT (ck:Ck)(d:DV.Tf)(S:List Stmt):Bool:=match S with
 | st::rest=>(match st with|.Try tb hs [] [] _=>(match hs with|[eh]=>(match eh with|.ExceptHandler (some en) (some nm) hb _=>(match en,hb with|.Name x _,b::su=>mSs ck d.body tb&&(mX ck d.xb tb&&(noR d.xb&&(decide (x=(d.c:Str))&&(ck.gl x&&(decide (ck.N[d.i]?=some nm)&&((ck.sc.names.lookup nm==some .local)&&(!(nm==("__debug__":Str))&&(!(nm==("__classdict__":Str))&&(mHd ck nm d.h (b::su)&&mSs ck d.tl rest)))))))))|_,_=>false)|_=>false)|_=>false)|_=>false)
 | _=>false
structure PrOk (Γ:Gm)(cds:List (Addr×Addr))(P:kg)(mg:Str->Option Value)(w:World):Prop where
 df:∀ f d,P.df f=some d->Good Γ cds mg f d
 con:∀ x d,P.con x=some d->∃ v u,mg (x:Str)=some u/\RelV v u/\(∀ m,d.bnd m=true)/\∀ φ H,RV Γ φ H d v
 bi:∀ x∈bNames,mg x=none
 fa:∀(f:String) (a:Addr),Γ.fa f=some a->mg (f:Str)=some (.ref a)/\∃ oc od fd sl,Γ.K.lookup a=some ⟨oc,od,.func fd,sl⟩
 lg:∀ id J,Γ.lg id J->∃ L,P.lm id=some L/\LamGood J L
 nd:(Γ.T.map (·.1)).Nodup
 xf:∀ f d,P.xf f=some d->GoodB Γ cds mg f d.ps d.vs fun ck S=>mX ck d.body S
 tf:∀ f d,P.tf f=some d->GoodB Γ cds mg f d.ps d.vs fun ck S=>mT ck d S
 xc:∀ c:String,P.xc c=true->∃ C,mg (c:Str)=some (.ref C)/\ExcCls Γ.K C/\excI Γ.K C=true
 xt:∀ c:String,P.xt c=true->∃ C,mg (c:Str)=some (.ref C)
 xs:∀(c d:String) (C D:Addr),P.xc c=true->P.xt d=true->mg (c:Str)=some (.ref C)->mg (d:Str)=some (.ref D)->bW Γ.K (.ref C) (.ref D)=some (DV.subC c d)
 cdc:∀(c:String) kvs,P.cdc c=some kvs->∃ a,mg (c:Str)=some (.ref a)/\∀(prog:aI) (h:Heap),Γ.K.In h->StrTab prog w h a (strD kvs)
noncomputable def aG2 (Γ : Gm) (prog : Program) (w : World) (mg : Str -> Option Value) (base : Heap) (F : DV.Fns) (n : Nat) : Prop := (∀ f : String, (∀ l s, F.call f l s = .bad) \/
      ∃ a fd ps, FnOk prog w Γ.K mg base CX0 n a fd ps (spV Γ (F.call f)) /\ mg (f : Str) = some (.ref a) /\ cg Γ.K (.ref a) = true /\ Binds Γ.K fd ps []) /\
  ∀(id : String) (J : LamI) (f : Addr) (cap : List V) (clos : List (Str × Addr)), Γ.lg id J -> cap.length = J.fr.length -> ClOk prog w Γ.K mg base n (fun H => CloAt H f J cap clos) f (spL Γ (F.lam id) cap)
theorem bd5 {φ:Nat->Addr}{H:Hp}{n k:Nat}{N:List Str}{l:List jX}{vs:List V}(r:RVL Γ φ H l vs)(b:jY n l=true)(hN:N.length=l.length+k):RE Γ φ H n (l.map some++aA k none) (ag8 N vs):=by
 have hl:=r.length
 refine⟨?_,fun i d e=>?_⟩
 ·unfold ag8;simp[hl,hN]
 ·by_cases hi:i<l.length
  ·rw[aP (by simpa using hi),aG]at e
   have e':l[i]?=some d:=by
    rw[ak hi]at e ⊢
    exact av e
   obtain⟨v,e1,e2⟩:=r.get e'
   refine⟨ai9 b e',v,?_,e2⟩
   unfold ag8
   rw[aP (by rw[ar,hl];exact hi),aG,e1];rfl
  ·rw[aU (by simpa using iQ hi)]at e
   rw[fA]at e
   split at e<;>cases e
theorem bg0 {z:List (Addr×Addr)}{P:kg}{prog:aI}{w:World}{C:Str->Option Value}(G:PrOk Γ z P C w)(n:Nat):∀(c:String) y,(j6 P n).cdc c=some y->∃ a,C (c:Str)=some (.ref a)/\∀ h:Heap,Γ.K.In h->StrTab prog w h a (strD y):=by
 have:(j6 P n).cdc=P.cdc:=by cases n<;>rfl
 rw[this]
 intro c y e
 obtain⟨a,J,F⟩:=G.cdc c y e
 exact⟨a,J,F prog⟩
theorem bx6 {Y:List (Addr×Addr)}{P:kg}{prog:aI}{w:World}{mg:Str->Option Value}{base:Heap}(Z:PrOk Γ Y P mg w)(hb:∀ y∈Y,cj base y.1 y.2/\BM mg base)(n:Nat)(C:aG2 Γ prog w mg base (j6 P n) (n+31))
  {f:String} {st:Stmt} {N ps:List Str} {a:Addr} {fd:bI} {lk:String->List Nat->Expr->Bool} (hS:FnScope N ps (defScope st)) (hL:bz6 Γ Y (f:Str) (defScope st) N fd lk) (F:Value) (a5:∀ id h E,lk id h E=true->fd.code=F) (A:aQ) (G:List Env) (sh:ae) (H:Hp) (E:XK) (hr:Room (n+31) (A.deeper (eJ (f:Str) (defScope st) sh.heap.objs.size a F))) :
  CG Γ (j6 P n) (n+31) (aY8 CX0 prog w Γ.K mg base N (f:Str) (defScope st) a F A G sh H E).nox ⟨N,defScope st,lk⟩:=by
 refine⟨rfl,rfl,hS.nd,rfl,rfl,?_,hr,fun x k e=>.inl e,fun _ _=>rfl,Z.bi,C.1,?_,fun id h E' a1=>?_,C.2,Z.fa,DV.ae2 P n,bg0 Z n⟩
 ·show j9+1<=n+31
  unfold j9;omega
 ·have:(j6 P n).con=P.con:=by cases n<;>rfl
  rw[this];exact Z.con
 ·obtain⟨c,Pa,params,body,scope,pos,J,eE,L⟩:=hL id h E' a1
  obtain⟨a6,a3⟩:=hb _ L.cd
  obtain⟨L',_,lg⟩:=Z.lg id J L.lg
  refine⟨c,Pa,params,body,scope,pos,J,eE,⟨?_,a6,a3,L.ck,L.df _,L.lg,L.q,L.p,L.b,L.s,L.len,L.at_,L.fr,fun x hx=>?_,L.tab,Z.nd,fun _=>rfl,fun x c hx=>?_,lg.sc,lg.pa,fun a0 pm c' a2 us a4=>(lg.bind a0 .none pm c' a2 us a4).1⟩⟩
  ·show F=.ref c
   rw[<-a5 id h E' a1];exact L.code
  ·exact zI (L.fre x hx)
  ·rcases zr (aF hx)with z|z
   ·exact .inl (L.cel (x,.cell) z rfl)
   ·exact absurd z (by simp)
theorem bI2 {Z:List (Addr×Addr)}{P:kg}{prog:aI}{w:World}{mg:Str->Option Value}{base:Heap}(hP:PrOk Γ Z P mg w)(hb:∀ y∈Z,cj base y.1 y.2/\BM mg base)(n:Nat)(a0:aG2 Γ prog w mg base (j6 P n) (n+31))
  {f:String} {d:kZ} (e:P.df f=some d) {st:Stmt} {N ps:List Str} {a:Addr} {fd:bI} {lk:String->List Nat->Expr->Bool} (hD:DefAt Γ.K mg (f:Str) st ps a fd) (hS:FnScope N ps (defScope st)) (h1:ps.length=d.ps) (h2:N.length=d.ps+d.vs) (hm:mSs ⟨N,defScope st,lk⟩ d.body (zy st)=true) (hL:bz6 Γ Z (f:Str) (defScope st) N fd lk) :
  FnOk prog w Γ.K mg base CX0 (n+1+31) a fd ps (spV Γ ((j6 P (n+1)).call f)):=by
 have Y:∀ vs H Q E,spV Γ ((j6 P (n+1)).call f) vs H Q E->vs.length=ps.length:=fun vs H Q E q=>by
  obtain⟨φ,s,l,d',s',R,r,b,hc,k⟩:=q
  simp only[j6,e]at hc
  split at hc
  ·rw[r.length,h1];assumption
  ·exact fb hc
 have body:∀(F:Value),(∀ id z E,lk id z E=true->fd.code=F)->∀(A:aQ) (C:List Env) (sh:ae) (H:Hp) (vs:List V) (Q:VK) (E:XK),Room (n+31) (A.deeper (eJ (f:Str) (defScope st) sh.heap.objs.size a F))->spV Γ ((j6 P (n+1)).call f) vs H Q E ->
   ∃ t,PSs (aY8 CX0 prog w Γ.K mg base N (f:Str) (defScope st) a F A C sh H E).nox (zy st) t/\t { nx:=fun _ H'=>Q .non H',rt:=Q } (ag8 N vs) H:=by
  intro F a3 A C sh H vs Q E hr q
  have G:=bx6 hP hb n a0 hS hL (a:=a) F a3 A C sh H E hr
  refine⟨_,sSs d.body (zy st) _ ⟨N,defScope st,lk⟩ G hm,?_⟩
  obtain⟨φ,s,l,d',s',R,r,b,hc,k⟩:=q
  simp only[j6,e]at hc
  split at hc
  case isFalse=>exact fb hc
  rename_i Y
  obtain⟨c,s1,e1,hc⟩:=aa0 hc
  refine⟨φ,l.map some++aA d.vs none,s,c,s1,bd5 r b (by rw[h2,Y]),R,e1,fun φ1 H1 g1 l1 R1=>?_⟩
  cases c with
  | ret v0 =>
   intro v hb rv
   obtain⟨φ',g',l',b',r',R'⟩:=as6 R g1 R1 hb rv hc
   exact k v φ' H1 g' l' b' r' R'
  | next ρ =>
   intro σ' _
   obtain⟨φ',g',l',b',r',R'⟩:=as6 (v0:=.non) R g1 R1 rfl RV.nonI hc
   exact k .non φ' H1 g' l' b' r' R'
  | cont ρ=>exact fb hc
  | brk ρ=>exact fb hc
 by_cases hl:∃ id z E,lk id z E=true
 ·obtain⟨id,z,E,a2⟩:=hl
  obtain⟨c,Pa,params,a1,scope,pos,J,eE,L⟩:=hL id z E a2
  exact hD.fn.okC L.code hS Y (body _ fun _ _ _ _=>L.code)
 ·exact hD.fn.ok hS Y (fun F=>body F fun id z E h=>absurd ⟨id,z,E,h⟩ hl)
theorem bm6 {a9:List (Addr×Addr)}{P:kg}{prog:aI}{w:World}{mg:Str->Option Value}{base:Heap}(hP:PrOk Γ a9 P mg w)(n:Nat)(Z:aG2 Γ prog w mg base (j6 P n) (n+31))
  (id:String) (J:LamI) (f:Addr) (cap:List V) (C:List (Str×Addr)) (b2:Γ.lg id J) (a2:cap.length=J.fr.length) :
  ClOk prog w Γ.K mg base (n+1+31) (fun H=>CloAt H f J cap C) f (spL Γ ((j6 P (n+1)).lam id) cap):=by
 obtain⟨L,eL,LG⟩:=hP.lg id J b2
 have a1:∀ vs H Q E,spL Γ ((j6 P (n+1)).lam id) cap vs H Q E->vs.length=J.ps.length:=fun vs H Q E q=>by
  obtain⟨φ,s,cs,l,d,s',R,r,rc,b,bc,hc,k⟩:=q
  simp only[j6,eL]at hc
  split at hc
  ·rename_i hh;rw[r.length,LG.ps];exact hh.1
  ·exact fb hc
 have main:∀(A:aQ) (F:List Env) (sh:ae) (H:Hp) (cd:Value) (vs:List V) (Q:VK),Room (n+31) (A.deeper (cH J.qual J.scope sh.heap.objs.size f cd (aJ (sh.heap.objs.size+1) J.scope.names C)))->Cells C H->(∀ b o,Γ.K.lookup b=some o->H b=none)->spL Γ ((j6 P (n+1)).lam id) cap vs H Q E0 ->
   ∃ t,PE (aD2 prog w Γ.K mg base (J.ps++J.fr) J.qual J.scope f cd C A F sh H) J.body t/\t (vs.map some++cap.map some) (ac4 C H) fun v H'=>(∀ b,isC C b=true->H' b=none)->Q v (Put C H H'):=by
  intro A F sh H cd vs Q hr z hK q
  have G:CG Γ (j6 P n) (n+31) (aD2 prog w Γ.K mg base (J.ps++J.fr) J.qual J.scope f cd C A F sh H) (ck0 (J.ps++J.fr) J.scope):=by
   refine⟨rfl,rfl,LG.sc.nd,rfl,rfl,?_,hr,fun x k e=>.inl e,fun x e=>?_,hP.bi,Z.1,?_,fun _ _ _ h=>(by cases h),Z.2,hP.fa,DV.ae2 P n,bg0 hP n⟩
   ·show j9+1<=n+31
    unfold j9;omega
   ·show(J.scope.names.lookup x==some .cell)=true
    rw[show J.scope.names.lookup x=some .cell from e];rfl
   ·have:(j6 P n).con=P.con:=by cases n<;>rfl
    rw[this];exact hP.con
  refine⟨_,(sE L.body J.body _ (ck0 (J.ps++J.fr) J.scope) G LG.m).1,?_⟩
  obtain⟨φ,s,cs,l,d,s',R,r,rc,b,bc,hc,k⟩:=q
  simp only[j6,eL]at hc
  split at hc
  case isFalse=>exact fb hc
  rename_i hh
  obtain⟨h1,h2,h3⟩:=hh
  rw[ai,ai]at h3
  obtain⟨⟨b0,a7⟩,a8⟩:=h3
  obtain⟨v0,s1,e1,hc⟩:=aa0 hc
  have RD:Rp Γ φ (ac4 C H) s:=R.dropC z a8
  have a4:RVL Γ φ (ac4 C H) (l++cs) (vs++cap):=(RVL.dropC z l vs b0 r).append (RVL.dropC z cs cap a7 rc)
  refine⟨φ,l.map some++cs.map some,s,v0,s1,⟨by simp[r.length,rc.length],fun i x ei=>?_⟩,RD,e1,fun v φ1 H1 g1 l1 b1 r1 R1 a0=>?_⟩
  ·rw[<-bM,aG]at ei
   have a6:(l++cs)[i]?=some x:=by
    cases q:(l++cs)[i]? with
    | none=>rw[q]at ei;cases ei
    | some y=>rw[q]at ei;cases ei;rfl
   obtain⟨u,e3,e4⟩:=a4.get a6
   refine⟨ai9 (zz b bc) a6,u,?_,e4⟩
   rw[<-bM,aG,e3];rfl
  ·obtain⟨φ',g',l',b',r',R'⟩:=as6 RD g1 R1 b1 r1 hc
   have gp:=Gr.put z a0 hK R' g'
   obtain⟨gs,Rs⟩:=R'.same (aT1 (H:=H) a0)
   exact k v φ' _ gp l' b' (RV.mono gs d v b' r') Rs
 unfold CloAt
 cases q:J.nm with
 | none=>exact bo4 LG.sc a1 a2 (fun pm c' Y us a3=>(LG.bind C .none pm c' Y us a3).1) (fun A F sh H cd vs Q hr hat hK q=>by
   obtain⟨pm,c',Y,_,_,z,_⟩:=hat
   exact main A F sh H cd vs Q hr z hK q)
 | some p=>exact bq6 LG.sc a1 a2 (fun a5 pm c' Y us a3=>(LG.bind C a5 pm c' Y us a3).2 _ _) (fun A F sh H cd vs Q hr hat hK q=>by
   obtain⟨a5,pm,c',Y,_,_,z,_⟩:=hat
   obtain⟨t,h1,h2⟩:=main A F sh H cd vs Q hr z hK q
   exact⟨_,aI0 (bf7 h1) aT6,h2⟩)
theorem aH9 {z:List (Addr×Addr)}{P:kg}{prog:aI}{w:World}{mg:Str->Option Value}{base:Heap}(C:PrOk Γ z P mg w)(hb:∀ y∈z,cj base y.1 y.2/\BM mg base)(ht:∀ f,P.tf f=none):∀ n:Nat,aG2 Γ prog w mg base (j6 P n) (n+31)
 | 0=>⟨fun f=>.inl fun l s=>rfl,fun id J f cap h _ _=>⟨fun A F s H us vs Q _ _ _ _ q=>by
   obtain⟨φ,s,cs,l,d,s',R,r,rc,b,bc,hc,k⟩:=q
   cases hc⟩⟩
 | n+1=>by
  have Z:=aH9 (prog:=prog) (w:=w) (base:=base) C hb ht n
  refine⟨fun f=>?_,fun id J f cap h Y G=>bm6 C n Z id J f cap h Y G⟩
  cases e:P.df f with
  | none=>exact .inl fun l s=>by simp only[j6,e,ht f]
  | some d =>
   obtain⟨st,N,ps,a,fd,lk,hD,hS,Y,G,hm,hL⟩:=C.df f d e
   exact .inr ⟨a,fd,ps,bI2 C hb n Z e hD hS Y G hm hL,hD.mg,hD.fn.kp,hD.bi⟩
def spT (Γ:Gm):Sp:=fun vs H Q _=>∃(a:Addr) (ns:List Int),vs=[.ref a]/\SqF Γ.K H a (ns.map V.int)/\ns.length<=63/\TabsH Γ.T H/\∀ H',Q (.bl true) H'
theorem aI3 {φ:Nat->Addr}{H:Hp}:∀ ns:List Int,RVL Γ φ H (ns.map DV.D.int) (ns.map V.int)
 | []=>.nil
 | n::ns=>.cons RV.intI (aI3 ns)
theorem aw2 {m:Nat}:∀ ns:List Int,jY m (ns.map DV.D.int)=true
 | []=>rfl
 | n::ns=>by rw[aB];unfold jY;rw[aw2 ns];rfl
theorem bH5 {P:kg}{k:Nat}(h:∀ ns:List Int,ns.length<=63->∃ s',(j6 P k).call "law" [.ref 0] [.ro (ns.map DV.D.int)]=.ok (.bl true) s')(vs:List V)(H:Hp)(Q:VK)(E:XK)(q:spT Γ vs H Q E):spV Γ ((j6 P k).call "law") vs H Q E:=by
 obtain⟨a,ns,rfl,y,hl,hT,z⟩:=q
 obtain⟨s',hs⟩:=h ns hl
 refine⟨fun _=>a,[.ro (ns.map DV.D.int)],[.ref 0],.bl true,s',⟨fun i j o C e e' m m' _=>?_,fun i o e=>?_,fun i o e=>?_,hT⟩,.cons RV.refI .nil,?_,hs,fun v φ' H' g l b r R=>?_⟩
 ·cases i with
  | zero=>cases e;cases m
  | succ i=>cases e
 ·cases i with
  | zero=>cases e;exact⟨_,y,aI3 ns⟩
  | succ i=>cases e
 ·cases i with
  | zero=>cases e;unfold j3;exact aw2 ns
  | succ i=>cases e
 ·unfold jY j2 jY;rfl
 ·rw[r.blE];exact z H'
theorem aG1 {y:List (Addr×Addr)}{z:Str->Option Value}:∀ {tbl:List (String×kZ)},(∀ p∈tbl,Good Γ y z p.1 p.2)->∀ f d,tbl.lookup f=some d->Good Γ y z f d
 | [],_,f,d,h=>by cases h
 | (g,e)::tbl,H,f,d,h=>by
  rw[aY]at h
  cases q:f==g with
  | true =>
   rw[q]at h
   cases h
   rw[eq_of_beq q]
   exact H (g,_) (au ..)
  | false =>
   rw[q]at h
   exact aG1 (fun p C=>H p (ao _ C)) f d h
def bc5 (Γ:Gm)(mg:Str->Option Value)(x:String)(d:jX):Prop:=∃ v u,mg (x:Str)=some u/\RelV v u/\(∀ m,d.bnd m=true)/\∀ φ H,RV Γ φ H d v
theorem aT9 {y:Str->Option Value}:∀ {tbl:List (String×jX)},(∀ p∈tbl,bc5 Γ y p.1 p.2)->∀ f d,tbl.lookup f=some d->bc5 Γ y f d
 | [],_,f,d,h=>by cases h
 | (g,e)::tbl,H,f,d,h=>by
  rw[aY]at h
  cases q:f==g with
  | true =>
   rw[q]at h
   cases h
   rw[eq_of_beq q]
   exact H (g,_) (au ..)
  | false =>
   rw[q]at h
   exact aT9 (fun p z=>H p (ao _ z)) f d h
theorem aB7 {y:Str->Option Value}{x:String}{i:Int}{t:Tok}(h:y (x:Str)=some (.int i t)):bc5 Γ y x (.int i):=⟨.int i,_,h,⟨t,rfl⟩,fun _=>rfl,fun _ _=>RV.intI⟩
inductive ConV (Γ:Gm):jX->Value->Prop where
 | int (i:Int) (t:Tok):ConV Γ (.int i) (.int i t)
 | str (x:List Nat) (t:Tok) (h:x.length<=1000):ConV Γ (.str x) (.str ⟨x.toArray⟩ t)
inductive ConL (Γ:Gm):List jX->List Value->Prop where
 | nil:ConL Γ [] []
 | cons {d v l vs} (a:ConV Γ d v) (b:ConL Γ l vs):ConL Γ (d::l) (v::vs)
theorem aC6 {Y:Str->Option Value}{x:String}{a:Addr}{o:Obj}{its:List Value}{n:Nat}{l:List jX}(h:Y (x:Str)=some (.ref a))(hk:Γ.K.lookup a=some o)(hc:o.cls=.type "tuple")(hd:o.data=.seq its.toArray n)(hz:its.length<=1000)
  (hl:ConL Γ l its) (J:j7 l=false:=by rfl):bc5 Γ Y x (.tup l):=by
 have key:∃ y,Vals y its/\(∀ m,jY m l=true)/\∀ φ H,RVL Γ φ H l y:=by
  clear hd hz J
  induction hl with
  | nil=>exact⟨[],.nil,fun _=>rfl,fun _ _=>.nil⟩
  | cons a b ih =>
   obtain⟨y,F,C,G⟩:=ih
   cases a with
   | int i t=>exact⟨.int i::y,.cons ⟨t,rfl⟩ F,fun m=>by unfold jY;rw[C];rfl,fun φ H=>.cons RV.intI (G φ H)⟩
   | str x t h=>exact⟨.str ⟨x.toArray⟩::y,.cons ⟨t,rfl⟩ F,fun m=>by unfold jY;rw[C];rfl,fun φ H=>.cons (RV.strI (by unfold j4;omega)) (G φ H)⟩
 obtain⟨y,F,C,G⟩:=key
 refine⟨.ref a,_,h,rfl,fun m=>by unfold j2;exact C m,fun φ H=>RV.tupC (.inr ⟨o,its.toArray,n,hk,hc,hd,?_,F⟩) (fun z=>by rw[J]at z;cases z) (G φ H)⟩
 rw[aq];exact aI4 hz
end
theorem aN8 {P:aI}{w:World}{K:ac}{Z mb:Str->Option Value}{k:Nat}{fa a:Addr}{fd:bI}{x:Str}{sp:Sp}{C:ae}{vs:List Value}{ns:List Int}{tabs:List (Addr×Addr)}
  (KX:K.In C.heap) (a8:C.heap.Ns bh Z) (hb:C.heap.Ns fI mb) (e5:∀ x:Str,x ≠ "__name__"->mb x=bf x) (hlim:C.heap.NoLimit) (hg:C.gens=#[]) (c3:BM Z C.heap) (hT:jt tabs C.heap) (b0:ju K=true)
  (ha:C.heap.get? a=some { cls:=.type "list",data:=.seq vs.toArray }) (hi:ji vs ns) (hl:ns.length<=aC) (hr:Room k gQ)
  (F:∀ base:Heap,K.In base->base.Ns bh Z->BM Z base->(∀ q∈tabs,cj base q.1 q.2)->FnOk P w K Z base CX0 k fa fd [x] sp) (a4:∀(s:ae) (u:Value),jg s fd ⟨[u],[]⟩ [(x,u)])
  (c1:∀ H:Hp,(∀ q∈tabs,H q.2=some (.tbl #[]))->SqL K H a (ns.map V.int)->(∀ u,H a=some u->(∃ o xs,u=.frz o (.lst xs))\/∃ ps,u=.tbl ps)->sp [.ref a] H (fun v _=>v=.bl true) E0) :
  gP (model P w) gQ (.call (.ref fa) ⟨[.ref a],[]⟩) (fun r s'=>r=.ok (.ret (.bool true))/\OldK C.heap s'.heap/\s'.os=C.os/\eU s'.gens) C:=by
 have rv:=az4 hi
 have a9:=hi.length
 have G:∀ b,b∈tabs.map (·.2)->C.heap.get? b=some (gJ #[]):=fun b h=>by
  obtain⟨q,hq,rfl⟩:=aE.mp h
  exact(hT q hq).2
 have a0:∀ H:Hp,(∀ b u,H b=some u->(b=a/\∃ o xs,u=.frz o (.lst xs))\/(b∈tabs.map (·.2)/\u=.tbl #[]))->(∀ q∈tabs,H q.2=some (.tbl #[]))->SqL K H a (ns.map V.int)->HOk P w H C.heap->(H a≠none->K.lookup a=none) ->
   gP (model P w) gQ (.call (.ref fa) ⟨[.ref a],[]⟩) (fun r s'=>r=.ok (.ret (.bool true))/\OldK C.heap s'.heap/\s'.os=C.os/\eU s'.gens) C:=by
  intro H hO e4 hS hok hK
  have un:∀ b o,C.heap.get? b=some o->o.cls≠.type "list"->(∀ vs,o.data≠.fields vs)->H b=none:=fun b o e n1 n2=>by
   cases q:H b with
   | none=>rfl
   | some u =>
    rcases hO b u q with⟨z,_⟩|⟨z,_⟩
    ·rw[z,ha]at e;cases e;exact absurd rfl n1
    ·rw[G b z]at e;cases e;exact absurd rfl (n2 #[])
  have Y:∀ {b:Addr} {m:Str->Option Value},C.heap.Ns b m->(aY1 C.heap H).Ns b m:=fun {b m} ⟨o,es,ep,e,d,r⟩=>by
   refine⟨o,es,ep,aj0 e ?_,d,r⟩
   cases q:H b with
   | none=>rfl
   | some u =>
    rcases hO b u q with⟨z,_⟩|⟨z,_⟩
    ·rw[z,ha]at e;cases e;cases d
    ·rw[G b z]at e;cases e;cases d
  have a6:K.In (aY1 C.heap H):=fun b o e=>aj0 (KX b o e) (by
   cases q:H b with
   | none=>rfl
   | some u =>
    rcases hO b u q with⟨z,_⟩|⟨z,_⟩
    ·subst z
     rw[hK (by rw[q];simp)]at e;cases e
    ·have e2:=KX b o e
     rw[G b z]at e2
     have h2:=aV.mp b0 (b,o) (PySem.W.mem_of_lookupK e)
     have e3:o=gJ #[]:=(av e2).symm
     subst e3
     exact absurd (show false=true from h2) aO)
  have hM:Mod K Z (aY1 C.heap H):=⟨a6,Y a8,⟨mb,Y hb,e5⟩,let⟨mc,h1,h2⟩:=hlim;⟨mc,Y h1,h2⟩⟩
  have d1:BM Z (aY1 C.heap H):=by
   obtain⟨bm,ob,b1,b2,b3,b4,b5,b6⟩:=c3
   exact⟨bm,ob,b1,b2,aj0 b3 (un bm ob b3 (by rw[b4];nofun) (by rw[b6];nofun)),b4,b5,b6⟩
  have c2:∀ q∈tabs,cj (aY1 C.heap H) q.1 q.2:=fun q hq=>by
   obtain⟨o,d2,a7,tf,a5,tg,c4,text,tt,e1,r1,r2⟩:=(hT q hq).1
   refine⟨o,d2,a7,tf,a5,tg,c4,text,tt,aj0 e1 ?_,r1,r2⟩
   cases q2:H q.1 with
   | none=>rfl
   | some u =>
    rcases hO _ u q2 with⟨z,_⟩|⟨z,_⟩
    ·rw[z,ha]at e1;cases e1;exact absurd r1 (by simp)
    ·rw[G _ z]at e1;cases e1;exact absurd r1 (by simp)
  have e0:Env0 P w K Z (aY1 C.heap H) gQ [] C H:=⟨rfl,hM,fun b o e=>bp5 e,Nat.le_of_eq (aS1 _ _),trivial,fun b hb=>absurd (show b∈([]:List Addr)from hb) (by simp),hok,.of_eq hg⟩
  refine ir ((F _ a6 (Y a8) d1 c2).run gQ [] C H ⟨[.ref a],[]⟩ [.ref a] [.ref a] _ _ hr e0 (a4 C (.ref a)) (.cons rfl .nil) (c1 H e4 hS (fun u e=>(hO a u e).elim (fun z=>.inl z.2) (fun z=>.inr ⟨_,z.2⟩)))) fun r s' h=>?_
  cases r with
  | error e=>exact bZ h
  | ok fl =>
   cases fl with
   | next=>exact bZ h
   | brk=>exact bZ h
   | cont=>exact bZ h
   | ret u =>
    obtain⟨v,H',os,bare,a3,a1,r',q⟩:=h
    have q':v=.bl true:=q
    subst q'
    obtain rfl:u=Value.bool true:=r'
    have key:∀ b o,C.heap.get? b=some o->asItWas C.heap s'.heap b o/\∃ o',s'.heap.get? b=some o':=fun b o e=>by
     cases q:H b with
     | none =>
      have z:=a3.keep b o e q (by intro z;exact absurd (show b∈([]:List Addr)from z) (by simp)) (by simp)
      exact⟨.inl z,o,z⟩
     | some u =>
      rcases hO b u q with⟨_,ob,xs,z⟩|⟨z,z2⟩
      ·subst z
       have z2:=a3.frzs b ob _ q
       obtain⟨e1,_⟩:=hok b _ q
       obtain⟨e2,_⟩:=a1 b _ z2
       rw[e]at e1;cases e1
       exact⟨.inl e2,_,e2⟩
      ·subst z2
       obtain⟨a2,z3⟩:=a3.tbls b _ q
       have g:s'.heap.get? b=some { cls:=.none,data:=.fields (#[]++a2) }:=a1 b _ z3
       have e1:=G b z
       rw[e]at e1;cases e1
       obtain⟨p,hp,ep⟩:=aE.mp z
       refine⟨.inr (.inl ⟨?_,rfl,#[],a2,rfl,g⟩),_,g⟩
       have t:=((hT p hp).1.tab (hT p hp).2).isCodeTable
       rw[ep]at t
       exact t
    exact⟨rfl,⟨fun b o e=>(key b o e).1,fun b o e=>(key b o e).2⟩,os,bare⟩
 have tbl:∀ b,b∈tabs.map (·.2)->b≠a:=fun b h z=>by
  have e:=G b h
  rw[z,ha]at e;cases e
 cases hk:K.lookup a with
 | some o =>
  have e:=KX a o hk
  rw[ha]at e
  cases e
  refine a0 (fun b=>if b∈tabs.map (·.2)then some (.tbl #[])else none) (fun b u z=>?_) (fun q hq=>if_pos (bF hq)) (.inr ⟨_,vs.toArray,_,hk,rfl,rfl,rfl,by rw[aq,a9];exact hl,by simpa using rv⟩) (fun b u z=>?_) fun z=>?_
  ·by_cases hb:b∈tabs.map (·.2)
   ·have J:=(if_pos hb).symm.trans z
    cases J
    exact .inr ⟨hb,rfl⟩
   ·have J:=(if_neg hb).symm.trans z
    cases J
  ·by_cases hb:b∈tabs.map (·.2)
   ·have J:=(if_pos hb).symm.trans z
    cases J
    exact G b hb
   ·have J:=(if_neg hb).symm.trans z
    cases J
  ·exact absurd (if_neg fun y=>tbl a y rfl) z
 | none =>
  refine a0 (fun b=>if b=a then some (.frz { cls:=.type "list",data:=.seq vs.toArray } (.lst (ns.map V.int)))else if b∈tabs.map (·.2)then some (.tbl #[])else none) (fun b u z=>?_) (fun q hq=>?_) (.inl (.inr ⟨{ cls:=.type "list",data:=.seq vs.toArray },if_pos rfl⟩)) (fun b u z=>?_) fun _=>hk
  ·by_cases hb:b=a
   ·have J:=(if_pos hb).symm.trans z
    cases J
    exact .inl ⟨hb,_,_,rfl⟩
   ·have J:=(if_neg hb).symm.trans z
    by_cases hc:b∈tabs.map (·.2)
    ·rw[if_pos hc]at J;cases J;exact .inr ⟨hc,rfl⟩
    ·rw[if_neg hc]at J;cases J
  ·have hm:q.2∈tabs.map (·.2):=bF hq
   show(if _ then _ else if _ then _ else _)=_
   rw[if_neg (tbl _ hm),if_pos hm]
  ·by_cases hb:b=a
   ·have J:=(if_pos hb).symm.trans z
    cases J
    subst hb
    exact⟨ha,by rw[ar];exact hl,vs,_,rv,ha⟩
   ·have J:=(if_neg hb).symm.trans z
    by_cases hc:b∈tabs.map (·.2)
    ·rw[if_pos hc]at J;cases J;exact G b hc
    ·rw[if_neg hc]at J;cases J
theorem aU7 {ts:List Addr}{l:cJ}{n k:Nat}{q:aI}{loose:List Str}{XP:(Str->Option Value)->Heap->Prop}{YP:World->Heap->Prop}{d:DefRec}{K:Params->ac}{sp:ac->Sp}{x:Str}(names:List Str)
  (hn:l.most=some n) (a2:n<=aC) (a5:d.params.defaults=[]) (hr:Room k gQ)
  (hY:∀(w:World) (h:Heap),YP w h->(K w.params).In h/\∀ P∈ts,h.get? P=some (gJ #[])) (a0:∀ w:World,bI0 (K w.params) names ts=true) (a4:∀ w:World,ju (K w.params)=true)
  (F:∀(w:World) (J:Str->Option Value) (fa:Addr) (h:Heap),(K w.params).In h->h.Ns bh J->J d.name=some (.ref fa) ->
   ∃ fd:bI,(∀(s:ae) (u:Value),jg s fd ⟨[u],[]⟩ [(x,u)]) /\
    ∀ base:Heap,(K w.params).In base->base.Ns bh J->BM J base->bk2 (K w.params) names base->FnOk l.prog w (K w.params) J base CX0 k fa fd [x] (sp (K w.params)))
  (a6:∀(K:ac) (H:Hp) (a:Addr) (ns:List Int),ns.length<=n->bm5 K names H->SqL K H a (ns.map V.int)->(∀ u,H a=some u->(∃ o xs,u=.frz o (.lst xs))\/∃ ps,u=.tbl ps)->sp K [.ref a] H (fun v _=>v=.bl true) E0) :
  jw q loose XP YP l.row.toRowW d [] (fun f vs=>jk f vs):=by
 refine Att.attach_call hn a5 fun w s₀ s₁ J mb fa o pm cd a8 a vs ns G Y ho hd a9 a3 a1 Z C hg=>?_
 obtain⟨KX,a7⟩:=hY w _ Y
 obtain⟨fd,hb,hF⟩:=F w J fa _ KX G.T.g a3
 have hT:jt ((ay1 (K w.params) names).map (·.2)) s₁.heap:=fun p hp=>by
  obtain⟨y,hy,rfl⟩:=aE.mp hp
  obtain⟨h1,h2⟩:=ap5.mp hy
  have z:=aV.mp (a0 w) y.1 h1
  rw[h2]at z
  have z':(iT (K w.params) y.2.1 y.2.2&&ts.contains y.2.2)=true:=z
  rw[ai]at z'
  exact⟨PySem.W.codeHd_of_K KX z'.1,a7 _ (by simpa using z'.2)⟩
 have hm:∀ x∈names,∀ c P,be (K w.params) x=some (c,P)->(c,P)∈(ay1 (K w.params) names).map (·.2):=fun x hx c P e=>aE.mpr ⟨(x,c,P),ap5.mpr ⟨hx,e⟩,rfl⟩
 refine aN8 (tabs:=(ay1 (K w.params) names).map (·.2)) KX G.T.g G.T.b G.T.builtins G.T.nolimit hg ?_ hT (a4 w) a1 Z (aj C a2) hr (fun base k1 k2 k3 k4=>hF base k1 k2 k3 fun x hx c P e=>k4 _ (hm x hx c P e)) hb fun H hO hS hF=>a6 (K w.params) H a ns C (fun x hx c P e=>hO _ (hm x hx c P e)) hS hF
 obtain⟨bm,ob,h1,h2,h3,h4,h5,h6⟩:=G.T.bmain
 exact⟨bm,ob,h1,h2,h3,h4,h5,h6⟩
def spB (names:List Str)(K:ac):Sp:=fun vs H Q _=>∃(a:Addr) (ns:List Int),vs=[.ref a]/\SqF K H a (ns.map V.int)/\ns.length<=63/\bm5 K names H/\∀ H',Q (.bl true) H'
theorem bw2 {names:List Str}{K:ac}{H:Hp}{a:Addr}{ns:List Int}(hl:ns.length<=63)(F:bm5 K names H)(y:SqL K H a (ns.map V.int))(C:∀ u,H a=some u->(∃ o G,u=.frz o (.lst G))\/∃ ps,u=.tbl ps):spB names K [.ref a] H (fun v _=>v=.bl true) E0:=by
 refine⟨a,ns,rfl,⟨y,fun H' k=>?_⟩,hl,F,fun _=>rfl⟩
 rcases y with(h|⟨o,h⟩)|h
 ·rcases C _ h with⟨_,_,z⟩|⟨_,z⟩<;>cases z
 ·exact .inl (.inr ⟨o,k _ _ h rfl⟩)
 ·exact .inr h
def bW8 (P:kg):String->LamI->Prop:=fun id J=>∃ L,P.lm id=some L/\LamGood J L
noncomputable def sfx (x:Str):Str:=if x = "letter_table" then "least_fee" else "<lambda>"
noncomputable def bt8 (names:List Str)(K:ac):List (Addr×Str):=names.map fun x=>(((be K x).getD (0,0)).2,x ++ ".<locals>."++sfx x)
noncomputable def bs6 (names:List Str)(K:ac):List (Addr×Addr):=names.map fun x=>(be K x).getD (0,0)
noncomputable def bR8 (K:ac)(f:String):Option Addr:=match b8 K bh (f:Str)with
 | some (some (.ref a))=>(match K.lookup a with
  | some ⟨_,_,.func _,_⟩=>some a
  | _=>none)
 | _=>none
theorem aH4 {K:ac}{f:String}{a:Addr}(h:bR8 K f=some a):b8 K bh (f:Str)=some (some (.ref a))/\∃ oc od y sl,K.lookup a=some ⟨oc,od,.func y,sl⟩:=by
 unfold bR8 at h
 split at h
 ·rename_i z e
  split at h
  ·rename_i oc od y sl e2
   cases h
   exact⟨e,_,_,_,_,e2⟩
  ·cases h
 ·cases h
noncomputable abbrev aY0 (names:List Str)(P:kg)(K:ac):Gm:=⟨K,bR8 K,bW8 P,bt8 names K⟩
theorem bR9 {names:List Str}{P:kg}{K:ac}{h:Heap}{y:Str->Option Value}(X:K.In h)(G:h.Ns bh y):∀(f:String) (a:Addr),(aY0 names P K).fa f=some a->y (f:Str)=some (.ref a)/\∃ oc od z sl,(aY0 names P K).K.lookup a=some ⟨oc,od,.func z,sl⟩:=fun f a e=>⟨bP X G (aH4 e).1,(aH4 e).2⟩
theorem bf1 {names:List Str}{P:kg}{K:ac}(ht:∀ x∈names,(be K x).isSome=true){vs:List V}{H:Hp}{Q:VK}{E:XK}(q:spB names K vs H Q E):spT (aY0 names P K) vs H Q E:=by
 obtain⟨a,ns,e,z,hl,y,C⟩:=q
 refine⟨a,ns,e,z,hl,TabsH.init fun p h=>?_,C⟩
 simp only[bt8,bV]at h
 obtain⟨x,hx,rfl⟩:=aE.mp h
 exact y x hx _ _ (aq9 (ht x hx))
theorem bi6 {names:List Str}{K:ac}{h:Str->Option Value}{base:Heap}(ht:∀ x∈names,(be K x).isSome=true)(bm:BM h base)(hc:bk2 K names base):∀ y∈bs6 names K,cj base y.1 y.2/\BM h base:=fun y hy=>by
 obtain⟨x,hx,rfl⟩:=aE.mp hy
 exact⟨hc x hx _ _ (aq9 (ht x hx)),bm⟩
theorem aE4 {p:bT}{ps:List Str}(h:lamArgs p=some ps):∃ args,p=⟨[],args,none,[],[],none,[]⟩/\args.map (·.arg)=ps:=by
 unfold lamArgs at h
 split at h
 ·exact⟨_,rfl,av h⟩
 ·cases h
def aY2 (ps:List Str):Prop:=∀ params,lamArgs params=some ps->∀(qual:Str) (body:Expr) (scope:Scope) (clos:List (Str×Addr)) (doc pm:Value) (c':Addr) (ctv:Value) (us:List Value),us.length=ps.length->dA (cU "<lambda>" qual params body scope clos pm (.ref c') ctv) ⟨us,[]⟩=pure (ps.zip us) /\
 ∀(nm:Str) (rp:Pos),dA (e6 nm qual params [.Return (some body) rp] scope clos .none .none doc pm none (.ref c') ctv) ⟨us,[]⟩=pure (ps.zip us)
noncomputable def aR4 (ps fr:List Str)(sc:Scope):Bool:=decide (sc.kind=.function)&&!sc.isCoroutine&&!sc.isGenerator&&decide ((ps++fr).Nodup)&&(ps.all fun x=>decide (sc.names.lookup x=some .local)||decide (sc.names.lookup x=some .cell))&&(fr.all fun x=>decide (sc.names.lookup x=some .free))&&(sc.names.all fun y=>!decide (y.2=.cell)||decide (sc.names.lookup y.1=some .cell))
theorem aX0 {ps fr:List Str}{sc:Scope}(h:aR4 ps fr sc=true):LamScope (ps++fr) ps fr sc:=by
 unfold aR4 at h
 simp only[ai,decide_eq_true_eq,e9,aV,bt]at h
 obtain⟨⟨⟨⟨⟨⟨G,C⟩,Z⟩,F⟩,Y⟩,J⟩,h7⟩:=h
 exact⟨G,C,Z,F,rfl,Y,J,fun y hy e=>by
  rcases h7 y hy with z|z
  ·rw[e]at z;simp at z
  ·exact z⟩
noncomputable def bC3 (scope sc:Scope):Bool:=scope.names.all fun y=>!decide (scope.names.lookup y.1=some .free)||decide (sc.names.lookup y.1=some .cell)
theorem be0 {scope sc:Scope}(h:bC3 scope sc=true):∀ x,scope.names.lookup x=some .free->sc.names.lookup x=some .cell:=fun x hx=>by
 have:=aV.mp h (x,.free) (aF hx)
 simp only[bt,e9,decide_eq_false_iff_not,decide_eq_true_eq]at this
 rcases this with z|z
 ·exact absurd hx z
 ·exact z
noncomputable def lkB (sc:Scope)(N:List Str)(caps:List Nat)(params:bT)(body:Expr)(scope:Scope)(t:kY×List Str×List Str):Bool :=
 decide (lamArgs params=some t.2.1)&&decide (caps.map (fun j=>N[j]?)=t.2.2.map some)&&lamCheck scope sc&&bC3 scope sc&&aR4 t.2.1 t.2.2 scope&&decide (t.2.1.length=t.1.ps)&&decide (t.2.2.length=t.1.cs)&&mE (ck0 (t.2.1++t.2.2) scope) t.1.body body
noncomputable def lkG (f:Str)(sc:Scope)(N:List Str)(tab:List (String×kY×List Str×List Str))(id:String)(caps:List Nat)(E:Expr):Bool:=match tab.lookup id,E with
 | some t,.Lambda params body scope _=>decide (sfx f = "<lambda>")&&lkB sc N caps params body scope t
 | some t,.NamedExpr (.Name nm _) (.Lambda params body scope p1) p2=>decide (sfx f=nm)&&decide (p1=p2)&&lkB sc N caps params body scope t
 | _,_=>false
theorem bn0 {names:List Str}{P:kg}{K:ac}{f:Str}{sc:Scope}{N:List Str}{fd:bI}{tab:List (String×kY×List Str×List Str)}(hf:f∈names)(F:fd.code=.ref ((be K f).getD (0,0)).1)(J:∀ y∈sc.names,y.2=.cell->sc.names.lookup y.1=some .cell)
  (G:∀ id t,tab.lookup id=some t->P.lm id=some t.1/\aY2 t.2.1):bz6 (aY0 names P K) (bs6 names K) f sc N fd (lkG f sc N tab):=by
 intro id z E h
 have C:∀(t:kY×List Str×List Str) (params:bT) (body:Expr) (scope:Scope) (Z:Option (Str×Pos)),tab.lookup id=some t->lkB sc N z params body scope t=true->(match Z with|none => "<lambda>" | some p=>p.1)=sfx f ->
   LkAt (aY0 names P K) (bs6 names K) f sc N fd id z params body scope ((be K f).getD (0,0)).1 ((be K f).getD (0,0)).2 ⟨f ++ ".<locals>."++sfx f,params,body,scope,t.2.1,t.2.2,Z⟩:=fun t params body scope Z e h hs=>by
  obtain⟨L,ps,fr⟩:=t
  unfold lkB at h
  simp only[ai,decide_eq_true_eq]at h
  obtain⟨⟨⟨⟨⟨⟨⟨h1,h2⟩,h3⟩,h4⟩,h5⟩,h6⟩,h7⟩,h8⟩:=h
  obtain⟨hL,hB⟩:=G id _ e
  obtain⟨args,rfl,a1⟩:=aE4 h1
  have Y:fr.length=z.length:=by have:=congrArg jO h2;simpa using this.symm
  have S:=aX0 h5
  refine⟨F,aE.mpr ⟨f,hf,rfl⟩,h3,be0 h4,J,fun env=>rfl,⟨L,hL,⟨S,h6,h7,h8,h1,fun a2 a4 pm c' a3 us a0=>hB _ h1 _ _ _ _ _ _ _ _ _ a0⟩⟩,?_,rfl,rfl,rfl,Y,fun i j x e1 e2=>?_,S.frs,aE.mpr ⟨f,hf,rfl⟩⟩
  ·show f ++ ".<locals>."++sfx f=f ++ ".<locals>."++LamI.own _
   unfold LamI.own
   rw[<-hs]<;>rfl
  ·have e3:(z.map (fun j=>N[j]?))[i]?=some (N[j]?):=by rw[aG,e1];rfl
   rw[h2,aG,e2]at e3
   exact(av e3).symm
 unfold lkG at h
 split at h
 case h_3=>cases h
 ·rename_i t params body scope pos e
  rw[ai]at h
  exact⟨_,_,params,body,scope,pos,_,rfl,C t params body scope none e h.2 (of_decide_eq_true h.1).symm⟩
 ·rename_i t Z rp params body scope p1 p2 e
  rw[ai,ai]at h
  have ep:=of_decide_eq_true h.1.2
  subst ep
  exact⟨_,_,params,body,scope,p1,_,rfl,C t params body scope (some (Z,rp)) e h.2 (of_decide_eq_true h.1.1).symm⟩
theorem aQ2 {names:List Str}{P:kg}{K:ac}{f:Str}{sc:Scope}{N:List Str}{y:bI}:bz6 (aY0 names P K) (bs6 names K) f sc N y (fun _ _ _=>false):=fun _ _ _ h=>by cases h
theorem bO3 {names:List Str}{P:kg}{K:ac}:∀ id J,(aY0 names P K).lg id J->∃ L,P.lm id=some L/\LamGood J L:=fun _ _ h=>h
theorem bM4 {P:kg}{tab:List (String×kY×List Str×List Str)}(h:∀ p∈tab,P.lm p.1=some p.2.1/\aY2 p.2.2.1):∀ id t,tab.lookup id=some t->P.lm id=some t.1/\aY2 t.2.1:=by
 induction tab with
 | nil=>intro id t e;cases e
 | cons y l ih =>
  intro id t e
  rw[aY]at e
  cases q:id==y.1 with
  | true =>
   rw[q]at e
   cases e
   rw[eq_of_beq q]
   exact h y (au ..)
  | false =>
   rw[q]at e
   exact ih (fun p z=>h p (ao _ z)) id t e
def bN8 (K:ac)(n:Str)(st:Stmt):Prop:=∃(f:Addr) (od an:Option Addr) (sl:Array (Option Value)) (oc kV dc pm cd ct:Value),b8 K bh n=some (some (.ref f)) /\
 K.lookup f=some ⟨oc,od,.func (cF n n (defArgs st) (zy st) (defScope st) .none kV dc pm an cd ct),sl⟩/\eK K cd n=true/\cg K (.ref f)=true
def bT5 (n:Str)(st:Stmt)(ps:List Str):Prop:=∀(kV doc pm:Value) (an:Option Addr) (cdv ct:Value) (us:List Value),us.length=ps.length->dA (cF n n (defArgs st) (zy st) (defScope st) .none kV doc pm an cdv ct) ⟨us,[]⟩=pure (ps.zip us)
theorem bd0 {Q:List Value->Prop}(h:Q [])(us:List Value)(hl:us.length=0):Q us:=by
 cases us with
 | nil=>exact h
 | cons _ _=>cases hl
theorem bdS {k:Nat}{Q:List Value->Prop}(h:∀ a us,us.length=k->Q (a::us))(us:List Value)(hl:us.length=k+1):Q us:=by
 cases us with
 | nil=>cases hl
 | cons a us=>exact h a us (Nat.succ.inj hl)
theorem bd1 {Q:List Value->Prop}(h:∀ a,Q [a]):∀ us:List Value,us.length=1->Q us:=bdS fun a=>bd0 (h a)
theorem bd2 {Q:List Value->Prop}(h:∀ a b,Q [a,b]):∀ us:List Value,us.length=2->Q us:=bdS fun a=>bd1 (h a)
theorem bd3 {Q:List Value->Prop}(h:∀ a b c,Q [a,b,c]):∀ us:List Value,us.length=3->Q us:=bdS fun a=>bd2 (h a)
def DTB (names:List Str)(P:kg)(n:String)(pc vc:Nat)(m:Ck->List Stmt->Bool)(st:Stmt):Prop:=∃ N ps,FnScope N ps (defScope st)/\ps.length=pc/\N.length=pc+vc/\bT5 n st ps/\(m ⟨N,defScope st,fun _ _ _=>false⟩ (zy st)=true \/
 ((n:Str)∈names/\∃ tab,m ⟨N,defScope st,lkG n (defScope st) N tab⟩ (zy st)=true/\(∀ y∈(defScope st).names,y.2=.cell->(defScope st).names.lookup y.1=some .cell)/\∀ p∈tab,P.lm p.1=some p.2.1/\aY2 p.2.2.1))
def DT (names:List Str)(P:kg)(n:String)(d:kZ)(st:Stmt):Prop:=DTB names P n d.ps d.vs (fun ck S=>mSs ck d.body S) st
theorem bb6 {names:List Str}{P:kg}{K:ac}{h:Heap}{z:Str->Option Value}{n:String}{pc Y:Nat}{m:Ck->List Stmt->Bool}{st:Stmt}(X:K.In h)(G:h.Ns bh z)(hT:∀ x∈names,(be K x).isSome=true)(hD:bN8 K n st)(hd:DTB names P n pc Y m st):GoodB (aY0 names P K) (bs6 names K) z n pc Y m:=by
 obtain⟨f,od,an,sl,oc,kV,dc,pm,cd,ct,a,l,c,k⟩:=hD
 obtain⟨N,ps,Z,J,C,h4,y⟩:=hd
 have F:=bf5 (st:=st) l c k
 have D:DefAt K z n st ps f _:=⟨F,bP X G a,F.binds h4⟩
 rcases y with y|⟨hn,tab,y,h6,h7⟩
 ·exact⟨_,_,_,_,_,_,D,Z,J,C,y,aQ2⟩
 ·exact⟨_,_,_,_,_,_,D,Z,J,C,y,bn0 hn (PySem.W.law_code X G (aq9 (hT _ hn)) (bP X G a) (X _ _ l) rfl) h6 (bM4 h7)⟩
theorem good_of {names:List Str}{P:kg}{K:ac}{h:Heap}{y:Str->Option Value}{n:String}{d:kZ}{st:Stmt}(X:K.In h)(G:h.Ns bh y)(hT:∀ x∈names,(be K x).isSome=true)(hD:bN8 K n st)(hd:DT names P n d st):Good (aY0 names P K) (bs6 names K) y n d:=bb6 X G hT hD hd
end L2
end
noncomputable section
namespace DV
noncomputable def aa5:Df:=⟨"is_whole",3,0,(.cons (.ret (.and (.bi .isInt (.cons (.var 0) .nil)) (.and (.not (.bi .isBool (.cons (.var 0) .nil))) (.chain .le .le (.var 1) (.var 0) (.var 2))))) .nil)⟩
noncomputable def aa4:Df:=⟨"is_tuple_of",2,0,(.cons (.ret (.and (.bi .isTup (.cons (.var 0) .nil)) (.cmp .eq (.bi .len (.cons (.var 0) .nil)) (.var 1)))) .nil)⟩
noncomputable def ab7:Df:=⟨"is_room",2,0,(.cons (.ret (.call "is_whole" (.ex (.var 0) (.ex (.cst (.int 0)) (.ex (.bin .sub (.var 1) (.cst (.int 1))) .nil))))) .nil)⟩
noncomputable def ab2:Df:=⟨"is_letter",2,0,(.cons (.ret (.cmp .isin (.var 0) (.slU (.glob "LETTERS") (.var 1)))) .nil)⟩
noncomputable def aa2:Df:=⟨"are_rising_rooms",2,0,(.cons (.ite (.or (.not (.bi .isTup (.cons (.var 0) .nil))) (.not (.mk .all (.comp (.one 0) (.seq (.var 0)) (.call "is_room" (.ex (.var 0) (.ex (.var 1) .nil))) [none,some 1])))) (.cons (.ret (.cst (.bl false))) .nil) .nil) (.cons (.ret (.mk .all (.comp (.tup [0,1]) (.zip (.seq (.var 0)) (.seq (.slL (.var 0) (.cst (.int 1))))) (.cmp .lt (.var 0) (.var 1)) [none,none]))) .nil))⟩
noncomputable def ab8:Df:=⟨"is_door",3,0,(.cons (.ret (.and (.call "is_tuple_of" (.ex (.var 0) (.ex (.cst (.int 4)) .nil))) (.and (.call "is_room" (.ex (.ix (.var 0) (.cst (.int 0))) (.ex (.var 2) .nil))) (.and (.call "is_letter" (.ex (.ix (.var 0) (.cst (.int 1))) (.ex (.var 1) .nil))) (.and (.call "is_room" (.ex (.ix (.var 0) (.cst (.int 2))) (.ex (.var 2) .nil))) (.call "is_whole" (.ex (.ix (.var 0) (.cst (.int 3))) (.ex (.cst (.int 0)) (.ex (.glob "MOST_TOLL") .nil))))))))) .nil)⟩
noncomputable def ab3:Df:=⟨"are_doors",3,0,(.cons (.ite (.or (.not (.bi .isTup (.cons (.var 0) .nil))) (.cmp .gt (.bi .len (.cons (.var 0) .nil)) (.glob "MOST_DOORS"))) (.cons (.ret (.cst (.bl false))) .nil) .nil) (.cons (.ret (.mk .all (.comp (.one 0) (.seq (.var 0)) (.call "is_door" (.ex (.var 0) (.ex (.var 1) (.ex (.var 2) .nil)))) [none,some 1,some 2]))) .nil))⟩
noncomputable def ab4:Df:=⟨"is_machine",1,0,(.cons (.ret (.and (.call "is_tuple_of" (.ex (.var 0) (.ex (.cst (.int 5)) .nil))) (.and (.call "is_whole" (.ex (.ix (.var 0) (.cst (.int 0))) (.ex (.cst (.int 1)) (.ex (.bi .len (.cons (.glob "LETTERS") .nil)) .nil)))) (.and (.call "is_whole" (.ex (.ix (.var 0) (.cst (.int 1))) (.ex (.cst (.int 1)) (.ex (.glob "MOST_ROOMS") .nil)))) (.and (.call "are_rising_rooms" (.ex (.ix (.var 0) (.cst (.int 2))) (.ex (.ix (.var 0) (.cst (.int 1))) .nil))) (.and (.call "are_rising_rooms" (.ex (.ix (.var 0) (.cst (.int 3))) (.ex (.ix (.var 0) (.cst (.int 1))) .nil))) (.call "are_doors" (.ex (.ix (.var 0) (.cst (.int 4))) (.ex (.ix (.var 0) (.cst (.int 0))) (.ex (.ix (.var 0) (.cst (.int 1))) .nil)))))))))) .nil)⟩
noncomputable def au8:Df:=⟨"_law_bag",2,3,(.cons (.asg (.one 2) (.cst (.int 0))) (.cons (.ite (.cmp .lt (.var 1) (.bi .len (.cons (.var 0) .nil))) (.cons (.asg (.one 2) (.bi .abs (.cons (.ix (.var 0) (.var 1)) .nil))) .nil) .nil) (.cons (.asg (.one 3) (.bin .add (.bin .mul (.cst (.int 7919)) (.var 1)) (.cst (.int 17)))) (.cons (.for_ (.one 4) (.rng1 (.bi .min2 (.cons (.bi .len (.cons (.var 0) .nil)) (.cons (.cst (.int 60)) .nil)))) (.cons (.asg (.one 3) (.bin .mod (.bin .add (.bin .add (.bin .mul (.var 3) (.cst (.int 48271))) (.bin .mod (.ix (.var 0) (.var 4)) (.cst (.int 2147483647)))) (.var 4)) (.cst (.int 2147483629)))) .nil)) (.cons (.ite (.cmp .lt (.var 2) (.bin .pow (.cst (.int 10)) (.cst (.int 18)))) (.cons (.asg (.one 2) (.cst (.int 0))) .nil) .nil) (.cons (.ret (.lst (.cons (.var 2) (.cons (.var 3) .nil)))) .nil))))))⟩
noncomputable def ad6:Df:=⟨"_law_take",2,3,(.cons (.ite (.cmp .gt (.ix (.var 0) (.cst (.int 0))) (.cst (.int 0))) (.cons (.asg (.one 2) (.bin .mod (.ix (.var 0) (.cst (.int 0))) (.var 1))) (.cons (.setIx (.var 0) (.cst (.int 0)) (.bin .fdiv (.ix (.var 0) (.cst (.int 0))) (.var 1))) (.cons (.ret (.var 2)) .nil))) .nil) (.cons (.asg (.one 3) (.cst (.int 0))) (.cons (.asg (.one 4) (.cst (.int 1))) (.cons (.whl (.cmp .lt (.var 4) (.var 1)) (.cons (.setIx (.var 0) (.cst (.int 1)) (.bin .mod (.bin .add (.bin .mul (.ix (.var 0) (.cst (.int 1))) (.cst (.int 48271))) (.cst (.int 7919))) (.cst (.int 2147483647)))) (.cons (.asg (.one 3) (.bin .add (.bin .mul (.var 3) (.cst (.int 1073741789))) (.bin .mod (.bin .mul (.bin .fdiv (.ix (.var 0) (.cst (.int 1))) (.cst (.int 8))) (.cst (.int 69621))) (.cst (.int 1073741789))))) (.cons (.asg (.one 4) (.bin .mul (.var 4) (.cst (.int 1073741789)))) .nil)))) (.cons (.ret (.bin .mod (.var 3) (.var 1))) .nil)))))⟩
noncomputable def ad8:Df:=⟨"_law_rooms",2,1,(.cons (.asg (.one 2) (.call "_law_take" (.ex (.var 0) (.ex (.bin .shl (.cst (.int 1)) (.var 1)) .nil)))) (.cons (.ret (.mk .tuple (.compIf (.one 0) (.rng1 (.var 1)) (.cmp .eq (.bin .mod (.bin .fdiv (.var 1) (.bin .shl (.cst (.int 1)) (.var 0))) (.cst (.int 2))) (.cst (.int 1))) (.var 0) [none,some 2]))) .nil))⟩
noncomputable def ad3:Df:=⟨"_law_machine",1,5,(.cons (.asg (.one 1) (.bin .add (.cst (.int 1)) (.call "_law_take" (.ex (.var 0) (.ex (.cst (.int 3)) .nil))))) (.cons (.asg (.one 2) (.bin .add (.cst (.int 1)) (.call "_law_take" (.ex (.var 0) (.ex (.cst (.int 5)) .nil))))) (.cons (.asg (.one 3) (.call "_law_take" (.ex (.var 0) (.ex (.cst (.int 13)) .nil)))) (.cons (.ite (.cmp .eq (.call "_law_take" (.ex (.var 0) (.ex (.cst (.int 8)) .nil))) (.cst (.int 7))) (.cons (.asg (.one 3) (.call "_law_take" (.ex (.var 0) (.ex (.cst (.int 76)) .nil)))) .nil) .nil) (.cons (.asg (.one 4) (.lst .nil)) (.cons (.for_ (.one 5) (.rng1 (.var 3)) (.cons (.ex (.meth .append (.var 4) (.cons (.tup (.cons (.call "_law_take" (.ex (.var 0) (.ex (.var 2) .nil))) (.cons (.ix (.cst (.str [97,98,99])) (.call "_law_take" (.ex (.var 0) (.ex (.var 1) .nil)))) (.cons (.call "_law_take" (.ex (.var 0) (.ex (.var 2) .nil))) (.cons (.call "_law_take" (.ex (.var 0) (.ex (.cst (.int 4)) .nil))) .nil))))) .nil))) .nil)) (.cons (.ret (.tup (.cons (.var 1) (.cons (.var 2) (.cons (.call "_law_rooms" (.ex (.var 0) (.ex (.var 2) .nil))) (.cons (.call "_law_rooms" (.ex (.var 0) (.ex (.var 2) .nil))) (.cons (.mk .tuple (.seq (.var 4))) .nil))))))) .nil)))))))⟩
noncomputable def ab5:Df:=⟨"letters_of",1,0,(.cons (.ret (.slU (.glob "LETTERS") (.ix (.var 0) (.cst (.int 0))))) .nil)⟩
noncomputable def ac5:Df:=⟨"rooms_of",1,0,(.cons (.ret (.ix (.var 0) (.cst (.int 1)))) .nil)⟩
noncomputable def ac0:Df:=⟨"begins_of",1,0,(.cons (.ret (.ix (.var 0) (.cst (.int 2)))) .nil)⟩
noncomputable def ad1:Df:=⟨"ends_of",1,0,(.cons (.ret (.ix (.var 0) (.cst (.int 3)))) .nil)⟩
noncomputable def ac6:Df:=⟨"doors_of",1,0,(.cons (.ret (.ix (.var 0) (.cst (.int 4)))) .nil)⟩
noncomputable def by8:Df:=⟨"grid",2,2,(.cons (.asg (.one 2) (.lst .nil)) (.cons (.for_ (.one 3) (.rng1 (.var 0)) (.cons (.ex (.meth .append (.var 2) (.cons (.mk .tuple (.comp (.one 0) (.rng1 (.var 0)) (.callV 1 (.cons (.var 2) (.cons (.var 0) .nil))) [none,some 1,some 3])) .nil))) .nil)) (.cons (.ret (.mk .tuple (.seq (.var 2)))) .nil)))⟩
noncomputable def am9:Df:=⟨"sign_product",2,1,(.cons (.asg (.one 2) (.bi .len (.cons (.var 0) .nil))) (.cons (.ret (.callC "grid" (.ex (.var 2) (.lam "sign_product.0" [2,0,1] .nil)))) .nil))⟩
noncomputable def ah1:Lm:=⟨"sign_product.0",2,3,(.mk .min (.comp (.one 0) (.rng1 (.var 2)) (.bi .max2 (.cons (.ix (.ix (.var 1) (.var 2)) (.var 0)) (.cons (.ix (.ix (.var 3) (.var 0)) (.var 4)) .nil))) [none,some 3,some 0,some 4,some 1]))⟩
noncomputable def bY2:Df:=⟨"_law_on",3,5,(.cons (.asg (.one 3) (.mk .list (.comp (.one 0) (.seq (.var 2)) (.cst .non) [none]))) (.cons (.for_ (.tup [4,5,6,7]) (.seq (.ix (.var 0) (.cst (.int 4)))) (.cons (.ite (.and (.cmp .eq (.var 5) (.var 1)) (.notN (.ix (.var 2) (.var 4)))) (.cons (.ite (.or (.isN (.ix (.var 3) (.var 6))) (.cmp .lt (.bin .add (.ix (.var 2) (.var 4)) (.var 7)) (.ix (.var 3) (.var 6)))) (.cons (.setIx (.var 3) (.var 6) (.bin .add (.ix (.var 2) (.var 4)) (.var 7))) .nil) .nil) .nil) .nil) .nil)) (.cons (.ret (.var 3)) .nil)))⟩
noncomputable def ac1:Df:=⟨"row_text",1,0,(.cons (.ret (.join (.cst (.str [32])) (.mk .list (.comp (.one 0) (.seq (.var 0)) (.bi .str (.cons (.var 0) .nil)) [none])))) .nil)⟩
noncomputable def ab0:Df:=⟨"machine_text",1,1,(.cons (.asg (.one 1) (.lst (.cons (.tup (.cons (.cst (.str [108,101,116,116,101,114,115])) (.cons (.bi .len (.cons (.call "letters_of" (.ex (.var 0) .nil)) .nil)) .nil))) (.cons (.tup (.cons (.cst (.str [114,111,111,109,115])) (.cons (.call "rooms_of" (.ex (.var 0) .nil)) .nil))) (.cons (.bin .add (.tup (.cons (.cst (.str [98,101,103,105,110])) .nil)) (.call "begins_of" (.ex (.var 0) .nil))) (.cons (.bin .add (.tup (.cons (.cst (.str [101,110,100])) .nil)) (.call "ends_of" (.ex (.var 0) .nil))) .nil)))))) (.cons (.ex (.ext (.var 1) (.comp (.one 0) (.seq (.call "doors_of" (.ex (.var 0) .nil))) (.bin .add (.tup (.cons (.cst (.str [100,111,111,114])) .nil)) (.var 0)) [none]))) (.cons (.ret (.join (.cst (.str [10])) (.mk .list (.comp (.one 0) (.seq (.var 1)) (.call "row_text" (.ex (.var 0) .nil)) [none])))) .nil)))⟩
noncomputable def ab1:Df:=⟨"read_machine",1,6,(.cons (.asg (.one 1) (.mk .list (.comp (.one 0) (.seq (.spl (.var 0) 10)) (.spl (.var 0) 32) [none]))) (.cons (.asg (.one 2) (.slU (.var 1) (.bi .len (.cons (.glob "HEADS") .nil)))) (.cons (.ite (.cmp .ne (.mk .list (.comp (.one 0) (.seq (.var 2)) (.ix (.var 0) (.cst (.int 0))) [none])) (.mk .list (.seq (.glob "HEADS")))) (.cons .raise .nil) .nil) (.cons (.asg (.one 3) (.call "read_number" (.ex (.ix (.var 2) (.cst (.int 0))) .nil))) (.cons (.asg (.one 4) (.call "read_number" (.ex (.ix (.var 2) (.cst (.int 1))) .nil))) (.cons (.asg (.one 5) (.mk .tuple (.comp (.one 0) (.seq (.slL (.var 1) (.bi .len (.cons (.glob "HEADS") .nil)))) (.call "read_door" (.ex (.var 0) .nil)) [none]))) (.cons (.asg (.one 6) (.tup (.cons (.var 3) (.cons (.var 4) (.cons (.call "read_numbers" (.ex (.ix (.var 2) (.cst (.int 2))) .nil)) (.cons (.call "read_numbers" (.ex (.ix (.var 2) (.cst (.int 3))) .nil)) (.cons (.var 5) .nil))))))) (.cons (.ite (.not (.call "is_machine" (.ex (.var 6) .nil))) (.cons .raise .nil) .nil) (.cons (.ret (.var 6)) .nil)))))))))⟩
noncomputable def aa8:Df:=⟨"read_figure",1,0,(.cons (.ite (.cmp .notin (.var 0) (.glob "FIGURES")) (.cons .raise .nil) .nil) (.cons (.ret (.bi .int (.cons (.var 0) .nil))) .nil))⟩
noncomputable def aa6:Df:=⟨"read_numbers",1,0,(.cons (.ret (.mk .tuple (.comp (.one 0) (.seq (.slL (.var 0) (.cst (.int 1)))) (.call "read_figure" (.ex (.var 0) .nil)) [none]))) .nil)⟩
noncomputable def aa9:Df:=⟨"read_number",1,0,(.cons (.ite (.cmp .ne (.bi .len (.cons (.var 0) .nil)) (.cst (.int 2))) (.cons .raise .nil) .nil) (.cons (.ret (.call "read_figure" (.ex (.ix (.var 0) (.cst (.int 1))) .nil))) .nil))⟩
noncomputable def ab6:Df:=⟨"read_door",1,0,(.cons (.ite (.or (.cmp .ne (.bi .len (.cons (.var 0) .nil)) (.cst (.int 5))) (.cmp .ne (.ix (.var 0) (.cst (.int 0))) (.cst (.str [100,111,111,114])))) (.cons .raise .nil) .nil) (.cons (.ret (.tup (.cons (.call "read_figure" (.ex (.ix (.var 0) (.cst (.int 1))) .nil)) (.cons (.ix (.var 0) (.cst (.int 2))) (.cons (.call "read_figure" (.ex (.ix (.var 0) (.cst (.int 3))) .nil)) (.cons (.call "read_figure" (.ex (.ix (.var 0) (.cst (.int 4))) .nil)) .nil)))))) .nil))⟩
noncomputable def ab9:Df:=⟨"_law_written",1,12,(.cons (.asg (.tup [1,2,3,4,5]) (.var 0)) (.cons (.asg (.one 6) (.lst (.cons (.bin .add (.cst (.str [108,101,116,116,101,114,115,32])) (.bi .str (.cons (.var 1) .nil))) (.cons (.bin .add (.cst (.str [114,111,111,109,115,32])) (.bi .str (.cons (.var 2) .nil))) .nil)))) (.cons (.for_ (.tup [7,8]) (.seq (.lst (.cons (.tup (.cons (.cst (.str [98,101,103,105,110])) (.cons (.var 3) .nil))) (.cons (.tup (.cons (.cst (.str [101,110,100])) (.cons (.var 4) .nil))) .nil)))) (.cons (.ex (.meth .append (.var 6) (.cons (.join (.cst (.str [32])) (.bin .add (.lst (.cons (.var 7) .nil)) (.mk .list (.comp (.one 0) (.seq (.var 8)) (.bi .str (.cons (.var 0) .nil)) [none])))) .nil))) .nil)) (.cons (.for_ (.tup [9,10,11,12]) (.seq (.var 5)) (.cons (.ex (.meth .append (.var 6) (.cons (.bin .add (.bin .add (.bin .add (.bin .add (.bin .add (.bin .add (.bin .add (.cst (.str [100,111,111,114,32])) (.bi .str (.cons (.var 9) .nil))) (.cst (.str [32]))) (.var 10)) (.cst (.str [32]))) (.bi .str (.cons (.var 11) .nil))) (.cst (.str [32]))) (.bi .str (.cons (.var 12) .nil))) .nil))) .nil)) (.cons (.ret (.join (.cst (.str [10])) (.var 6))) .nil)))))⟩
noncomputable def ac3:Df:=⟨"law",1,5,(.cons (.asg (.one 1) (.lst .nil)) (.cons (.for_ (.one 2) (.rng1 (.bi .max2 (.cons (.cst (.int 3)) (.cons (.bi .min2 (.cons (.bi .len (.cons (.var 0) .nil)) (.cons (.cst (.int 12)) .nil))) .nil)))) (.cons (.ex (.meth .append (.var 1) (.cons (.call "_law_machine" (.ex (.call "_law_bag" (.ex (.var 0) (.ex (.var 2) .nil))) .nil)) .nil))) .nil)) (.cons (.for_ (.one 3) (.seq (.bin .add (.var 1) (.slU (.var 1) (.cst (.int 2))))) (.cons (.asg (.one 4) (.call "machine_text" (.ex (.var 3) .nil))) (.cons (.ite (.or (.not (.bi .isStr (.cons (.var 4) .nil))) (.cmp .ne (.var 4) (.call "_law_written" (.ex (.var 3) .nil)))) (.cons (.ret (.cst (.bl false))) .nil) .nil) (.cons (.asg (.one 5) (.call "read_machine" (.ex (.var 4) .nil))) (.cons (.ite (.or (.not (.bi .isTup (.cons (.var 5) .nil))) (.or (.cmp .ne (.var 5) (.var 3)) (.cmp .ne (.call "machine_text" (.ex (.var 5) .nil)) (.var 4)))) (.cons (.ret (.cst (.bl false))) .nil) .nil) .nil))))) (.cons (.ret (.cst (.bl true))) .nil))))⟩
class Has (P:Pr)(d:Df):Prop where
 eq:P.df d.name=some d
class HasL (P:Pr)(d:Lm):Prop where
 eq:P.lm d.id=some d
class HasC (P:Pr)(x:String)(v:D):Prop where
 eq:P.con x=some v
noncomputable def fin (s:Sto)(c:Ct)(s':Sto):R D:=match c with
 | .ret v=>zB s v s'
 | .next _=>zB s .non s'
 | _=>.bad
@[simp] theorem fin_ret (s:Sto) (v:D) (s':Sto):fin s (.ret v) s'=zB s v s':=rfl
@[simp] theorem fin_next (s:Sto) (ρ:Env) (s':Sto):fin s (.next ρ) s'=zB s .non s':=rfl
theorem zd {P:Pr}(d:Df)[h:Has P d]{n:Nat}{l:List D}{s:Sto}(hl:l.length=d.ps) :
  (aa1 P (n+1)).call d.name l s=(exs (aa1 P n) d.body (l.map some++aA d.vs none) s).bind (fin s):=by
 simp only[aa1,h.eq,hl,if_true]
 rfl
theorem aD9 {P:Pr}{x:String}{v:D}[h:HasC P x v]{n:Nat}:(aa1 P n).con x=some v:=by
 cases n<;>exact h.eq
theorem aw3 (s t:Sto):ar4 s (s++t)=true:=by
 unfold ar4
 rw[aV]
 intro i h
 rw[bQ]at h
 rw[aP h]
 simp
theorem aW1 (s t:Sto)(r:Nat)(o:O)(h:o.bnd s.length=true):ar4 s (s.set r o++t)=true:=by
 unfold ar4
 rw[aV]
 intro i y
 rw[bQ]at y
 rw[aP (by rw[bA];exact y)]
 by_cases e:r=i
 ·subst e;rw[aZ y];simp[h]
 ·rw[bj e];simp
theorem zW {s t:Sto}{d:D}(h:∀ n,d.bnd n=true)(hr:∀ r,d≠.ref r):zB s d (s++t)=.ok d s:=by
 unfold zB
 rw[aw3,if_pos rfl]
 cases d with
 | ref r=>exact absurd rfl (hr r)
 | _=>simp[h]
theorem zn {s:Sto}{d:D}(h:∀ n,d.bnd n=true)(hr:∀ r,d≠.ref r):zB s d s=.ok d s:=by
 have:=zW (s:=s) (t:=[]) h hr
 rwa [aW]at this
theorem au0 {s t:Sto}{d:D}{r:Nat}{o:O}(h:∀ n,d.bnd n=true)(hr:∀ r,d≠.ref r)(ho:o.bnd s.length=true):zB s d (s.set r o++t)=.ok d (s.set r o):=by
 unfold zB
 rw[aW1 s t r o ho,if_pos rfl]
 have e:(s.set r o++t).take s.length=s.set r o:=by rw[List.take_append_of_le_length (by simp),fZ (by simp)]
 cases d with
 | ref r=>exact absurd rfl (hr r)
 | _=>simp only[h,if_true,e]
theorem ag7 {s:Sto}{d:D}{r:Nat}{o:O}(h:∀ n,d.bnd n=true)(hr:∀ r,d≠.ref r)(ho:o.bnd s.length=true):zB s d (s.set r o)=.ok d (s.set r o):=by
 have:=au0 (s:=s) (t:=[]) (r:=r) h hr ho
 rwa [aW]at this
theorem aW4 {s t u:Sto}{o:O}(ho:o.bnd s.length=true):zB s (.ref (s.length+t.length)) (s++(t++o::u))=.ok (.ref s.length) (s++[o]):=by
 unfold zB
 rw[aw3,if_pos rfl]
 simp[ho,aU]
@[simp] theorem aw8 {s:Sto} {i:Int}:zB s (.int i) s=.ok (.int i) s:=zn (fun _=>rfl) (by nofun)
@[simp] theorem bL5 {s:Sto} {i:Bool}:zB s (.bl i) s=.ok (.bl i) s:=zn (fun _=>rfl) (by nofun)
@[simp] theorem bI4 {s:Sto}:zB s .non s=.ok .non s:=zn (fun _=>rfl) (by nofun)
@[simp] theorem bw7 {s:Sto} {x:List Nat}:zB s (.str x) s=.ok (.str x) s:=zn (fun _=>rfl) (by nofun)
theorem qf {c:Env->Sto->R D}{g:Env->Sto->R Ct}:∀ {n:Nat} {ρ:Env} {s:Sto},qz c g n ρ s≠.bad->qz c g (n+1) ρ s=qz c g n ρ s
 | 0,_,_,h=>absurd rfl h
 | n+1,ρ,s,h=>by
  rw[show qz c g (n+1+1) ρ s=tru (c ρ s) (fun b s=>if b then(g ρ s).bind fun y s=>match y with
   | .next ρ=>qz c g (n+1) ρ s|.cont ρ=>qz c g (n+1) ρ s|.brk ρ=>.ok (.next ρ) s|.ret d=>.ok (.ret d) s else .ok (.next ρ) s)from rfl]
  have e:qz c g (n+1) ρ s=tru (c ρ s) (fun b s=>if b then(g ρ s).bind fun y s=>match y with
   | .next ρ=>qz c g n ρ s|.cont ρ=>qz c g n ρ s|.brk ρ=>.ok (.next ρ) s|.ret d=>.ok (.ret d) s else .ok (.next ρ) s):=rfl
  rw[e]at h ⊢
  unfold tru at h ⊢
  cases hc:c ρ s with
  | exc _ _=>rfl
  | bad=>rfl
  | ok d s1 =>
   rw[hc]at h
   cases d with
   | bl b =>
    cases b with
    | false=>rfl
    | true =>
     simp only[R.bind_ok,if_true]at h ⊢
     cases hg:g ρ s1 with
     | exc _ _=>rfl
     | bad=>rfl
     | ok y s2 =>
      rw[hg]at h
      simp only[R.bind_ok]at h ⊢
      cases y with
      | next ρ'=>exact qf h
      | cont ρ'=>exact qf h
      | _=>rfl
   | _=>rfl
theorem zQ {c:Env->Sto->R D}{g:Env->Sto->R Ct}{n:Nat}{ρ:Env}{s:Sto}(h:qz c g n ρ s≠.bad):∀ k,qz c g (n+k) ρ s=qz c g n ρ s
 | 0=>rfl
 | k+1=>by
  have e:=zQ h k
  rw[<-Nat.add_assoc,qf (by rw[e];exact h),e]
theorem bD4 {c:Env->Sto->R D}{g:Env->Sto->R Ct}{n:Nat}{ρ:Env}{s:Sto}{r:Ct}{t:Sto}(h:qz c g n ρ s=.ok r t):whl c g ρ s=.ok r t:=by
 have hb:qz c g n ρ s≠.bad:=by rw[h];nofun
 have hx:∃ n,qz c g n ρ s≠.bad:=⟨n,hb⟩
 unfold whl
 rw[dif_pos hx]
 have z:=zQ hx.choose_spec n
 have y:=zQ hb hx.choose
 rw[<-z,dD,y,h]
theorem ba7 {c:Env->Sto->R D}{g:Env->Sto->R Ct}{ρ ρ':Env}{s s1 s':Sto}(hc:c ρ s=.ok (.bl true) s1)(hg:g ρ s1=.ok (.next ρ') s'):whl c g ρ s=whl c g ρ' s':=by
 have key:∀ n,qz c g (n+1) ρ s=qz c g n ρ' s':=fun n=>by
  show tru (c ρ s) _=_
  rw[hc,tru_bl,if_pos rfl,hg];rfl
 unfold whl
 by_cases hx:∃ n,qz c g n ρ' s'≠.bad
 ·have hy:∃ n,qz c g n ρ s≠.bad:=⟨hx.choose+1,by rw[key];exact hx.choose_spec⟩
  rw[dif_pos hx,dif_pos hy]
  have y:=zQ hy.choose_spec (hx.choose+1)
  have h:=zQ (n:=hx.choose+1) (ρ:=ρ) (s:=s) (by rw[key];exact hx.choose_spec) hy.choose
  rw[<-y,dD,h,key]
 ·have hy:¬ ∃ n,qz c g n ρ s≠.bad:=fun⟨n,hn⟩=>by
   cases n with
   | zero=>exact hn rfl
   | succ n=>exact hx ⟨n,by rw[<-key];exact hn⟩
  rw[dif_neg hx,dif_neg hy]
theorem bn3 {c:Env->Sto->R D}{g:Env->Sto->R Ct}{ρ:Env}{s s1:Sto}(hc:c ρ s=.ok (.bl false) s1):whl c g ρ s=.ok (.next ρ) s1 :=
 bD4 (n:=1) (by show tru (c ρ s) _=_;rw[hc,tru_bl];rfl)
theorem aT0 {ok:Sto->Bool}{g:D->Env->Sto->R Ct}(P:Nat->Env->Sto->Prop):∀(l:List D) (k:Nat) (ρ:Env) (s:Sto),
  P k ρ s->(∀(j:Nat) (ρ:Env) (s:Sto),j<=l.length->P (k+j) ρ s->ok s=true)->(∀(j:Nat) (d:D) (ρ:Env) (s:Sto),l[j]?=some d->P (k+j) ρ s->∃ ρ' s',(g d ρ s=.ok (.next ρ') s'\/g d ρ s=.ok (.cont ρ') s')/\P (k+j+1) ρ' s') ->
  ∃ ρ' s',aN9 ok g l ρ s=.ok (.next ρ') s'/\P (k+l.length) ρ' s'
 | [],k,ρ,s,h,o,_=>⟨ρ,s,by show(if ok s then _ else _)=_;rw[if_pos (o 0 ρ s (am _) h)],h⟩
 | d::l,k,ρ,s,h,o,t=>by
  have ho:=o 0 ρ s (cz _) h
  obtain⟨ρ1,s1,hg,y⟩:=t 0 d ρ s rfl h
  obtain⟨ρ2,s2,e,C⟩:=aT0 P l (k+1) ρ1 s1 y (fun j ρ' s' hj z=>o (j+1) ρ' s' (by simpa using hj) (by rwa [show k+(j+1)=k+1+j by omega])) fun j d' ρ' s' hj z=>by
   have:=t (j+1) d' ρ' s' (by simpa using hj) (by rwa [show k+(j+1)=k+1+j by omega])
   rwa [show k+(j+1)+1=k+1+j+1 by omega]at this
  refine⟨ρ2,s2,?_,by rwa [aL,show k+(l.length+1)=k+1+l.length by omega]⟩
  show(if ok s then _ else _)=_
  rw[if_pos ho]
  rcases hg with hg|hg<;>(rw[hg];exact e)
noncomputable def Nx (Q:Env->Sto->Prop):R Ct->Prop
 | .ok (.next ρ) s=>Q ρ s
 | .ok (.cont ρ) s=>Q ρ s
 | _=>False
@[simp] theorem bR1 (Q:Env->Sto->Prop) (ρ:Env) (s:Sto):Nx Q (.ok (.next ρ) s)=Q ρ s:=rfl
@[simp] theorem bO0 (Q:Env->Sto->Prop) (ρ:Env) (s:Sto):Nx Q (.ok (.cont ρ) s)=Q ρ s:=rfl
theorem av4 {Q:Env->Sto->Prop}{r:R Ct}{ρ:Env}{s:Sto}(e:r=.ok (.next ρ) s)(h:Q ρ s):Nx Q r:=by rw[e];exact h
theorem Nx.out {Q:Env->Sto->Prop}:∀ {r:R Ct},Nx Q r->∃ ρ s,(r=.ok (.next ρ) s\/r=.ok (.cont ρ) s)/\Q ρ s
 | .ok (.next ρ) s,h=>⟨ρ,s,.inl rfl,h⟩
 | .ok (.cont ρ) s,h=>⟨ρ,s,.inr rfl,h⟩
 | .ok (.ret _) _,h=>h.elim
 | .ok (.brk _) _,h=>h.elim
 | .exc _ _,h=>h.elim
 | .bad,h=>h.elim
noncomputable def Tst (A B:Sto->Prop):R D->Prop
 | .ok (.bl false) s=>A s
 | .ok (.bl true) s=>B s
 | _=>False
@[simp] theorem bi9 (A B:Sto->Prop) (b:Bool) (s:Sto):Tst A B (.ok (.bl b) s)=if b then B s else A s:=by cases b<;>rfl
theorem Tst.out {A B:Sto->Prop}:∀ {r:R D},Tst A B r->(∃ s,r=.ok (.bl false) s/\A s)\/∃ s,r=.ok (.bl true) s/\B s
 | .ok (.bl false) s,h=>.inl ⟨s,rfl,h⟩
 | .ok (.bl true) s,h=>.inr ⟨s,rfl,h⟩
 | .ok .non _,h=>h.elim
 | .ok (.int _) _,h=>h.elim
 | .ok (.str _) _,h=>h.elim
 | .ok (.tup _) _,h=>h.elim
 | .ok (.ref _) _,h=>h.elim
 | .ok (.fn _) _,h=>h.elim
 | .ok (.clo _ _) _,h=>h.elim
 | .exc _ _,h=>h.elim
 | .bad,h=>h.elim
theorem bc7 {c:Env->Sto->R D}{g:Env->Sto->R Ct}{ρ ρ':Env}{s s1 s':Sto}(hc:c ρ s=.ok (.bl true) s1)(hg:g ρ s1=.ok (.cont ρ') s'):whl c g ρ s=whl c g ρ' s':=by
 have key:∀ n,qz c g (n+1) ρ s=qz c g n ρ' s':=fun n=>by
  show tru (c ρ s) _=_
  rw[hc,tru_bl,if_pos rfl,hg];rfl
 unfold whl
 by_cases hx:∃ n,qz c g n ρ' s'≠.bad
 ·have hy:∃ n,qz c g n ρ s≠.bad:=⟨hx.choose+1,by rw[key];exact hx.choose_spec⟩
  rw[dif_pos hx,dif_pos hy]
  have y:=zQ hy.choose_spec (hx.choose+1)
  have h:=zQ (n:=hx.choose+1) (ρ:=ρ) (s:=s) (by rw[key];exact hx.choose_spec) hy.choose
  rw[<-y,dD,h,key]
 ·have hy:¬ ∃ n,qz c g n ρ s≠.bad:=fun⟨n,hn⟩=>by
   cases n with
   | zero=>exact hn rfl
   | succ n=>exact hx ⟨n,by rw[<-key];exact hn⟩
  rw[dif_neg hx,dif_neg hy]
theorem bx8 {c:Env->Sto->R D}{g:Env->Sto->R Ct}(P:Nat->Env->Sto->Prop)(Q:Env->Sto->Prop)
  (step:∀ k ρ s,P k ρ s->Tst (fun s1=>Q ρ s1) (fun s1=>Nx (fun ρ' s'=>∃ y,y<k/\P y ρ' s') (g ρ s1)) (c ρ s)) :
  ∀(k:Nat) (ρ:Env) (s:Sto),P k ρ s->∃ ρ' s',whl c g ρ s=.ok (.next ρ') s'/\Q ρ' s':=by
 intro k
 induction k using Nat.strongRecOn with
 | _ k ih =>
  intro ρ s h
  rcases(step k ρ s h).out with⟨s1,hc,hq⟩|⟨s1,hc,hn⟩
  ·exact⟨ρ,s1,bn3 hc,hq⟩
  ·obtain⟨ρ',s',hg,y,hk,z⟩:=hn.out
   rcases hg with hg|hg
   ·rw[ba7 hc hg];exact ih y hk ρ' s' z
   ·rw[bc7 hc hg];exact ih y hk ρ' s' z
theorem aZ8 {c:Env->Sto->R D}{g:Env->Sto->R Ct}{ρ:Env}{s:Sto}{α:Type}{f:Ct->Sto->R α}{W:R α->Prop}(P:Nat->Env->Sto->Prop)(Q:Env->Sto->Prop)(k:Nat)(h:P k ρ s)
  (step:∀ k ρ s,P k ρ s->Tst (fun s1=>Q ρ s1) (fun s1=>Nx (fun ρ' s'=>∃ y,y<k/\P y ρ' s') (g ρ s1)) (c ρ s))
  (hf:∀ ρ' s',Q ρ' s'->W (f (.next ρ') s')):W ((whl c g ρ s).bind f):=by
 obtain⟨ρ',s',e,q⟩:=bx8 P Q step k ρ s h
 rw[e]
 exact hf ρ' s' q
theorem bd7 {c:Env->Sto->R D}{g:Env->Sto->R Ct}{ρ:Env}{s:Sto}{α:Type}{f:Ct->Sto->R α}{x:R α}(P:Nat->Env->Sto->Prop)(Q:Env->Sto->Prop)(k:Nat)(h:P k ρ s)
  (step:∀ k ρ s,P k ρ s->Tst (fun s1=>Q ρ s1) (fun s1=>Nx (fun ρ' s'=>∃ y,y<k/\P y ρ' s') (g ρ s1)) (c ρ s))
  (hf:∀ ρ' s',Q ρ' s'->f (.next ρ') s'=x):(whl c g ρ s).bind f=x:=aZ8 (W:=(·=x)) P Q k h step hf
theorem ai7 {ok:Sto->Bool}{g:D->Env->Sto->R Ct}{l:List D}{ρ:Env}{s:Sto}{α:Type}{f:Ct->Sto->R α}{W:R α->Prop}(P:Nat->Env->Sto->Prop)(h:P 0 ρ s)
  (o:∀(j:Nat) (ρ:Env) (s:Sto),j<=l.length->P j ρ s->ok s=true) (step:∀(j:Nat) (d:D) (ρ:Env) (s:Sto),l[j]?=some d->P j ρ s->Nx (P (j+1)) (g d ρ s))
  (hf:∀ ρ' s',P l.length ρ' s'->W (f (.next ρ') s')):W ((aN9 ok g l ρ s).bind f):=by
 obtain⟨ρ',s',e,q⟩:=aT0 P l 0 ρ s h (fun j ρ s hj y=>o j ρ s hj (by rwa [fY]at y)) (fun j d ρ s hj y=>by
  rw[fY]at y ⊢
  exact(step j d ρ s hj y).out)
 rw[e]
 rw[fY]at q
 exact hf ρ' s' q
theorem as3 {ok:Sto->Bool}{g:D->Env->Sto->R Ct}{l:List D}{ρ:Env}{s:Sto}{α:Type}{f:Ct->Sto->R α}{x:R α}(P:Nat->Env->Sto->Prop)(h:P 0 ρ s)
  (o:∀(j:Nat) (ρ:Env) (s:Sto),j<=l.length->P j ρ s->ok s=true) (step:∀(j:Nat) (d:D) (ρ:Env) (s:Sto),l[j]?=some d->P j ρ s->Nx (P (j+1)) (g d ρ s))
  (hf:∀ ρ' s',P l.length ρ' s'->f (.next ρ') s'=x):(aN9 ok g l ρ s).bind f=x:=ai7 (W:=(·=x)) P h o step hf
section
variable {F:Fns} {ρ:Env} {s:Sto}
@[simp] theorem ev_var (i:Nat):ev F (.var i) ρ s=aP0 ρ i s:=rfl
@[simp] theorem ev_cst (c:Cn):ev F (.cst c) ρ s=.ok c.d s:=rfl
@[simp] theorem ev_bin (op:BOp) (a b:E):ev F (.bin op a b) ρ s=(ev F a ρ s).bind fun x s=>(ev F b ρ s).bind fun y s=>qi op x y s:=rfl
@[simp] theorem ev_not (a:E):ev F (.not a) ρ s=tru (ev F a ρ s) fun b s=>.ok (.bl (!b)) s:=rfl
@[simp] theorem ev_cmp (op:COp) (a b:E):ev F (.cmp op a b) ρ s=(ev F a ρ s).bind fun x s=>(ev F b ρ s).bind fun y s=>zV op x y s:=rfl
@[simp] theorem bM1 (o p:COp) (a b c:E):ev F (.chain o p a b c) ρ s=(ev F a ρ s).bind fun x s=>(ev F b ρ s).bind fun y s=>tru (zV o x y s) fun k s=>if k then(ev F c ρ s).bind fun z s=>zV p y z s else .ok (.bl false) s:=rfl
@[simp] theorem ev_isN (a:E):ev F (.isN a) ρ s=(ev F a ρ s).bind fun x s=>.ok (.bl (decide (x=.non))) s:=rfl
@[simp] theorem ev_notN (a:E):ev F (.notN a) ρ s=(ev F a ρ s).bind fun x s=>.ok (.bl (!decide (x=.non))) s:=rfl
@[simp] theorem ev_and (a b:E):ev F (.and a b) ρ s=tru (ev F a ρ s) fun c s=>if c then tru (ev F b ρ s) fun c s=>.ok (.bl c) s else .ok (.bl false) s:=rfl
@[simp] theorem ev_or (a b:E):ev F (.or a b) ρ s=tru (ev F a ρ s) fun c s=>if c then .ok (.bl true) s else tru (ev F b ρ s) fun c s=>.ok (.bl c) s:=rfl
@[simp] theorem ev_ite (c a b:E):ev F (.ite c a b) ρ s=tru (ev F c ρ s) fun k s=>if k then ev F a ρ s else ev F b ρ s:=rfl
@[simp] theorem ev_tup (es:Es):ev F (.tup es) ρ s=(evs F es ρ s).bind fun l s=>.ok (.tup l) s:=rfl
@[simp] theorem ev_lst (es:Es):ev F (.lst es) ρ s=(evs F es ρ s).bind fun l s=>ac9 (.lst l) s:=rfl
@[simp] theorem ev_ix (a b:E):ev F (.ix a b) ρ s=(ev F a ρ s).bind fun x s=>(ev F b ρ s).bind fun y s=>ixM x y s:=rfl
@[simp] theorem ev_call (f:String) (h:As):ev F (.call f h) ρ s=(an9 F h ρ s).bind fun l s=>F.call f l s:=rfl
@[simp] theorem bM0 (f:String) (h:As):ev F (.callC f h) ρ s=(an9 F h ρ s).bind fun l s=>(F.call f l s).bind fun d s'=>if(d.ncl&&s'.all O.ncl)=true then .ok d s' else .bad:=rfl
@[simp] theorem ev_bi (b:Bi) (es:Es):ev F (.bi b es) ρ s=(evs F es ρ s).bind fun l s=>bi b l s:=rfl
@[simp] theorem ev_mk (k:Mk) (it:L):ev F (.mk k it) ρ s=(evL F it ρ s).bind fun q s=>mk k q s:=rfl
@[simp] theorem ev_mkD (k:Mk) (it:L) (d:E):ev F (.mkD k it d) ρ s=(evL F it ρ s).bind fun q s=>(ev F d ρ s).bind fun d s=>mkD k q d s:=rfl
@[simp] theorem ev_mks (k:Mk) (e:E):ev F (.mks k e) ρ s=(ev F e ρ s).bind fun x s=>(bi0 x s).bind fun q s=>mk k q s:=rfl
@[simp] theorem bj3 (o:E) (c:Nat):ev F (.spl o c) ρ s=(ev F o ρ s).bind fun x s=>bk7 c x s:=rfl
@[simp] theorem bR3 (id:String) (e:E) (j:Int):ev F (.minK id e j) ρ s=(ev F e ρ s).bind fun x s=>(bi0 x s).bind fun q s=>bm1 j q s:=rfl
@[simp] theorem ev_mkDs (k:Mk) (e d:E):ev F (.mkDs k e d) ρ s=(ev F e ρ s).bind fun x s=>(ev F d ρ s).bind fun z s=>(bi0 x s).bind fun q s=>mkD k q z s:=rfl
@[simp] theorem ev_meth (m:Mt) (o:E) (es:Es):ev F (.meth m o es) ρ s=(ev F o ρ s).bind fun x s=>(evs F es ρ s).bind fun l s=>meth m x l s:=rfl
@[simp] theorem bQ1 (o e:E):ev F (.extS o e) ρ s=(ev F o ρ s).bind fun x s=>(ev F e ρ s).bind fun y s=>extS x y s:=rfl
@[simp] theorem bU9 (a:E):ev F (.rev a) ρ s=(ev F a ρ s).bind fun x s=>bP8 x s:=rfl
@[simp] theorem bE7 (o:E) (it:L):ev F (.ext o it) ρ s=(ev F o ρ s).bind fun x s=>(evL F it ρ s).bind fun q s=>bh5 x q s:=rfl
@[simp] theorem evs_nil:evs F .nil ρ s=.ok [] s:=rfl
@[simp] theorem evs_cons (e:E) (es:Es):evs F (.cons e es) ρ s=(ev F e ρ s).bind fun d s=>(evs F es ρ s).bind fun l s=>.ok (d::l) s:=rfl
@[simp] theorem evas_nil:an9 F .nil ρ s=.ok [] s:=rfl
@[simp] theorem evas_ex (e:E) (h:As):an9 F (.ex e h) ρ s=(ev F e ρ s).bind fun d s=>(an9 F h ρ s).bind fun l s=>.ok (d::l) s:=rfl
@[simp] theorem bO8 (f:String) (h:As):an9 F (.fn f h) ρ s=(an9 F h ρ s).bind fun l s=>.ok (.fn f::l) s:=rfl
@[simp] theorem evI_seq (e:E):evI F (.seq e) ρ s=(ev F e ρ s).bind fun d s=>ah8 d s:=rfl
@[simp] theorem bL0 (es:Es):evL F (.disp es) ρ s=evs F es ρ s:=rfl
@[simp] theorem evL_seq (e:E):evL F (.seq e) ρ s=(ev F e ρ s).bind fun d s=>bk8 d s:=rfl
noncomputable def bp2 (x:D):M Sq:=fun s=>match x with|.int i=>if -W62<=i/\i<W62 then .ok ⟨ag6 0 i,[]⟩ s else .bad|_=>.bad
@[simp] theorem evI_rng1 (a:E):evI F (.rng1 a) ρ s=(ev F a ρ s).bind fun x s=>bp2 x s:=rfl
theorem aq6 {i:Int}(h0:-W62<=i)(h:i<W62):bp2 (.int i) s=.ok ⟨ag6 0 i,[]⟩ s:=by unfold bp2;simp only[h0,h,and_self,if_true]
noncomputable def nxt (F:Fns)(ss:Ss)(c:Ct)(s:Sto):R Ct:=match c with|.next ρ=>exs F ss ρ s|c=>.ok c s
@[simp] theorem nxt_next (h:Ss) (ρ:Env) (s:Sto):nxt F h (.next ρ) s=exs F h ρ s:=rfl
@[simp] theorem nxt_ret (h:Ss) (d:D) (s:Sto):nxt F h (.ret d) s=.ok (.ret d) s:=rfl
@[simp] theorem nxt_cont (h:Ss) (ρ:Env) (s:Sto):nxt F h (.cont ρ) s=.ok (.cont ρ) s:=rfl
@[simp] theorem exs_nil:exs F .nil ρ s=.ok (.next ρ) s:=rfl
@[simp] theorem exs_cons (st:S) (h:Ss):exs F (.cons st h) ρ s=(ex F st ρ s).bind (nxt F h):=rfl
noncomputable def bN3 (ρ:Option Env)(s:Sto):R Ct:=match ρ with|some ρ=>.ok (.next ρ) s|none=>.bad
@[simp] theorem setC_some (ρ:Env) (s:Sto):bN3 (some ρ) s=.ok (.next ρ) s:=rfl
@[simp] theorem ex_asg (tg:Tg) (e:E):ex F (.asg tg e) ρ s=(ev F e ρ s).bind fun d s=>bN3 (ad4 ρ tg d) s:=rfl
@[simp] theorem ex_setIx (o i e:E):ex F (.setIx o i e) ρ s=(ev F e ρ s).bind fun d s=>(ev F o ρ s).bind fun x s=>(ev F i ρ s).bind fun y s=>(setIx x y d s).bind fun _ s=>.ok (.next ρ) s:=rfl
@[simp] theorem ex_ex (e:E):ex F (.ex e) ρ s=(ev F e ρ s).bind fun _ s=>.ok (.next ρ) s:=rfl
@[simp] theorem ex_ret (e:E):ex F (.ret e) ρ s=(ev F e ρ s).bind fun d s=>.ok (.ret d) s:=rfl
@[simp] theorem bP1:ex F .retN ρ s=.ok (.ret .non) s:=rfl
@[simp] theorem ex_ite (c:E) (a b:Ss):ex F (.ite c a b) ρ s=tru (ev F c ρ s) fun k s=>if k then exs F a ρ s else exs F b ρ s:=rfl
@[simp] theorem ex_whl (c:E) (b:Ss):ex F (.whl c b) ρ s=whl (ev F c) (exs F b) ρ s:=rfl
noncomputable def turn (F:Fns)(tg:Tg)(b:Ss)(d:D)(ρ:Env)(s:Sto):R Ct:=match ad4 ρ tg d with
 | some ρ=>exs F b ρ s
 | none=>.bad
@[simp] theorem ex_for (tg:Tg) (it:I) (b:Ss):ex F (.for_ tg it b) ρ s=(evI F it ρ s).bind fun q s0=>aN9 (fun s=>chk s0 s q.src) (turn F tg b) q.its ρ s0:=rfl
@[simp] theorem ex_cont:ex F .cont ρ s=.ok (.cont ρ) s:=rfl
@[simp] theorem ex_und (i:Nat):ex F (.und i) ρ s=bN3 (al2 ρ i) s:=rfl
@[simp] theorem ex_pass:ex F .pass ρ s=.ok (.next ρ) s:=rfl
@[simp] theorem bindT_one (i:Nat) (d:D):ad4 ρ (.one i) d=aC1 ρ i d:=rfl
@[simp] theorem bindT_tup (is:List Nat) (l:List D):ad4 ρ (.tup is) (.tup l)=aj5 ρ is l:=rfl
@[simp] theorem setVs_nil:aj5 ρ [] []=some ρ:=rfl
@[simp] theorem setVs_cons (i:Nat) (is:List Nat) (d:D) (l:List D):aj5 ρ (i::is) (d::l)=(aC1 ρ i d).bind fun ρ=>aj5 ρ is l:=rfl
@[simp] theorem getV_0 (d:D) (ρ:Env):aP0 (some d::ρ) 0 s=.ok d s:=rfl
@[simp] theorem getV_s (x:Option D) (ρ:Env) (i:Nat):aP0 (x::ρ) (i+1) s=aP0 ρ i s:=by unfold aP0;rw[List.getElem?_cons_succ]
@[simp] theorem setV_0 (d:D) (x:Option D) (ρ:Env):aC1 (x::ρ) 0 d=some (some d::ρ):=rfl
@[simp] theorem setV_s (d:D) (x:Option D) (ρ:Env) (i:Nat):aC1 (x::ρ) (i+1) d=(aC1 ρ i d).map (x::·):=by
 unfold aC1
 by_cases h:i < ρ.length
 ·rw[if_pos (by simpa using h),if_pos h];rfl
 ·rw[if_neg (by simpa using h),if_neg h];rfl
@[simp] theorem unsetV_0 (x:Option D) (ρ:Env):al2 (x::ρ) 0=some (none::ρ):=rfl
@[simp] theorem unsetV_s (x:Option D) (ρ:Env) (i:Nat):al2 (x::ρ) (i+1)=(al2 ρ i).map (x::·):=by
 unfold al2
 by_cases h:i < ρ.length
 ·rw[if_pos (by simpa using h),if_pos h];rfl
 ·rw[if_neg (by simpa using h),if_neg h];rfl
@[simp] theorem Cn_int (i:Int):(Cn.int i).d=.int i:=rfl
@[simp] theorem Cn_bl (i:Bool):(Cn.bl i).d=.bl i:=rfl
@[simp] theorem Cn_str (i:List Nat):(Cn.str i).d=.str i:=rfl
@[simp] theorem Cn_non:Cn.non.d=.non:=rfl
@[simp] theorem add_int (a b:Int):qi .add (.int a) (.int b) s=.ok (.int (a+b)) s:=rfl
@[simp] theorem sub_int (a b:Int):qi .sub (.int a) (.int b) s=.ok (.int (a - b)) s:=rfl
theorem ah4 {a b:Int}(h:mulOk a b=true):qi .mul (.int a) (.int b) s=.ok (.int (a*b)) s:=by show(if mulOk a b then _ else _:M D) s=_;rw[if_pos h];rfl
theorem bt4 {a b:Int}(h:a.natAbs<2^64):mulOk a b=true:=by unfold mulOk;simp[h]
theorem aq2 {a b:Int}(h:b.natAbs<2^64):mulOk a b=true:=by unfold mulOk;simp[h]
theorem ak6 {a b:Int}(h:0<b):qi .mod (.int a) (.int b) s=.ok (.int (a % b)) s:=by show(if 0<b then _ else _:M D) s=_;rw[if_pos h];rfl
theorem bs2:(10:Int)^200<=(DIVL:Int):=by unfold DIVL;decide +kernel
theorem at2 {a b:Int}(h:0<b)(y:b<10^200):qi .fdiv (.int a) (.int b) s=.ok (.int (a / b)) s:=by show(if 0<b/\b<(DIVL:Int)then _ else _:M D) s=_;rw[if_pos ⟨h,Int.lt_of_lt_of_le y bs2⟩];rfl
theorem aP2 {a b:Int}(h:0<=b/\b<=1000000/\a.natAbs<2^64):qi .pow (.int a) (.int b) s=.ok (.int (a^b.toNat)) s:=by show(if _ then _ else _:M D) s=_;rw[if_pos h];rfl
@[simp] theorem lt_int (a b:Int):zV .lt (.int a) (.int b) s=.ok (.bl (decide (a<b))) s:=rfl
@[simp] theorem le_int (a b:Int):zV .le (.int a) (.int b) s=.ok (.bl (decide (a<=b))) s:=rfl
@[simp] theorem gt_int (a b:Int):zV .gt (.int a) (.int b) s=.ok (.bl (decide (b<a))) s:=rfl
@[simp] theorem ge_int (a b:Int):zV .ge (.int a) (.int b) s=.ok (.bl (decide (b<=a))) s:=rfl
@[simp] theorem eq_int (a b:Int):zV .eq (.int a) (.int b) s=.ok (.bl (decide (a=b))) s:=rfl
@[simp] theorem ne_int (a b:Int):zV .ne (.int a) (.int b) s=.ok (.bl (!decide (a=b))) s:=rfl
@[simp] theorem alloc_eq (o:O):ac9 o s=.ok (.ref s.length) (s++[o]):=rfl
@[simp] theorem bo5 (l:List D):bi .len [.tup l] s=.ok (.int l.length) s:=rfl
@[simp] theorem bm2 (l:List Nat):bi .len [.str l] s=.ok (.int l.length) s:=rfl
theorem aP7 {r:Nat}{l:List D}(h:s[r]?=some (.lst l)):bi .len [.ref r] s=.ok (.int l.length) s:=by simp only[bi,bi1,bu9,h]
theorem bg2 {r:Nat}{l:List D}(h:s[r]?=some (.ro l)):bi .len [.ref r] s=.ok (.int l.length) s:=by simp only[bi,bi1,bu9,h]
@[simp] theorem bQ7 (i:Int):bi .abs [.int i] s=.ok (.int (if i<0 then -i else i)) s:=rfl
@[simp] theorem aZ4 (a b:Int):bi .min2 [.int a,.int b] s=.ok (.int (if b<a then b else a)) s:=rfl
@[simp] theorem bb8 (a b:Int):bi .max2 [.int a,.int b] s=.ok (.int (if b > a then b else a)) s:=rfl
@[simp] theorem bH4 (a:Int):bi .isInt [.int a] s=.ok (.bl true) s:=rfl
@[simp] theorem bv6 (a:Int):bi .isBool [.int a] s=.ok (.bl false) s:=rfl
@[simp] theorem bJ2 (l:List D):bi .isTup [.tup l] s=.ok (.bl true) s:=rfl
theorem bD5 {r:Nat}{l:List D}{j:Nat}{d:D}(h:s[r]?=some (.ro l))(hj:l[j]?=some d):ixM (.ref r) (.int (j:Int)) s=.ok d s:=by
 have hl:j<l.length:=(ag.mp hj).1
 have e:l[j]=d:=(ag.mp hj).2
 simp[ixM,h,ixn,hl,e]
theorem ql {r:Nat}{l:List D}{j:Nat}{d:D}(h:s[r]?=some (.lst l))(hj:l[j]?=some d):ixM (.ref r) (.int (j:Int)) s=.ok d s:=by
 have hl:j<l.length:=(ag.mp hj).1
 have e:l[j]=d:=(ag.mp hj).2
 simp[ixM,h,ixn,hl,e]
theorem ix_tup {l:List D}{j:Nat}{d:D}(hj:l[j]?=some d):ixM (.tup l) (.int (j:Int)) s=.ok d s:=by
 have hl:j<l.length:=(ag.mp hj).1
 have e:l[j]=d:=(ag.mp hj).2
 simp[ixM,ixn,hl,e]
theorem qu {r:Nat}{l:List D}{v:D}(h:s[r]?=some (.lst l))(hl:l.length<LIM):meth .append (.ref r) [v] s=.ok .non (s.set r (.lst (l++[v]))):=by
 show(match s[r]? with|some (.lst l)=>(if l.length<LIM then R.ok D.non (s.set r (.lst (l++[v])))else .bad)|_=>.bad:R D)=_
 rw[h]
 exact if_pos hl
end
theorem aB4 (s t:Sto)(b:Bool):∃ s',zB s (.bl b) t=.ok (.bl b) s':=by
 unfold zB
 by_cases h:ar4 s t=true
 ·rw[if_pos h];exact⟨_,rfl⟩
 ·rw[if_neg h];exact⟨_,rfl⟩
def Yes (r:R D):Prop:=∃ s',r=.ok (.bl true) s'
theorem aU9 (s t:Sto):Yes (zB s (.bl true) t):=aB4 s t true
theorem aq4 {a b:Int}{j:Nat}{d:D}(h:(ag6 a b)[j]?=some d):(j:Int)<b - a/\d=.int (a+j):=by
 have hj:=(ag.mp h).1
 simp only[ag6,ar,iJ]at hj
 unfold ag6 at h
 rw[aG,c5 hj]at h
 exact⟨by omega,(av h).symm⟩
def bN1 (P:Pr)(k:Nat):Prop:=∀ ns:List Int,ns.length<=63->Yes ((aa1 P k).call "law" [.ref 0] [.ro (ns.map D.int)])
noncomputable def bv4:Option Int->D
 | none=>.non
 | some i=>.int i
@[simp] theorem bK0:bv4 none=.non:=rfl
@[simp] theorem by4 (i:Int):bv4 (some i)=.int i:=rfl
@[simp] theorem ba5 (p:Option Int) (n:Nat):(bv4 p).bnd n=true:=by cases p<;>rfl
theorem bc8 (p:Option Int)(r:Nat):bv4 p≠.ref r:=by cases p<;>nofun
@[simp] theorem bv9 {s:Sto} {p:Option Int}:zB s (bv4 p) s=.ok (bv4 p) s:=zn (ba5 p) (bc8 p)
noncomputable def zK (b:Nat×Nat):O:=.lst [.int b.1,.int b.2]
@[simp] theorem bL6 (b:Nat×Nat) (n:Nat):(zK b).bnd n=true:=rfl
noncomputable def tkW (many:Nat):Nat->Nat->Nat->Nat->Nat×Nat
 | 0,mix,num,_=>(num,mix)
 | n+1,mix,num,room=>if room<many then tkW many n ((mix*48271+7919) % 2147483647) (num*1073741789+(mix*48271+7919) % 2147483647 / 8*69621 % 1073741789) (room*1073741789)else(num,mix)
noncomputable def tk (b:Nat×Nat)(many:Nat):Nat×(Nat×Nat) :=
 if 0<b.1 then(b.1 % many,(b.1 / many,b.2))else let r:=tkW many 12 b.2 0 1;(r.1 % many,(b.1,r.2))
theorem bS1 (b:Nat×Nat){many:Nat}(h:0<many):(tk b many).1<many:=by
 unfold tk
 split
 ·exact Nat.mod_lt _ h
 ·exact Nat.mod_lt _ h
theorem aQ3 {many:Nat}{k y z room:Nat}(h:many<=room):tkW many k y z room=(z,y):=by
 cases k with
 | zero=>rfl
 | succ k=>unfold tkW;rw[if_neg (by omega)]
theorem be4 {many:Nat}{k y z room:Nat}(h:room<many):tkW many (k+1) y z room=tkW many k ((y*48271+7919) % 2147483647) (z*1073741789+(y*48271+7919) % 2147483647 / 8*69621 % 1073741789) (room*1073741789):=by
 conv=>lhs;unfold tkW
 rw[if_pos h]
theorem bk6 {P:Pr}[Has P ad6](n:Nat)(b:Nat×Nat)(many:Nat)(h0:0<many)(h:many<=10^90)(s:Sto)(r:Nat)(hs:s[r]?=some (zK b)) :
  (aa1 P (n+1)).call "_law_take" [.ref r,.int many] s=.ok (.int (tk b many).1) (s.set r (zK (tk b many).2)):=by
 refine(zd ad6 rfl).trans ?_
 obtain⟨c,m⟩:=b
 have hr:r<s.length:=(ag.mp hs).1
 have C:(0:Int)<(many:Int):=by omega
 have J:(many:Int)<10^200:=by
  have:(10:Int)^90<10^200:=by decide +kernel
  have:((many:Nat):Int)<=((10^90:Nat):Int):=by exact_mod_cast h
  omega
 by_cases hc:0<c
 ·have F:s[r]?=some (.lst [.int c,.int m]):=hs
  simp[ad6,ixM,F,ixn,hc,ak6 C,at2 C J,setIx,tk]
  exact ag7 (fun _=>rfl) (by nofun) rfl
 ·have Y:c=0:=by omega
  subst Y
  have F:s[r]?=some (.lst [.int 0,.int m]):=hs
  simp[ad6,ixM,F,ixn]
  refine bd7 (fun k ρ t=>∃ y z room:Nat,ρ=[some (.ref r),some (.int many),none,some (.int z),some (.int room)]/\t=s.set r (zK (0,y))/\many<=room*1073741789^k/\tkW many k y z room=tkW many 12 m 0 1)
   (fun ρ t=>∃ room:Nat,ρ=[some (.ref r),some (.int many),none,some (.int (tkW many 12 m 0 1).1),some (.int room)]/\t=s.set r (zK (0,(tkW many 12 m 0 1).2))) 12 ⟨m,0,1,by simp,?_,?_,rfl⟩ ?_ ?_
  ·have e:s[r]=zK (0,m):=(ag.mp hs).2
   rw[<-e,List.set_getElem_self]
  ·refine aj h ?_
   decide +kernel
  ·rintro k ρ t ⟨y,z,room,rfl,rfl,G,he⟩
   by_cases hlt:room<many
   ·simp only[ev_cmp,ev_var,getV_0,getV_s,R.bind_ok,lt_int,bi9,iC,hlt,decide_true,if_true]
    cases k with
    | zero=>simp at G;omega
    | succ k =>
     have h1:(s.set r (zK (0,y)))[r]?=some (.lst [.int 0,.int y]):=by rw[aZ hr];rfl
     have m1:∀ a:Int,mulOk a 48271=true:=fun a=>aq2 (by decide)
     have m2:∀ a:Int,mulOk a 1073741789=true:=fun a=>aq2 (by decide)
     have Z:∀ a:Int,mulOk a 69621=true:=fun a=>aq2 (by decide)
     refine av4 ?_ ⟨k,cW k,(y*48271+7919) % 2147483647,z*1073741789+(y*48271+7919) % 2147483647 / 8*69621 % 1073741789,room*1073741789,rfl,rfl,?_,?_⟩
     ·simp[ixM,h1,ixn,ah4 (m1 _),ak6,setIx,hr,ah4 (m2 _),ah4 (Z _),at2,zK]
     ·rw[Nat.pow_succ]at G
      rw[Nat.mul_assoc,jH 1073741789];exact G
     ·rw[<-he,be4 hlt]
   ·simp only[ev_cmp,ev_var,getV_0,getV_s,R.bind_ok,lt_int,bi9,iC,hlt,decide_false,if_false,di]
    refine⟨room,?_,?_⟩
    ·rw[<-he,aQ3 (by omega)]
    ·rw[<-he,aQ3 (by omega)]
  ·rintro ρ t ⟨room,rfl,rfl⟩
   simp[ak6 C,tk]
   exact ag7 (fun _=>rfl) (by nofun) rfl
noncomputable def bi8 (at_:Int)(ns:List Int):Nat->Int
 | 0=>7919*at_+17
 | k+1=>(bi8 at_ ns k*48271+(ns.getD k 0) % 2147483647+k) % 2147483629
theorem bt3 (at_:Int)(h:0<=at_)(ns:List Int):∀ k,0<=bi8 at_ ns k
 | 0=>by unfold bi8;omega
 | k+1=>by unfold bi8;exact Int.emod_nonneg _ (by decide)
noncomputable def cellF (ns:List Int)(at_:Nat):Nat:=if 10^18<=(ns.getD at_ 0).natAbs then(ns.getD at_ 0).natAbs else 0
noncomputable def bv7 (ns:List Int)(at_:Nat):Nat×Nat:=(cellF ns at_,(bi8 at_ ns (min ns.length 60)).toNat)
theorem by7 {P:Pr}[Has P au8](n:Nat)(ns:List Int)(at_:Nat)(s:Sto)(r:Nat)(hs:s[r]?=some (.ro (ns.map D.int)))(hl:ns.length<=63) :
  (aa1 P (n+1)).call "_law_bag" [.ref r,.int at_] s=.ok (.ref s.length) (s++[zK (bv7 ns at_)]):=by
 refine(zd au8 rfl).trans ?_
 have m1:∀ a:Int,mulOk 7919 a=true:=fun a=>bt4 (by decide)
 have m2:∀ a:Int,mulOk a 48271=true:=fun a=>aq2 (by decide)
 have y:bi .len [.ref r] s=.ok (.int ns.length) s:=by rw[bg2 hs,ar]
 have z:∀(c:Int),(c<10^18->cellF ns at_=0)->(10^18<=c->(cellF ns at_:Int)=c) ->
   (exs (aa1 P n) (.cons (.asg (.one 3) (.bin .add (.bin .mul (.cst (.int 7919)) (.var 1)) (.cst (.int 17)))) (.cons (.for_ (.one 4) (.rng1 (.bi .min2 (.cons (.bi .len (.cons (.var 0) .nil)) (.cons (.cst (.int 60)) .nil)))) (.cons (.asg (.one 3) (.bin .mod (.bin .add (.bin .add (.bin .mul (.var 3) (.cst (.int 48271))) (.bin .mod (.ix (.var 0) (.var 4)) (.cst (.int 2147483647)))) (.var 4)) (.cst (.int 2147483629)))) .nil)) (.cons (.ite (.cmp .lt (.var 2) (.bin .pow (.cst (.int 10)) (.cst (.int 18)))) (.cons (.asg (.one 2) (.cst (.int 0))) .nil) .nil) (.cons (.ret (.lst (.cons (.var 2) (.cons (.var 3) .nil)))) .nil)))) [some (.ref r),some (.int at_),some (.int c),none,none] s).bind (fin s)=.ok (.ref s.length) (s++[zK (bv7 ns at_)]):=by
  intro c h1 h2
  simp[ah4 (m1 _),y]
  have hk:(if(60:Int)<(ns.length:Int)then 60 else(ns.length:Int))=((min ns.length 60:Nat):Int):=by omega
  rw[hk,aq6 (by unfold W62;omega) (by unfold W62;omega)]
  simp only[R.bind_ok]
  refine as3 (fun j ρ t=>t=s/\∃ x,ρ=[some (.ref r),some (.int at_),some (.int c),some (.int (bi8 at_ ns j)),x]) ⟨rfl,none,rfl⟩ (fun _ _ _ _ _=>rfl) ?_ ?_
  ·rintro j d ρ t hj ⟨rfl,x,rfl⟩
   have J:j<min ns.length 60:=by have:=(ag.mp hj).1;simpa [ag6]using this
   have hd:d=.int (j:Int):=by simpa [ag6,J]using hj.symm
   subst hd
   refine av4 ?_ ⟨rfl,some (.int (j:Int)),rfl⟩
   have hx:ixM (.ref r) (.int (j:Int)) t=.ok (.int (ns.getD j 0)) t:=bD5 hs (by simp[show j<ns.length by omega])
   simp[turn,ah4 (m2 _),hx,ak6,bi8]
  ·rintro ρ t ⟨rfl,x,rfl⟩
   have F:(ag6 0 ((min ns.length 60:Nat):Int)).length=min ns.length 60:=by simp[ag6]
   rw[F]
   have Z:=bt3 at_ (by omega) ns (min ns.length 60)
   have C:∀ G,(G:Int)=cellF ns at_->zB t (.ref t.length) (t++[.lst [.int G,.int (bi8 at_ ns (min ns.length 60))]])=.ok (.ref t.length) (t++[zK (bv7 ns at_)]):=by
    intro G Y
    have:=aW4 (s:=t) (t:=[]) (u:=[]) (o:=zK (bv7 ns at_)) rfl
    simp only[cx,iG,d8]at this
    rw[<-this]
    simp[zK,bv7,Y,et Z]
   by_cases h:c<10^18
   ·have h':c<1000000000000000000:=h
    simp[aP2,h']
    exact C 0 (by rw[h1 h];rfl)
   ·have h':¬ c<1000000000000000000:=h
    simp[aP2,h']
    exact C c (h2 (by omega)).symm
 by_cases hat:at_<ns.length
 ·have hx:ixM (.ref r) (.int at_) s=.ok (.int (ns.getD at_ 0)) s:=bD5 hs (by simp[hat])
  have e:=z (if ns.getD at_ 0<0 then -ns.getD at_ 0 else ns.getD at_ 0) (by unfold cellF;intro h;rw[if_neg (by omega)]) (by unfold cellF;intro h;rw[if_pos (by omega)];omega)
  rw[<-e]
  simp[au8,y,hat,hx]
 ·have e:=z 0 (by unfold cellF;intro h;rw[if_neg];rw[bv,bU (by omega)];decide) (by intro h;exact absurd h (by decide))
  rw[<-e]
  simp[au8,y,hat]
theorem aD5 {s t:Sto}{r:Nat}{o:O}(h:r<s.length):(s++t).set r o=s.set r o++t:=by rw[je,if_pos h]
theorem zt {s t:Sto}{r:Nat}{o:O}(h:s[r]?=some o):(s++t)[r]?=some o:=by
 rw[aP (ag.mp h).1];exact h
theorem am3 {s:Sto}{r:Nat}{o:O}(h:r<s.length):(s.set r o)[r]?=some o:=aZ h
theorem bc2 {P:Pr}[Has P ad6](n:Nat)(b:Nat×Nat)(many:Int)(h0:0<many)(h:many<=10^90)(s:Sto)(r:Nat)(hs:s[r]?=some (zK b)) :
  (aa1 P (n+1)).call "_law_take" [.ref r,.int many] s=.ok (.int (tk b many.toNat).1) (s.set r (zK (tk b many.toNat).2)):=by
 have:=bk6 n b many.toNat (P:=P) (by omega) (by have:many<=((10^90:Nat):Int):=(by simpa using h);omega) s r hs
 rwa [show((many.toNat:Nat):Int)=many by omega]at this
noncomputable def bd (b:Nat×Nat):Nat×(Nat×Nat) :=
 let x0:=tk b 3
 let x1:=tk x0.2 13
 let x2:=tk x1.2 1000000000
 let x3:=tk x2.2 1000000000000000000000000000000
 let i:=tk x3.2 4
 ([x0.1,x1.1,x2.1,x3.1].getD i.1 0,i.2)
section
variable {F:Fns} {ρ:Env} {s:Sto}
noncomputable def zv (F:Fns)(tg:Tg)(e:E)(d:D)(ρ:Env)(s:Sto):R (Option D×Env):=match ad4 ρ tg d with
 | some ρ=>(ev F e ρ s).bind fun v s=>.ok (some v,ρ) s
 | none=>.bad
noncomputable def br7 (F:Fns)(tg:Tg)(c e:E)(d:D)(ρ:Env)(s:Sto):R (Option D×Env):=match ad4 ρ tg d with
 | some ρ=>tru (ev F c ρ s) fun k s=>if k then(ev F e ρ s).bind fun v s=>.ok (some v,ρ) s else .ok (none,ρ) s
 | none=>.bad
@[simp] theorem af8 (tg:Tg) (it:I) (e:E) (h:List (Option Nat)):evL F (.comp tg it e h) ρ s=(evI F it ρ s).bind fun q s0=>if q.its.length<=LIM then qd (fun s=>chk s0 s q.src) (zv F tg e) q.its (zN ρ h) s0 else .bad:=rfl
@[simp] theorem aL9 (tg:Tg) (it:I) (c e:E) (h:List (Option Nat)):evL F (.compIf tg it c e h) ρ s=(evI F it ρ s).bind fun q s0=>if q.its.length<=LIM then qd (fun s=>chk s0 s q.src) (br7 F tg c e) q.its (zN ρ h) s0 else .bad:=rfl
@[simp] theorem bW2 (a h:E):ev F (.slU a h) ρ s=(ev F a ρ s).bind fun x s=>(ev F h ρ s).bind fun y s=>match y with|.int i=>slM x none (some i) s|_=>.bad:=rfl
@[simp] theorem bH1 (a h:E):ev F (.slL a h) ρ s=(ev F a ρ s).bind fun x s=>(ev F h ρ s).bind fun y s=>match y with|.int i=>slM x (some i) none s|_=>.bad:=rfl
end
theorem zS {ok:Sto->Bool}{g:D->Env->Sto->R (Option D×Env)}(P:Env->Sto->Prop)(f:D->Option D):∀(l:List D) (ρ:Env) (s:Sto),P ρ s ->
  (∀ ρ s,P ρ s->ok s=true)->(∀ d∈l,∀ ρ s,P ρ s->∃ ρ' s',g d ρ s=.ok (f d,ρ') s'/\P ρ' s')->∃ ρ' s',qd ok g l ρ s=.ok (l.filterMap f) s'/\P ρ' s'
 | [],ρ,s,h,o,_=>⟨ρ,s,by unfold qd;rw[if_pos (o ρ s h)];rfl,h⟩
 | d::l,ρ,s,h,o,st=>by
  obtain⟨ρ1,s1,e1,z⟩:=st d (au ..) ρ s h
  obtain⟨ρ2,s2,e2,y⟩:=zS P f l ρ1 s1 z o fun x hx=>st x (ao _ hx)
  refine⟨ρ2,s2,?_,y⟩
  unfold qd
  rw[if_pos (o ρ s h),e1]
  simp only[R.bind_ok]
  rw[e2,bS]
  cases f d<;>rfl
theorem qy {P:Pr}[Has P ad6](n:Nat){s:Sto}{r:Nat}(hs:∃ b,s[r]?=some (zK b))(many:Int)(h0:0<many)(h:many<=10^90) :
  ∃(k:Nat) (b:Nat×Nat),(k:Int)<many/\(aa1 P (n+1)).call "_law_take" [.ref r,.int many] s=.ok (.int k) (s.set r (zK b)):=by
 obtain⟨b,hb⟩:=hs
 have:=bS1 b (many:=many.toNat) (by omega)
 exact⟨(tk b many.toNat).1,(tk b many.toNat).2,by omega,bc2 n b many h0 h s r hb⟩
theorem aq3 {k:Int}(h:k<=1000):k<=10^90:=Int.le_trans h (by decide)
theorem as1 {s:Sto}{r:Nat}{b:Nat×Nat}(h:r<s.length):∃ y,(s.set r (zK b))[r]?=some (zK y):=⟨b,am3 h⟩
theorem bi4 {s:Sto}{r:Nat}(h:∃ b,s[r]?=some (zK b)):r<s.length:=by obtain⟨b,hb⟩:=h;exact(ag.mp hb).1
theorem aP5 {k:Int}{s:Sto}(h:0<=k/\k<=1000000):qi .shl (.int 1) (.int k) s=.ok (.int (1*2^k.toNat)) s:=by
 show(if 0<=k/\k<=1000000/\(1:Int).natAbs<2^64 then _ else _:M D) s=_
 rw[if_pos ⟨h.1,h.2,by decide⟩];rfl
theorem zZ {l:List D}(h:∀ d∈l,∀ n,d.bnd n=true)(n:Nat):D.bndL n l=true:=by
 induction l with
 | nil=>rfl
 | cons d l ih=>unfold D.bndL;rw[h d (au ..),ih fun x hx=>h x (ao _ hx)];rfl
noncomputable def au3 (bits:Nat):D->Option D
 | .int i=>if(bits:Int) / (1*2^i.toNat) % 2=1 then some (.int i)else none
 | _=>none
theorem aU8 {h:Nat}{l:List D}:∀ d∈l.filterMap (au3 h),∀ n,d.bnd n=true:=fun d hd n=>by
 obtain⟨x,hx,e⟩:=de.mp hd
 cases x with
 | int i =>
  simp only[au3]at e
  split at e
  ·cases e;rfl
  ·cases e
 | _=>cases e
theorem aK0 {P:Pr}[Has P ad6][Has P ad8](n:Nat){s:Sto}{r:Nat}(hs:∃ b,s[r]?=some (zK b))(k:Int)(h0:0<=k)(h:k<=5) :
  ∃(y:Nat) (b:Nat×Nat),(aa1 P (n+2)).call "_law_rooms" [.ref r,.int k] s=.ok (.tup ((ag6 0 k).filterMap (au3 y))) (s.set r (zK b)):=by
 have Y:(aa1 P (n+2)).call "_law_rooms" [.ref r,.int k] s=_:=zd ad8 (n:=n+1) rfl
 have hr:=bi4 hs
 have hp:(1:Int)*2^k.toNat<=32:=by
  have:k.toNat<=5:=by omega
  have C:(2:Nat)^k.toNat<=2^5:=gK (by decide) this
  have G:((2^k.toNat:Nat):Int)<=32:=by exact_mod_cast C
  rw[fc];simpa using G
 have J:(0:Int)<1*2^k.toNat:=by rw[fc];exact Int.pow_pos (by decide)
 obtain⟨y,b,hb,eb⟩:=qy (P:=P) n hs (1*2^k.toNat) J (aq3 (by omega))
 rw[Y]
 simp only[ad8,exs_cons,ex_asg,ev_call,evas_ex,evas_nil,ev_var,ev_bin,ev_cst,Cn_int,aB,cG,dQ,d8,getV_0,getV_s,R.bind_ok,aP5 ⟨h0,by omega⟩,eb,bindT_one]
 simp only[aA,setV_s,setV_0,Option.map_some,setC_some,R.bind_ok,nxt_next,exs_cons,exs_nil,ex_ret,ev_mk,aL9,evI_rng1,ev_var,getV_0,getV_s]
 rw[aq6 (by unfold W62;omega) (by unfold W62;omega)]
 simp only[R.bind_ok]
 rw[if_pos (by simp[ag6];unfold LIM;omega)]
 have key:∃(ρ':Env) (s':Sto),qd (fun F=>chk (s.set r (zK b)) F []) (br7 (aa1 P (n+1)) (.one 0) (.cmp .eq (.bin .mod (.bin .fdiv (.var 1) (.bin .shl (.cst (.int 1)) (.var 0))) (.cst (.int 2))) (.cst (.int 1))) (.var 0)) (ag6 0 k) (zN [some (.ref r),some (.int k),some (.int y)] [none,some 2]) (s.set r (zK b))=.ok ((ag6 0 k).filterMap (au3 y)) s'/\(s'=s.set r (zK b)/\∃ x,ρ'=[x,some (D.int y)]):=by
  refine zS (fun ρ u=>u=s.set r (zK b)/\∃ x,ρ=[x,some (.int y)]) (au3 y) (ag6 0 k) _ _ ⟨rfl,none,rfl⟩ (fun _ _ _=>rfl) ?_
  rintro d hd ρ u ⟨rfl,x,rfl⟩
  obtain⟨j,hj⟩:=cB hd
  obtain⟨C,rfl⟩:=aq4 hj
  refine⟨[some (.int (0+j)),some (.int y)],_,?_,rfl,_,rfl⟩
  have a0:j<5:=by omega
  have Z:(1:Int)*2^((0:Int)+j).toNat<=32:=by
   have:((0:Int)+j).toNat<=5:=by omega
   have C:(2:Nat)^((0:Int)+j).toNat<=2^5:=gK (by decide) this
   have G:((2^((0:Int)+j).toNat:Nat):Int)<=32:=by exact_mod_cast C
   rw[fc];simpa using G
  have z:(0:Int)<1*2^((0:Int)+j).toNat:=by rw[fc];exact Int.pow_pos (by decide)
  unfold br7
  simp only[bindT_one,setV_0,ev_cmp,ev_bin,ev_var,ev_cst,Cn_int,getV_0,getV_s,R.bind_ok]
  rw[aP5 ⟨by omega,by omega⟩]
  simp only[R.bind_ok]
  rw[at2 z (by omega)]
  simp only[R.bind_ok]
  rw[ak6 (by decide)]
  simp only[R.bind_ok,eq_int,tru_bl]
  simp[au3]
  split<;>rfl
 obtain⟨ρ',s',e,h1⟩:=key
 rw[e]
 obtain⟨rfl,_⟩:=h1
 refine⟨y,b,?_⟩
 simp only[R.bind_ok,mk,nxt_ret,fin_ret]
 exact ag7 (fun m=>by unfold D.bnd;exact zZ aU8 m) (by nofun) rfl
theorem bD8 {k:Nat}(h:k<3)(s:Sto):ixM (.str [97,98,99]) (.int (k:Int)) s=.ok (.str [97+k]) s:=by
 match k,h with
 | 0,_=>rfl
 | 1,_=>rfl
 | 2,_=>rfl
theorem at0 {P:Pr}[Has P ad6](n:Nat){s t:Sto}{r:Nat}(hr:r<s.length)(b:Nat×Nat)(many:Int)(h0:0<many)(h:many<=10^90) :
  ∃(k:Nat) (y:Nat×Nat),(k:Int)<many/\(aa1 P (n+1)).call "_law_take" [.ref r,.int many] (s.set r (zK b)++t)=.ok (.int k) (s.set r (zK y)++t):=by
 obtain⟨k,y,C,z⟩:=qy (P:=P) n (s:=s.set r (zK b)++t) (r:=r) ⟨b,zt (am3 hr)⟩ many h0 h
 refine⟨k,y,C,?_⟩
 rw[z,aD5 (by rw[bA];exact hr),cY]
theorem bK5 {s t:Sto}{r:Nat}{b:Nat×Nat}{l:List D}{v:D}(h:l.length<LIM):meth .append (.ref s.length) [v] (s.set r (zK b)++(.lst l::t))=.ok .non (s.set r (zK b)++(.lst (l++[v])::t)):=by
 rw[qu (l:=l) (by rw[aU (by simp)];simp) h]
 congr 1
 rw[je,if_neg (by simp)]
 simp
theorem ad7 {a b:List Nat}{s:Sto}(h:a.length+b.length<=LIM):qi .add (.str a) (.str b) s=.ok (.str (a++b)) s:=by
 show(if a.length+b.length<=LIM then _ else _:M D) s=_;rw[if_pos h];rfl
def Lts (L:Nat)(w:List Nat):Prop:=∀ c∈w,97<=c/\c<97+L
theorem rep_len (l:List Nat):∀ n,(rep n l).length=l.length*n
 | 0=>by simp[rep]
 | n+1=>by simp[rep,rep_len l n,i7];omega
noncomputable def bI6 (L:Nat)(d:D):Bool:=match d with
 | .str w=>decide (w.length<=200)&&w.all fun c=>decide (97<=c/\c<97+L)
 | _=>false
noncomputable def ac2 (s:Sto):D->Prop
 | .fn _=>False
 | .clo _ _=>False
 | .ref k=>∃ l,s[k]?=some (.lst l)
 | _=>True
theorem qj {P:Pr}{x:String}{v:D}[HasC P x v]{n:Nat}{ρ:Env}{s:Sto}:ev (aa1 P n) (.glob x) ρ s=.ok v s:=by
 show(match(aa1 P n).con x with|some d=>R.ok d s|none=>.bad)=_
 rw[aD9 (v:=v)]
noncomputable abbrev ap9:List D:=[.str [97],.str [98],.str [99]]
theorem aW7 {L:Nat}(h:L<=3)(s:Sto):slM (.tup ap9) none (some (L:Int)) s=.ok (.tup (ap9.take L)) s:=by
 match L,h with
 | 0,_=>rfl
 | 1,_=>rfl
 | 2,_=>rfl
 | 3,_=>rfl
theorem aN4 {P:Pr}[Has P ab5][HasC P "LETTERS" (.tup ap9)](n:Nat){L:Nat}(h:L<=3)(l:List D)(s:Sto):(aa1 P (n+1)).call "letters_of" [.tup (.int L::l)] s=.ok (.tup (ap9.take L)) s:=by
 refine(zd ab5 rfl).trans ?_
 have y:ixM (.tup (.int L::l)) (.int ((0:Nat):Int)) s=.ok (.int L) s:=ix_tup rfl
 simp -implicitDefEqProofs [ab5,qj (v:=.tup ap9)]
 rw[show(0:Int)=((0:Nat):Int)from rfl,y]
 simp only[R.bind_ok]
 rw[aW7 h]
 simp -implicitDefEqProofs
 match L,h with
 | 0,_=>exact zn (fun _=>rfl) (by nofun)
 | 1,_=>exact zn (fun _=>rfl) (by nofun)
 | 2,_=>exact zn (fun _=>rfl) (by nofun)
 | 3,_=>exact zn (fun _=>rfl) (by nofun)
theorem bl7 {a b:D}{s:Sto}:zV .isin a b s=(inM a b s).bind fun r s=>.ok (.bl r) s:=rfl
@[simp] theorem bV7 {F:Fns} {ρ:Env} {s:Sto} (a:E):ev F (.neg a) ρ s=(ev F a ρ s).bind fun x s=>match x with|.int i=>.ok (.int (-i)) s|_=>.bad:=rfl
structure Dr where
 a:Nat
 l:Nat
 b:Nat
 t:Nat
noncomputable def Dr.d (x:Dr):D:=.tup [.int x.a,.str [x.l],.int x.b,.int x.t]
structure Mc where
 L:Nat
 R:Nat
 bg:List Nat
 en:List Nat
 ds:List Dr
noncomputable def zg (l:List Nat):List D:=l.map fun(k:Nat)=>D.int (k:Int)
noncomputable def Mc.ps (m:Mc):List D:=[.int m.L,.int m.R,.tup (zg m.bg),.tup (zg m.en),.tup (m.ds.map Dr.d)]
noncomputable def Mc.d (m:Mc):D:=.tup m.ps
structure Dr.Ok (m:Mc)(x:Dr):Prop where
 a:x.a<m.R
 l:97<=x.l/\x.l<97+m.L
 b:x.b<m.R
 t:x.t<4
structure Mc.Ok (m:Mc):Prop where
 L1:1<=m.L
 L3:m.L<=3
 R1:1<=m.R
 R5:m.R<=5
 bg:(∀ k∈m.bg,k<m.R)/\m.bg.Pairwise (· < ·)
 en:(∀ k∈m.en,k<m.R)/\m.en.Pairwise (· < ·)
 ds:(∀ x∈m.ds,x.Ok m)/\m.ds.length<=75
theorem ag4 {l:List Nat}:∀ d∈zg l,∀ n,d.bnd n=true:=fun d hd n=>by
 obtain⟨c,_,rfl⟩:=aE.mp hd;rfl
theorem aV3 {l:List Dr}:∀ d∈l.map Dr.d,∀ n,d.bnd n=true:=fun d hd n=>by
 obtain⟨c,_,rfl⟩:=aE.mp hd;rfl
theorem bq1 {m:Mc}:∀ d∈m.ps,∀ n,d.bnd n=true:=fun d hd n=>by
 simp only[Mc.ps,az,aM,or_false]at hd
 rcases hd with rfl|rfl|rfl|rfl|rfl
 ·rfl
 ·rfl
 ·unfold D.bnd;exact zZ ag4 n
 ·unfold D.bnd;exact zZ ag4 n
 ·unfold D.bnd;exact zZ aV3 n
theorem bj2 (m:Mc)(n:Nat):m.d.bnd n=true:=by unfold Mc.d D.bnd;exact zZ bq1 n
noncomputable def aH1 (bits k:Nat):List Nat:=(aS k).filter fun i=>decide (bits / 2^i % 2=1)
theorem aX1 (h k:Nat):(∀ i∈aH1 h k,i<k)/\(aH1 h k).Pairwise (· < ·) :=
 ⟨fun i y=>bQ.mp (gd.mp y).1,jS _ List.pairwise_lt_range⟩
theorem be8 (y:Nat)(k:Nat):(ag6 0 (k:Int)).filterMap (au3 y)=zg (aH1 y k):=by
 unfold ag6 aH1 zg
 simp only[jK,cA]
 rw[ci]
 induction (aS k)with
 | nil=>rfl
 | cons i l ih =>
  rw[bS,List.filter_cons]
  have e:((y:Int) / (1*2^((0:Int)+(i:Int)).toNat) % 2=1)↔(y / 2^i % 2=1):=by
   rw[fc,show((0:Int)+(i:Int)).toNat=i by omega]
   have:((y:Int) / 2^i % 2)=((y / 2^i % 2:Nat):Int):=by simp
   rw[this];omega
  simp only[Function.comp,au3]
  by_cases h:y / 2^i % 2=1
  ·rw[if_pos (e.mpr h)]
   simp only[h,decide_true,if_true,aB]
   rw[<-ih,jM]
  ·rw[if_neg fun z=>h (e.mp z)]
   simp only[h,decide_false]
   exact ih
theorem aF7 {P:Pr}[Has P ad6][Has P ad8](n:Nat){s:Sto}{r:Nat}(hs:∃ b,s[r]?=some (zK b))(k:Nat)(h:k<=5) :
  ∃(l:List Nat) (b:Nat×Nat),((∀ i∈l,i<k)/\l.Pairwise (· < ·))/\(aa1 P (n+2)).call "_law_rooms" [.ref r,.int k] s=.ok (.tup (zg l)) (s.set r (zK b)):=by
 obtain⟨y,b,e⟩:=aK0 (P:=P) n hs k (by omega) (by omega)
 rw[be8]at e
 exact⟨_,b,aX1 y k,e⟩
def McR (s:Sto)(r:Nat)(x:R D):Prop:=∃(m:Mc) (b:Nat×Nat),m.Ok/\x=.ok m.d (s.set r (zK b))
theorem aN1 {P : Pr} [Has P ad6] [Has P ad8] [Has P ad3] (n : Nat) {s : Sto} {r : Nat} (hs : ∃ b, s[r]? = some (zK b)) : McR s r ((aa1 P (n + 3)).call "_law_machine" [.ref r] s) := by
  have e0 : (aa1 P (n + 3)).call "_law_machine" [.ref r] s = _ := zd ad3 (n := n + 2) rfl
  have hr := bi4 hs
  obtain⟨a, b1, ha, e1⟩ := qy (P := P) (n + 1) hs 3 (by decide) (by decide)
  obtain⟨c, b2, hc, e2⟩ := qy (P := P) (n + 1) (as1 (b := b1) hr) 5 (by decide) (by decide)
  rw[cY]at e2
  obtain⟨m1, b3, hm1, e3⟩ := qy (P := P) (n + 1) (as1 (b := b2) hr) 13 (by decide) (by decide)
  rw[cY]at e3
  obtain⟨m2, b4, hm2, e4⟩ := qy (P := P) (n + 1) (as1 (b := b3) hr) 8 (by decide) (by decide)
  rw[cY]at e4
  obtain⟨m3, b5, hm3, e5⟩ := qy (P := P) (n + 1) (as1 (b := b4) hr) 76 (by decide) (by decide)
  rw[cY]at e5
  rw[e0]
  simp -implicitDefEqProofs [ad3, e1, e2, e3, e4]
  obtain ⟨many, bb, hmany, hif⟩ : ∃ (many : Nat) (bb : Nat × Nat), many <= 75 /\ (if (m2 : Int) = 7 then
                      ((aa1 P (n + 2)).call "_law_take" [D.ref r, D.int 76] (List.set s r (zK b4))).bind fun d s =>
                        R.ok
                          (Ct.next [some (D.ref r), some (D.int (1 + ↑a)), some (D.int (1 + ↑c)), some d, none, none]) s
                    else
                      R.ok
                        (Ct.next
                          [some (D.ref r), some (D.int (1 + ↑a)), some (D.int (1 + ↑c)), some (D.int ↑m1), none, none])
                        (List.set s r (zK b4))) = .ok (.next [some (.ref r), some (.int (1 + a)), some (.int (1 + c)), some (.int many), none, none]) (s.set r (zK bb)) := by
    by_cases h7 : (m2 : Int) = 7
    · exact⟨m3, b5, by omega, by rw[if_pos h7, e5]; rfl⟩
    · exact⟨m1, b4, by omega, by rw[if_neg h7]⟩
  rw[hif]
  simp -implicitDefEqProofs
  rw[aq6 (by unfold W62; omega) (by unfold W62; omega)]
  simp only[R.bind_ok]
  refine ai7 (W := McR s r) (fun j ρ u => ∃(b : Nat × Nat) (l : List Dr) (x : Option D), (∀ d ∈ l, d.Ok ⟨a + 1, c + 1, [], [], []⟩) /\ l.length = j /\ ρ = [some (.ref r), some (.int (1 + a)), some (.int (1 + c)), some (.int many), some (.ref s.length), x] /\ u = s.set r (zK b) ++ [.lst (l.map Dr.d)]) ⟨bb, [], none, by simp, rfl, rfl, rfl⟩ (fun _ _ _ _ _ => rfl) ?_ ?_
  · rintro j d ρ u hj ⟨b, l, x, hl, hlen, rfl, rfl⟩
    obtain⟨hj2, rfl⟩ := aq4 hj
    obtain⟨k1, c1, hk1, f1⟩ := at0 (P := P) (n + 1) (t := [.lst (l.map Dr.d)]) hr b (1 + c) (by omega) (aq3 (by omega))
    obtain⟨k2, c2, hk2, f2⟩ := at0 (P := P) (n + 1) (t := [.lst (l.map Dr.d)]) hr c1 (1 + a) (by omega) (aq3 (by omega))
    obtain⟨k3, c3, hk3, f3⟩ := at0 (P := P) (n + 1) (t := [.lst (l.map Dr.d)]) hr c2 (1 + c) (by omega) (aq3 (by omega))
    obtain⟨k4, c4, hk4, f4⟩ := at0 (P := P) (n + 1) (t := [.lst (l.map Dr.d)]) hr c3 4 (by decide) (by decide)
    refine av4 (ρ := [some (.ref r), some (.int (1 + a)), some (.int (1 + c)), some (.int many), some (.ref s.length), some (.int j)]) (s := s.set r (zK c4) ++ [.lst ((l ++ [(⟨k1, 97 + k2, k3, k4⟩ : Dr)]).map Dr.d)]) ?_ ⟨c4, l ++ [(⟨k1, 97 + k2, k3, k4⟩ : Dr)], _, ?_, ?_, rfl, rfl⟩
    · simp -implicitDefEqProofs [turn, f1, f2, f3, f4, bD8 (show k2 < 3 by omega)]
      rw[bK5 (by unfold LIM; simp; omega)]
      rfl
    · intro d hd
      rcases bw.mp hd with h|h
      · exact hl d h
      · rw[bn.mp h]; constructor <;> simp only <;> omega
    · simp[hlen]
  · rintro ρ u ⟨b, l, x, hl, hlen, rfl, rfl⟩
    obtain⟨l1, c1, g1, f1⟩ := aF7 (P := P) n (s := s.set r (zK b) ++ [.lst (l.map Dr.d)]) (r := r) ⟨b, zt (am3 hr)⟩ (c + 1) (by omega)
    rw[aD5 (by rw[bA]; exact hr), cY]at f1
    obtain⟨l2, c2, g2, f2⟩ := aF7 (P := P) n (s := s.set r (zK c1) ++ [.lst (l.map Dr.d)]) (r := r) ⟨c1, zt (am3 hr)⟩ (c + 1) (by omega)
    rw[aD5 (by rw[bA]; exact hr), cY]at f2
    rw[show((c + 1 : Nat) : Int) = 1 + (c : Int)by omega]at f1 f2
    have hl3 : (s.set r (zK c2) ++ [O.lst (l.map Dr.d)])[s.length]? = some (.lst (l.map Dr.d)) := by rw[aU (by simp)]; simp
    have hll : l.length <= 75 := by
      rw[hlen]; simp[ag6]; omega
    simp -implicitDefEqProofs [f1, f2, bk8, hl3, mk]
    refine⟨⟨a + 1, c + 1, l1, l2, l⟩, c2, ⟨by simp, by simp; omega, by simp, by simp; omega, g1, g2, fun x hx => ?_, hll⟩, ?_⟩
    · have := hl x hx
      exact⟨this.a, this.l, this.b, this.t⟩
    · rw[show((1 : Int) + (a : Int)) = ((a + 1 : Nat) : Int)by omega, show((1 : Int) + (c : Int)) = ((c + 1 : Nat) : Int)by omega]
      exact au0 (bj2 ⟨a + 1, c + 1, l1, l2, l⟩) (by nofun) rfl
section
variable {P:Pr}
theorem ah3 {l:List D}{s:Sto}(j:Nat){d:D}(h:l[j]?=some d):ixM (.tup l) (.int (j:Int)) s=.ok d s:=ix_tup h
theorem ixR (m:Mc)(s:Sto):ixM m.d (.int 1) s=.ok (.int m.R) s:=ah3 1 rfl
theorem ixB (m:Mc)(s:Sto):ixM m.d (.int 2) s=.ok (.tup (zg m.bg)) s:=ah3 2 rfl
theorem ixE (m:Mc)(s:Sto):ixM m.d (.int 3) s=.ok (.tup (zg m.en)) s:=ah3 3 rfl
theorem ixD (m:Mc)(s:Sto):ixM m.d (.int 4) s=.ok (.tup (m.ds.map Dr.d)) s:=ah3 4 rfl
theorem aA1 [Has P ac5](n:Nat)(m:Mc)(s:Sto):(aa1 P (n+1)).call "rooms_of" [m.d] s=.ok (.int m.R) s:=by
 refine(zd ac5 rfl).trans ?_
 simp -implicitDefEqProofs [ac5,ixR]
theorem ak7 {s:Sto}{l:List D}(h:∀ d∈l,∀ n,d.bnd n=true):zB s (.tup l) s=.ok (.tup l) s:=zn (fun n=>by unfold D.bnd;exact zZ h n) (by nofun)
theorem at7 [Has P ac0](n:Nat)(m:Mc)(s:Sto):(aa1 P (n+1)).call "begins_of" [m.d] s=.ok (.tup (zg m.bg)) s:=by
 refine(zd ac0 rfl).trans ?_
 simp -implicitDefEqProofs [ac0,ixB,ak7 ag4]
theorem aM6 [Has P ad1](n:Nat)(m:Mc)(s:Sto):(aa1 P (n+1)).call "ends_of" [m.d] s=.ok (.tup (zg m.en)) s:=by
 refine(zd ad1 rfl).trans ?_
 simp -implicitDefEqProofs [ad1,ixE,ak7 ag4]
theorem aB5 [Has P ac6](n:Nat)(m:Mc)(s:Sto):(aa1 P (n+1)).call "doors_of" [m.d] s=.ok (.tup (m.ds.map Dr.d)) s:=by
 refine(zd ac6 rfl).trans ?_
 simp -implicitDefEqProofs [ac6,ixD,ak7 aV3]
@[simp] theorem bO5 (a b:Nat) (s:Sto):zV .ne (.str [a]) (.str [b]) s=.ok (.bl (!decide (a=b))) s:=by
 show(match eqv s DEEP (.str [a]) (.str [b])with|some r=>R.ok (D.bl (!r)) s|none=>.bad)=_
 have:eqv s DEEP (.str [a]) (.str [b])=some ([a]==[b]):=rfl
 rw[this]
 have e:([a]==[b])=decide (a=b):=by rw[gj];simp
 rw[e]
@[simp] theorem bS9 (a b:Nat) (s:Sto):zV .eq (.str [a]) (.str [b]) s=.ok (.bl (decide (a=b))) s:=by
 show(match eqv s DEEP (.str [a]) (.str [b])with|some r=>R.ok (D.bl r) s|none=>.bad)=_
 have:eqv s DEEP (.str [a]) (.str [b])=some ([a]==[b]):=rfl
 rw[this]
 have e:([a]==[b])=decide (a=b):=by rw[gj];simp
 rw[e]
end
theorem good_of {L:Nat}{w:List Nat}(h:w.length<=200)(hw:Lts L w):bI6 L (.str w)=true:=by
 unfold bI6
 simp only[h,decide_true,hJ,aV,decide_eq_true_eq]
 exact hw
def an7 (x:R D)(s:Sto)(p:Prop):Prop:=∃ b:Bool,x=.ok (.bl b) s/\(b=true↔p)
noncomputable def fit (s:Sto)(B:Nat):Nat->D->Prop
 | 0,d=>(match d with|.tup _=>False|d=>ac2 s d)
 | n+1,d=>(match d with|.tup l=>l.length<=B/\∀ x∈l,fit s B n x|d=>ac2 s d)
theorem fit.thing {s:Sto}{B:Nat}:∀ {n:Nat} {d:D},fit s B n d->ac2 s d
 | 0,d,h=>by cases d<;>first|exact h|exact h.elim|trivial
 | n+1,d,h=>by cases d<;>first|exact h|trivial
theorem fit.tup {s:Sto}{B n:Nat}{l:List D}(h:fit s B n (.tup l)):l.length<=B/\∀ x∈l,∃ m,m<n/\fit s B m x:=by
 cases n with
 | zero=>exact h.elim
 | succ n=>exact⟨h.1,fun x hx=>⟨n,cW n,h.2 x hx⟩⟩
theorem ai6 {s:Sto}{B n:Nat}{d:D}(h:ac2 s d)(ht:∀ l,d≠.tup l):fit s B n d:=by
 cases n<;>(cases d<;>first|exact absurd rfl (ht _)|exact h)
theorem z0 {s:Sto}{d:D}(h:ac2 s d):bi .isTup [d] s=.ok (.bl (match d with|.tup _=>true|_=>false)) s:=by
 cases d with
 | ref k=>obtain⟨l,e⟩:=h;simp only[bi,bi1,isK,e];rfl
 | fn _=>exact h.elim
 | clo _ _=>exact h.elim
 | _=>rfl
theorem al0 {s:Sto}{d:D}(h:ac2 s d):bi .isInt [d] s=.ok (.bl (match d with|.int _=>true|.bl _=>true|_=>false)) s:=by
 cases d with
 | ref k=>obtain⟨l,e⟩:=h;simp only[bi,bi1,isK,e];rfl
 | fn _=>exact h.elim
 | clo _ _=>exact h.elim
 | _=>rfl
theorem av6 {s:Sto}{d:D}(h:ac2 s d):bi .isBool [d] s=.ok (.bl (match d with|.bl _=>true|_=>false)) s:=by
 cases d with
 | ref k=>obtain⟨l,e⟩:=h;simp only[bi,bi1,isK,e];rfl
 | fn _=>exact h.elim
 | clo _ _=>exact h.elim
 | _=>rfl
theorem tup_or (d:D):(∃ l,d=.tup l)\/∀ l,d≠.tup l:=by
 cases d<;>first|exact .inl ⟨_,rfl⟩|exact .inr (by nofun)
theorem as7 {s:Sto}{d:D}(h:ac2 s d)(hn:∀ l,d≠.tup l):bi .isTup [d] s=.ok (.bl false) s:=by
 rw[z0 h];cases d<;>first|rfl|exact absurd rfl (hn _)
theorem aY5 {s:Sto}{d:D}(h:ac2 s d)(y:∀ i,d≠.int i)(hb:∀ i,d≠.bl i):bi .isInt [d] s=.ok (.bl false) s:=by
 rw[al0 h];cases d<;>first|rfl|exact absurd rfl (y _)|exact absurd rfl (hb _)
theorem int_or (d:D):(∃ i,d=.int i)\/(∃ b,d=.bl b)\/((∀ i,d≠.int i)/\∀ b,d≠.bl b):=by
 cases d<;>first|exact .inl ⟨_,rfl⟩|exact .inr (.inl ⟨_,rfl⟩)|exact .inr (.inr ⟨by nofun,by nofun⟩)
def ah9 (lo hi:Int)(d:D):Prop:=∃ i:Int,d=.int i/\lo<=i/\i<=hi
theorem an7.no {s:Sto}{p:Prop}{x:R D}(e:x=.ok (.bl false) s)(h:¬ p):an7 x s p:=⟨false,e,⟨by nofun,fun q=>absurd q h⟩⟩
theorem qa {P:Pr}[Has P aa5](n:Nat){s:Sto}{d:D}(h:ac2 s d)(z y:Int):an7 ((aa1 P (n+1)).call "is_whole" [d,.int z,.int y] s) s (ah9 z y d):=by
 have G:(aa1 P (n+1)).call "is_whole" [d,.int z,.int y] s=_:=zd aa5 (n:=n) rfl
 rw[G]
 have F:=al0 h
 have C:=av6 h
 rcases int_or d with⟨i,rfl⟩|⟨b,rfl⟩|⟨y,hb⟩
 ·
  refine⟨decide (z<=i)&&decide (i<=y),?_,?_⟩
  ·by_cases hl:z<=i<;>simp -implicitDefEqProofs [aa5,hl]
  ·simp[ah9]
 ·exact .no (by simp -implicitDefEqProofs [aa5,F,C]) (by rintro⟨i,e,_⟩;cases e)
 ·exact .no (by simp -implicitDefEqProofs [aa5,aY5 h y hb]) (by rintro⟨i,e,_⟩;exact y _ e)
theorem ah0 {P:Pr}[Has P aa5][Has P ab7](n:Nat){s:Sto}{d:D}(h:ac2 s d)(k:Int):an7 ((aa1 P (n+2)).call "is_room" [d,.int k] s) s (ah9 0 (k - 1) d):=by
 have y:(aa1 P (n+2)).call "is_room" [d,.int k] s=_:=zd ab7 (n:=n+1) rfl
 obtain⟨b,e,hb⟩:=qa (P:=P) n h 0 (k - 1)
 exact⟨b,by rw[y];simp -implicitDefEqProofs [ab7,e],hb⟩
theorem ak1 {P:Pr}[Has P aa4](n:Nat){s:Sto}{d:D}(h:ac2 s d)(k:Nat):an7 ((aa1 P (n+1)).call "is_tuple_of" [d,.int k] s) s (∃ l,d=.tup l/\l.length=k):=by
 have y:(aa1 P (n+1)).call "is_tuple_of" [d,.int k] s=_:=zd aa4 (n:=n) rfl
 rw[y]
 have z:=z0 h
 rcases tup_or d with⟨l,rfl⟩|hn
 ·
  refine⟨decide ((l.length:Int)=(k:Int)),by simp -implicitDefEqProofs [aa4],?_⟩
  rw[decide_eq_true_iff]
  constructor
  ·intro e;exact⟨l,rfl,by omega⟩
  ·rintro⟨m,e,e2⟩;cases e;omega
 ·exact .no (by simp -implicitDefEqProofs [aa4,as7 h hn]) (by rintro⟨i,e,_⟩;exact hn _ e)
def bQ6 (L:Nat)(d:D):Prop:=∃ c,d=.str [c]/\97<=c/\c<97+L
theorem aW8 {s:Sto}{d:D}(h:ac2 s d){L:Nat}(Z:1<=L)(Y:L<=3):∃ b:Bool,inM d (.tup (ap9.take L)) s=.ok b s/\(b=true↔bQ6 L d):=by
 have e:∀ a:Nat,∃ b:Bool,eqv s DEEP (.str [a]) d=some b/\(b=true↔d=.str [a]):=fun a=>by
  cases d with
  | str w=>exact⟨[a]==w,rfl,by
   rw[beq_iff_eq]
   constructor
   ·intro h;rw[h]
   ·intro h;cases h;rfl⟩
  | ref k =>
   obtain⟨l,e⟩:=h
   refine⟨false,?_,by constructor<;>intro h<;>cases h⟩
   show ad2 s (.str [a]) (.ref k)=_
   unfold ad2 aM4
   simp only[kd,e];rfl
  | fn _=>exact h.elim
  | clo _ _=>exact h.elim
  | _=>exact⟨false,rfl,by constructor<;>intro h<;>cases h⟩
 obtain⟨b1,e1,y⟩:=e 97
 obtain⟨F,e2,G⟩:=e 98
 obtain⟨J,e3,i3⟩:=e 99
 match L,Z,Y with
 | 1,_,_ =>
  refine⟨b1||false,by simp only[jD,inM,inL,e1],?_⟩
  rw[fq,y]
  constructor
  ·intro h;exact⟨97,h,by omega,by omega⟩
  ·rintro⟨c,rfl,C,z⟩;rw[show c=97 by omega]
 | 2,_,_ =>
  refine⟨b1||(F||false),by simp only[jD,inM,inL,e1,e2],?_⟩
  rw[fq,bt,y,G]
  constructor
  ·rintro(h|h)
   ·exact⟨97,h,by omega,by omega⟩
   ·exact⟨98,h,by omega,by omega⟩
  ·rintro⟨c,rfl,C,z⟩
   rcases(show c=97\/c=98 by omega)with rfl|rfl
   ·exact .inl rfl
   ·exact .inr rfl
 | 3,_,_ =>
  refine⟨b1||(F||(J||false)),by simp only[jD,inM,inL,e1,e2,e3],?_⟩
  rw[fq,bt,bt,y,G,i3]
  constructor
  ·rintro(h|h|h)
   ·exact⟨97,h,by omega,by omega⟩
   ·exact⟨98,h,by omega,by omega⟩
   ·exact⟨99,h,by omega,by omega⟩
  ·rintro⟨c,rfl,C,z⟩
   rcases(show c=97\/c=98\/c=99 by omega)with rfl|rfl|rfl
   ·exact .inl rfl
   ·exact .inr (.inl rfl)
   ·exact .inr (.inr rfl)
theorem aw0 {P:Pr}[Has P ab2][HasC P "LETTERS" (.tup ap9)](n:Nat){s:Sto}{d:D}(h:ac2 s d){L:Nat}(z:1<=L)(y:L<=3):an7 ((aa1 P (n+1)).call "is_letter" [d,.int L] s) s (bQ6 L d):=by
 have C:(aa1 P (n+1)).call "is_letter" [d,.int L] s=_:=zd ab2 (n:=n) rfl
 obtain⟨b,e,hb⟩:=aW8 h z y
 exact⟨b,by rw[C];simp -implicitDefEqProofs [ab2,qj (v:=.tup ap9),aW7 y,bl7,e],hb⟩
def bq2 (L:Nat)(R:Int)(d:D):Prop:=∃ a b c t,d=.tup [a,b,c,t]/\ah9 0 (R - 1) a/\bQ6 L b/\ah9 0 (R - 1) c/\ah9 0 3 t
theorem bX1 {l:List D}(h:l.length=4):∃ a b c t,l=[a,b,c,t]:=by
 match l,h with
 | [a,b,c,t],_=>exact⟨a,b,c,t,rfl⟩
theorem bW7 {l:List D}(h:l.length=5):∃ a b c t u,l=[a,b,c,t,u]:=by
 match l,h with
 | [a,b,c,t,u],_=>exact⟨a,b,c,t,u,rfl⟩
theorem aN0 {P:Pr}[Has P aa4][Has P aa5][Has P ab7][Has P ab2][Has P ab8][HasC P "LETTERS" (.tup ap9)][HasC P "MOST_TOLL" (.int 3)](n:Nat){s:Sto}{B k:Nat}{d:D}(h:fit s B k d){L:Nat}(h1:1<=L)(h3:L<=3)(R:Int) :
  an7 ((aa1 P (n+3)).call "is_door" [d,.int L,.int R] s) s (bq2 L R d):=by
 have Y:(aa1 P (n+3)).call "is_door" [d,.int L,.int R] s=_:=zd ab8 (n:=n+2) rfl
 rw[Y]
 obtain⟨b,e,hb⟩:=ak1 (P:=P) (n+1) h.thing 4
 rw[show((4:Nat):Int)=4 from rfl]at e
 cases b with
 | false=>exact .no (by simp -implicitDefEqProofs [ab8,e]) (by
   rintro⟨x,y,z,t,rfl,_⟩
   exact absurd (hb.mpr ⟨_,rfl,rfl⟩) (by decide))
 | true =>
  obtain⟨l,rfl,hl⟩:=hb.mp rfl
  obtain⟨x,y,z,t,rfl⟩:=bX1 hl
  have hf:=h.tup.2
  have C:∀ u∈[x,y,z,t],ac2 s u:=fun u hu=>by obtain⟨m,_,q⟩:=hf u hu;exact q.thing
  have i0:ixM (.tup [x,y,z,t]) (.int 0) s=.ok x s:=ah3 0 rfl
  have Z:ixM (.tup [x,y,z,t]) (.int 1) s=.ok y s:=ah3 1 rfl
  have i2:ixM (.tup [x,y,z,t]) (.int 2) s=.ok z s:=ah3 2 rfl
  have i3:ixM (.tup [x,y,z,t]) (.int 3) s=.ok t s:=ah3 3 rfl
  obtain⟨b1,e1,J⟩:=ah0 (P:=P) n (C x (by simp)) R
  obtain⟨G,e2,q2⟩:=aw0 (P:=P) (n+1) (C y (by simp)) h1 h3
  obtain⟨F,e3,q3⟩:=ah0 (P:=P) n (C z (by simp)) R
  obtain⟨b4,e4,q4⟩:=qa (P:=P) (n+1) (C t (by simp)) 0 3
  refine⟨b1&&(G&&(F&&b4)),?_,?_⟩
  ·simp -implicitDefEqProofs [ab8,e,i0,e1]
   cases b1
   ·simp -implicitDefEqProofs
   ·simp -implicitDefEqProofs [Z,e2]
    cases G
    ·simp -implicitDefEqProofs
    ·simp -implicitDefEqProofs [i2,e3]
     cases F
     ·simp -implicitDefEqProofs
     ·simp -implicitDefEqProofs [i3,e4,qj (v:=.int 3)]
  ·rw[ai,ai,ai,J,q2,q3,q4]
   constructor
   ·rintro⟨a,b,c,d⟩;exact⟨x,y,z,t,rfl,a,b,c,d⟩
   ·rintro⟨_,_,_,_,e,a,b,c,d⟩;cases e;exact⟨a,b,c,d⟩
theorem qr {ok:Sto->Bool}{g:D->Env->Sto->R (Option D×Env)}{s:Sto}(ho:ok s=true)(E:Env->Prop)(p:D->Prop):∀(l:List D) (ρ:Env),E ρ ->
  (∀ d∈l,∀ ρ,E ρ->∃(b:Bool) (ρ':Env),g d ρ s=.ok (some (.bl b),ρ') s/\E ρ'/\(b=true↔p d))->∃ bs:List Bool,qd ok g l ρ s=.ok (bs.map D.bl) s/\(bs.all id=true↔∀ d∈l,p d)
 | [],ρ,_,_=>⟨[],by unfold qd;rw[if_pos ho];rfl,by simp⟩
 | d::l,ρ,hE,h=>by
  obtain⟨b,ρ1,e1,y,hb⟩:=h d (au ..) ρ hE
  obtain⟨bs,e2,z⟩:=qr ho E p l ρ1 y fun x hx=>h x (ao _ hx)
  refine⟨b::bs,?_,?_⟩
  ·unfold qd
   rw[if_pos ho,e1]
   simp only[R.bind_ok]
   rw[e2];rfl
  ·rw[cM,ai,z]
   simp only[id,hb,az,forall_eq_or_imp]
theorem ay7:∀ bs:List Bool,ah2 (bs.map D.bl)=some bs
 | []=>rfl
 | b::bs=>by simp[ah2,ay7 bs]
theorem am6:∀(l m:List D) (i:Nat),(af0 l m)[i]?=(match l[i]?,m[i]? with|some a,some b=>some (.tup [a,b])|_,_=>none)
 | [],m,i=>by rw[af0]<;>simp
 | a::l,[],i=>by rw[af0]<;>simp
 | a::l,b::m,0=>by rw[af0];rfl
 | a::l,b::m,i+1=>by rw[af0];exact am6 l m i
def bN7 (R:Int)(d:D):Prop:=∃ l,d=.tup l/\(∀ x∈l,ah9 0 (R - 1) x)/\∀(k:Nat) (a b:Int),l[k]?=some (.int a)->l[k+1]?=some (.int b)->a<b
theorem bV2 (l:List D):ai0 l (some 1) none=l.drop 1:=by
 unfold ai0
 simp only[loB,hiB,sbd]
 cases l with
 | nil=>rfl
 | cons a l=>simp
theorem aH5 {n B:Nat}(h:n<=B)(y:B<=1000):n<=LIM:=by unfold LIM;omega
theorem ax4 {P:Pr}[Has P aa5][Has P ab7][Has P aa2](n:Nat){s:Sto}{B k:Nat}(Z:B<=1000){d:D}(h:fit s B k d)(C:Int) :
  an7 ((aa1 P (n+3)).call "are_rising_rooms" [d,.int C] s) s (bN7 C d):=by
 have e0:(aa1 P (n+3)).call "are_rising_rooms" [d,.int C] s=_:=zd aa2 (n:=n+2) rfl
 rw[e0]
 have ht:=z0 h.thing
 rcases tup_or d with⟨l,rfl⟩|hn
 ·
  obtain⟨hl,hx⟩:=h.tup
  have sT:ah8 (.tup l) s=.ok ⟨l,[]⟩ s:=rfl
  obtain⟨bs,e1,h1⟩:=qr (ok:=fun F=>chk s F []) (g:=zv (aa1 P (n+2)) (.one 0) (.call "is_room" (.ex (.var 0) (.ex (.var 1) .nil)))) (s:=s) rfl (fun ρ=>∃ x,ρ=[x,some (.int C)]) (ah9 0 (C - 1)) l (zN [some (.tup l),some (.int C)] [none,some 1]) ⟨none,rfl⟩ (by
   rintro d hd ρ ⟨x,rfl⟩
   obtain⟨m,_,G⟩:=hx d hd
   obtain⟨b,e,hb⟩:=ah0 (P:=P) n G.thing C
   exact⟨b,[some d,some (.int C)],by unfold zv;simp -implicitDefEqProofs [e],⟨_,rfl⟩,hb⟩)
  have J:bs.all id=true\/bs.all id=false:=by cases bs.all id<;>simp
  rcases J with ha|ha
  ·have hw:=h1.mp ha
   have mt:∀ a b,D.tup [a,b]∈af0 l (l.drop 1)->∃ x y:Int,a=.int x/\b=.int y:=fun a b G=>by
    obtain⟨i,z⟩:=cB G
    rw[am6]at z
    split at z
    ·rename_i a' b' u v
     cases z
     obtain⟨x,rfl,_⟩:=hw a (aN u)
     obtain⟨y,rfl,_⟩:=hw b (d4 (aN v))
     exact⟨x,y,rfl,rfl⟩
    ·cases z
   have Y:∀ d∈af0 l (l.drop 1),∃ a b,d=.tup [a,b]:=fun d G=>by
    obtain⟨i,z⟩:=cB G
    rw[am6]at z
    split at z
    ·cases z;exact⟨_,_,rfl⟩
    ·cases z
   obtain⟨cs,e2,h2⟩:=qr (ok:=fun F=>chk s F ([]++[])) (g:=zv (aa1 P (n+2)) (.tup [0,1]) (.cmp .lt (.var 0) (.var 1))) (s:=s) rfl (fun ρ=>∃ x y,ρ=[x,y]) (fun d=>∃ a b:Int,d=.tup [.int a,.int b]/\a<b) (af0 l (l.drop 1)) (zN [some (.tup l),some (.int C)] [none,none]) ⟨none,none,rfl⟩ (by
    rintro d hd ρ ⟨x,y,rfl⟩
    obtain⟨a,b,rfl⟩:=Y d hd
    obtain⟨a,b,rfl,rfl⟩:=mt a b hd
    refine⟨decide (a<b),[some (.int a),some (.int b)],by unfold zv;simp -implicitDefEqProofs,⟨_,_,rfl⟩,?_⟩
    rw[decide_eq_true_iff]
    constructor
    ·intro h;exact⟨a,b,rfl,h⟩
    ·rintro⟨_,_,e,h⟩;cases e;exact h)
   have dT:ai1 (.tup l) s=.ok ⟨l,[]⟩ s:=rfl
   have a0:ai1 (.tup (l.drop 1)) s=.ok ⟨l.drop 1,[]⟩ s:=rfl
   have sl:slM (.tup l) (some 1) none s=.ok (.tup (l.drop 1)) s:=by show R.ok (D.tup (ai0 l (some 1) none)) s=_;rw[bV2]
   have zl:(af0 l (l.drop 1)).length<=LIM:=by
    have:∀(a b:List D),(af0 a b).length<=a.length:=fun a=>by
     induction a with
     | nil=>intro b;rw[af0]<;>simp
     | cons x a ih =>
      intro b
      cases b with
      | nil=>rw[af0]<;>simp
      | cons y b=>rw[af0];simpa using ih b
    exact aj (this l _) (aH5 hl Z)
   refine⟨cs.all id,?_,?_⟩
   ·simp -implicitDefEqProofs [aa2,sT]
    rw[if_pos (aH5 hl Z),e1]
    simp -implicitDefEqProofs [mk,ay7,ha]
    simp only[evI,ev_var,getV_0,bH1,ev_cst,Cn_int,R.bind_ok,sl,dT,a0]
    rw[if_pos zl,e2]
    simp -implicitDefEqProofs [mk,ay7]
   ·rw[h2]
    constructor
    ·intro hh
     refine⟨l,rfl,hw,fun k a b ha hb=>?_⟩
     have:D.tup [.int a,.int b]∈af0 l (l.drop 1):=by
      refine aN (i:=k) ?_
      rw[am6,ha,dq,dD,hb]
     obtain⟨_,_,e,h⟩:=hh _ this
     cases e;exact h
    ·rintro⟨_,e,_,hr⟩ d hd
     cases e
     obtain⟨i,z⟩:=cB hd
     rw[am6]at z
     split at z
     ·rename_i a' b' u v
      cases z
      obtain⟨x,rfl,_⟩:=hw _ (aN u)
      obtain⟨y,rfl,_⟩:=hw _ (d4 (aN v))
      rw[dq,dD]at v
      exact⟨x,y,rfl,hr i x y u v⟩
     ·cases z
  ·refine .no ?_ ?_
   ·simp -implicitDefEqProofs [aa2,sT]
    rw[if_pos (aH5 hl Z),e1]
    simp -implicitDefEqProofs [mk,ay7,ha]
   ·rintro⟨_,e,hw,_⟩
    cases e
    rw[h1.mpr hw]at ha;cases ha
 ·exact .no (by simp -implicitDefEqProofs [aa2,as7 h.thing hn]) (by rintro⟨_,e,_⟩;exact hn _ e)
def bg5 (L:Nat)(Rm:Int)(d:D):Prop:=∃ l,d=.tup l/\l.length<=75/\∀ x∈l,bq2 L Rm x
theorem be1 {P:Pr}[Has P aa4][Has P aa5][Has P ab7][Has P ab2][Has P ab8][Has P ab3][HasC P "LETTERS" (.tup ap9)][HasC P "MOST_TOLL" (.int 3)][HasC P "MOST_DOORS" (.int 75)](n:Nat){s:Sto}{B k:Nat}(hB:B<=1000){d:D}(h:fit s B k d){L:Nat}(h1:1<=L)(h3:L<=3)(z:Int) :
  an7 ((aa1 P (n+4)).call "are_doors" [d,.int L,.int z] s) s (bg5 L z d):=by
 have e0:(aa1 P (n+4)).call "are_doors" [d,.int L,.int z] s=_:=zd ab3 (n:=n+3) rfl
 rw[e0]
 have ht:=z0 h.thing
 rcases tup_or d with⟨l,rfl⟩|hn
 ·
  obtain⟨hl,hx⟩:=h.tup
  by_cases C:l.length<=75
  ·have y:¬((75:Int)<(l.length:Int)):=by omega
   have Z:ah8 (.tup l) s=.ok ⟨l,[]⟩ s:=rfl
   obtain⟨bs,e1,J⟩:=qr (ok:=fun G=>chk s G []) (g:=zv (aa1 P (n+3)) (.one 0) (.call "is_door" (.ex (.var 0) (.ex (.var 1) (.ex (.var 2) .nil))))) (s:=s) rfl (fun ρ=>∃ x,ρ=[x,some (.int L),some (.int z)]) (bq2 L z) l (zN [some (.tup l),some (.int L),some (.int z)] [none,some 1,some 2]) ⟨none,rfl⟩ (by
    rintro d hd ρ ⟨x,rfl⟩
    obtain⟨m,_,Y⟩:=hx d hd
    obtain⟨b,e,hb⟩:=aN0 (P:=P) n Y h1 h3 z
    exact⟨b,[some d,some (.int L),some (.int z)],by unfold zv;simp -implicitDefEqProofs [e],⟨_,rfl⟩,hb⟩)
   refine⟨bs.all id,?_,?_⟩
   ·simp -implicitDefEqProofs [ab3,Z,qj (v:=.int 75),y]
    rw[if_pos (aH5 hl hB),e1]
    simp -implicitDefEqProofs [mk,ay7]
   ·rw[J]
    constructor
    ·intro F;exact⟨l,rfl,C,F⟩
    ·rintro⟨_,e,_,F⟩;cases e;exact F
  ·refine .no ?_ (by rintro⟨_,e,F,_⟩;cases e;exact C F)
   have y:((75:Int)<(l.length:Int)):=by omega
   simp -implicitDefEqProofs [ab3,qj (v:=.int 75),y]
 ·exact .no (by simp -implicitDefEqProofs [ab3,as7 h.thing hn]) (by rintro⟨_,e,_⟩;exact hn _ e)
def bE2 (d:D):Prop:=∃(L:Nat) (Rm:Int) (b e ds:D),d=.tup [.int L,.int Rm,b,e,ds]/\(1<=L/\L<=3)/\(1<=Rm/\Rm<=5)/\bN7 Rm b/\bN7 Rm e/\bg5 L Rm ds
theorem aL7 {P:Pr}[Has P aa4][Has P aa5][Has P ab7][Has P ab2][Has P ab8][Has P ab3][Has P aa2][Has P ab4][HasC P "LETTERS" (.tup ap9)][HasC P "MOST_TOLL" (.int 3)][HasC P "MOST_DOORS" (.int 75)][HasC P "MOST_ROOMS" (.int 5)](n:Nat){s:Sto}{B k:Nat}(hB:B<=1000){d:D}(h:fit s B k d) :
  an7 ((aa1 P (n+5)).call "is_machine" [d] s) s (bE2 d):=by
 have e0:(aa1 P (n+5)).call "is_machine" [d] s=_:=zd ab4 (n:=n+4) rfl
 rw[e0]
 obtain⟨b,e,hb⟩:=ak1 (P:=P) (n+3) h.thing 5
 rw[show((5:Nat):Int)=5 from rfl]at e
 cases b with
 | false=>exact .no (by simp -implicitDefEqProofs [ab4,e]) (by
   rintro⟨L,G,x,y,z,rfl,_⟩
   exact absurd (hb.mpr ⟨_,rfl,rfl⟩) (by decide))
 | true =>
  obtain⟨l,rfl,hl⟩:=hb.mp rfl
  obtain⟨Y,x1,J,F,C,rfl⟩:=bW7 hl
  have hf:=h.tup.2
  have Z:ixM (.tup [Y,x1,J,F,C]) (.int 0) s=.ok Y s:=ah3 0 rfl
  have i1:ixM (.tup [Y,x1,J,F,C]) (.int 1) s=.ok x1 s:=ah3 1 rfl
  have i2:ixM (.tup [Y,x1,J,F,C]) (.int 2) s=.ok J s:=ah3 2 rfl
  have i3:ixM (.tup [Y,x1,J,F,C]) (.int 3) s=.ok F s:=ah3 3 rfl
  have i4:ixM (.tup [Y,x1,J,F,C]) (.int 4) s=.ok C s:=ah3 4 rfl
  obtain⟨m0,_,f0⟩:=hf Y (by simp)
  obtain⟨m1,_,f1⟩:=hf x1 (by simp)
  obtain⟨m2,_,f2⟩:=hf J (by simp)
  obtain⟨m3,_,f3⟩:=hf F (by simp)
  obtain⟨m4,_,f4⟩:=hf C (by simp)
  have gL:∀ ρ s,ev (aa1 P (n+4)) (.bi .len (.cons (.glob "LETTERS") .nil)) ρ s=.ok (.int 3) s:=fun ρ s=>by simp -implicitDefEqProofs [qj (v:=.tup ap9)]
  obtain⟨b1,e1,q1⟩:=qa (P:=P) (n+3) f0.thing 1 3
  conv=>arg 1;simp -implicitDefEqProofs [ab4,e,Z,e1,qj (v:=.tup ap9)]
  cases b1 with
  | false=>exact .no (by simp -implicitDefEqProofs) (by
    rintro⟨L,G,x,y,z,e,⟨l1,l3⟩,_⟩
    cases e
    exact absurd (q1.mpr ⟨L,rfl,by omega,by omega⟩) (by decide))
  | true =>
   obtain⟨Li,rfl,a2,a3⟩:=q1.mp rfl
   obtain⟨L,rfl⟩:∃ L:Nat,Li=(L:Int):=⟨Li.toNat,by omega⟩
   obtain⟨b2,e2,q2⟩:=qa (P:=P) (n+3) f1.thing 1 5
   conv=>arg 1;simp -implicitDefEqProofs [Z,i1,e2,qj (v:=.int 5)]
   cases b2 with
   | false=>exact .no (by simp -implicitDefEqProofs) (by
     rintro⟨L,G,x,y,z,e,_,⟨l1,l3⟩,_⟩
     cases e
     exact absurd (q2.mpr ⟨G,rfl,by omega,by omega⟩) (by decide))
   | true =>
    obtain⟨G,rfl,a0,a1⟩:=q2.mp rfl
    obtain⟨b3,e3,q3⟩:=ax4 (P:=P) (n+1) hB f2 G
    obtain⟨b4,e4,q4⟩:=ax4 (P:=P) (n+1) hB f3 G
    obtain⟨b5,e5,q5⟩:=be1 (P:=P) n hB f4 (L:=L) (by omega) (by omega) G
    refine⟨b3&&(b4&&b5),?_,?_⟩
    ·simp -implicitDefEqProofs [Z,i1,i2,e3]
     cases b3
     ·simp -implicitDefEqProofs
     ·simp -implicitDefEqProofs [Z,i1,i3,e4]
      cases b4
      ·simp -implicitDefEqProofs
      ·simp -implicitDefEqProofs [Z,i1,i4,e5]
    ·rw[ai,ai,q3,q4,q5]
     constructor
     ·rintro⟨a,b,c⟩;exact⟨L,G,J,F,C,rfl,⟨by omega,by omega⟩,⟨a0,a1⟩,a,b,c⟩
     ·rintro⟨L',a4,_,_,_,e,_,_,a,b,c⟩
      simp only[D.tup.injEq,List.cons.injEq,D.int.injEq,and_true]at e
      obtain⟨h1,h2,h3,h4,h5⟩:=e
      have:L=L':=by omega
      subst this h2 h3 h4 h5
      exact⟨a,b,c⟩
theorem be9 {m : Mc} (h : m.Ok) : bE2 m.d := by
  refine⟨m.L, m.R, .tup (zg m.bg), .tup (zg m.en), .tup (m.ds.map Dr.d), rfl, ⟨h.L1, h.L3⟩, ⟨by have := h.R1; omega, by have := h.R5; omega⟩, ?_, ?_, ?_⟩
  all_goals try(
    refine⟨_, rfl, fun x hx => ?_, fun k a b ha hb => ?_⟩
    · obtain⟨i, z, rfl⟩ := aE.mp hx
      have : i < m.R := by first|exact h.bg.1 i z|exact h.en.1 i z
      exact⟨i, rfl, by omega, by omega⟩
    · unfold zg at ha hb
      rw[aG]at ha hb
      first
      | (have := h.bg.2
         rw[eS]at this
         cases ea : m.bg[k]? with
         | none => rw[ea]at ha; cases ha
         | some u =>
           cases eb : m.bg[k + 1]? with
           | none => rw[eb]at hb; cases hb
           | some v =>
             rw[ea]at ha; rw[eb]at hb
             cases ha; cases hb
             obtain⟨p1, y⟩ := ag.mp ea
             obtain⟨p3, p4⟩ := ag.mp eb
             have := this k (k + 1) p1 p3 (by omega)
             rw[y, p4]at this; omega)
      | (have := h.en.2
         rw[eS]at this
         cases ea : m.en[k]? with
         | none => rw[ea]at ha; cases ha
         | some u =>
           cases eb : m.en[k + 1]? with
           | none => rw[eb]at hb; cases hb
           | some v =>
             rw[ea]at ha; rw[eb]at hb
             cases ha; cases hb
             obtain⟨p1, y⟩ := ag.mp ea
             obtain⟨p3, p4⟩ := ag.mp eb
             have := this k (k + 1) p1 p3 (by omega)
             rw[y, p4]at this; omega))
  refine⟨_, rfl, by rw[ar]; exact h.ds.2, fun x hx => ?_⟩
  obtain⟨r, hr, rfl⟩ := aE.mp hx
  have ok := h.ds.1 r hr
  exact⟨_, _, _, _, rfl, ⟨r.a, rfl, by omega, by have := ok.a; omega⟩, ⟨r.l, rfl, ok.l.1, ok.l.2⟩, ⟨r.b, rfl, by omega, by have := ok.b; omega⟩, ⟨r.t, rfl, by omega, by have := ok.t; omega⟩⟩
theorem ba2 {s:Sto}{B n:Nat}{l:List D}(hl:l.length<=B)(h:∀ x∈l,ac2 s x/\∀ m,x≠.tup m):fit s B (n+1) (.tup l):=⟨hl,fun x hx=>ai6 (h x hx).1 (h x hx).2⟩
@[simp] theorem bM9 {F:Fns} {ρ:Env} {s:Sto} (a h C:E):ev F (.slLU a h C) ρ s=(ev F a ρ s).bind fun x s=>(ev F h ρ s).bind fun y s=>match y with|.int i=>(ev F C ρ s).bind (fun z s=>match z with|.int j=>slM x (some i) (some j) s|_=>.bad)|_=>.bad:=rfl
@[simp] theorem bL2 {F:Fns} {ρ:Env} {s:Sto} (e:E):evI F (.enum (.seq e)) ρ s=(ev F e ρ s).bind fun d s=>(ba6 d s).bind fun q s=>.ok ⟨bo7 0 q.its,q.src⟩ s:=rfl
noncomputable def row (m:Nat)(f:Nat->Int):List D:=(aS m).map fun j=>.int (f j)
@[simp] theorem bR5 {m:Nat} {f:Nat->Int}:(row m f).length=m:=by unfold row;simp
noncomputable def bx7 (m:Nat)(f:Nat->Nat->Int):Sto:=(aS m).map fun i=>.lst (row m (f i))
@[simp] theorem bA0 {m:Nat} {f:Nat->Nat->Int}:(bx7 m f).length=m:=by unfold bx7;simp
noncomputable def ar3 (p m:Nat):List D:=(aS m).map fun i=>.ref (p+i)
@[simp] theorem bM7 {F:Fns} {ρ:Env} {s:Sto} (a b:E):evI F (.zip (.seq a) (.seq b)) ρ s=(ev F a ρ s).bind fun x s=>(ev F b ρ s).bind fun y s=>(ai1 x s).bind fun p s=>(ai1 y s).bind fun q s=>.ok ⟨af0 p.its q.its,p.src++q.src⟩ s:=rfl
theorem ix_str {l:List Nat}{j c:Nat}{s:Sto}(hj:l[j]?=some c):ixM (.str l) (.int (j:Int)) s=.ok (.str [c]) s:=by
 have hl:j<l.length:=(ag.mp hj).1
 have e:l[j]=c:=(ag.mp hj).2
 simp[ixM,ixn,hl,e]
noncomputable def shN (f:Nat->Nat->Int)(i j:Nat):Nat->Int
 | 0=>3
 | k+1=>let b:=max (max (f i k) (if f k k=1 then 2 else f k k)) (f k j);if b<shN f i j k then b else shN f i j k
noncomputable def sh (m:Nat)(f:Nat->Nat->Int)(i j:Nat):Int:=shN f i j m
inductive Stp where
 | let_ (c:Nat)|pair (i j:Nat)|sharp (i:Nat)
noncomputable def Stp.d:Stp->D
 | .let_ c=>.tup [.str [108,101,116,116,101,114],.str [c]]
 | .pair i j=>.tup [.str [112,97,105,114],.int i,.int j]
 | .sharp i=>.tup [.str [115,104,97,114,112],.int i]
section
variable {s:Sto} {r:Nat} {b:Int} {A B C:List D} {T:Sto}
end
section
variable {m:Nat} {f:Nat->Nat->Int} {x:Int}
end
noncomputable def bP3 (a c:Int)(vs:List Int):Stp->Int
 | .let_ _=>a
 | .pair i j=>vs.getD i 0+vs.getD j 0
 | .sharp i=>vs.getD i 0*c
noncomputable def vl (a c:Int)(l:List Stp):List Int:=l.foldl (fun vs x=>vs++[bP3 a c vs x]) []
section
variable {F:Fns} {ρ:Env} {s:Sto}
end
noncomputable def Stp.t (c:Int):Stp->D
 | .sharp i=>.tup [.str [116,105,109,101,115],.int i,.int c]
 | x=>x.d
section
variable {P:Pr} [Has P by8] [Has P am9] [HasL P ah1]
end
end DV
end
local macro_rules | `(tactic| tbr_iter [$xs,*]) => `(tactic| simp -implicitDefEqProofs only [DV.exs_cons, DV.exs_nil, DV.ex_asg, DV.ex_ite, DV.ex_ret, DV.ex_ex, DV.ex_for, DV.ex_whl, DV.ex_setIx, DV.ex_cont, DV.ex_pass, DV.ex_und, DV.ev_var, DV.ev_cst, DV.ev_bin, DV.ev_not, DV.ev_cmp, DV.ev_and, DV.ev_or, DV.ev_ite, DV.ev_tup, DV.ev_lst, DV.ev_ix, DV.ev_call, DV.ev_bi, DV.ev_mk, DV.ev_mkD, DV.ev_mks, DV.ev_mkDs, DV.ev_meth, DV.ev_isN, DV.ev_notN, DV.evs_nil, DV.evs_cons, DV.evas_nil, DV.evas_ex, DV.evI_seq, DV.evI_rng1, DV.evL_seq, DV.Cn_bl, DV.Cn_int, DV.Cn_non, DV.Cn_str, DV.R.bind_ok, DV.bindT_one, DV.bindT_tup, DV.setVs_nil, DV.setVs_cons, DV.setV_s, DV.setV_0, DV.unsetV_s, DV.unsetV_0, DV.getV_0, DV.getV_s, Option.map_some, Option.bind_some, DV.setC_some, DV.nxt_next, DV.nxt_ret, DV.nxt_cont, DV.fin_ret, DV.fin_next, DV.add_int, DV.sub_int, DV.lt_int, DV.le_int, DV.gt_int, DV.ge_int, DV.eq_int, DV.ne_int, DV.alloc_eq, DV.tru_bl, if_true, if_false, Bool.false_eq_true, decide_true, decide_false, Bool.not_true, Bool.not_false, $[$xs:term],*])
noncomputable section
namespace DV
theorem ao3:∀ ws:List (List Nat),ad0 (ws.map D.str)=some ws
 | []=>rfl
 | w::ws=>by
  show(ad0 (ws.map D.str)).map (w::·)=_
  rw[ao3 ws];rfl
theorem aq1 {s : Sto} {r c : Nat} {sep : List Nat} {ws : List (List Nat)} (h : s[r]? = some (.lst (ws.map D.str))) (hz : (ws.map fun w => w.length + (c :: sep).length).sum <= LIM) : aB2 (.str (c :: sep)) (.ref r) s = .ok (.str (zX (c :: sep) ws)) s := by
  show (match s[r]? with
      | some (.lst l) => (match ad0 l with
        | some ss => if(ss.map fun(w : List Nat) => w.length + (c :: sep).length).sum <= LIM then R.ok (D.str (zX (c :: sep) ss)) s else .bad
        | none => .bad)
      | _ => .bad) = _
  rw[h]
  show (match ad0 (ws.map D.str) with
        | some ss => if(ss.map fun(w : List Nat) => w.length + (c :: sep).length).sum <= LIM then R.ok (D.str (zX (c :: sep) ss)) s else .bad
        | none => .bad) = _
  rw[ao3]
  exact if_pos hz
theorem ai5 {F:Fns}{ρ:Env}{s:Sto}(o e:E):ev F (.join o e) ρ s=(ev F o ρ s).bind fun x s=>(ev F e ρ s).bind fun y s=>aB2 x y s:=rfl
theorem az8 {B:Nat}:∀ {ws:List (List Nat)} {k:Nat},(∀ w∈ws,w.length+k<=B)->(ws.map fun w=>w.length+k).sum<=ws.length*B
 | [],k,_=>by simp
 | w::ws,k,h=>by
  have z:=h w (au ..)
  have y:=az8 (ws:=ws) (k:=k) (B:=B) fun x hx=>h x (ao _ hx)
  rw[aB,fy,aL,iA]
  omega
theorem aj2 (sep:List Nat):∀ h:List (List Nat),(zX sep h).length<=(h.map fun w=>w.length+sep.length).sum
 | []=>cz _
 | [x]=>by simp[zX]
 | x::y::r=>by
  have:=aj2 sep (y::r)
  show(x++(sep++zX sep (y::r))).length<=_
  rw[aD,aD,aB,fy]
  omega
theorem aH0 {c:Nat}:∀ {p:List Nat},c ∉ p->zE c p=[p]
 | [],_=>rfl
 | x::p,h=>by
  have y:x≠c:=fun z=>h (by rw[z];exact au ..)
  show(if x=c then _ else _)=_
  rw[if_neg y,aH0 (fun z=>h (ao _ z))]
theorem bf6 {c:Nat}{l:List Nat}:∀ {p:List Nat},c ∉ p->zE c (p++c::l)=p::zE c l
 | [],_=>by show(if c=c then _ else _)=_;rw[if_pos rfl]
 | x::p,h=>by
  have y:x≠c:=fun z=>h (by rw[z];exact au ..)
  rw[dQ]
  show(if x=c then _ else(match zE c (p++c::l)with|p::ps=>(x::p)::ps|[]=>[[x]]))=_
  rw[if_neg y,bf6 (fun z=>h (ao _ z))]
theorem as8 {c:Nat}:∀ {ps:List (List Nat)},ps≠[]->(∀ p∈ps,c ∉ p)->zE c (zX [c] ps)=ps
 | [],h,_=>absurd rfl h
 | [p],_,h=>aH0 (h p (au ..))
 | p::q::ps,_,h=>by
  show zE c (p++([c]++zX [c] (q::ps)))=_
  rw[dJ,bf6 (h p (au ..)),as8 (by simp) fun x hx=>h x (ao _ hx)]
theorem ax6 {c d:Nat}(hd:c≠d):∀ {ps:List (List Nat)},(∀ p∈ps,c ∉ p)->c ∉ zX [d] ps
 | [],_=>by simp[zX]
 | [p],h=>h p (au ..)
 | p::q::ps,h=>by
  show c ∉ p++([d]++zX [d] (q::ps))
  intro hc
  rcases bw.mp hc with z|z
  ·exact h p (au ..) z
  ·rcases bw.mp z with z|z
   ·exact hd (bn.mp z)
   ·exact ax6 hd (fun x hx=>h x (ao _ hx)) z
noncomputable def tx:D->List Nat
 | .int i=>[48+i.toNat]
 | .str w=>w
 | _=>[]
def Wd (d:D):Prop:=(∃ k:Nat,k<=9/\d=.int (k:Int))\/∃ w:List Nat,d=.str w/\w.length<=10
theorem aj7 {d:D}(h:Wd d)(s:Sto):bi .str [d] s=.ok (.str (tx d)) s:=by
 rcases h with⟨k,hk,rfl⟩|⟨w,rfl,_⟩
 ·show(if 0<=(k:Int)/\(k:Int)<=9 then R.ok (D.str [48+(k:Int).toNat]) s else .bad)=_
  rw[if_pos ⟨by omega,by omega⟩];rfl
 ·rfl
theorem bx1 {d:D}(h:Wd d):(tx d).length<=10:=by
 rcases h with⟨k,hk,rfl⟩|⟨w,rfl,hw⟩
 ·show 1<=10;decide
 ·exact hw
noncomputable def qe (l:List D):List Nat:=zX [32] (l.map tx)
theorem aj1 {l:List D}(h:∀ d∈l,Wd d)(hl:l.length<=20):((l.map tx).map fun w=>w.length+([32]:List Nat).length).sum<=220:=by
 have:=az8 (ws:=l.map tx) (k:=1) (B:=11) (fun w hw=>by
  obtain⟨d,hd,rfl⟩:=aE.mp hw
  have:=bx1 (h d hd);omega)
 rw[ar]at this
 have y:l.length*11<=20*11:=gM _ hl
 exact aj this y
section
variable {P:Pr} [Has P ac1]
theorem aB1 (n:Nat){l:List D}(h:∀ d∈l,Wd d)(hl:l.length<=20)(s:Sto):(aa1 P (n+1)).call "row_text" [.tup l] s=.ok (.str (qe l)) s:=by
 have J:(aa1 P (n+1)).call "row_text" [.tup l] s=_:=zd ac1 (n:=n) rfl
 rw[J,show(c7 some [D.tup l]++aA ac1.vs none)=[some (.tup l)]from rfl]
 have G:∀ S,ah8 (.tup l) S=.ok ⟨l,[]⟩ S:=fun _=>rfl
 have z:l.length<=LIM:=by unfold LIM;omega
 obtain⟨ρ3,s3,F,C,_⟩:=zS (ok:=fun y=>chk s y []) (g:=zv (aa1 P n) (.one 0) (.bi .str (.cons (.var 0) .nil))) (fun ρ u=>u=s/\∃ x,ρ=[x]) (fun d=>some (.str (tx d))) l (zN [some (.tup l)] [none]) s ⟨rfl,none,rfl⟩ (fun _ _ _=>rfl) (by
  rintro d hd ρ u ⟨rfl,x,rfl⟩
  refine⟨[some d],u,?_,rfl,_,rfl⟩
  have hb:=aj7 (h d hd) u
  unfold zv
  tbr_iter [hb])
 rw[C,b9]at F
 have hj:=aq1 (s:=s++[.lst (l.map fun d=>D.str (tx d))]) (r:=s.length) (c:=32) (sep:=[]) (ws:=l.map tx) (by rw[bV];simp[Function.comp_def]) (by have:=aj1 h hl;unfold LIM;omega)
 tbr_iter [ac1,ai5,af8,G,z,F,mk,hj]
 exact zW (d:=.str _) (fun _=>rfl) (by nofun)
end
noncomputable def minO:Option Int->Option Int->Option Int
 | none,x=>x
 | some a,none=>some a
 | some a,some b=>if b<a then some b else some a
noncomputable def Dr.turn (x:Dr):Dr:=⟨x.b,x.l,x.a,x.t⟩
noncomputable def Mc.turn (m:Mc):Mc:=⟨m.L,m.R,m.en,m.bg,m.ds.map Dr.turn⟩
theorem qg {α β:Type}{f g:α->Option β}:∀ {l:List α},(∀ x∈l,f x=g x)->l.filterMap f=l.filterMap g
 | [],_=>rfl
 | a::l,h=>by rw[bS,bS,h a (au ..),qg fun x hx=>h x (ao _ hx)]
theorem br2 {S:Sto}{k:Nat}{l m:List D}(h:S[k]?=some (.lst l))(hl:l.length+m.length<=LIM):bh5 (.ref k) m S=.ok .non (S.set k (.lst (l++m))):=by
 simp only[bh5,h,hl,if_true]
noncomputable abbrev ai2:List Nat:=[108,101,116,116,101,114,115]
noncomputable abbrev qc:List Nat:=[114,111,111,109,115]
noncomputable abbrev zL:List Nat:=[98,101,103,105,110]
noncomputable abbrev tEnd:List Nat:=[101,110,100]
noncomputable abbrev tDoor:List Nat:=[100,111,111,114]
noncomputable def drR (x:Dr):List D:=[.str tDoor,.int x.a,.str [x.l],.int x.b,.int x.t]
noncomputable def zf (m:Mc):List (List D):=[[.str ai2,.int m.L],[.str qc,.int m.R],.str zL::zg m.bg,.str tEnd::zg m.en]++m.ds.map drR
noncomputable def qp (m:Mc):List Nat:=zX [10] ((zf m).map qe)
theorem aj8 {l:List Nat}{k:Nat}(h:(∀ i∈l,i<k)/\l.Pairwise (· < ·))(hk:k<=5):l.length<=5:=by
 have nd:l.Nodup:=h.2.imp (fun h=>aw h)
 have:=dU (l₂:=aS k) nd (fun x hx=>bQ.mpr (h.1 x hx))
 simp at this;omega
theorem aE1 {m:Mc}(z:m.Ok):∀ r∈zf m,(∀ d∈r,Wd d)/\r.length<=20:=fun r hr=>by
 have F:=z.R5
 have Y:=z.L3
 have y:∀ k:Nat,k<=9->Wd (.int (k:Int)):=fun k hk=>.inl ⟨k,hk,rfl⟩
 have C:∀ w:List Nat,w.length<=10->Wd (.str w):=fun w hw=>.inr ⟨w,rfl,hw⟩
 have G:∀ {l:List Nat} {k:Nat},(∀ i∈l,i<k)/\l.Pairwise (· < ·)->k<=5->∀ t:List Nat,t.length<=10->(∀ d∈D.str t::zg l,Wd d)/\(D.str t::zg l).length<=20:=fun {l k} h hk t ht=>by
  refine⟨fun d hd=>?_,?_⟩
  ·rcases az.mp hd with rfl|hd
   ·exact C t ht
   ·obtain⟨i,J,rfl⟩:=aE.mp hd
    have:=h.1 i J
    exact y i (by omega)
  ·have:=aj8 h hk
   unfold zg
   simp only[aL,ar]
   omega
 unfold zf at hr
 rcases bw.mp hr with hr|hr
 ·simp only[az,aM,or_false]at hr
  rcases hr with rfl|rfl|rfl|rfl
  ·refine⟨fun d hd=>?_,by simp⟩
   simp only[az,aM,or_false]at hd
   rcases hd with rfl|rfl
   ·exact C _ (by decide)
   ·exact y _ (by omega)
  ·refine⟨fun d hd=>?_,by simp⟩
   simp only[az,aM,or_false]at hd
   rcases hd with rfl|rfl
   ·exact C _ (by decide)
   ·exact y _ (by omega)
  ·exact G z.bg F _ (by decide)
  ·exact G z.en F _ (by decide)
 ·obtain⟨x,hx,rfl⟩:=aE.mp hr
  have hx:=z.ds.1 x hx
  have:=hx.a
  have:=hx.b
  have:=hx.t
  refine⟨fun d hd=>?_,by simp[drR]⟩
  simp only[drR,az,aM,or_false]at hd
  rcases hd with rfl|rfl|rfl|rfl|rfl
  ·exact C _ (by decide)
  ·exact y _ (by omega)
  ·exact C _ (by simp)
  ·exact y _ (by omega)
  ·exact y _ (by omega)
theorem ar1 {m:Mc}(h:m.Ok):(zf m).length<=79:=by
 have:=h.ds.2
 unfold zf
 simp only[aD,aL,cx,ar]
 omega
theorem ar0 {m:Mc}(z:m.Ok):(((zf m).map qe).map fun(w:List Nat)=>w.length+([10]:List Nat).length).sum<=20000:=by
 have h:=az8 (ws:=(zf m).map qe) (k:=1) (B:=221) (fun w hw=>by
  obtain⟨r,hr,rfl⟩:=aE.mp hw
  obtain⟨C,y⟩:=aE1 z r hr
  have:=aj2 [32] (r.map tx)
  have:=aj1 C y
  show(zX [32] (r.map tx)).length+1<=221
  omega)
 rw[ar]at h
 have y:=ar1 z
 have F:(zf m).length*221<=79*221:=gM _ y
 exact aj h (by omega)
theorem bO4 {a b:List D}{s:Sto}(h:a.length+b.length<=LIM):qi .add (.tup a) (.tup b) s=.ok (.tup (a++b)) s:=by
 show(if a.length+b.length<=LIM then pur (.tup (a++b))else bad:M D) s=_
 rw[if_pos h];rfl
theorem bz5 {s:Sto}{o p:O}:(s++[o]).set s.length p=s++[p]:=by rw[dL _ _ (am _)];simp
theorem zR {s:Sto}{o:O}:(s++[o])[s.length]?=some o:=by simp
section
variable {P:Pr} [Has P ac1] [Has P ab5] [HasC P "LETTERS" (.tup ap9)] [Has P ac5] [Has P ac0] [Has P ad1] [Has P ac6] [Has P ab0]
theorem al9 (n:Nat){m:Mc}(z:m.Ok)(s:Sto):(aa1 P (n+2)).call "machine_text" [m.d] s=.ok (.str (qp m)) s:=by
 have e0:(aa1 P (n+2)).call "machine_text" [m.d] s=_:=zd ab0 (n:=n+1) rfl
 rw[e0,show(c7 some [m.d]++aA ab0.vs none)=[some m.d,none]from rfl]
 have a5:=z.L3
 have hL:∀ S,(aa1 P (n+1)).call "letters_of" [m.d] S=.ok (.tup (ap9.take m.L)) S:=fun S=>aN4 (P:=P) n a5 _ S
 have hR:∀ S,(aa1 P (n+1)).call "rooms_of" [m.d] S=.ok (.int m.R) S:=aA1 (P:=P) n m
 have hB:∀ S,(aa1 P (n+1)).call "begins_of" [m.d] S=.ok (.tup (zg m.bg)) S:=at7 (P:=P) n m
 have hE:∀ S,(aa1 P (n+1)).call "ends_of" [m.d] S=.ok (.tup (zg m.en)) S:=aM6 (P:=P) n m
 have hD:∀ S,(aa1 P (n+1)).call "doors_of" [m.d] S=.ok (.tup (m.ds.map Dr.d)) S:=aB5 (P:=P) n m
 have J:∀ S,bi .len [.tup (ap9.take m.L)] S=.ok (.int m.L) S:=fun S=>by
  rw[bo5,bu]
  rw[show min m.L ap9.length=m.L by show min m.L 3=m.L;omega]
 have lb:=aj8 z.bg z.R5
 have le:=aj8 z.en z.R5
 have nl:∀ l:List Nat,(zg l).length=l.length:=fun l=>by unfold zg;rw[ar]
 have a1:∀ S,qi .add (.tup [.str zL]) (.tup (zg m.bg)) S=.ok (.tup (.str zL::zg m.bg)) S:=fun S=>bO4 (by rw[nl];unfold LIM;simp;omega)
 have a2:∀ S,qi .add (.tup [.str tEnd]) (.tup (zg m.en)) S=.ok (.tup (.str tEnd::zg m.en)) S:=fun S=>bO4 (by rw[nl];unfold LIM;simp;omega)
 have sD:∀ S,ah8 (.tup (m.ds.map Dr.d)) S=.ok ⟨m.ds.map Dr.d,[]⟩ S:=fun _=>rfl
 have b0:=z.ds.2
 have a7:(m.ds.map Dr.d).length<=LIM:=by rw[ar];unfold LIM;omega
 let C:List D:=[.tup [.str ai2,.int m.L],.tup [.str qc,.int m.R],.tup (.str zL::zg m.bg),.tup (.str tEnd::zg m.en)]
 obtain⟨ρ3,s3,e3,Z,_⟩:=zS (ok:=fun G=>chk (s++[.lst C]) G []) (g:=zv (aa1 P (n+1)) (.one 0) (.bin .add (.tup (.cons (.cst (.str tDoor)) .nil)) (.var 0))) (fun ρ u=>u=s++[.lst C]/\∃ x,ρ=[x]) (fun d=>match d with|.tup l=>some (.tup (.str tDoor::l))|_=>none) (m.ds.map Dr.d) (zN [some m.d,some (.ref s.length)] [none]) (s++[.lst C]) ⟨rfl,none,rfl⟩ (fun _ _ _=>rfl) (by
  rintro d hd ρ u ⟨rfl,x,rfl⟩
  obtain⟨y,hy,rfl⟩:=aE.mp hd
  refine⟨[some y.d],s++[.lst C],?_,rfl,_,rfl⟩
  have ha:=bO4 (a:=[.str tDoor]) (b:=[.int y.a,.str [y.l],.int y.b,.int y.t]) (s:=s++[.lst C]) (by unfold LIM;simp)
  have a8:y.d=.tup [.int y.a,.str [y.l],.int y.b,.int y.t]:=rfl
  unfold zv
  rw[a8]
  tbr_iter [ha]
  rfl)
 have a4:(m.ds.map Dr.d).filterMap (fun d=>match d with|.tup l=>some (.tup (.str tDoor::l))|_=>none)=m.ds.map fun x=>D.tup (drR x):=by
  rw[ci,<-b9]
  rfl
 rw[Z,a4]at e3
 have hx:=br2 (S:=s++[.lst C]) (k:=s.length) (l:=C) (m:=m.ds.map fun x=>D.tup (drR x)) zR (by rw[ar];unfold LIM;show 4+_<=_;omega)
 rw[bz5]at hx
 have F:C++m.ds.map (fun x=>D.tup (drR x))=(zf m).map D.tup:=by
  unfold zf
  rw[bM,bV];rfl
 rw[F]at hx
 have sR:ah8 (.ref s.length) (s++[.lst ((zf m).map D.tup)])=.ok ⟨(zf m).map D.tup,[s.length]⟩ (s++[.lst ((zf m).map D.tup)]):=by simp only[ah8,zR]
 obtain⟨ρ4,s4,e4,a0,_⟩:=zS (ok:=fun G=>chk (s++[.lst ((zf m).map D.tup)]) G [s.length]) (g:=zv (aa1 P (n+1)) (.one 0) (.call "row_text" (.ex (.var 0) .nil))) (fun ρ u=>u=s++[.lst ((zf m).map D.tup)]/\∃ x,ρ=[x]) (fun d=>match d with|.tup l=>some (.str (qe l))|_=>none) ((zf m).map D.tup) (zN [some m.d,some (.ref s.length)] [none]) (s++[.lst ((zf m).map D.tup)]) ⟨rfl,none,rfl⟩ (fun _ _ h=>by rw[h.1];simp[chk]) (by
  rintro d hd ρ u ⟨rfl,x,rfl⟩
  obtain⟨r,hr,rfl⟩:=aE.mp hd
  obtain⟨h1,h2⟩:=aE1 z r hr
  refine⟨[some (.tup r)],s++[.lst ((zf m).map D.tup)],?_,rfl,_,rfl⟩
  have a9:=aB1 (P:=P) n h1 h2 (s++[.lst ((zf m).map D.tup)])
  unfold zv
  tbr_iter [a9])
 have Y:((zf m).map D.tup).filterMap (fun d=>match d with|.tup l=>some (.str (qe l))|_=>none)=((zf m).map qe).map D.str:=by
  rw[ci,bV,<-b9]
  rfl
 rw[a0,Y]at e4
 have a6:((zf m).map D.tup).length<=LIM:=by rw[ar];have:=ar1 z;unfold LIM;omega
 have hj:=aq1 (s:=s++[.lst ((zf m).map D.tup)]++[.lst (((zf m).map qe).map D.str)]) (r:=(s++[O.lst ((zf m).map D.tup)]).length) (c:=10) (sep:=[]) (ws:=(zf m).map qe) zR (by have:=ar0 z;unfold LIM;omega)
 have a3:(s++[O.lst [D.tup [.str ai2,.int m.L],.tup [.str qc,.int m.R],.tup (.str zL::zg m.bg),.tup (.str tEnd::zg m.en)]])=s++[.lst C]:=rfl
 tbr_iter [ab0,hL,J,hR,hB,a1,hE,a2,a3,bE7,af8,hD,sD,a7,e3,hx,ai5,sR,a6,e4,mk,hj]
 rw[aR]
 exact zW (d:=.str _) (fun _=>rfl) (by nofun)
end
noncomputable def bN9:Ss:=(.cons (.ex (.meth .append (.var 6) (.cons (.join (.cst (.str [32])) (.bin .add (.lst (.cons (.var 7) .nil)) (.mk .list (.comp (.one 0) (.seq (.var 8)) (.bi .str (.cons (.var 0) .nil)) [none])))) .nil))) .nil)
noncomputable def bQ2:Ss:=(.cons (.ex (.meth .append (.var 6) (.cons (.bin .add (.bin .add (.bin .add (.bin .add (.bin .add (.bin .add (.bin .add (.cst (.str [100,111,111,114,32])) (.bi .str (.cons (.var 9) .nil))) (.cst (.str [32]))) (.var 10)) (.cst (.str [32]))) (.bi .str (.cons (.var 11) .nil))) (.cst (.str [32]))) (.bi .str (.cons (.var 12) .nil))) .nil))) .nil)
theorem bl5:ab9.body=(.cons (.asg (.tup [1,2,3,4,5]) (.var 0)) (.cons (.asg (.one 6) (.lst (.cons (.bin .add (.cst (.str [108,101,116,116,101,114,115,32])) (.bi .str (.cons (.var 1) .nil))) (.cons (.bin .add (.cst (.str [114,111,111,109,115,32])) (.bi .str (.cons (.var 2) .nil))) .nil)))) (.cons (.for_ (.tup [7,8]) (.seq (.lst (.cons (.tup (.cons (.cst (.str [98,101,103,105,110])) (.cons (.var 3) .nil))) (.cons (.tup (.cons (.cst (.str [101,110,100])) (.cons (.var 4) .nil))) .nil)))) bN9) (.cons (.for_ (.tup [9,10,11,12]) (.seq (.var 5)) bQ2) (.cons (.ret (.join (.cst (.str [10])) (.var 6))) .nil))))):=rfl
noncomputable def aC9 (x:Dr):List Nat:=[100,111,111,114,32,48+x.a,32,x.l,32,48+x.b,32,48+x.t]
theorem bx5 {s:Sto}{a b:Nat}{l m:List D}(z:s[a]?=some (.lst l))(y:s[b]?=some (.lst m))(h:l.length+m.length<=LIM):qi .add (.ref a) (.ref b) s=.ok (.ref s.length) (s++[.lst (l++m)]):=by
 show(match s[a]?,s[b]? with|some (.lst l),some (.lst m)=>(if l.length+m.length<=LIM then ac9 (.lst (l++m)) s else .bad)|_,_=>.bad:R D)=_
 rw[z,y]
 exact if_pos h
theorem aR1 (F:Fns){u:Sto}{k:Nat}{ws:List (List Nat)}(hk:u[k]?=some (.lst (ws.map D.str)))(a5:ws.length<=1000){w l:List Nat}(hw:w.length<=10)(hl:l.length<=10)(hf:∀ i∈l,i<=9)(x0 x1 x2 x3 x4 x5 x7 x8 x9 h z y:Option D) :
  ∃ T,turn F (.tup [7,8]) bN9 (.tup [.str w,.tup (zg l)]) [x0,x1,x2,x3,x4,x5,some (.ref k),x7,x8,x9,h,z,y] u=.ok (.next [x0,x1,x2,x3,x4,x5,some (.ref k),some (.str w),some (.tup (zg l)),x9,h,z,y]) ((u++T).set k (.lst ((ws++[qe (.str w::zg l)]).map D.str))):=by
 have a4:k<u.length:=(ag.mp hk).1
 have sT:∀ S,ah8 (.tup (zg l)) S=.ok ⟨zg l,[]⟩ S:=fun _=>rfl
 have nl:(zg l).length=l.length:=by unfold zg;rw[ar]
 have a1:(zg l).length<=LIM:=by rw[nl];unfold LIM;omega
 have C:∀ d∈zg l,Wd d:=fun d hd=>by
  obtain⟨i,hi,rfl⟩:=aE.mp hd
  exact .inl ⟨i,hf i hi,rfl⟩
 obtain⟨ρ3,s3,e3,a2,_⟩:=zS (ok:=fun a0=>chk (u++[.lst [.str w]]) a0 []) (g:=zv F (.one 0) (.bi .str (.cons (.var 0) .nil))) (fun ρ v=>v=u++[.lst [.str w]]/\∃ x,ρ=[x]) (fun d=>some (.str (tx d))) (zg l) (zN [x0,x1,x2,x3,x4,x5,some (.ref k),some (.str w),some (.tup (zg l)),x9,h,z,y] [none]) (u++[.lst [.str w]]) ⟨rfl,none,rfl⟩ (fun _ _ _=>rfl) (by
  rintro d hd ρ v ⟨rfl,x,rfl⟩
  refine⟨[some d],u++[.lst [.str w]],?_,rfl,_,rfl⟩
  have hb:=aj7 (C d hd) (u++[.lst [.str w]])
  unfold zv
  tbr_iter [hb])
 rw[a2,b9]at e3
 have ha:=bx5 (s:=u++[.lst [.str w]]++[.lst ((zg l).map fun d=>D.str (tx d))]) (a:=u.length) (b:=(u++[O.lst [D.str w]]).length) (l:=[.str w]) (m:=(zg l).map fun d=>D.str (tx d)) (zt zR) zR (by rw[ar,nl];unfold LIM;simp;omega)
 have G:∀ d∈D.str w::zg l,Wd d:=fun d hd=>by
  rcases az.mp hd with rfl|hd
  ·exact .inr ⟨w,rfl,hw⟩
  ·exact C d hd
 have Z:[D.str w]++(zg l).map (fun d=>D.str (tx d))=((D.str w::zg l).map tx).map D.str:=by rw[bV,aB];rfl
 rw[Z]at ha
 have a3:=aj1 G (by rw[aL,nl];omega)
 have hj:=aq1 (s:=u++[.lst [.str w]]++[.lst ((zg l).map fun d=>D.str (tx d))]++[.lst (((D.str w::zg l).map tx).map D.str)]) (r:=(u++[O.lst [D.str w]]++[O.lst ((zg l).map fun d=>D.str (tx d))]).length) (c:=32) (sep:=[]) (ws:=(D.str w::zg l).map tx) zR (by unfold LIM;omega)
 have Y:=qu (s:=u++[.lst [.str w]]++[.lst ((zg l).map fun d=>D.str (tx d))]++[.lst (((D.str w::zg l).map tx).map D.str)]) (r:=k) (l:=ws.map D.str) (v:=.str (zX [32] ((D.str w::zg l).map tx))) (zt (zt (zt hk))) (by rw[ar];unfold LIM;omega)
 refine⟨[.lst [.str w]]++[.lst ((zg l).map fun d=>D.str (tx d))]++[.lst (((D.str w::zg l).map tx).map D.str)],?_⟩
 have J:ws.map D.str++[D.str (zX [32] ((D.str w::zg l).map tx))]=(ws++[qe (.str w::zg l)]).map D.str:=by rw[bM];rfl
 rw[J]at Y
 unfold turn bN9
 tbr_iter [ai5,af8,sT,a1,e3,mk,ha,hj,Y]
 rw[aR,aR,aR]
theorem bo2 (F:Fns){u:Sto}{k:Nat}{ws:List (List Nat)}(hk:u[k]?=some (.lst (ws.map D.str)))(a0:ws.length<=1000){x:Dr}(ha:x.a<=9)(hb:x.b<=9)(ht:x.t<=9)(x0 x1 x2 x3 x4 Z x7 x8 x9 C J G:Option D) :
  turn F (.tup [9,10,11,12]) bQ2 x.d [x0,x1,x2,x3,x4,Z,some (.ref k),x7,x8,x9,C,J,G] u=.ok (.next [x0,x1,x2,x3,x4,Z,some (.ref k),x7,x8,some (.int x.a),some (.str [x.l]),some (.int x.b),some (.int x.t)]) (u.set k (.lst ((ws++[aC9 x]).map D.str))):=by
 have Y:x.d=.tup [.int x.a,.str [x.l],.int x.b,.int x.t]:=rfl
 have f1:=aj7 (.inl ⟨x.a,ha,rfl⟩) u
 have f2:=aj7 (.inl ⟨x.b,hb,rfl⟩) u
 have f3:=aj7 (.inl ⟨x.t,ht,rfl⟩) u
 have a1:=ad7 (a:=[100,111,111,114,32]) (b:=tx (.int x.a)) (s:=u) (by unfold LIM tx;simp)
 have a2:=ad7 (a:=[100,111,111,114,32]++tx (.int x.a)) (b:=[32]) (s:=u) (by unfold LIM tx;simp)
 have a3:=ad7 (a:=[100,111,111,114,32]++tx (.int x.a)++[32]) (b:=[x.l]) (s:=u) (by unfold LIM tx;simp)
 have a4:=ad7 (a:=[100,111,111,114,32]++tx (.int x.a)++[32]++[x.l]) (b:=[32]) (s:=u) (by unfold LIM tx;simp)
 have a5:=ad7 (a:=[100,111,111,114,32]++tx (.int x.a)++[32]++[x.l]++[32]) (b:=tx (.int x.b)) (s:=u) (by unfold LIM tx;simp)
 have a6:=ad7 (a:=[100,111,111,114,32]++tx (.int x.a)++[32]++[x.l]++[32]++tx (.int x.b)) (b:=[32]) (s:=u) (by unfold LIM tx;simp)
 have a7:=ad7 (a:=[100,111,111,114,32]++tx (.int x.a)++[32]++[x.l]++[32]++tx (.int x.b)++[32]) (b:=tx (.int x.t)) (s:=u) (by unfold LIM tx;simp)
 have z:[100,111,111,114,32]++tx (.int x.a)++[32]++[x.l]++[32]++tx (.int x.b)++[32]++tx (.int x.t)=aC9 x:=rfl
 rw[z]at a7
 have y:=qu (v:=.str (aC9 x)) hk (by rw[ar];unfold LIM;omega)
 have h:ws.map D.str++[D.str (aC9 x)]=(ws++[aC9 x]).map D.str:=by rw[bM];rfl
 rw[h]at y
 rw[Y]
 unfold turn bQ2
 tbr_iter [f1,f2,f3,a1,a2,a3,a4,a5,a6,a7,y]
section
variable {P:Pr} [Has P ab9]
theorem aU2 (n:Nat){m:Mc}(z:m.Ok)(s:Sto):(aa1 P (n+1)).call "_law_written" [m.d] s=.ok (.str (qp m)) s:=by
 have e0:(aa1 P (n+1)).call "_law_written" [m.d] s=_:=zd ab9 (n:=n) rfl
 rw[e0,bl5,show(c7 some [m.d]++aA ab9.vs none)=[some m.d,none,none,none,none,none,none,none,none,none,none,none,none]from rfl]
 have b4:m.d=.tup [.int m.L,.int m.R,.tup (zg m.bg),.tup (zg m.en),.tup (m.ds.map Dr.d)]:=rfl
 have h3:=z.L3
 have h5:=z.R5
 have f1:∀ S,bi .str [.int m.L] S=.ok (.str (tx (.int m.L))) S:=fun S=>aj7 (.inl ⟨m.L,by omega,rfl⟩) S
 have f2:∀ S,bi .str [.int m.R] S=.ok (.str (tx (.int m.R))) S:=fun S=>aj7 (.inl ⟨m.R,by omega,rfl⟩) S
 have a1:∀ S,qi .add (.str [108,101,116,116,101,114,115,32]) (.str (tx (.int m.L))) S=.ok (.str (qe [.str ai2,.int m.L])) S:=fun S=>ad7 (by unfold LIM tx;simp)
 have a2:∀ S,qi .add (.str [114,111,111,109,115,32]) (.str (tx (.int m.R))) S=.ok (.str (qe [.str qc,.int m.R])) S:=fun S=>ad7 (by unfold LIM tx;simp)
 let y:List (List Nat):=[qe [.str ai2,.int m.L],qe [.str qc,.int m.R]]
 let LT:List D:=[.tup [.str zL,.tup (zg m.bg)],.tup [.str tEnd,.tup (zg m.en)]]
 have a7:[D.str (qe [.str ai2,.int m.L]),.str (qe [.str qc,.int m.R])]=y.map D.str:=rfl
 have a9:[D.tup [.str zL,.tup (zg m.bg)],.tup [.str tEnd,.tup (zg m.en)]]=LT:=rfl
 have a3:ad4 [some m.d,none,none,none,none,none,none,none,none,none,none,none,none] (.tup [1,2,3,4,5]) m.d=some [some m.d,some (.int m.L),some (.int m.R),some (.tup (zg m.bg)),some (.tup (zg m.en)),some (.tup (m.ds.map Dr.d)),none,none,none,none,none,none,none]:=rfl
 have sq:ah8 (.ref (s++[O.lst (y.map D.str)]).length) (s++[O.lst (y.map D.str)]++[.lst LT])=.ok ⟨LT,[(s++[O.lst (y.map D.str)]).length]⟩ (s++[O.lst (y.map D.str)]++[.lst LT]):=by simp only[ah8,zR]
 tbr_iter [a3,f1,f2,a1,a2,a7,a9,sq]
 rw[R.bind_assoc]
 have lb:=aj8 z.bg z.R5
 have le:=aj8 z.en z.R5
 have Z:∀ {l:List Nat},((∀ i∈l,i<m.R)/\l.Pairwise (· < ·))->∀ i∈l,i<=9:=fun h i hi=>by have:=h.1 i hi;omega
 refine as3 (fun j ρ u=>∃(T:Sto) (Y x8:Option D),u=s++T/\u[s.length]?=some (.lst ((y++([qe (.str zL::zg m.bg),qe (.str tEnd::zg m.en)].take j)).map D.str))/\u[(s++[O.lst (y.map D.str)]).length]?=some (.lst LT)/\ρ=[some m.d,some (.int m.L),some (.int m.R),some (.tup (zg m.bg)),some (.tup (zg m.en)),some (.tup (m.ds.map Dr.d)),some (.ref s.length),Y,x8,none,none,none,none])
  ⟨[.lst (y.map D.str),.lst LT],_,_,by rw[aR];rfl,zt zR,zR,rfl⟩ (fun _ _ u _ h=>?_) ?_ ?_
 ·obtain⟨T,Y,x8,_,_,h,_⟩:=h
  show chk _ u _=true
  unfold chk
  rw[cM,iE,fx,h,zR]
  exact decide_eq_true rfl
 ·rintro j d ρ u hj ⟨T,Y,x8,rfl,hk,hq,rfl⟩
  have a5:s.length<(s++T).length:=(ag.mp hk).1
  have b1:(s++[O.lst (y.map D.str)]).length≠s.length:=by simp
  have fin:∀ {w l:List Nat} (G:Sto) {ws:List (List Nat)},ws=y++([qe (.str zL::zg m.bg),qe (.str tEnd::zg m.en)].take (j+1))->∀ a4 a6,∃(a8:Sto) (y7 y8:Option D),(s++T++G).set s.length (.lst (ws.map D.str))=s++a8/\((s++T++G).set s.length (.lst (ws.map D.str)))[s.length]?=some (.lst ((y++([qe (.str zL::zg m.bg),qe (.str tEnd::zg m.en)].take (j+1))).map D.str))/\((s++T++G).set s.length (.lst (ws.map D.str)))[(s++[O.lst (y.map D.str)]).length]?=some (.lst LT)/\[some m.d,some (.int m.L),some (.int m.R),some (.tup (zg m.bg)),some (.tup (zg m.en)),some (.tup (m.ds.map Dr.d)),some (.ref s.length),a4,a6,none,none,none,none]=[some m.d,some (.int m.L),some (.int m.R),some (.tup (zg m.bg)),some (.tup (zg m.en)),some (.tup (m.ds.map Dr.d)),some (.ref s.length),y7,y8,none,none,none,none]:=by
   intro w l G ws b0 a4 a6
   subst b0
   refine⟨(T++G).set 0 (.lst _),_,_,by rw[aR,dL _ _ (am _),iI],?_,?_,rfl⟩
   ·rw[aZ (by rw[aD];omega)]
   ·rw[bj (dw b1)];exact zt hq
  match j,hj with
  | 0,hj =>
   cases hj
   obtain⟨G,e⟩:=aR1 (aa1 P n) hk (by simp[y]) (w:=zL) (l:=m.bg) (by decide) (by omega) (Z z.bg) (some m.d) (some (.int m.L)) (some (.int m.R)) (some (.tup (zg m.bg))) (some (.tup (zg m.en))) (some (.tup (m.ds.map Dr.d))) Y x8 none none none none
   exact av4 e (fin (w:=[]) (l:=[]) G rfl _ _)
  | 1,hj =>
   cases hj
   obtain⟨G,e⟩:=aR1 (aa1 P n) hk (by simp[y]) (w:=tEnd) (l:=m.en) (by decide) (by omega) (Z z.en) (some m.d) (some (.int m.L)) (some (.int m.R)) (some (.tup (zg m.bg))) (some (.tup (zg m.en))) (some (.tup (m.ds.map Dr.d))) Y x8 none none none none
   exact av4 e (fin (w:=[]) (l:=[]) G rfl _ _)
  | j+2,hj=>cases hj
 rintro ρ u ⟨T,Y,x8,rfl,hk,hq,rfl⟩
 have hk:(s++T)[s.length]?=some (.lst (((zf m).take 4).map qe |>.map D.str)):=hk
 have sD:∀ S,ah8 (.tup (m.ds.map Dr.d)) S=.ok ⟨m.ds.map Dr.d,[]⟩ S:=fun _=>rfl
 tbr_iter [sD]
 rw[R.bind_assoc]
 have b3:=z.ds.2
 refine as3 (fun j ρ u=>∃(T:Sto) (x9 C J F:Option D),u=s++T/\u[s.length]?=some (.lst ((((zf m).take 4).map qe++(m.ds.take j).map aC9).map D.str))/\ρ=[some m.d,some (.int m.L),some (.int m.R),some (.tup (zg m.bg)),some (.tup (zg m.en)),some (.tup (m.ds.map Dr.d)),some (.ref s.length),Y,x8,x9,C,J,F])
  ⟨T,_,_,_,_,rfl,by rw[List.take_zero,cG,aW];exact hk,rfl⟩ (fun _ _ _ _ _=>rfl) ?_ ?_
 ·rintro j d ρ u hj ⟨T,x9,C,J,F,rfl,hk,rfl⟩
  obtain⟨x,hx,rfl⟩:∃ x,m.ds[j]?=some x/\d=x.d:=by
   rw[aG]at hj
   cases e:m.ds[j]? with
   | none=>rw[e]at hj;cases hj
   | some x=>rw[e]at hj;cases hj;exact⟨x,rfl,rfl⟩
  have b5:j<m.ds.length:=(ag.mp hx).1
  have hok:=z.ds.1 x (aN hx)
  have:=hok.a
  have:=hok.b
  have:=hok.t
  have b2:m.ds.take (j+1)=m.ds.take j++[x]:=by
   have q:m.ds[j]=x:=(ag.mp hx).2
   rw[<-q,fz]
  have a5:s.length<(s++T).length:=(ag.mp hk).1
  have e:=bo2 (aa1 P n) hk (by rw[aD,ar,ar,bu,bu];omega) (x:=x) (by omega) (by omega) (by omega) (some m.d) (some (.int m.L)) (some (.int m.R)) (some (.tup (zg m.bg))) (some (.tup (zg m.en))) (some (.tup (m.ds.map Dr.d))) Y x8 x9 C J F
  refine av4 e ⟨T.set 0 (.lst _),_,_,_,_,by rw[dL _ _ (am _),iI],?_,rfl⟩
  rw[aZ a5,b2]
  simp
 ·rintro ρ u ⟨T,x9,C,J,F,rfl,hk,rfl⟩
  rw[ar,iY]at hk
  have a0:((zf m).take 4).map qe++m.ds.map aC9=(zf m).map qe:=by
   have h4:(zf m).take 4=[[.str ai2,.int m.L],[.str qc,.int m.R],.str zL::zg m.bg,.str tEnd::zg m.en]:=rfl
   rw[h4]
   unfold zf
   rw[bM,bV]
   rfl
  rw[a0]at hk
  have hj:=aq1 (c:=10) (sep:=[]) hk (by have:=ar0 z;unfold LIM;omega)
  tbr_iter [ai5,hj]
  exact zW (d:=.str _) (fun _=>rfl) (by nofun)
end
theorem bD1 (m:Mc)(z:m.Ok)(s:Sto):fit s 75 3 m.d:=by
 have C:∀ l:List Nat,(∀ k∈l,k<m.R)/\l.Pairwise (· < ·)->l.length<=75:=fun l h=>by
  have nd:l.Nodup:=h.2.imp (fun h=>aw h)
  have:=dU (l₂:=aS m.R) nd (fun x hx=>bQ.mpr (h.1 x hx))
  have F:=z.R5
  simp at this;omega
 have fn:∀ l:List Nat,l.length<=75->fit s 75 2 (.tup (zg l)):=fun l h=>⟨by unfold zg;simpa using h,fun x hx=>by
  obtain⟨k,_,rfl⟩:=aE.mp hx
  exact ai6 trivial (by nofun)⟩
 refine⟨by simp[Mc.ps],fun x hx=>?_⟩
 simp only[Mc.ps,az,aM,or_false]at hx
 rcases hx with rfl|rfl|rfl|rfl|rfl
 ·exact ai6 trivial (by nofun)
 ·exact ai6 trivial (by nofun)
 ·exact fn _ (C _ z.bg)
 ·exact fn _ (C _ z.en)
 ·refine⟨by simpa using z.ds.2,fun x hx=>?_⟩
  obtain⟨k,_,rfl⟩:=aE.mp hx
  refine ba2 (by simp) fun y hy=>?_
  simp only[az,aM,or_false]at hy
  rcases hy with rfl|rfl|rfl|rfl<;>exact⟨trivial,by nofun⟩
noncomputable abbrev qk:List D:=[.str ai2,.str qc,.str zL,.str tEnd]
noncomputable abbrev bv8:List D:=[.str [48],.str [49],.str [50],.str [51],.str [52],.str [53],.str [54],.str [55],.str [56],.str [57]]
theorem ten {k:Nat}(h:k<=9):k=0\/k=1\/k=2\/k=3\/k=4\/k=5\/k=6\/k=7\/k=8\/k=9:=by omega
theorem ev_slL' {F:Fns}{ρ:Env}{s:Sto}(a h:E):ev F (.slL a h) ρ s=(ev F a ρ s).bind fun x s=>(ev F h ρ s).bind fun y s=>match y with|.int i=>slM x (some i) none s|_=>.bad:=rfl
theorem aF8 {F:Fns}{ρ:Env}{s:Sto}(a h:E):ev F (.slU a h) ρ s=(ev F a ρ s).bind fun x s=>(ev F h ρ s).bind fun y s=>match y with|.int i=>slM x none (some i) s|_=>.bad:=rfl
theorem aX2 (s:Sto)(a:List Nat):zV .ne (.str a) (.str a) s=.ok (.bl false) s:=by
 show R.ok (D.bl (!(a==a))) s=_
 simp
section
variable {P:Pr} [HasC P "FIGURES" (.tup bv8)] [HasC P "HEADS" (.tup qk)] [Has P aa8] [Has P aa9] [Has P aa6] [Has P ab6]
theorem aW0 (n:Nat)(ρ:Env)(s:Sto):ev (aa1 P n) (.glob "FIGURES") ρ s=.ok (.tup bv8) s:=by
 show(match(aa1 P n).con "FIGURES" with|some d=>R.ok d s|none=>.bad)=_
 rw[aD9 (v:=.tup bv8)]
theorem aM2 (n:Nat)(ρ:Env)(s:Sto):ev (aa1 P n) (.glob "HEADS") ρ s=.ok (.tup qk) s:=by
 show(match(aa1 P n).con "HEADS" with|some d=>R.ok d s|none=>.bad)=_
 rw[aD9 (v:=.tup qk)]
theorem qm (n:Nat){k:Nat}(hk:k<=9)(s:Sto):(aa1 P (n+1)).call "read_figure" [.str [48+k]] s=.ok (.int (k:Int)) s:=by
 have F:(aa1 P (n+1)).call "read_figure" [.str [48+k]] s=_:=zd aa8 (n:=n) rfl
 rw[F,show(c7 some [D.str [48+k]]++aA aa8.vs none)=[some (.str [48+k])]from rfl]
 have z:zV .notin (.str [48+k]) (.tup bv8) s=.ok (.bl false) s:=by
  rcases ten hk with h|h|h|h|h|h|h|h|h|h<;>subst h<;>rfl
 have y:bi .int [.str [48+k]] s=.ok (.int (k:Int)) s:=by
  rcases ten hk with h|h|h|h|h|h|h|h|h|h<;>subst h<;>rfl
 have C:=fun ρ S=>aW0 (P:=P) n ρ S
 tbr_iter [aa8,C,z,y]
 exact aw8
theorem ax5 (n:Nat){s:Sto}{a k:Nat}{w:List Nat}(hk:k<=9)(h:s[a]?=some (.lst [.str w,.str [48+k]])):(aa1 P (n+2)).call "read_number" [.ref a] s=.ok (.int (k:Int)) s:=by
 have F:(aa1 P (n+2)).call "read_number" [.ref a] s=_:=zd aa9 (n:=n+1) rfl
 rw[F,show(c7 some [D.ref a]++aA aa9.vs none)=[some (.ref a)]from rfl]
 have hl:=aP7 h
 have y:bi .len [.ref a] s=.ok (.int 2) s:=hl
 have z:ixM (.ref a) (.int 1) s=.ok (.str [48+k]) s:=ql (j:=1) h rfl
 have hf:=qm (P:=P) n hk s
 have C:decide ((2:Int)=2)=true:=rfl
 tbr_iter [aa9,y,C,z,hf]
 exact aw8
theorem ao4 (n:Nat){s:Sto}{a:Nat}{t:D}{l:List Nat}(hf:∀ i∈l,i<=9)(hl:l.length<=10)(h:s[a]?=some (.lst (t::l.map fun i=>.str [48+i]))):(aa1 P (n+2)).call "read_numbers" [.ref a] s=.ok (.tup (zg l)) s:=by
 have Z:(aa1 P (n+2)).call "read_numbers" [.ref a] s=_:=zd aa6 (n:=n+1) rfl
 rw[Z,show(c7 some [D.ref a]++aA aa6.vs none)=[some (.ref a)]from rfl]
 have G:slM (.ref a) (some 1) none s=.ok (.ref s.length) (s++[.lst (l.map fun i=>D.str [48+i])]):=by
  unfold slM
  simp only[h,alloc_eq,bV2,List.drop_succ_cons,dG]
 have sq:ah8 (.ref s.length) (s++[.lst (l.map fun i=>D.str [48+i])])=.ok ⟨l.map fun i=>D.str [48+i],[s.length]⟩ (s++[.lst (l.map fun i=>D.str [48+i])]):=by simp only[ah8,zR]
 have z:(l.map fun i=>D.str [48+i]).length<=LIM:=by rw[ar];unfold LIM;omega
 obtain⟨ρ3,s3,J,C,_⟩:=zS (ok:=fun y=>chk (s++[.lst (l.map fun i=>D.str [48+i])]) y [s.length]) (g:=zv (aa1 P (n+1)) (.one 0) (.call "read_figure" (.ex (.var 0) .nil))) (fun ρ u=>u=s++[.lst (l.map fun i=>D.str [48+i])]/\∃ x,ρ=[x]) (fun d=>match d with|.str [c]=>some (.int ((c - 48:Nat):Int))|_=>none) (l.map fun i=>D.str [48+i]) (zN [some (.ref a)] [none]) (s++[.lst (l.map fun i=>D.str [48+i])]) ⟨rfl,none,rfl⟩ (fun _ _ h=>by rw[h.1];simp[chk]) (by
  rintro d hd ρ u ⟨rfl,x,rfl⟩
  obtain⟨i,Y,rfl⟩:=aE.mp hd
  refine⟨[some (.str [48+i])],s++[.lst (l.map fun i=>D.str [48+i])],?_,rfl,_,rfl⟩
  have hg:=qm (P:=P) n (hf i Y) (s++[.lst (l.map fun i=>D.str [48+i])])
  unfold zv
  tbr_iter [hg]
  show R.ok (some (D.int (i:Int)),_) _=R.ok (some (D.int ((48+i - 48:Nat):Int)),_) _
  rw[show 48+i - 48=i by omega])
 have F:(l.map fun i=>D.str [48+i]).filterMap (fun d=>match d with|.str [c]=>some (D.int ((c - 48:Nat):Int))|_=>none)=zg l:=by
  unfold zg
  rw[ci,<-b9]
  refine qg fun i _=>?_
  show some (D.int ((48+i - 48:Nat):Int))=some (D.int (i:Int))
  rw[show 48+i - 48=i by omega]
 rw[C,F]at J
 tbr_iter [aa6,af8,ev_slL',G,sq,z,J,mk]
 exact zW (d:=.tup (zg l)) (fun m=>by unfold D.bnd;exact zZ ag4 m) (by nofun)
theorem bs7 (n:Nat){s:Sto}{a:Nat}{x:Dr}(ha:x.a<=9)(hb:x.b<=9)(ht:x.t<=9)(h:s[a]?=some (.lst [.str tDoor,.str [48+x.a],.str [x.l],.str [48+x.b],.str [48+x.t]])):(aa1 P (n+2)).call "read_door" [.ref a] s=.ok x.d s:=by
 have J:(aa1 P (n+2)).call "read_door" [.ref a] s=_:=zd ab6 (n:=n+1) rfl
 rw[J,show(c7 some [D.ref a]++aA ab6.vs none)=[some (.ref a)]from rfl]
 have y:bi .len [.ref a] s=.ok (.int 5) s:=aP7 h
 have Z:decide ((5:Int)=5)=true:=rfl
 have G:ixM (.ref a) (.int 0) s=.ok (.str tDoor) s:=ql (j:=0) h rfl
 have i1:ixM (.ref a) (.int 1) s=.ok (.str [48+x.a]) s:=ql (j:=1) h rfl
 have C:ixM (.ref a) (.int 2) s=.ok (.str [x.l]) s:=ql (j:=2) h rfl
 have F:ixM (.ref a) (.int 3) s=.ok (.str [48+x.b]) s:=ql (j:=3) h rfl
 have z:ixM (.ref a) (.int 4) s=.ok (.str [48+x.t]) s:=ql (j:=4) h rfl
 have Y:=qm (P:=P) n ha s
 have f2:=qm (P:=P) n hb s
 have f3:=qm (P:=P) n ht s
 have ne:=aX2 s tDoor
 tbr_iter [ab6,y,Z,G,i1,C,F,z,Y,f2,f3,ne]
 exact zn (d:=x.d) (fun _=>rfl) (by nofun)
end
theorem aF2 (F:Fns){ok:Sto->Bool}:∀(ws:List (List Nat)) (x:Option D) (S:Sto),(∀ T,ok (S++T)=true)->(∀ w∈ws,w.length+2<=LIM) ->
  qd ok (zv F (.one 0) (.spl (.var 0) 32)) (ws.map D.str) [x] S=.ok ((aS ws.length).map fun i=>D.ref (S.length+i)) (S++ws.map fun w=>O.lst ((zE 32 w).map D.str))
 | [],x,S,ho,_=>by
  have h0:=ho []
  rw[aW]at h0
  show(if ok S then R.ok [] S else .bad)=_
  rw[if_pos h0]
  simp
 | w::ws,x,S,ho,hl=>by
  have h0:=ho []
  rw[aW]at h0
  have z:=aF2 F (ok:=ok) ws (some (.str w)) (S++[.lst ((zE 32 w).map D.str)]) (fun T=>by rw[aR];exact ho _) fun y hy=>hl y (ao _ hy)
  have hg:zv F (.one 0) (.spl (.var 0) 32) (.str w) [x] S=.ok (some (.ref S.length),[some (.str w)]) (S++[.lst ((zE 32 w).map D.str)]):=by
   have h:bk7 32 (.str w) S=.ok (.ref S.length) (S++[.lst ((zE 32 w).map D.str)]):=by
    show(if w.length+2<=LIM then ac9 (.lst ((zE 32 w).map D.str)) S else .bad)=_
    rw[if_pos (hl w (au ..))];rfl
   unfold zv
   tbr_iter [bj3,h]
  show(if ok S then(zv F (.one 0) (.spl (.var 0) 32) (.str w) [x] S).bind fun p s=>(qd ok (zv F (.one 0) (.spl (.var 0) 32)) (ws.map D.str) p.2 s).bind fun r s=>R.ok (match p.1 with|some v=>v::r|none=>r) s else .bad)=_
  rw[if_pos h0,hg]
  simp only[R.bind_ok]
  rw[z]
  simp only[R.bind_ok,aD,aL,cx,f6,aB,bV,iG,aR,dJ]
  congr 2
  refine eA fun i _=>?_
  show D.ref _=D.ref _
  congr 1
  show S.length+(0+1)+i=S.length+(i+1)
  omega
theorem aV7 {α β:Type}(f:α->β)(l:List α):(aS l.length).filterMap (fun i=>(l[i]?).map f)=l.map f:=by
 apply fe
 intro i
 have:∀ n,n<=l.length->(aS n).filterMap (fun i=>(l[i]?).map f)=(l.take n).map f:=by
  intro n
  induction n with
  | zero=>intro _;simp
  | succ n ih =>
   intro h
   rw[jc,gx,ih (by omega)]
   have hn:n<l.length:=by omega
   rw[<-fz hn,bM]
   simp[hn]
 rw[this l.length (am _),iY]
theorem aT4 {m:Mc}(C:m.Ok):∀ r∈zf m,r≠[]/\∀ d∈r,∀ y∈tx d,48<=y:=fun r hr=>by
 have h:∀ k:Nat,∀ y∈tx (.int (k:Int)),48<=y:=fun k y hy=>by
  have hy:y∈[48+(k:Int).toNat]:=hy
  rw[bn.mp hy];omega
 have z:∀(l:List Nat) (t:List Nat),(∀ y∈t,48<=y)->∀ d∈D.str t::zg l,∀ y∈tx d,48<=y:=fun l t ht d hd=>by
  rcases az.mp hd with rfl|hd
  ·exact ht
  ·obtain⟨i,F,rfl⟩:=aE.mp hd
   exact h i
 unfold zf at hr
 rcases bw.mp hr with hr|hr
 ·simp only[az,aM,or_false]at hr
  rcases hr with rfl|rfl|rfl|rfl
  ·exact⟨by simp,z [m.L] ai2 (by decide)⟩
  ·exact⟨by simp,z [m.R] qc (by decide)⟩
  ·exact⟨by simp,z m.bg zL (by decide)⟩
  ·exact⟨by simp,z m.en tEnd (by decide)⟩
 ·obtain⟨x,hx,rfl⟩:=aE.mp hr
  have hl:=(C.ds.1 x hx).l
  refine⟨by simp[drR],fun d hd=>?_⟩
  simp only[drR,az,aM,or_false]at hd
  rcases hd with rfl|rfl|rfl|rfl|rfl
  ·show ∀ y∈tDoor,48<=y;decide
  ·exact h _
  ·intro y hy
   have hy:y∈[x.l]:=hy
   rw[bn.mp hy];omega
  ·exact h _
  ·exact h _
theorem br8 {m:Mc}(F:m.Ok){r:List D}(hr:r∈zf m):zE 32 (qe r)=r.map tx:=by
 obtain⟨C,h⟩:=aT4 F r hr
 refine as8 (by simpa using C) fun p y=>?_
 obtain⟨d,hd,rfl⟩:=aE.mp y
 intro z
 have:=h d hd 32 z
 omega
theorem be2 {m:Mc}(C:m.Ok):zE 10 (qp m)=(zf m).map qe:=by
 refine as8 (by unfold zf;simp) fun p y=>?_
 obtain⟨r,hr,rfl⟩:=aE.mp y
 obtain⟨F,h⟩:=aT4 C r hr
 refine ax6 (by decide) fun q hq=>?_
 obtain⟨d,hd,rfl⟩:=aE.mp hq
 intro z
 have:=h d hd 10 z
 omega
theorem bX0 {l:List D}{k:Nat}:ai0 l none (some (k:Int))=l.take (min k l.length):=by
 unfold ai0
 simp only[loB,hiB,sbd,eG,if_true,cA,dG,Nat.sub_zero]
theorem bY1 {l:List D}{k:Nat}:ai0 l (some (k:Int)) none=(l.drop (min k l.length)).take (l.length - min k l.length):=by
 unfold ai0
 simp only[loB,hiB,sbd,eG,if_true,cA]
section
variable {P:Pr} [HasC P "FIGURES" (.tup bv8)] [HasC P "HEADS" (.tup qk)] [Has P aa8] [Has P aa9] [Has P aa6] [Has P ab6] [Has P ab1]
 [Has P aa4] [Has P aa5] [Has P ab7] [Has P ab2] [Has P ab8] [Has P ab3] [Has P aa2] [Has P ab4] [HasC P "LETTERS" (.tup ap9)] [HasC P "MOST_TOLL" (.int 3)] [HasC P "MOST_DOORS" (.int 75)] [HasC P "MOST_ROOMS" (.int 5)]
theorem am7 (n:Nat){m:Mc}(C:m.Ok)(s:Sto):(aa1 P (n+6)).call "read_machine" [.str (qp m)] s=.ok m.d s:=by
 have e0:(aa1 P (n+6)).call "read_machine" [.str (qp m)] s=_:=zd ab1 (n:=n+5) rfl
 rw[e0,show(c7 some [D.str (qp m)]++aA ab1.vs none)=[some (.str (qp m)),none,none,none,none,none,none]from rfl]
 have k1:=C.ds.2
 have h3:=C.L3
 have h5:=C.R5
 have k2:=ar1 C
 have c4:(qp m).length+2<=LIM:=by
  have h1:=aj2 [10] ((zf m).map qe)
  have h2:=ar0 C
  show(zX [10] ((zf m).map qe)).length+2<=LIM
  unfold LIM
  omega
 have b2:bk7 10 (.str (qp m)) s=.ok (.ref s.length) (s++[.lst (((zf m).map qe).map D.str)]):=by
  show(if(qp m).length+2<=LIM then ac9 (.lst ((zE 10 (qp m)).map D.str)) s else .bad)=_
  rw[if_pos c4,be2 C];rfl
 generalize b6:((zf m).map qe).map D.str=T0 at b2
 have f2:ah8 (.ref s.length) (s++[.lst T0])=.ok ⟨T0,[s.length]⟩ (s++[.lst T0]):=by simp only[ah8,zR]
 have f4:T0.length<=LIM:=by rw[<-b6,ar,ar];unfold LIM;omega
 have c1:=aF2 (aa1 P (n+5)) (ok:=fun G=>chk (s++[.lst T0]) G [s.length]) ((zf m).map qe) none (s++[.lst T0]) (fun T=>by
  unfold chk
  rw[cM,iE,fx,zt zR,zR]
  exact decide_eq_true rfl) (fun w hw=>by
  obtain⟨r,hr,rfl⟩:=aE.mp hw
  obtain⟨g1,g2⟩:=aE1 C r hr
  have:=aj2 [32] (r.map tx)
  have:=aj1 g1 g2
  show(zX [32] (r.map tx)).length+2<=LIM
  unfold LIM;omega)
 rw[b6,ar]at c1
 have hW:((zf m).map qe).map (fun w=>O.lst ((zE 32 w).map D.str))=(zf m).map fun r=>O.lst ((r.map tx).map D.str):=by
  rw[bV]
  refine eA fun r hr=>?_
  show O.lst ((zE 32 (qe r)).map D.str)=_
  rw[br8 C hr]
 rw[hW]at c1
 have b1:zN [some (.str (qp m)),none,none,none,none,none,none] [none]=[none]:=rfl
 generalize J:(aS (zf m).length).map (fun i=>D.ref ((s++[O.lst T0]).length+i))=ar3 at c1
 generalize b3:s++[O.lst T0]++(zf m).map (fun r=>O.lst ((r.map tx).map D.str))=S1 at c1
 have a4:(s++[O.lst T0]).length=s.length+1:=by simp
 have gS:∀(i:Nat) r,(zf m)[i]?=some r->∀ T,(S1++T)[s.length+1+i]?=some (.lst ((r.map tx).map D.str)):=fun i r y T=>by
  refine zt ?_
  rw[<-b3,aU (by rw[a4];omega),a4,show s.length+1+i - (s.length+1)=i by omega,aG,y]
  rfl
 have f3:ar3.length=(zf m).length:=by rw[<-J];simp
 have Z:∀ i,i<(zf m).length->ar3[i]?=some (.ref (s.length+1+i)):=fun i y=>by
  rw[<-J,aG,c5 y,a4];rfl
 have k0:(zf m).length=m.ds.length+4:=by
  unfold zf
  simp only[aD,aL,cx,ar]
  omega
 have gh:=fun ρ S=>aM2 (P:=P) (n+5) ρ S
 have b5:∀ S,bi .len [.tup qk] S=.ok (.int 4) S:=fun _=>rfl
 let F:List D:=[.ref (s.length+1),.ref (s.length+2),.ref (s.length+3),.ref (s.length+4)]
 have g0:ai0 ar3 none (some (4:Int))=F:=by
  have:=bX0 (l:=ar3) (k:=4)
  rw[show((4:Nat):Int)=4 from rfl]at this
  rw[this,show min 4 ar3.length=4 by omega]
  apply fe
  intro i
  rw[dm]
  by_cases y:i<4
  ·rw[if_pos y,Z i (by omega)]
   have:i=0\/i=1\/i=2\/i=3:=by omega
   rcases this with rfl|rfl|rfl|rfl<;>rfl
  ·rw[if_neg y]
   have:F.length<=i:=by show 4<=i;omega
   rw[bU this]
 have a8:slM (.ref S1.length) none (some 4) (S1++[.lst ar3])=.ok (.ref (S1++[O.lst ar3]).length) (S1++[.lst ar3]++[.lst F]):=by
  unfold slM
  simp only[zR,alloc_eq,g0]
 generalize a5:S1++[O.lst ar3]++[O.lst F]=S3 at a8
 have a2:∀ T:Sto,S3++T=S1++([O.lst ar3]++([O.lst F]++T)):=fun T=>by rw[<-a5,aR,aR]
 have g3:∀(i:Nat) r,(zf m)[i]?=some r->∀ T,(S3++T)[s.length+1+i]?=some (.lst ((r.map tx).map D.str)):=fun i r y T=>by rw[a2];exact gS i r y _
 have gA:∀ T,(S3++T)[(S1++[O.lst ar3]).length]?=some (.lst F):=fun T=>zt (by rw[<-a5];exact zR)
 have gR:∀ T,(S3++T)[S1.length]?=some (.lst ar3):=fun T=>zt (by rw[<-a5];exact zt zR)
 generalize k3:(S1++[O.lst ar3]).length=q2 at a8 gA
 have f5:S3[q2]?=some (.lst F):=by have:=gA [];rwa [aW]at this
 have e5:ah8 (.ref q2) S3=.ok ⟨F,[q2]⟩ S3:=by simp only[ah8,f5]
 have r0:(zf m)[0]?=some [.str ai2,.int m.L]:=rfl
 have r1:(zf m)[1]?=some [.str qc,.int m.R]:=rfl
 have r2:(zf m)[2]?=some (.str zL::zg m.bg):=rfl
 have r3:(zf m)[3]?=some (.str tEnd::zg m.en):=rfl
 have g4:F.length<=LIM:=by show 4<=LIM;decide
 have hh:∀(i:Nat) r w,(zf m)[i]?=some r->r[0]?=some (.str w)->ixM (.ref (s.length+1+i)) (.int 0) S3=.ok (.str w) S3:=fun i r w y hw=>by
  have:=g3 i r y []
  rw[aW]at this
  exact ql (j:=0) this (by rw[aG,aG,hw];rfl)
 have t0:∀ x,zv (aa1 P (n+5)) (.one 0) (.ix (.var 0) (.cst (.int 0))) (.ref (s.length+1)) [x] S3=.ok (some (.str ai2),[some (.ref (s.length+1))]) S3:=fun x=>by
  have:=hh 0 _ _ r0 rfl
  unfold zv
  tbr_iter [this]
 have t1:∀ x,zv (aa1 P (n+5)) (.one 0) (.ix (.var 0) (.cst (.int 0))) (.ref (s.length+2)) [x] S3=.ok (some (.str qc),[some (.ref (s.length+2))]) S3:=fun x=>by
  have:=hh 1 _ _ r1 rfl
  unfold zv
  tbr_iter [this]
 have t2:∀ x,zv (aa1 P (n+5)) (.one 0) (.ix (.var 0) (.cst (.int 0))) (.ref (s.length+3)) [x] S3=.ok (some (.str zL),[some (.ref (s.length+3))]) S3:=fun x=>by
  have:=hh 2 _ _ r2 rfl
  unfold zv
  tbr_iter [this]
 have t3:∀ x,zv (aa1 P (n+5)) (.one 0) (.ix (.var 0) (.cst (.int 0))) (.ref (s.length+4)) [x] S3=.ok (some (.str tEnd),[some (.ref (s.length+4))]) S3:=fun x=>by
  have:=hh 3 _ _ r3 rfl
  unfold zv
  tbr_iter [this]
 have e1:chk S3 S3 [q2]=true:=by simp[chk]
 have c2:∀ x,qd (fun G=>chk S3 G [q2]) (zv (aa1 P (n+5)) (.one 0) (.ix (.var 0) (.cst (.int 0)))) F [x] S3=.ok qk S3:=fun x=>by
  show qd _ _ [D.ref (s.length+1),.ref (s.length+2),.ref (s.length+3),.ref (s.length+4)] [x] S3=_
  simp only[qd,e1,if_true,t0,t1,t2,t3,R.bind_ok]
 have c3:zV .ne (.ref S3.length) (.ref (S3++[O.lst qk]).length) (S3++[.lst qk]++[.lst qk])=.ok (.bl false) (S3++[.lst qk]++[.lst qk]):=by
  show(match eqv (S3++[O.lst qk]++[O.lst qk]) DEEP (.ref S3.length) (.ref (S3++[O.lst qk]).length)with|some r=>R.ok (D.bl (!r)) _|none=>.bad)=_
  have:eqv (S3++[O.lst qk]++[O.lst qk]) DEEP (.ref S3.length) (.ref (S3++[O.lst qk]).length)=some true:=by
   show(match(S3++[O.lst qk]++[O.lst qk])[S3.length]?,(S3++[O.lst qk]++[O.lst qk])[(S3++[O.lst qk]).length]? with
    | some (O.lst l),some (O.lst m)=>if l.length=m.length then eqL (eqv (S3++[O.lst qk]++[O.lst qk]) 29) l m else some false
    | _,_=>none)=_
   rw[zt zR,zR]
   rfl
  rw[this];rfl
 have lm:∀ S,bk8 (.tup qk) S=.ok qk S:=fun _=>rfl
 generalize a6:S3++[O.lst qk]++[O.lst qk]=S5 at c3
 have a0:∀ T:Sto,S5++T=S3++([O.lst qk]++([O.lst qk]++T)):=fun T=>by rw[<-a6,aR,aR]
 have g5:∀(i:Nat) r,(zf m)[i]?=some r->∀ T,(S5++T)[s.length+1+i]?=some (.lst ((r.map tx).map D.str)):=fun i r y T=>by rw[a0];exact g3 i r y _
 have b4:∀(i:Nat) r,(zf m)[i]?=some r->S5[s.length+1+i]?=some (.lst ((r.map tx).map D.str)):=fun i r y=>by have:=g5 i r y [];rwa [aW]at this
 have Y:∀ T,(S5++T)[q2]?=some (.lst F):=fun T=>by rw[a0];exact gA _
 have i4:S5[q2]?=some (.lst F):=by have:=Y [];rwa [aW]at this
 have h6:S5[S1.length]?=some (.lst ar3):=by
  rw[show S5=S3++([O.lst qk]++[O.lst qk])from by rw[<-a6,aR]];exact gR _
 have i0:∀ T,ixM (.ref q2) (.int 0) (S5++T)=.ok (.ref (s.length+1)) (S5++T):=fun T=>ql (j:=0) (Y T) rfl
 have i1:∀ T,ixM (.ref q2) (.int 1) (S5++T)=.ok (.ref (s.length+2)) (S5++T):=fun T=>ql (j:=1) (Y T) rfl
 have i2:∀ T,ixM (.ref q2) (.int 2) (S5++T)=.ok (.ref (s.length+3)) (S5++T):=fun T=>ql (j:=2) (Y T) rfl
 have i3:∀ T,ixM (.ref q2) (.int 3) (S5++T)=.ok (.ref (s.length+4)) (S5++T):=fun T=>ql (j:=3) (Y T) rfl
 have b0:=i0 []
 have a9:=i1 []
 rw[aW]at b0 a9
 have n0:=ax5 (P:=P) (n+3) (s:=S5) (a:=s.length+1) (k:=m.L) (w:=ai2) (by omega) (b4 0 _ r0)
 have n1:=ax5 (P:=P) (n+3) (s:=S5) (a:=s.length+2) (k:=m.R) (w:=qc) (by omega) (b4 1 _ r1)
 let z:List D:=(aS m.ds.length).map fun i=>D.ref (s.length+1+(4+i))
 have h8:ai0 ar3 (some (4:Int)) none=z:=by
  have:=bY1 (l:=ar3) (k:=4)
  rw[show((4:Nat):Int)=4 from rfl]at this
  rw[this,show min 4 ar3.length=4 by omega]
  apply fe
  intro i
  rw[dm,dq,aG]
  by_cases y:i<m.ds.length
  ·rw[if_pos (by omega),Z (4+i) (by omega),c5 y];rfl
  ·rw[if_neg (by omega),bU (by simpa using y)];rfl
 have d1:slM (.ref S1.length) (some 4) none S5=.ok (.ref S5.length) (S5++[.lst z]):=by
  unfold slM
  simp only[h6,alloc_eq,h8]
 have f1:ah8 (.ref S5.length) (S5++[.lst z])=.ok ⟨z,[S5.length]⟩ (S5++[.lst z]):=by simp only[ah8,zR]
 have h4:z.length<=LIM:=by show((aS m.ds.length).map _).length<=LIM;rw[ar,iJ];unfold LIM;omega
 obtain⟨ρ3,s3,e3,h7,_⟩:=zS (ok:=fun G=>chk (S5++[.lst z]) G [S5.length]) (g:=zv (aa1 P (n+5)) (.one 0) (.call "read_door" (.ex (.var 0) .nil))) (fun ρ u=>u=S5++[.lst z]/\∃ x,ρ=[x]) (fun d=>match d with|.ref k=>(m.ds[k - (s.length+5)]?).map Dr.d|_=>none) z [none] (S5++[.lst z]) ⟨rfl,none,rfl⟩ (fun _ _ h=>by rw[h.1];simp[chk]) (by
  rintro d hd ρ u ⟨rfl,x,rfl⟩
  obtain⟨i,y,rfl⟩:=aE.mp hd
  have y:=bQ.mp y
  refine⟨[some (.ref (s.length+1+(4+i)))],S5++[.lst z],?_,rfl,_,rfl⟩
  have hx:m.ds[i]?=some m.ds[i]:=ak y
  have hok:=C.ds.1 m.ds[i] (cX y)
  have:=hok.a
  have:=hok.b
  have:=hok.t
  have h0:(zf m)[4+i]?=some (drR m.ds[i]):=by
   unfold zf
   rw[aU (by show 4<=4+i;omega)]
   show(m.ds.map drR)[4+i - 4]?=_
   rw[show 4+i - 4=i by omega,aG,hx];rfl
  have e4:=bs7 (P:=P) (n+3) (x:=m.ds[i]) (by omega) (by omega) (by omega) (g5 (4+i) _ h0 [.lst z])
  unfold zv
  tbr_iter [e4]
  show R.ok (some (m.ds[i]).d,_) _=R.ok ((m.ds[s.length+1+(4+i) - (s.length+5)]?).map Dr.d,_) _
  rw[show s.length+1+(4+i) - (s.length+5)=i by omega,hx];rfl)
 have e2:z.filterMap (fun d=>match d with|.ref k=>(m.ds[k - (s.length+5)]?).map Dr.d|_=>none)=m.ds.map Dr.d:=by
  show((aS m.ds.length).map fun i=>D.ref (s.length+1+(4+i))).filterMap _=_
  rw[ci,<-aV7 Dr.d m.ds]
  refine qg fun i _=>?_
  show(m.ds[s.length+1+(4+i) - (s.length+5)]?).map Dr.d=_
  rw[show s.length+1+(4+i) - (s.length+5)=i by omega]
 rw[h7,e2]at e3
 have lb:=aj8 C.bg C.R5
 have le:=aj8 C.en C.R5
 have fg:∀ l:List Nat,((zg l).map tx).map D.str=l.map fun i=>D.str [48+i]:=fun l=>by
  unfold zg
  rw[bV,bV]
  rfl
 have m2:=ao4 (P:=P) (n+3) (s:=S5++[.lst z]) (a:=s.length+3) (t:=.str zL) (l:=m.bg) (fun i y=>by have:=C.bg.1 i y;omega) (by omega) (by
  have:=g5 2 _ r2 [.lst z]
  rw[aB,aB,fg]at this
  exact this)
 have m3:=ao4 (P:=P) (n+3) (s:=S5++[.lst z]) (a:=s.length+4) (t:=.str tEnd) (l:=m.en) (fun i y=>by have:=C.en.1 i y;omega) (by omega) (by
  have:=g5 3 _ r3 [.lst z]
  rw[aB,aB,fg]at this
  exact this)
 obtain⟨b,eb,hb⟩:=aL7 (P:=P) n (s:=S5++[.lst z]) (B:=75) (by omega) (bD1 m C (S5++[.lst z]))
 have f0:b=true:=hb.mpr (be9 C)
 subst f0
 have d2:D.tup [.int m.L,.int m.R,.tup (zg m.bg),.tup (zg m.en),.tup (m.ds.map Dr.d)]=m.d:=rfl
 have a7:zN [some (.str (qp m)),some (.ref S1.length),some (.ref q2),none,none,none,none] [none]=[none]:=rfl
 have a3:zN [some (.str (qp m)),some (.ref S1.length),some (.ref q2),some (.int (m.L:Int)),some (.int (m.R:Int)),none,none] [none]=[none]:=rfl
 tbr_iter [ab1,af8,bj3,b2,f2,f4,b1,c1,mk,aF8,gh,b5,a8,a7,e5,g4,c2,lm,a6,c3,b0,a9,n0,n1,ev_slL',d1,f1,h4,a3,e3,i2,i3,m2,m3,d2,eb]
 have a1:S5++[O.lst z]=s++([O.lst T0]++((zf m).map (fun r=>O.lst ((r.map tx).map D.str))++([O.lst ar3]++([O.lst F]++([O.lst qk]++([O.lst qk]++[O.lst z])))))):=by
  rw[a0,a2,<-b3,aR,aR]
 rw[a1]
 exact zW (bj2 m) (by nofun)
end
noncomputable def bU1:Ss:=(.cons (.ex (.meth .append (.var 1) (.cons (.call "_law_machine" (.ex (.call "_law_bag" (.ex (.var 0) (.ex (.var 2) .nil))) .nil)) .nil))) .nil)
noncomputable def bM3:Ss:=(.cons (.asg (.one 4) (.call "machine_text" (.ex (.var 3) .nil))) (.cons (.ite (.or (.not (.bi .isStr (.cons (.var 4) .nil))) (.cmp .ne (.var 4) (.call "_law_written" (.ex (.var 3) .nil)))) (.cons (.ret (.cst (.bl false))) .nil) .nil) (.cons (.asg (.one 5) (.call "read_machine" (.ex (.var 4) .nil))) (.cons (.ite (.or (.not (.bi .isTup (.cons (.var 5) .nil))) (.or (.cmp .ne (.var 5) (.var 3)) (.cmp .ne (.call "machine_text" (.ex (.var 5) .nil)) (.var 4)))) (.cons (.ret (.cst (.bl false))) .nil) .nil) .nil))))
theorem bG9:ac3.body=(.cons (.asg (.one 1) (.lst .nil)) (.cons (.for_ (.one 2) (.rng1 (.bi .max2 (.cons (.cst (.int 3)) (.cons (.bi .min2 (.cons (.bi .len (.cons (.var 0) .nil)) (.cons (.cst (.int 12)) .nil))) .nil)))) bU1) (.cons (.for_ (.one 3) (.seq (.bin .add (.var 1) (.slU (.var 1) (.cst (.int 2))))) bM3) (.cons (.ret (.cst (.bl true))) .nil)))):=rfl
theorem ag0 {f:D->D->Option Bool}:∀ {l:List D},(∀ d∈l,f d d=some true)->eqL f l l=some true
 | [],_=>rfl
 | d::l,h=>by
  show(match f d d,eqL f l l with|some x,some y=>some (x&&y)|_,_=>none)=_
  rw[h d (au ..),ag0 fun x hx=>h x (ao _ hx)]
  rfl
theorem aK7 (s:Sto)(n:Nat)(i:Int):eqv s n (.int i) (.int i)=some true:=by
 cases n<;>(show some (i==i)=_;simp)
theorem bR0 (s:Sto)(n:Nat)(w:List Nat):eqv s n (.str w) (.str w)=some true:=by
 cases n<;>(show some (w==w)=_;simp)
theorem aJ6 (s:Sto)(n:Nat)(l:List Nat):eqv s (n+1) (.tup (zg l)) (.tup (zg l))=some true:=by
 show eqL (eqv s n) (zg l) (zg l)=_
 refine ag0 fun d hd=>?_
 obtain⟨i,_,rfl⟩:=aE.mp hd
 exact aK7 s n _
theorem bQ5 (m:Mc)(s:Sto):zV .ne m.d m.d s=.ok (.bl false) s:=by
 show(match eqv s DEEP m.d m.d with|some r=>R.ok (D.bl (!r)) s|none=>.bad)=_
 have:eqv s DEEP m.d m.d=some true:=by
  show eqL (eqv s 29) m.ps m.ps=_
  refine ag0 fun d hd=>?_
  simp only[Mc.ps,az,aM,or_false]at hd
  rcases hd with rfl|rfl|rfl|rfl|rfl
  ·exact aK7 s 29 _
  ·exact aK7 s 29 _
  ·exact aJ6 s 28 _
  ·exact aJ6 s 28 _
  ·show eqL (eqv s 28) (m.ds.map Dr.d) (m.ds.map Dr.d)=_
   refine ag0 fun d hd=>?_
   obtain⟨x,_,rfl⟩:=aE.mp hd
   show eqL (eqv s 27) [.int x.a,.str [x.l],.int x.b,.int x.t] [.int x.a,.str [x.l],.int x.b,.int x.t]=_
   refine ag0 fun d hd=>?_
   simp only[az,aM,or_false]at hd
   rcases hd with rfl|rfl|rfl|rfl
   ·exact aK7 s 27 _
   ·exact bR0 s 27 _
   ·exact aK7 s 27 _
   ·exact aK7 s 27 _
 rw[this];rfl
section
variable {P:Pr} [Has P ac3] [Has P au8] [Has P ad6] [Has P ad8] [Has P ad3] [Has P ab9] [Has P ac1] [Has P ab5] [Has P ac5] [Has P ac0] [Has P ad1] [Has P ac6] [Has P ab0]
 [HasC P "FIGURES" (.tup bv8)] [HasC P "HEADS" (.tup qk)] [Has P aa8] [Has P aa9] [Has P aa6] [Has P ab6] [Has P ab1]
 [Has P aa4] [Has P aa5] [Has P ab7] [Has P ab2] [Has P ab8] [Has P ab3] [Has P aa2] [Has P ab4] [HasC P "LETTERS" (.tup ap9)] [HasC P "MOST_TOLL" (.int 3)] [HasC P "MOST_DOORS" (.int 75)] [HasC P "MOST_ROOMS" (.int 5)]
theorem bJ6 (n:Nat){m:Mc}(h:m.Ok)(v:Sto)(z x1 y x3 Z Y:Option D) :
  turn (aa1 P (n+6)) (.one 3) bM3 m.d [z,x1,y,x3,Z,Y] v=.ok (.next [z,x1,y,some m.d,some (.str (qp m)),some m.d]) v:=by
 have e1:=al9 (P:=P) (n+4) h v
 have e2:=aU2 (P:=P) (n+5) h v
 have C:=am7 (P:=P) n h v
 have i1:bi .isStr [.str (qp m)] v=.ok (.bl true) v:=rfl
 have G:bi .isTup [m.d] v=.ok (.bl true) v:=rfl
 have J:=bQ5 m v
 have F:=aX2 v (qp m)
 unfold turn bM3
 tbr_iter [e1,e2,C,i1,G,J,F]
theorem bQ0 (n:Nat):bN1 P (n+7):=by
 intro ns hl
 have e0:(aa1 P (n+7)).call "law" [.ref 0] [.ro (ns.map D.int)]=_:=zd ac3 (n:=n+6) rfl
 rw[e0,bG9,show(c7 some [D.ref 0]++aA ac3.vs none)=[some (.ref 0),none,none,none,none,none]from rfl]
 have b3:([.ro (ns.map D.int),.lst []]:Sto)[0]?=some (.ro (ns.map D.int)):=rfl
 have a0:bi .len [.ref 0] [.ro (ns.map D.int),.lst []]=.ok (.int ns.length) [.ro (ns.map D.int),.lst []]:=by rw[bg2 b3,ar]
 have ha:([.ro (ns.map D.int)]:Sto)++[.lst []]=[.ro (ns.map D.int),.lst []]:=rfl
 have a6:(D.ref ([.ro (ns.map D.int)]:Sto).length)=.ref 1:=rfl
 obtain⟨k,hk12,hk⟩:∃ k:Nat,k<=12/\(if(if 12<(ns.length:Int)then 12 else(ns.length:Int)) > 3 then(if 12<(ns.length:Int)then 12 else(ns.length:Int))else 3)=(k:Int):=by
  by_cases h:(12:Int)<(ns.length:Int)
  ·exact⟨12,by omega,by rw[if_pos h];rfl⟩
  ·rw[if_neg h]
   by_cases h2:(ns.length:Int) > 3
   ·exact⟨ns.length,by omega,by rw[if_pos h2]⟩
   ·exact⟨3,by omega,by rw[if_neg h2];rfl⟩
 tbr_iter [ha,a6,a0,aZ4,bb8,hk]
 rw[aq6 (by unfold W62;omega) (by unfold W62;omega)]
 simp only[R.bind_ok]
 rw[R.bind_assoc]
 refine ai7 (W:=Yes) (fun j ρ t=>t[0]?=some (.ro (ns.map D.int))/\∃(z:List Mc) (x2:Option D),t[1]?=some (.lst (z.map Mc.d))/\z.length=j/\(∀ m∈z,m.Ok)/\ρ=[some (.ref 0),some (.ref 1),x2,none,none,none]) ⟨rfl,[],_,rfl,rfl,fun d hd=>(by cases hd),rfl⟩ (fun _ _ _ _ _=>rfl) ?_ ?_
 ·rintro j d ρ t hj ⟨ht,z,x2,h1,G,a8,rfl⟩
  obtain⟨b4,rfl⟩:=aq4 hj
  rw[jM]
  have b5:1<t.length:=(ag.mp h1).1
  have F:=by7 (P:=P) (n+5) ns j t 0 ht hl
  generalize bv7 ns j=b0 at F
  have a9:∃ b,(t++[zK b0])[t.length]?=some (zK b):=⟨b0,by simp⟩
  have a7:(t++[zK b0])[0]?=some (.ro (ns.map D.int)):=zt ht
  have a4:(t++[zK b0])[1]?=some (.lst (z.map Mc.d)):=zt h1
  obtain⟨m,b1,hm,em⟩:=aN1 (P:=P) (n+3) a9
  have Z:((t++[zK b0]).set t.length (zK b1))[0]?=some (.ro (ns.map D.int)):=by rw[bj (by omega)];exact a7
  have J:((t++[zK b0]).set t.length (zK b1))[1]?=some (.lst (z.map Mc.d)):=by rw[bj (by omega)];exact a4
  generalize (t++[zK b0]).set t.length (zK b1)=U at em Z J
  have a1:1<U.length:=(ag.mp J).1
  have ea:=qu (v:=m.d) J (by rw[ar];unfold LIM;omega)
  refine av4 (ρ:=[some (.ref 0),some (.ref 1),some (.int j),none,none,none]) (s:=U.set 1 (.lst (z.map Mc.d++[m.d]))) ?_ ⟨by rw[bj (by omega)];exact Z,z++[m],_,by rw[am3 a1,bM];rfl,by rw[aD,G];rfl,fun d hd=>?_,rfl⟩
  ·unfold turn bU1
   tbr_iter [F,em,ea]
  ·rcases bw.mp hd with h|h
   ·exact a8 d h
   ·rw[bn.mp h];exact hm
 rintro ρ v ⟨hv,y,x2,h1,G,Y,rfl⟩
 have b2:(ag6 0 (k:Int)).length=k:=by simp[ag6]
 rw[b2]at G
 have a2:slM (.ref 1) none (some 2) v=.ok (.ref v.length) (v++[.lst (ai0 (y.map Mc.d) none (some 2))]):=by
  unfold slM
  simp only[h1,alloc_eq]
 obtain⟨es,he,hel,heo⟩:∃ es:List Mc,ai0 (y.map Mc.d) none (some 2)=es.map Mc.d/\es.length<=12/\∀ d∈es,d.Ok:=by
  refine⟨y.take (hiB (y.map Mc.d).length (some 2)),?_,?_,fun d hd=>Y d (gI hd)⟩
  ·unfold ai0
   rw[List.map_take]
   rfl
  ·rw[bu];omega
 rw[he]at a2
 have C:=bx5 (s:=v++[.lst (es.map Mc.d)]) (a:=1) (b:=v.length) (l:=y.map Mc.d) (m:=es.map Mc.d) (zt h1) zR (by rw[ar,ar];unfold LIM;omega)
 rw[<-bM]at C
 have a3:ah8 (.ref (v++[O.lst (es.map Mc.d)]).length) (v++[O.lst (es.map Mc.d)]++[.lst ((y++es).map Mc.d)])=.ok ⟨(y++es).map Mc.d,[(v++[O.lst (es.map Mc.d)]).length]⟩ (v++[O.lst (es.map Mc.d)]++[.lst ((y++es).map Mc.d)]):=by
  simp only[ah8,zR]
 tbr_iter [aF8,a2,C,a3]
 generalize v++[O.lst (es.map Mc.d)]++[O.lst ((y++es).map Mc.d)]=V at *
 generalize (v++[O.lst (es.map Mc.d)]).length=q at *
 rw[R.bind_assoc]
 refine ai7 (W:=Yes) (fun j ρ u=>u=V/\∃ x3 x4 x5,ρ=[some (.ref 0),some (.ref 1),x2,x3,x4,x5]) ⟨rfl,_,_,_,rfl⟩ (fun _ _ _ _ h=>by rw[h.1];simp[chk]) ?_ ?_
 ·rintro j d ρ u hj ⟨rfl,x3,x4,x5,rfl⟩
  rw[aG]at hj
  cases e:(y++es)[j]? with
  | none=>rw[e]at hj;cases hj
  | some t =>
   rw[e]at hj
   cases hj
   have a5:t.Ok:=by
    rcases bw.mp (aN e)with h|h
    ·exact Y t h
    ·exact heo t h
   exact av4 (bJ6 n a5 _ _ _ _ _ _ _) ⟨rfl,_,_,_,rfl⟩
 ·rintro ρ u ⟨rfl,x3,x4,x5,rfl⟩
  tbr_iter []
  exact aU9 _ _
end
end DV
end
local macro_rules | `(tactic| walk_at "sc") => `(tactic| exact ⟨rfl, rfl, rfl, by decide +kernel, rfl, by decide +kernel, by decide +kernel⟩)
local macro_rules | `(tactic| walk_at "df") => `(tactic| (dsimp only; exact ⟨_, _, _, _, _, _, _, _, _, _, by k_is, by k_is, by k_is, by k_is⟩))
noncomputable section
namespace My
open PySem L2
noncomputable def top (i:Nat):Stmt:=PySem.Challenge.pw_leasttolls_k67_machines_written.main.body.getD i (.Pass ⟨0,0,0,0⟩)
noncomputable def ae1:List Str:=[]
noncomputable abbrev s_letters_of:Stmt:=top 8
noncomputable abbrev ap4:Stmt:=top 9
noncomputable abbrev am1:Stmt:=top 10
noncomputable abbrev az5:Stmt:=top 11
noncomputable abbrev ap0:Stmt:=top 12
noncomputable abbrev ao5:Stmt:=top 13
noncomputable abbrev ag1:Stmt:=top 14
noncomputable abbrev ay4:Stmt:=top 15
noncomputable abbrev s_is_letter:Stmt:=top 16
noncomputable abbrev ad5:Stmt:=top 17
noncomputable abbrev at5:Stmt:=top 18
noncomputable abbrev al6:Stmt:=top 19
noncomputable abbrev ah7:Stmt:=top 20
noncomputable abbrev ao1:Stmt:=top 24
noncomputable abbrev ae8:Stmt:=top 25
noncomputable abbrev ae6:Stmt:=top 26
noncomputable abbrev af4:Stmt:=top 27
noncomputable abbrev ae5:Stmt:=top 28
noncomputable abbrev af9:Stmt:=top 29
noncomputable abbrev aj4:Stmt:=top 30
noncomputable abbrev ao8:Stmt:=top 32
noncomputable abbrev ak9:Stmt:=top 33
noncomputable abbrev ah6:Stmt:=top 34
noncomputable abbrev ae3:Stmt:=top 35
noncomputable abbrev ae4:Stmt:=top 36
noncomputable abbrev av0:Stmt:=top 37
noncomputable def tb:List (String×kZ×Stmt):=[("letters_of",DV.ab5,s_letters_of),("rooms_of",DV.ac5,ap4),("begins_of",DV.ac0,am1),("ends_of",DV.ad1,az5),("doors_of",DV.ac6,ap0),("is_whole",DV.aa5,ao5),("is_tuple_of",DV.aa4,ag1),("is_room",DV.ab7,ay4),("is_letter",DV.ab2,s_is_letter),("are_rising_rooms",DV.aa2,ad5),("is_door",DV.ab8,at5),("are_doors",DV.ab3,al6),("is_machine",DV.ab4,ah7),("row_text",DV.ac1,ao1),("machine_text",DV.ab0,ae8),("read_machine",DV.ab1,ae6),("read_figure",DV.aa8,af4),("read_numbers",DV.aa6,ae5),("read_number",DV.aa9,af9),("read_door",DV.ab6,aj4),("_law_bag",DV.au8,ao8),("_law_take",DV.ad6,ak9),("_law_rooms",DV.ad8,ah6),("_law_machine",DV.ad3,ae3),("_law_written",DV.ab9,ae4),("law",DV.ac3,av0)]
noncomputable def bO6:List (String×jX):=[("LETTERS",.tup [.str [97],.str [98],.str [99]]),("MOST_ROOMS",.int (5)),("MOST_DOORS",.int (75)),("MOST_TOLL",.int (3)),("FIGURES",.tup [.str [48],.str [49],.str [50],.str [51],.str [52],.str [53],.str [54],.str [55],.str [56],.str [57]]),("HEADS",.tup [.str [108,101,116,116,101,114,115],.str [114,111,111,109,115],.str [98,101,103,105,110],.str [101,110,100]])]
noncomputable def bX6:List (String×kY):=[]
noncomputable def tbl:List (String×kZ):=tb.map fun p=>(p.1,p.2.1)
noncomputable def P:kg:=⟨fun f=>tbl.lookup f,fun f=>bX6.lookup f,fun x=>bO6.lookup x,fun _=>none,fun _=>none,fun _=>false,fun _=>false,fun _=>none⟩
instance:DV.HasC P "LETTERS" (.tup [.str [97],.str [98],.str [99]]):=⟨rfl⟩
instance:DV.HasC P "MOST_ROOMS" (.int (5)):=⟨rfl⟩
instance:DV.HasC P "MOST_DOORS" (.int (75)):=⟨rfl⟩
instance:DV.HasC P "MOST_TOLL" (.int (3)):=⟨rfl⟩
instance:DV.HasC P "FIGURES" (.tup [.str [48],.str [49],.str [50],.str [51],.str [52],.str [53],.str [54],.str [55],.str [56],.str [57]]):=⟨rfl⟩
instance:DV.HasC P "HEADS" (.tup [.str [108,101,116,116,101,114,115],.str [114,111,111,109,115],.str [98,101,103,105,110],.str [101,110,100]]):=⟨rfl⟩
instance:DV.Has P DV.ab5:=⟨rfl⟩
instance:DV.Has P DV.ac5:=⟨rfl⟩
instance:DV.Has P DV.ac0:=⟨rfl⟩
instance:DV.Has P DV.ad1:=⟨rfl⟩
instance:DV.Has P DV.ac6:=⟨rfl⟩
instance:DV.Has P DV.aa5:=⟨rfl⟩
instance:DV.Has P DV.aa4:=⟨rfl⟩
instance:DV.Has P DV.ab7:=⟨rfl⟩
instance:DV.Has P DV.ab2:=⟨rfl⟩
instance:DV.Has P DV.aa2:=⟨rfl⟩
instance:DV.Has P DV.ab8:=⟨rfl⟩
instance:DV.Has P DV.ab3:=⟨rfl⟩
instance:DV.Has P DV.ab4:=⟨rfl⟩
instance:DV.Has P DV.ac1:=⟨rfl⟩
instance:DV.Has P DV.ab0:=⟨rfl⟩
instance:DV.Has P DV.ab1:=⟨rfl⟩
instance:DV.Has P DV.aa8:=⟨rfl⟩
instance:DV.Has P DV.aa6:=⟨rfl⟩
instance:DV.Has P DV.aa9:=⟨rfl⟩
instance:DV.Has P DV.ab6:=⟨rfl⟩
instance:DV.Has P DV.au8:=⟨rfl⟩
instance:DV.Has P DV.ad6:=⟨rfl⟩
instance:DV.Has P DV.ad8:=⟨rfl⟩
instance:DV.Has P DV.ad3:=⟨rfl⟩
instance:DV.Has P DV.ab9:=⟨rfl⟩
instance:DV.Has P DV.ac3:=⟨rfl⟩
theorem at6:DT ae1 P "letters_of" DV.ab5 s_letters_of:=⟨["machine"],["machine"],by walk_at "sc",rfl,rfl,fun _ _ _ _ _ _=>bd1 (fun _=>rfl),.inl (by decide +kernel)⟩
theorem aK3:DT ae1 P "rooms_of" DV.ac5 ap4:=⟨["machine"],["machine"],by walk_at "sc",rfl,rfl,fun _ _ _ _ _ _=>bd1 (fun _=>rfl),.inl (by decide +kernel)⟩
theorem aC7:DT ae1 P "begins_of" DV.ac0 am1:=⟨["machine"],["machine"],by walk_at "sc",rfl,rfl,fun _ _ _ _ _ _=>bd1 (fun _=>rfl),.inl (by decide +kernel)⟩
theorem aS4:DT ae1 P "ends_of" DV.ad1 az5:=⟨["machine"],["machine"],by walk_at "sc",rfl,rfl,fun _ _ _ _ _ _=>bd1 (fun _=>rfl),.inl (by decide +kernel)⟩
theorem aK6:DT ae1 P "doors_of" DV.ac6 ap0:=⟨["machine"],["machine"],by walk_at "sc",rfl,rfl,fun _ _ _ _ _ _=>bd1 (fun _=>rfl),.inl (by decide +kernel)⟩
theorem aM1:DT ae1 P "is_whole" DV.aa5 ao5:=⟨["thing", "low", "high"],["thing", "low", "high"],by walk_at "sc",rfl,rfl,fun _ _ _ _ _ _=>bd3 (fun _ _ _=>rfl),.inl (by decide +kernel)⟩
theorem aq5:DT ae1 P "is_tuple_of" DV.aa4 ag1:=⟨["thing", "many"],["thing", "many"],by walk_at "sc",rfl,rfl,fun _ _ _ _ _ _=>bd2 (fun _ _=>rfl),.inl (by decide +kernel)⟩
theorem aX3:DT ae1 P "is_room" DV.ab7 ay4:=⟨["thing", "rooms"],["thing", "rooms"],by walk_at "sc",rfl,rfl,fun _ _ _ _ _ _=>bd2 (fun _ _=>rfl),.inl (by decide +kernel)⟩
theorem aB0:DT ae1 P "is_letter" DV.ab2 s_is_letter:=⟨["thing", "letters"],["thing", "letters"],by walk_at "sc",rfl,rfl,fun _ _ _ _ _ _=>bd2 (fun _ _=>rfl),.inl (by decide +kernel)⟩
theorem ag3:DT ae1 P "are_rising_rooms" DV.aa2 ad5:=⟨["thing", "rooms"],["thing", "rooms"],by walk_at "sc",rfl,rfl,fun _ _ _ _ _ _=>bd2 (fun _ _=>rfl),.inl (by decide +kernel)⟩
theorem aU4:DT ae1 P "is_door" DV.ab8 at5:=⟨["thing", "letters", "rooms"],["thing", "letters", "rooms"],by walk_at "sc",rfl,rfl,fun _ _ _ _ _ _=>bd3 (fun _ _ _=>rfl),.inl (by decide +kernel)⟩
theorem aD7:DT ae1 P "are_doors" DV.ab3 al6:=⟨["thing", "letters", "rooms"],["thing", "letters", "rooms"],by walk_at "sc",rfl,rfl,fun _ _ _ _ _ _=>bd3 (fun _ _ _=>rfl),.inl (by decide +kernel)⟩
theorem ay0:DT ae1 P "is_machine" DV.ab4 ah7:=⟨["thing"],["thing"],by walk_at "sc",rfl,rfl,fun _ _ _ _ _ _=>bd1 (fun _=>rfl),.inl (by decide +kernel)⟩
theorem aN7:DT ae1 P "row_text" DV.ac1 ao1:=⟨["things"],["things"],by walk_at "sc",rfl,rfl,fun _ _ _ _ _ _=>bd1 (fun _=>rfl),.inl (by decide +kernel)⟩
theorem an8:DT ae1 P "machine_text" DV.ab0 ae8:=⟨["machine", "rows"],["machine"],by walk_at "sc",rfl,rfl,fun _ _ _ _ _ _=>bd1 (fun _=>rfl),.inl (by decide +kernel)⟩
theorem an5:DT ae1 P "read_machine" DV.ab1 ae6:=⟨["text", "rows", "heads", "letters", "rooms", "doors", "machine"],["text"],by walk_at "sc",rfl,rfl,fun _ _ _ _ _ _=>bd1 (fun _=>rfl),.inl (by decide +kernel)⟩
theorem as9:DT ae1 P "read_figure" DV.aa8 af4:=⟨["word"],["word"],by walk_at "sc",rfl,rfl,fun _ _ _ _ _ _=>bd1 (fun _=>rfl),.inl (by decide +kernel)⟩
theorem an2:DT ae1 P "read_numbers" DV.aa6 ae5:=⟨["row"],["row"],by walk_at "sc",rfl,rfl,fun _ _ _ _ _ _=>bd1 (fun _=>rfl),.inl (by decide +kernel)⟩
theorem as4:DT ae1 P "read_number" DV.aa9 af9:=⟨["row"],["row"],by walk_at "sc",rfl,rfl,fun _ _ _ _ _ _=>bd1 (fun _=>rfl),.inl (by decide +kernel)⟩
theorem aA6:DT ae1 P "read_door" DV.ab6 aj4:=⟨["row"],["row"],by walk_at "sc",rfl,rfl,fun _ _ _ _ _ _=>bd1 (fun _=>rfl),.inl (by decide +kernel)⟩
theorem aL6:DT ae1 P "_law_bag" DV.au8 ao8:=⟨["_law_script", "_law_at", "_law_cell", "_law_mix", "_law_k"],["_law_script", "_law_at"],by walk_at "sc",rfl,rfl,fun _ _ _ _ _ _=>bd2 (fun _ _=>rfl),.inl (by decide +kernel)⟩
theorem aC5:DT ae1 P "_law_take" DV.ad6 ak9:=⟨["_law_bag_here", "_law_many", "_law_digit", "_law_number", "_law_room"],["_law_bag_here", "_law_many"],by walk_at "sc",rfl,rfl,fun _ _ _ _ _ _=>bd2 (fun _ _=>rfl),.inl (by decide +kernel)⟩
theorem aw7:DT ae1 P "_law_rooms" DV.ad8 ah6:=⟨["_law_bag_here", "_law_many", "_law_bits"],["_law_bag_here", "_law_many"],by walk_at "sc",rfl,rfl,fun _ _ _ _ _ _=>bd2 (fun _ _=>rfl),.inl (by decide +kernel)⟩
theorem an3:DT ae1 P "_law_machine" DV.ad3 ae3:=⟨["_law_bag_here", "_law_letters", "_law_rooms_here", "_law_many", "_law_doors", "_law_k"],["_law_bag_here"],by walk_at "sc",rfl,rfl,fun _ _ _ _ _ _=>bd1 (fun _=>rfl),.inl (by decide +kernel)⟩
theorem ao0:DT ae1 P "_law_written" DV.ab9 ae4:=⟨["_law_machine_here", "_law_letters", "_law_rooms_here", "_law_begins", "_law_ends", "_law_doors", "_law_rows", "_law_word", "_law_some", "_law_start", "_law_letter", "_law_goal", "_law_cost"],["_law_machine_here"],by walk_at "sc",rfl,rfl,fun _ _ _ _ _ _=>bd1 (fun _=>rfl),.inl (by decide +kernel)⟩
theorem bi2:FnScope ["_law_script", "_law_machines", "_law_k", "_law_machine_here", "_law_text", "_law_found"] ["_law_script"] (defScope av0):=by walk_at "sc"
theorem bD0:mSs ⟨["_law_script", "_law_machines", "_law_k", "_law_machine_here", "_law_text", "_law_found"],defScope av0,fun _ _ _=>false⟩ DV.ac3.body (zy av0)=true:=by decide +kernel
theorem bF2:bT5 "law" av0 ["_law_script"]:=fun _ _ _ _ _ _=>bd1 fun _=>rfl
theorem bS0:DT ae1 P "law" DV.ac3 av0:=⟨_,_,bi2,rfl,rfl,bF2,.inl bD0⟩
theorem bS7:∀ p∈tb,DT ae1 P p.1 p.2.1 p.2.2:=by
 intro p h
 unfold tb at h
 simp only[az,aM,or_false]at h
 rcases h with rfl|rfl|rfl|rfl|rfl|rfl|rfl|rfl|rfl|rfl|rfl|rfl|rfl|rfl|rfl|rfl|rfl|rfl|rfl|rfl|rfl|rfl|rfl|rfl|rfl|rfl
 ·exact at6
 ·exact aK3
 ·exact aC7
 ·exact aS4
 ·exact aK6
 ·exact aM1
 ·exact aq5
 ·exact aX3
 ·exact aB0
 ·exact ag3
 ·exact aU4
 ·exact aD7
 ·exact ay0
 ·exact aN7
 ·exact an8
 ·exact an5
 ·exact as9
 ·exact an2
 ·exact as4
 ·exact aA6
 ·exact aL6
 ·exact aC5
 ·exact aw7
 ·exact an3
 ·exact ao0
 ·exact bS0
theorem bD7 {l:cJ}{w:World}{K:ac}{h:Heap}{mg:Str->Option Value}{fa:Addr}(X:K.In h)(G:h.Ns bh mg)(e3:mg "law"=some (.ref fa))(hD:∀ p∈tb,bN8 K p.1 p.2.2)(hz:∀ x∈bNames,b8 K bh x=some none)
  {z:Addr} {b3:Option Addr} {c2:Nat} {b6:Array (Option Value)} {a9 a7 b2:Tok} (gc_LETTERS:b8 K bh "LETTERS"=some (some (.ref z))) (gl_LETTERS:K.lookup z=some ⟨.type "tuple",b3,.seq #[.str ⟨#[97]⟩ a9,.str ⟨#[98]⟩ a7,.str ⟨#[99]⟩ b2] c2,b6⟩)
  {J:Tok} (gc_MOST_ROOMS:b8 K bh "MOST_ROOMS"=some (some (.int (5) J)))
  {C:Tok} (gc_MOST_DOORS:b8 K bh "MOST_DOORS"=some (some (.int (75) C)))
  {Y:Tok} (gc_MOST_TOLL:b8 K bh "MOST_TOLL"=some (some (.int (3) Y)))
  {y:Addr} {b5:Option Addr} {d1:Nat} {b4:Array (Option Value)} {a8 b0 a0 a3 b1 a5 a4 a2 a1 a6:Tok} (gc_FIGURES:b8 K bh "FIGURES"=some (some (.ref y))) (gl_FIGURES:K.lookup y=some ⟨.type "tuple",b5,.seq #[.str ⟨#[48]⟩ a8,.str ⟨#[49]⟩ b0,.str ⟨#[50]⟩ a0,.str ⟨#[51]⟩ a3,.str ⟨#[52]⟩ b1,.str ⟨#[53]⟩ a5,.str ⟨#[54]⟩ a4,.str ⟨#[55]⟩ a2,.str ⟨#[56]⟩ a1,.str ⟨#[57]⟩ a6] d1,b4⟩)
  {Z:Addr} {e0:Option Addr} {e2:Nat} {e1:Array (Option Value)} {c1 c3 c4 d2:Tok} (gc_HEADS:b8 K bh "HEADS"=some (some (.ref Z))) (gl_HEADS:K.lookup Z=some ⟨.type "tuple",e0,.seq #[.str ⟨#[108,101,116,116,101,114,115]⟩ c1,.str ⟨#[114,111,111,109,115]⟩ c3,.str ⟨#[98,101,103,105,110]⟩ c4,.str ⟨#[101,110,100]⟩ d2] e2,e1⟩)
  (hT:∀ x∈ae1,(be K x).isSome=true) (tnd:decide (((bt8 ae1 K).map (·.1)).Nodup)=true)
  : ∃ fd:bI,(∀(s:ae) (v:Value),jg s fd ⟨[v],[]⟩ [("_law_script",v)])/\∀ base:Heap,K.In base->base.Ns bh mg->BM mg base->bk2 K ae1 base->FnOk l.prog w K mg base CX0 39 fa fd ["_law_script"] (spB ae1 K):=by
 have hP:PrOk (aY0 ae1 P K) (bs6 ae1 K) P mg w:=by
  refine⟨fun f d h=>aG1 (tbl:=tbl) (fun p hp=>?_) f d h,fun x d h=>aT9 (tbl:=bO6) ?_ x d h,fun x hx=>PySem.W.mg_none_of X G (hz x hx),bR9 X G,bO3,of_decide_eq_true tnd,fun _ _ h=>(by cases h),fun _ _ h=>(by cases h),fun _ h=>(by cases h),fun _ h=>(by cases h),fun _ _ _ _ h=>(by cases h),fun _ _ h=>(by cases h)⟩
  ·obtain⟨r,hr,rfl⟩:=aE.mp hp
   exact good_of X G hT (hD r hr) (bS7 r hr)
  ·intro p hp
   unfold bO6 at hp
   simp only[az,aM,or_false]at hp
   rcases hp with rfl|rfl|rfl|rfl|rfl|rfl
   ·exact aC6 (bP X G gc_LETTERS) gl_LETTERS rfl rfl (show 3<=1000 by decide) (.cons (.str _ _ (by decide)) (.cons (.str _ _ (by decide)) (.cons (.str _ _ (by decide)) (.nil))))
   ·exact aB7 (bP X G gc_MOST_ROOMS)
   ·exact aB7 (bP X G gc_MOST_DOORS)
   ·exact aB7 (bP X G gc_MOST_TOLL)
   ·exact aC6 (bP X G gc_FIGURES) gl_FIGURES rfl rfl (show 10<=1000 by decide) (.cons (.str _ _ (by decide)) (.cons (.str _ _ (by decide)) (.cons (.str _ _ (by decide)) (.cons (.str _ _ (by decide)) (.cons (.str _ _ (by decide)) (.cons (.str _ _ (by decide)) (.cons (.str _ _ (by decide)) (.cons (.str _ _ (by decide)) (.cons (.str _ _ (by decide)) (.cons (.str _ _ (by decide)) (.nil)))))))))))
   ·exact aC6 (bP X G gc_HEADS) gl_HEADS rfl rfl (show 4<=1000 by decide) (.cons (.str _ _ (by decide)) (.cons (.str _ _ (by decide)) (.cons (.str _ _ (by decide)) (.cons (.str _ _ (by decide)) (.nil)))))
 obtain⟨f,od,an,sl,oc,kV,dc,pm,cd,ct,a,l0,c,k⟩:=hD ("law",DV.ac3,av0) (by unfold tb;simp)
 have e:=e3.symm.trans (bP X G a)
 cases e
 have F:=bf5 (st:=av0) l0 c k
 refine⟨_,fun s v=>.of_eq rfl,fun base _ _ bm hk=>(bI2 hP (bi6 hT bm hk) 7 (aH9 hP (bi6 hT bm hk) (fun _=>rfl) 7) (d:=DV.ac3) (f := "law") rfl ⟨F,bP X G a,F.binds bF2⟩ bi2 rfl rfl bD0 aQ2).imp (fun vs H Q E q=>bH5 (fun ns h=>DV.bQ0 (P:=P) 1 ns h) vs H Q E (bf1 hT q))⟩
end My
end
open PySem PySem.W PyProof.Rows
set_option maxRecDepth 100000 in
set_option maxHeartbeats 0 in
theorem PySem.Challenge.cw_leasttolls_k67_machines_written_holds : PySem.Challenge.rw_leasttolls_k67_machines_written.Holds := by
 refine My.GT.2 ?_
 delta My.GT
 dsimp only
 k_fill
 refine L2.aU7 (l:=PySem.Challenge.rw_leasttolls_k67_machines_written) (n:=63) (k:=39) (x := "_law_script") (sp:=L2.spB My.ae1) My.ae1 rfl (by decide) rfl ⟨rfl,by decide,by decide⟩ (ts:=[]) (fun w h Y=>⟨PySem.W.kIn_of Y,fun _ hP=>absurd hP (aM)⟩) (fun w=>?R) (fun w=>?NT) ?F (fun K H a ns hl hB hS hF=>L2.bw2 hl hB hS hF)
 case R=>kernel_rfl
 case NT=>kernel_rfl
 case F =>
  intro w mg fa h KX G hmg
  refine' My.bD7 KX G hmg ?hD ?hz ?gc_LETTERS ?gl_LETTERS ?gc_MOST_ROOMS ?gc_MOST_DOORS ?gc_MOST_TOLL ?gc_FIGURES ?gl_FIGURES ?gc_HEADS ?gl_HEADS ?hT ?tnd
  case hD =>
   intro p hp
   unfold My.tb at hp
   simp only[az,aM,or_false]at hp
   rcases hp with rfl|rfl|rfl|rfl|rfl|rfl|rfl|rfl|rfl|rfl|rfl|rfl|rfl|rfl|rfl|rfl|rfl|rfl|rfl|rfl|rfl|rfl|rfl|rfl|rfl|rfl
   all_goals walk_at "df"
  case hz =>
   intro x hx
   unfold L2.bNames at hx
   simp only[az,aM,or_false]at hx
   rcases hx with rfl|rfl|rfl|rfl|rfl|rfl|rfl|rfl|rfl|rfl|rfl|rfl|rfl|rfl|rfl|rfl|rfl|rfl<;>k_is
  (case gc_LETTERS=>k_is)
  (case gl_LETTERS=>k_is)
  (case gc_MOST_ROOMS=>k_is)
  (case gc_MOST_DOORS=>k_is)
  (case gc_MOST_TOLL=>k_is)
  (case gc_FIGURES=>k_is)
  (case gl_FIGURES=>k_is)
  (case gc_HEADS=>k_is)
  (case gl_HEADS=>k_is)
  case hT =>
   intro x hx;cases hx
  (case tnd=>kernel_rfl)
