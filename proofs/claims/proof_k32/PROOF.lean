import PyProof.Rows.All
import Wide.All
import OpenK.AllK
import Wide.FinOn
import Lean
import PyProof.EqAt
import PyProof.EqKinds
import PyProof.TupleCall
import PyProof.MinMaxWalk
import PyProof.WalkInts
import PyProof.NeKinds
import PyProof.SliceStr2
import PyProof.StrBlockI
import PyProof.MaxThree
import PyProof.ZipIter
import PyProof.Draws
import PyProof.EnumMake
import PyProof.ListMulRoad
import PyProof.Rows.StrRev
import KE.IntBitsLaws
import PySem.Challenge.RW_leasttolls_k32_tables_unrolled
set_option Elab.async false
set_option linter.all false
set_option maxRecDepth 100000
set_option maxHeartbeats 4000000
open List renaming getElem?_eq_some_iff->ab,range->ac,getElem?_append_right->af,getElem?_eq_getElem->ag,getElem?_map->ao,replicate->ar,getElem?_append_left->aw,length_map->ax,size_toArray->ay,mem_cons_of_mem->az,mem_map->aB,getD_eq_getElem?_getD->aE,mem_cons_self->aH,mem_cons->aI,map_cons->aJ,all_eq_true->aO,length_append->aQ,getElem?_set_self->aS,length_cons->aU,getElem?_range->aV,mem_of_getElem?->aW,getElem?_set_ne->aY,getElem?_eq_none->aZ,lookup_cons->a8,mem_append_right->bf,mem_map_of_mem->bo,set_append_right->br,filterMap_cons->bv,length_set->bw,not_mem_nil->bz,mem_range->bA,map->bB,append_nil->bD,map_append->bE,length_take->bG,mem_singleton->bJ,range_succ->bL,replicate_succ->bM,mem_filterMap->bN,mem_append->bV,length_range->b7,map_congr_left->b8,append_assoc->cg,foldl_cons->cj,map_nil->cq,take_of_length_le->cr,cons_append->cw,getElem?_toArray->cB,mem_iff_getElem->cF,map_map->cI,all_cons->cK,length_eq_zero_iff->cO,take_length->cR,take_append_of_le_length->cU,nodup_cons->cX,find?_cons->cZ,length_nil->c5,all_append->c7,length_singleton->dh,flatten_cons->dk,ext_getElem?->dm,mem_append_left->dr,of_mem_zip->dJ,nil_append->dL,filterMap_map->dQ,reverse_cons->d6,foldl_append->eh,all_nil->eV,set_set->eW,drop_eq_getElem_cons->fi,mem_or_eq_of_mem_set->fj,length_filterMap_le->fL,any_cons->fM,getElem?_replicate->fR,length_drop->fU,range_succ_eq_map->gq,drop_eq_nil_of_le->gu,mem_filter->gy,take_append_drop->gI,forIn_nil->gO,filterMap->gQ,drop_zero->gS,getElem?_of_mem->gU,range_eq_range'->gX,set_append_left->gY,take_take->gZ,getElem?_take->iI,any_eq_true->i6,getElem_mem->i9,take_append->jM,forIn_cons->jR,set_append->jU,foldl->j4,length->kH,lookup->kI
open PySem.W renaming Frag->ae,tabIn->bh,kia_one->bK,kla_fn->bS,CodeHd->bT,keepIn->cf,fnX->cu,kitOne->cz,fnOf->cV,envX->cW,OpenLaw->c6,mg_of->db,nsIn->dC,tabObj->d9,codeIn->e8,methodObj->fm,cellsFrom_some->f8,instObj->gx,lookIn->gK,findIn->gL,kitx_tuple->iz,callWith_K->iA,kitx_list->iP,kitx_dict->iQ,plainGet->i0,codeHdIn->i7,TabsAt->ka,noTabs->kb,WalkO->kq
open PySem renaming Shared->ah,wpAny_bind->ak,mem_of_lookup->aC,wpAny_pure->aG,sizeLine->aL,cellsFrom->aM,Program->aN,Around->aX,Arguments->a9,bootBuiltins->be,mainGlobals->bj,starEach->bn,wpAny_newObj_type->bH,FuncData->bI,NameKind->bO,wpAny_truthy_bool->bW,binaryOp->b9,wpAny_Call_Name_kw->cb,wpAny_mono->ci,assignEach->cy,wpAny_passesOwn->cD,rawInt->cM,wpAny_callSpecial?_slot->cN,codeAmong->cQ,pushCells_keeps->cY,compareOp->c8,behindInMarks->c9,wpAny_holding->da,wpAny_pyIter_list->di,foldedSetIterable->dj,sysModules->dq,wpAny_call_entry->dz,argBest->dA,isTrue->dP,tupleKind_room_in1->dS,wpAny_field->dW,sliceBounds->dX,backTo->d4,wpAny_seqItems->d7,wpAny_tryCatch->d8,pushCells->eA,relabel->eB,bindArgs->eC,letOwnedTupleGo->eK,codeAny_mono->eR,swapsWith->eX,newFunctionEnv->fc,wpAny_binaryOp_repeat_ref->fh,sizeLine_eq->fu,codeAny->fv,InCallC->fw,Paired->fD,IsPart->fH,attributeBase->fI,wpAny_comprehension_free->fJ,plainId_quiet->fK,storeName->fQ,noFill_tuple_add->fS,builtinsNs->f6,assign->f7,name_of_addr->f9,getItem->ga,wpAny_typeOf->gb,typeIs_int->gi,codeAny_compStart_list->gm,wpAny_execs_nil->gz,codeAny_builtin->gA,wpAny_updateSeq->gB,wpAny_storeName_local->gE,wpAny_isTrue_Compare1->gF,codeAny_call_function->gG,wpAny_storeName_cell->gJ,wpAny_letGo->gP,strIterType->gR,tupleKind->g6,callerA->g7,seqItems?->g8,TriplesOk->g9,valueAt->hG,wpAny_standAt->ii,swappedStores->ij,seq_tuple_add->ik,annotationsOf->ip,wpAny_pyIter_tuple->iy,call_meets->iC,wpAny_rule->iE,holding->iL,wpAny_assign_Name->iO,concat_meets->iR,wpAny_sequenceKey->iT,seqIndex_neg->iU,slot_list_getitem->iV,notedBy->iX,pyNext->iZ,seqSlot_of->i8,seqIndex_of->jN,BindsTo->jX,Keyword->jY,wpAny_Name->j0,wpAny_call->j1,typeIs_str->j2,PlainAttrs->j3,call->j5,defaultsOf->j7,qualnameIn->j8,Within->ku,pyIter->kx
open Nat renaming le_refl->ai,le_trans->am,lt_of_lt_of_le->aq,ne_of_lt->aA,add_sub_cancel_left->a7,zero_add->bq,lt_irrefl->bu,lt_trans->cG,zero_le->cS,le_succ->du,le_of_lt->dv,ne_of_gt->dw,lt_succ_self->dB,mul_add->dY,sub_self->ef,pow_le_pow_right->eJ,le_of_succ_le->fx,lt_succ_of_lt->fy,lt_trichotomy->fB,mul_assoc->fN,min_le_right->fT,min_eq_right->fZ,add_comm->gk,strongRecOn->gD,mul_comm->iW,sub_zero->iY,le_of_not_lt->i5,mul_one->jP,min_eq_left->jW,mod_lt->ke,lt_or_ge->kB,add_zero->kD
open PySem.Heap renaming get?_push_of_some->aj,lt_size->aD,get?_push_size->aP,get?_update_other->bQ,size_push->bX,get?_update_self->dg,SameBut->dZ,ExtBut->jO
open Bool renaming and_eq_true->au,false_eq_true->aK,false_ne_true->aR,or_eq_true->bP,and_true->cL,true_and->dI,eq_iff_iff->dN,or_eq_false_iff->eG,not_eq_true'->fC,and_eq_true_iff->gT,false_or->kn
open Option.some renaming inj->av
open Option renaming map_some->aF,map_eq_some_iff->bZ,bind_some->dD,isSome_some->fe,isSome_map->fA,isSome_iff_exists->fG,isSome_none->iG,getD_none->i4
open PyProof.Rows renaming slot_tuple_getitem->bp,kindOf->et,callWith_type1->eQ,AllBare->fq,envOfC->fF,subscriptTail_builtinR->gf,entry_tuple_getitem->hU,Constant_none->ig,tupleItemsOf_->io,args_tuple_getitem->iB,IntsAre->jZ
open PySem.Builtin.Str renaming strSliceIndices->bC,tooLong->kj
open False renaming elim->bF
open PySem.Builtin.SmallTypes renaming nextOf->bR
open Ne renaming symm->bU
open Int renaming le_trans->cc,toNat_natCast->cH,mul_le_mul_of_nonneg_left->cT,natCast_mul->dM,le_refl->eF,fdiv_eq_ediv_of_nonneg->eZ,zero_add->gv,toNat_of_nonneg->ic,emod_lt_of_pos->iK,le_antisymm->jS,emod_nonneg->jV,mul_le_mul->kg,mul_nonneg->kh,sub_zero->kA,le_total->kC,le_of_lt->kF
open PySem.F renaming plain_min_loop->cx,slot_tuple_iterator_next->cA,args_tuple_add_2->dG,slot_int_rmul->dR,entry_tuple_add->dU,slot_tuple_add->d5,slot_tuple_mul->ee,args_tuple_iterator_next_1->eN,entry_tuple_iterator_next->eU,entry_min_loop->fV,slot_tuple_rmul->fW,plainAttrs_list->fY,slot_list_append->gH,args_int_rmul_2->gN,slot_int_index->hV,entry_int_rmul->hZ,fills_int_mul->iD
open PySem.Builtin.Slice renaming slicePlaces->cC,sliceAdjust->dE,sliceApplied->e9,slicePartIndex->jQ,sliceFields->ki
open PySem.Str renaming ofString->cE
open PySem.Builtin.Tuple renaming tupleExact->cJ,tupleItemsOf->dt,tupleTooMany->fg,tupleIsExact->j9
open Array renaming toList_append->dF,length_toList->eP,append_assoc->iw,toList->iM
open PySem.Builtin.List renaming listTooLong->dH
open PySem.Around renaming under_plainId->eD,frames_deeper->gM
open PySem.Txt renaming slice->eM
open List.cons renaming injEq->eO
open PySem.Builtin.Builtins renaming bindParams->eT
open PySem.Calls renaming Name_function_global->eY,callWith_builtin->gj
open PySem.W.OpenLaw renaming wellSaid->fO
open Classical renaming propDecidable->fX
open PySem.Obj renaming mapSeq->gh,data_mapFields->iH
open PySem.SeqAt renaming EqAt->gr,RcNeAt->kz,RcAt->kN
open PySem.SeqAt.EqAt renaming same->gC,int_str->ir,str_int->iu,of_refs->iJ
open PySem.Heap.SameBut renaming update->ib
open PySem.Paired renaming length->ie,snoc->kK
open Function renaming comp->iq
open PyProof.Rows.IsTup renaming new->i3
open PySem.PassesOwn renaming never->jT
open PySem.Walks renaming list->j6
open PySem.Value renaming isStrOf->km,isInt->kG
open PySem.CmpOf renaming ints_lt->ko
open PySem.Builtin.Range renaming rangeSize->kr
open PySem.StrLaws renaming found_one->kt
open PySem.W.OpenRow renaming toRowW->kE
open PySem.Heap.Ns renaming new->kJ
open List.Pairwise renaming filter->kL
open PySem.Heap.IsSliceOf renaming new->kM
noncomputable section
namespace L2
open PySem PySem.Spec PyProof.Rows
noncomputable abbrev Key:=Sum Int Str
noncomputable def aS5:Key->Value->Bool
 | .inl k,v=>kG k v
 | .inr x,v=>km x v
noncomputable def keyH (w:World):Key->Int
 | .inl k=>hashInt k
 | .inr x=>hashStr w x
theorem zR:∀ {k:Key} {v:Value},aS5 k v=true->(∃ i t,k=Sum.inl i/\v=Value.int i t)\/(∃ x t,k=Sum.inr x/\v=Value.str x t)
 | .inl i,v,h=>by
  obtain⟨t,e⟩:=Value.isInt_shape (k:=i) (v:=v) h
  exact .inl ⟨i,t,rfl,e⟩
 | .inr x,v,h=>by
  obtain⟨t,e⟩:=Value.isStrOf_shape (x:=x) (v:=v) h
  exact .inr ⟨x,t,rfl,e⟩
theorem bg2 (i:Int)(t:Tok):aS5 (.inl i) (.int i t)=true:=by simp[aS5,kG]
theorem aV7 (x:Str)(t:Tok):aS5 (.inr x) (.str x t)=true:=by simp[aS5,km]
theorem bM2 (a b:Int):decide ((Sum.inl a:Key)=Sum.inl b)=(a==b):=by
 by_cases e:a=b
 ·subst e;simp
 ·have h:¬(Sum.inl a:Key)=Sum.inl b:=λ q=>e (Sum.inl.inj q)
  rw[decide_eq_false h]
  exact(beq_eq_false_iff_ne.mpr e).symm
theorem bO2 (a b:Str):decide ((Sum.inr a:Key)=Sum.inr b)=decide (a=b):=by
 by_cases e:a=b
 ·subst e;simp
 ·have h:¬(Sum.inr a:Key)=Sum.inr b:=λ q=>e (Sum.inr.inj q)
  rw[decide_eq_false h,decide_eq_false e]
theorem bO9 (a:Int)(b:Str):decide ((Sum.inl a:Key)=Sum.inr b)=false:=decide_eq_false (λ q=>nomatch q)
theorem bU3 (a:Str)(b:Int):decide ((Sum.inr a:Key)=Sum.inl b)=false:=decide_eq_false (λ q=>nomatch q)
noncomputable def z4 (prog:aN)(w:World):PySem.KeyKind prog w Key where
 is:=aS5
 hash:=keyH w
 inj:=λ v a b ha hb=>by
  rcases zR ha with⟨i,t,rfl,rfl⟩|⟨x,t,rfl,rfl⟩
  ·rcases zR hb with⟨j,u,rfl,e⟩|⟨y,u,rfl,e⟩
   ·injection e with e1 _;rw[e1]
   ·exact nomatch e
  ·rcases zR hb with⟨j,u,rfl,e⟩|⟨y,u,rfl,e⟩
   ·exact nomatch e
   ·injection e with e1 _;rw[e1]
 byValue:=λ k v h=>by
  rcases zR h with⟨i,t,rfl,rfl⟩|⟨x,t,rfl,rfl⟩<;>rfl
 pyHash:=λ hv h=>by
  rcases zR hv with⟨i,t,rfl,rfl⟩|⟨x,t,rfl,rfl⟩
  ·exact wpAny_pyHash_int h
  ·exact wpAny_pyHash_str h
 eqBool:=λ hu hv h=>by
  rcases zR hu with⟨i,t,rfl,rfl⟩|⟨x,t,rfl,rfl⟩
  ·rcases zR hv with⟨j,u,rfl,rfl⟩|⟨y,u,rfl,rfl⟩
   ·rw[bM2]at h;exact wpAny_eqBool_int h
   ·rw[bO9]at h;exact ir i t y u _ _ _ _ h
  ·rcases zR hv with⟨j,u,rfl,rfl⟩|⟨y,u,rfl,rfl⟩
   ·rw[bU3]at h;exact iu x t j u _ _ _ _ h
   ·rw[bO2]at h;exact wpAny_eqBool_str h
 «strs»:=λ k x t v h=>by
  rcases zR h with⟨i,u,rfl,e⟩|⟨y,u,rfl,e⟩
  ·exact nomatch e
  ·injection e with e1 _
   subst e1
   cases v<;>rfl
theorem aI0 (prog:aN)(w:World)(i:Int)(t:Tok):(z4 prog w).is (.inl i) (.int i t)=true:=bg2 i t
theorem aH9 (prog:aN)(w:World)(x:Str)(t:Tok):(z4 prog w).is (.inr x) (.str x t)=true:=aV7 x t
inductive V where
 | non|bl (b:Bool)|int (i:Int)|str (x:Str)|byt (b:Array UInt8)|flt (b:UInt64)|ref (a:Addr)|ty (n:String)
 deriving DecidableEq
noncomputable def RelV:V->Value->Prop
 | .non,u=>u=Value.none
 | .bl b,u=>u=Value.bool b
 | .int i,u=>∃ t,u=Value.int i t
 | .str x,u=>∃ t,u=Value.str x t
 | .byt b,u=>∃ t,u=Value.bytes b t
 | .flt b,u=>∃ t,u=Value.float b t
 | .ref a,u=>u=Value.ref a
 | .ty n,u=>u=Value.type n
abbrev Vals:List V->List Value->Prop:=fD RelV
theorem Vals.length {h:List V}{us:List Value}(r:Vals h us):h.length=us.length:=ie r
theorem Vals.get:∀ {h:List V} {us:List Value} {i:Nat} {x:V},Vals h us->h[i]?=some x->∃ u,us[i]?=some u/\RelV x u
 | _,_,_,_,.nil,e=>by simp at e
 | _,_,0,_,.cons r _,e=>by simp at e;subst e;exact⟨_,rfl,r⟩
 | _,_,i+1,x,.cons _ t,e=>by
  obtain⟨u,G,y⟩:=Vals.get (i:=i) (x:=x) t (by simpa using e)
  exact⟨u,by simpa using G,y⟩
theorem Vals.set {x:V}{u:Value}(r:RelV x u):∀ {h:List V} {us:List Value} (i:Nat),Vals h us->Vals (h.set i x) (us.set i u)
 | _,_,_,.nil=>.nil
 | _,_,0,.cons _ t=>.cons r t
 | _,_,i+1,.cons q t=>.cons q (Vals.set r i t)
theorem Vals.append:∀ {h ys:List V} {us ws:List Value},Vals h us->Vals ys ws->Vals (h++ys) (us++ws)
 | _,_,_,_,.nil,s=>s
 | _,_,_,_,.cons r t,s=>.cons r (Vals.append t s)
theorem Vals.take:∀ {h:List V} {us:List Value} (n:Nat),Vals h us->Vals (h.take n) (us.take n)
 | _,_,0,_=>.nil
 | _,_,_+1,.nil=>.nil
 | _,_,n+1,.cons r t=>.cons r (Vals.take n t)
theorem Vals.drop:∀ {h:List V} {us:List Value} (n:Nat),Vals h us->Vals (h.drop n) (us.drop n)
 | _,_,0,r=>r
 | _,_,_+1,.nil=>.nil
 | _,_,n+1,.cons _ t=>Vals.drop n t
noncomputable def aY2:Option V->Option Value->Prop
 | some v,some u=>RelV v u
 | none,none=>True
 | _,_=>False
def KV {κ:Type}:List (κ×V)->List (κ×Value)->Prop:=fD λ(p:κ×V) (q:κ×Value)=>p.1=q.1/\RelV p.2 q.2
noncomputable def kV:Key->V
 | .inl i=>.int i
 | .inr x=>.str x
inductive HO where
 | lst (xs:List V)
 | tup (xs:List V)
 | dK (kvs:List (Key×V))|dT (kvs:List (List Key×V))
 | set (S:Int->Bool) (n:Nat)
 | ins (C dx:Addr) (fs:List (Str×V))
 | own (x:Addr)
 | xd (fs:List (Str×V))
 | met (f x:Addr)
 | rng (lo hi:Int)
 | frz (o:Obj) (u:HO)
 | tbl (ps:Array Value)
 | ext (φ:Heap->Prop)
noncomputable abbrev Hp:=Addr->Option HO
noncomputable def upd (H:Hp)(a:Addr)(o:HO):Hp:=λ b=>if b=a then some o else H b
theorem zo {H:Hp}{a:Addr}{o:HO}:upd H a o a=some o:=by unfold upd;rw[if_pos rfl]
theorem zm {H:Hp}{a b:Addr}{o:HO}(h:b≠a):upd H a o b=H b:=by unfold upd;rw[if_neg h]
theorem cc0 {H:Hp}{a b:Addr}{o u:HO}(h:H a=some o)(h':H b=some u)(d:o≠u):a≠b:=by
 intro e;subst e;rw[h]at h';exact d (av h')
theorem zJ {H:Hp}{a b:Addr}{o:HO}(h:H a=some o)(h':H b=none):a≠b:=by
 intro e;subst e;rw[h]at h';cases h'
section
variable (P:aN) (w:World)
noncomputable def ad9 (H:Hp)(h:Heap)(a:Addr):HO->Prop
 | .lst xs=>xs.length<=aL/\∃(its:List Value) (n:Nat),Vals xs its/\h.get? a=some { cls:=.type "list",data:=.seq its.toArray n }
 | .tup xs=>xs.length<=aL/\∃ its:List Value,Vals xs its/\IsTup h a its.toArray
 | .dK kvs=>kvs.length<=aL/\(a==dq)=false/\∃ vs,KV kvs vs/\h.DictOf (z4 P w) a vs
 | .dT kvs=>kvs.length<=aL/\(a==dq)=false/\∃ xs:List (List Key×Addr×Value),
   fD (λ(p:List Key×V) (q:List Key×Addr×Value)=>p.1=q.1/\H q.2.1=some (.tup (p.1.map kV))/\RelV p.2 q.2.2) kvs xs /\
   ∃ o es ep,h.get? a=some o/\o.ExactDict/\o.data=.dict es ep/\es.toList=xs.map (entryOfKey (g6 (z4 P w)))/\(xs.map (·.1)).Nodup
 | .set S n=>h.SetOf (intKind P w) a S n
 | .ins C dx fs=>H dx=some (.own a)/\fs.length<=1000/\dx≠a/\h.get? a=some (gx C dx) /\
   ∃ mA,h.Ns1 dx mA/\(∀ f,aY2 (fs.lookup f) (mA f))/\ku mA (fs.map (·.1))
 | .own _=>∃ o,h.get? a=some o
 | .xd fs=>∃ mA,h.Ns1 a mA/\∀ f,aY2 (fs.lookup f) (mA f)
 | .rng lo hi=>∃ t u v,h.get? a=some { cls:=.type "range",data:=.fields #[.int lo t,.int hi u,.int 1 v] }
 | .frz o u=>h.get? a=some o/\ad9 H h a u
 | .tbl ps=>h.get? a=some { cls:=.none,data:=.fields ps }
 | .met f x=>h.get? a=some (fm (.ref f) (.ref x))
 | .ext φ=>φ h/\(∃ o,h.get? a=some o)/\∀ h1 h2:Heap,φ h1->(∀ o,h1.get? a=some o->h2.get? a=some o)->φ h2
def HOk (H:Hp)(h:Heap):Prop:=∀ a o,H a=some o->ad9 P w H h a o
end
section
variable {P:aN} {w:World} {H H':Hp} {h h':Heap} {a:Addr} {o:HO}
theorem ad9.lt (x:ad9 P w H h a o):a<h.objs.size:=by
 cases o with
 | lst xs=>obtain⟨_,_,_,_,e⟩:=x;exact aD e
 | tup xs=>obtain⟨_,_,_,p⟩:=x;exact p.lt
 | dK kvs=>obtain⟨_,_,_,_,o,_,_,e,_⟩:=x;exact aD e
 | dT kvs=>obtain⟨_,_,_,_,o,_,_,e,_⟩:=x;exact aD e
 | set S n=>obtain⟨o,_,_,_,e,_⟩:=x;exact aD e
 | ins C dx fs=>obtain⟨_,_,_,e,_⟩:=x;exact aD e
 | own y=>obtain⟨_,e⟩:=x;exact aD e
 | xd fs=>obtain⟨_,⟨_,_,_,e,_⟩,_⟩:=x;exact aD e
 | rng lo hi=>obtain⟨_,_,_,e⟩:=x;exact aD e
 | frz ob u=>obtain⟨e,_⟩:=x;exact aD e
 | tbl ps=>exact aD (show h.get? a=some _ from x)
 | met f y=>exact aD (show h.get? a=some _ from x)
 | ext φ=>obtain⟨_,⟨_,e⟩,_⟩:=x;exact aD e
theorem fD.mapP {α β:Type}{F G:α->β->Prop}:∀ {h:List α} {y:List β},fD F h y->(∀ a b,F a b->G a b)->fD G h y
 | _,_,.nil,_=>.nil
 | _,_,.cons r t,f=>.cons (f _ _ r) (fD.mapP t f)
theorem ad9.stay (x:ad9 P w H h a o)(k:∀ b u,(b=a\/H b=some (.own a))->h.get? b=some u->h'.get? b=some u)
  (ho:∀ b,H b=some (.own a)->H' b=some (.own a)) (Z:∀ b J,H b=some (.tup J)->H' b=some (.tup J)):ad9 P w H' h' a o:=by
 induction o with
 | lst J=>obtain⟨z,its,n,r,e⟩:=x;exact⟨z,its,n,r,k _ _ (.inl rfl) e⟩
 | tup J=>obtain⟨z,its,r,ob,e,c⟩:=x;exact⟨z,its,r,ob,k _ _ (.inl rfl) e,c⟩
 | dK kvs=>obtain⟨z,y,vs,r,ob,es,G,e,c⟩:=x;exact⟨z,y,vs,r,ob,es,G,k _ _ (.inl rfl) e,c⟩
 | dT kvs =>
  obtain⟨z,y,J,r,ob,es,G,e,c⟩:=x
  exact⟨z,y,J,fD.mapP r λ p q z=>⟨z.1,Z _ _ z.2.1,z.2.2⟩,ob,es,G,k _ _ (.inl rfl) e,c⟩
 | set S n=>obtain⟨ob,es,G,t,e,c⟩:=x;exact⟨ob,es,G,t,k _ _ (.inl rfl) e,c⟩
 | ins C dx fs =>
  obtain⟨d,z,ne,e,Y,⟨od,es,G,e2,c⟩,r⟩:=x
  exact⟨ho _ d,z,ne,k _ _ (.inl rfl) e,Y,⟨od,es,G,k _ _ (.inr d) e2,c⟩,r⟩
 | own y=>obtain⟨ob,e⟩:=x;exact⟨ob,k _ _ (.inl rfl) e⟩
 | xd fs=>obtain⟨Y,⟨od,es,G,e,c⟩,r⟩:=x;exact⟨Y,⟨od,es,G,k _ _ (.inl rfl) e,c⟩,r⟩
 | rng lo hi=>obtain⟨t,u,v,e⟩:=x;exact⟨t,u,v,k _ _ (.inl rfl) e⟩
 | frz ob u ih=>obtain⟨e,q⟩:=x;exact⟨k _ _ (.inl rfl) e,ih q⟩
 | tbl ps =>
  have e:h.get? a=some { cls:=.none,data:=.fields ps }:=x
  show h'.get? a=some { cls:=.none,data:=.fields ps }
  exact k a _ (.inl rfl) e
 | met f y =>
  have e:h.get? a=some (fm (.ref f) (.ref y)):=x
  show h'.get? a=some (fm (.ref f) (.ref y))
  exact k a _ (.inl rfl) e
 | ext φ=>obtain⟨p,⟨o,e⟩,st⟩:=x;exact⟨st _ _ p λ o q=>k _ _ (.inl rfl) q,⟨o,k _ _ (.inl rfl) e⟩,st⟩
theorem HOk.lt (x:HOk P w H h)(e:H a=some o):a<h.objs.size:=(x a o e).lt
theorem HOk.fresh (x:HOk P w H h)(e:h.objs.size<=a):H a=none:=by
 cases q:H a with
 | none=>rfl
 | some u=>exact absurd (aq (x.lt q) e) (bu _)
theorem HOk.kept (x:HOk P w H h)(k:∀ b u,h.get? b=some u->h'.get? b=some u):HOk P w H h':=λ a o e =>
 (x a o e).stay (λ b u _ q=>k b u q) (λ _ q=>q) λ _ _ q=>q
theorem HOk.laid (x:HOk P w H h)(k:∀ b u,h.get? b=some u->h'.get? b=some u)(y:h.objs.size<=a)(new:ad9 P w (upd H a o) h' a o):HOk P w (upd H a o) h':=λ b u e=>by
 have hn:=x.fresh y
 by_cases hb:b=a
 ·subst hb;rw[zo]at e;cases e;exact new
 ·rw[zm hb]at e
  exact(x b u e).stay (λ c v _ q=>k c v q) (λ c q=>by rw[zm (zJ q hn)];exact q) λ c G q=>by rw[zm (zJ q hn)];exact q
end
def Rd (H:Hp)(a:Addr)(u:HO):Prop:=H a=some u\/∃ o,H a=some (.frz o u)
theorem Rd.ok {P:aN}{w:World}{H:Hp}{h:Heap}{a:Addr}{u:HO}(r:Rd H a u)(x:HOk P w H h):ad9 P w H h a u:=by
 rcases r with r|⟨o,r⟩
 ·exact x a u r
 ·obtain⟨_,q⟩:=x a _ r
  exact q
noncomputable def Mut:Option HO->Prop
 | some (.lst _)=>True
 | some (.dK _)=>True
 | some (.dT _)=>True
 | some (.set _ _)=>True
 | some (.ins _ _ _)=>True
 | some (.ext _)=>True
 | _=>False
section
variable {P:aN} {w:World} {H:Hp} {h h':Heap} {x e:Addr} {o':HO}
theorem HOk.write (ok:HOk P w H h)(mu:Mut (H x))(he:e=x\/H e=some (.own x))(k:∀ b u,b≠e->h.get? b=some u->h'.get? b=some u)(Z:∃ u,h'.get? e=some u)
  (new:ad9 P w (upd H x o') h' x o'):HOk P w (upd H x o') h':=λ b u q=>by
 have G:∀ c y,H c=some (.own y)->c≠x:=λ c y r z=>by subst z;rw[r]at mu;exact mu
 have J:∀ c Y,H c=some (.tup Y)->c≠x:=λ c Y r z=>by subst z;rw[r]at mu;exact mu
 by_cases hb:b=x
 ·subst hb;rw[zo]at q;cases q;exact new
 ·rw[zm hb]at q
  by_cases hbe:b=e
  ·have q':H b=some (.own x):=by
    rcases he with z|z
    ·exact absurd (hbe.trans z) hb
    ·rw[hbe];exact z
   rw[q]at q';cases q'
   obtain⟨v,hv⟩:=Z
   exact⟨v,by rw[hbe];exact hv⟩
  ·refine(ok b u q).stay (λ c v hc r=>k c v ?_ r) (λ c r=>by rw[zm (G c b r)];exact r) λ c Y r=>by rw[zm (J c Y r)];exact r
   rcases hc with rfl|hc
   ·exact hbe
   ·rintro rfl
    rcases he with z|z
    ·exact G c b hc z
    ·rw[hc]at z;cases z;exact hb rfl
end
structure Un (fs ex:List Addr)(H H':Hp)(h h':Heap):Prop where
 keep:∀ b o,h.get? b=some o->H b=none->b ∉ fs->b ∉ ex->h'.get? b=some o
 slot:∀ b o,h.get? b=some o->H b=none->b∈fs->b ∉ ex->∃ sl,h'.get? b=some { o with slots:=sl }
 free:∀ b o,h.get? b=some o->H b=none->b ∉ ex->H' b=none
 there:∀ b o,h.get? b=some o->b ∉ ex->∃ o',h'.get? b=some o'
 tups:∀ b xs,H b=some (.tup xs)->H' b=some (.tup xs)
 frzs:∀ b o u,H b=some (.frz o u)->H' b=some (.frz o u)
 tbls:∀ b ps,H b=some (.tbl ps)->∃ more,H' b=some (.tbl (ps++more))
section
variable {fs fs' ex ex':List Addr} {H H1 H2:Hp} {h h1 h2 h':Heap} {a x e:Addr} {o:HO}
theorem Un.any (u:Un fs ex H H1 h h1){b:Addr}{ob:Obj}(q:h.get? b=some ob)(n:H b=none)(hx:b ∉ ex):∃ sl,h1.get? b=some { ob with slots:=sl }:=by
 by_cases hb:b∈fs
 ·exact u.slot b ob q n hb hx
 ·exact⟨ob.slots,u.keep b ob q n hb hx⟩
theorem Un.kept (k:∀ b u,h.get? b=some u->h'.get? b=some u):Un fs ex H H h h' :=
 ⟨λ b ob q _ _ _=>k b ob q,λ b ob q _ _ _=>⟨ob.slots,k b ob q⟩,λ _ _ _ n _=>n,λ b ob q _=>⟨ob,k b ob q⟩,λ _ _ q=>q,λ _ _ _ q=>q,λ _ ps q=>⟨#[],by rw[q];simp⟩⟩
theorem Un.refl:Un fs ex H H h h:=Un.kept λ _ _ q=>q
theorem Un.laid (k:∀ b u,h.get? b=some u->h'.get? b=some u)(G:h.objs.size<=a)(hn:H a=none):Un fs ex H (upd H a o) h h' where
 keep:=λ b u q _ _ _=>k b u q
 slot:=λ b u q _ _ _=>⟨u.slots,k b u q⟩
 free:=λ b u q n _=>by rw[zm (aA (aq (aD q) G))];exact n
 there:=λ b u q _=>⟨u,k b u q⟩
 tups:=λ b y q=>by rw[zm (zJ q hn)];exact q
 frzs:=λ b u y q=>by rw[zm (zJ q hn)];exact q
 tbls:=λ b ps q=>⟨#[],by rw[zm (zJ q hn),q];simp⟩
theorem Un.write (mu:Mut (H x))(Z:e=x\/H e=some (.own x))(k:∀ b u,b≠e->h.get? b=some u->h'.get? b=some u)(y:∃ u,h'.get? e=some u):Un fs ex H (upd H x o) h h':=by
 have hx:∀ b,H b=none->b≠x:=λ b n z=>by subst z;rw[n]at mu;exact mu
 have hb:∀ b,H b=none->b≠e:=λ b n z=>by
  subst z
  rcases Z with r|r
  ·exact hx b n r
  ·rw[n]at r;cases r
 have G:∀ b u,H b=some u->¬ Mut (some u)->b≠x:=λ b u q Y z=>by subst z;rw[q]at mu;exact Y mu
 refine⟨λ b u q n _ _=>k b u (hb b n) q,λ b u q n _ _=>⟨u.slots,k b u (hb b n) q⟩,λ b u q n _=>by rw[zm (hx b n)];exact n,λ b u q _=>?_,
  λ b J q=>by rw[zm (G b _ q λ z=>z)];exact q,λ b u J q=>by rw[zm (G b _ q λ z=>z)];exact q,λ b ps q=>⟨#[],by rw[zm (G b _ q λ z=>z),q];simp⟩⟩
 by_cases hbe:b=e
 ·subst hbe;exact y
 ·exact⟨u,k b u hbe q⟩
end
noncomputable def trk (h:Heap)(H:Hp):List Addr:=(ac h.objs.size).filter λ a=>(H a).isSome
noncomputable def bh5 (h:Heap)(H:Hp):Heap:=PySem.W.hideAll h (trk h H)
theorem bf7 (h:Heap)(H:Hp):(bh5 h H).objs.size=h.objs.size:=PySem.W.hideAll_size _ _
theorem al5 {h:Heap}{H:Hp}{b:Addr}{o:Obj}(e:h.get? b=some o)(n:H b=none):(bh5 h H).get? b=some o :=
 PySem.W.hideAll_get _ e λ y=>by
  have q:(H b).isSome=true:=(gy.mp y).2
  rw[n]at q;simp at q
theorem bC3 {h:Heap}{H:Hp}{b:Addr}{o:Obj}(e:(bh5 h H).get? b=some o):h.get? b=some o/\H b=none:=by
 have e':h.get? b=some o:=PySem.W.of_hideAll (trk h H) e
 refine⟨e',?_⟩
 cases q:H b with
 | none=>rfl
 | some x =>
  have y:b∈trk h H:=gy.mpr ⟨bA.mpr (aD e'),by simp[q]⟩
  have z:(bh5 h H).get? b=none:=PySem.W.hideAll_none (trk h H) y
  rw[z]at e;cases e
noncomputable def bE9 (g h:Heap)(L:Addr):List (Addr×Obj):=(ac h.objs.size).filterMap λ a=>if a=L\/(g.get? a).isSome=true then none else(h.get? a).map λ o=>(a,o)
noncomputable def rest (g h:Heap)(L d:Addr):List (Addr×Obj):=(bE9 g h L).filter λ p=>decide (p.1≠d)
structure Mod (K:ae)(mg:Str->Option Value)(base:Heap):Prop where
 kin:K.In base
 glob:base.Ns bj mg
 blt:∃ mb,base.Ns f6 mb/\∀ x:Str,x ≠ "__name__"->mb x=be x
 nolimit:base.NoLimit
structure Cx where
 prog:aN
 w:World
 K:ae
 mg:Str->Option Value
 base:Heap
 A:aX
 N:List Str
 s₀:ah
 H₀:Hp
 env:Env
 outer:List Env
 stack:List Env
 ex:List Addr
 fn:Str->Bool
 calm:Bool
 pn:List (Addr×Obj)
 xe:Value->ah->Prop
noncomputable def frs (l:List Env):List Addr:=l.filterMap (·.frame)
noncomputable abbrev Cx.fs (X:Cx):List Addr:=frs X.outer
def Vis (sc:Scope)(x:Str):Prop:=sc.names.lookup x=some .local\/sc.names.lookup x=some .cell\/sc.names.lookup x=some .free
def Loc (sc:Scope)(x:Str):Prop:=sc.names.lookup x=some .local\/sc.names.lookup x=some .cell
def Look (env:Env)(h:Heap)(m:Str->Option Value)(x:Str)(u:Value):Prop :=
 (env.kindOf x=some .local/\m x=some u)\/((env.kindOf x=some .cell\/env.kindOf x=some .free)/\∃ c,env.cells.lookup x=some c/\h.IsCell c (some u))
structure Cx.Ok (X:Cx):Prop where
 mod:Mod X.K X.mg X.base
 kind:X.env.scope.kind=.function
 glob:X.env.globals=bj
 blt:X.env.builtins=f6
 above:X.s₀.heap.objs.size<=X.env.locals
 inj:∀ x y c,X.env.cells.lookup x=some c->X.env.cells.lookup y=some c->x=y
 has:∀ x,(X.env.kindOf x=some .cell\/X.env.kindOf x=some .free)->∃ c,X.env.cells.lookup x=some c
 cab:∀ x c,X.fn x=true->X.env.cells.lookup x=some c->X.s₀.heap.objs.size<=c
 hd:X.calm=true->X.A.handled=none
 frames:X.A.frames=some X.stack
 stk:X.stack=X.outer\/(X.stack=X.env::X.outer/\X.env.frame=some X.env.locals)
 exf:∀ b∈X.ex,b≠X.env.locals/\∀ x c,X.env.cells.lookup x=some c->c≠b
 bs:∀ b o,X.base.get? b=some o->X.s₀.heap.get? b=some o/\X.H₀ b=none
 bsz:X.base.objs.size<=X.s₀.heap.objs.size
 noex:∀ b o,X.base.get? b=some o->b ∉ X.ex
 exfs:∀ b∈X.ex,b ∉ X.fs
 funs:X.s₀.heap.FunFrames X.base X.outer
 frf:∀ b∈X.fs,X.H₀ b=none
structure Inv (X:Cx)(pins:List (Addr×Obj))(σ:List (Option V))(H:Hp)(s:ah):Prop where
 ok:X.Ok
 os:s.os=X.s₀.os
 bare:fq s.gens
 base:Un X.fs X.ex X.H₀ H X.s₀.heap s.heap
 loc:∃ m,s.heap.Ns X.env.locals m/\∀(i:Nat) (x:Str) (v:V),X.N[i]?=some x->σ[i]?=some (some v)->Vis X.env.scope x->∃ u,RelV v u/\Look X.env s.heap m x u
 cell:∀ x c,X.env.cells.lookup x=some c->∃ v,s.heap.IsCell c v
 free:H X.env.locals=none
 freeC:∀ x c,X.env.cells.lookup x=some c->H c=none
 pin:∀ p∈X.pn++pins,s.heap.get? p.1=some p.2/\H p.1=none/\p.1≠X.env.locals/\p.1 ∉ X.fs/\∀ v,p.2.data≠.cell v
 hok:HOk X.prog X.w H s.heap
 len:σ.length=X.N.length
section
variable {X:Cx} {pins:List (Addr×Obj)} {σ:List (Option V)} {H H':Hp} {s:ah} {h':Heap}
theorem Cx.Ok.nofr (ok:X.Ok){b:Addr}{o:Obj}(e:X.base.get? b=some o):b ∉ X.fs:=λ hb=>by
 have:=(ok.funs.mem hb).1
 rw[e]at this;cases this
theorem Inv.bs (I:Inv X pins σ H s):∀ b o,X.base.get? b=some o->s.heap.get? b=some o/\H b=none:=λ b o e =>
 ⟨I.base.keep b o (I.ok.bs b o e).1 (I.ok.bs b o e).2 (I.ok.nofr e) (I.ok.noex b o e),I.base.free b o (I.ok.bs b o e).1 (I.ok.bs b o e).2 (I.ok.noex b o e)⟩
theorem Inv.bk (I:Inv X pins σ H s):∀ b o,X.base.get? b=some o->s.heap.get? b=some o:=λ b o e=>(I.bs b o e).1
theorem Inv.mod (I:Inv X pins σ H s):Mod X.K X.mg X.base:=I.ok.mod
theorem Inv.kIn (I:Inv X pins σ H s):X.K.In s.heap:=I.ok.mod.kin.keeps I.bk
theorem Inv.lt (I:Inv X pins σ H s):X.env.locals<s.heap.objs.size:=let⟨_,hn,_⟩:=I.loc;hn.lt
theorem Inv.sz (I:Inv X pins σ H s):X.s₀.heap.objs.size<=s.heap.objs.size:=am I.ok.above (dv I.lt)
theorem Inv.nofs (I:Inv X pins σ H s){a:Addr}(h:s.heap.objs.size<=a):a ∉ X.fs:=λ hb=>by
 obtain⟨_,o,ho,_⟩:=I.ok.funs.mem hb
 exact absurd (aq (aD ho) (am I.sz h)) (bu _)
theorem Inv.cne (I:Inv X pins σ H s):∀ x c,X.env.cells.lookup x=some c->c≠X.env.locals:=λ x c e z=>by
 obtain⟨v,o,ho,hd⟩:=I.cell x c e
 obtain⟨m,⟨G,es,J,h,y,_⟩,_⟩:=I.loc
 rw[z,h]at ho;cases ho;rw[y]at hd;cases hd
theorem Inv.funs (I:Inv X pins σ H s):s.heap.FunFrames X.base X.outer:=by
 have all:∀(l:List Env),(∀ b∈frs l,b∈X.fs)->X.s₀.heap.FunFrames X.base l->s.heap.FunFrames X.base l:=by
  intro l
  induction l with
  | nil=>intro _ _;trivial
  | cons env r ih =>
   intro hs hl
   obtain⟨hk,⟨L,o,h,hn,ho,hd⟩,G⟩:=hl
   have y:L∈X.fs:=hs L (by unfold frs;rw[bv,h];exact aH)
   obtain⟨sl,e⟩:=I.base.slot L o ho (I.ok.frf L y) y λ z=>I.ok.exfs L z y
   exact⟨hk,⟨L,_,h,hn,e,hd⟩,ih (λ b hb=>hs b (by unfold frs;rw[bv,h];exact az _ hb)) G⟩
 exact all X.outer (λ _ hb=>hb) I.ok.funs
theorem Inv.stack (I:Inv X pins σ H s):s.heap.FunFrames X.base X.stack:=by
 rcases I.ok.stk with e|⟨e,h⟩
 ·rw[e];exact I.funs
 ·rw[e]
  obtain⟨m,hn,_⟩:=I.loc
  refine .cons (by rw[I.ok.kind];decide) h hn ?_ I.funs
  exact Heap.get?_none_of_le (am I.ok.bsz I.ok.above)
theorem Inv.stkSub (I:Inv X pins σ H s):∀ b∈frs X.stack,b∈X.env.locals::X.fs:=λ b hb=>by
 rcases I.ok.stk with e|⟨e,h⟩
 ·rw[e]at hb;exact az _ hb
 ·rw[e]at hb
  unfold frs at hb
  rw[bv,h]at hb
  exact hb
theorem Inv.stkFree (I:Inv X pins σ H s):∀ b∈frs X.stack,H b=none:=λ b hb=>by
 rcases aI.mp (I.stkSub b hb)with e|hb
 ·rw[e];exact I.free
 ·obtain⟨_,o,ho,_⟩:=I.ok.funs.mem hb
  exact I.base.free b o ho (I.ok.frf b hb) λ z=>I.ok.exfs b z hb
theorem Inv.step {g':Array GenState}{t':Nat}{d':Drawn}{ch:List Addr}(I:Inv X pins σ H s)
  (y:∀ b∈ch,(b∈X.ex\/X.s₀.heap.objs.size<=b)/\b≠X.env.locals/\(∀ x c,X.env.cells.lookup x=some c->c≠b)/\∀ p∈X.pn++pins,p.1≠b)
  (keep:∀ b o,b≠X.env.locals->b ∉ X.fs->b ∉ ch->s.heap.get? b=some o->H b=none->h'.get? b=some o)
  (slot:∀ b o,b≠X.env.locals->b∈X.fs->b ∉ ch->s.heap.get? b=some o->H b=none->∃ sl,h'.get? b=some { o with slots:=sl }) (free:∀ b o,b ∉ ch->s.heap.get? b=some o->H b=none->H' b=none)
  (there:∀ b o,b ∉ ch->s.heap.get? b=some o->∃ Z,h'.get? b=some Z)
  (tups:∀ b Y,H b=some (.tup Y)->H' b=some (.tup Y)) (frzs:∀ b o u,H b=some (.frz o u)->H' b=some (.frz o u)) (tbls:∀ b ps,H b=some (.tbl ps)->∃ more,H' b=some (.tbl (ps++more)))
  (ns:∀ m,s.heap.Ns X.env.locals m->h'.Ns X.env.locals m) (hok:HOk X.prog X.w H' h') (hg:fq g') :
  Inv X pins σ H' { s with heap:=h',gens:=g',drawn:=d',toks:=t' }:=by
 have a0:∀ b o,X.s₀.heap.get? b=some o->b≠X.env.locals:=λ b o e=>aA (aq (aD e) I.ok.above)
 have J:∀ b o,X.s₀.heap.get? b=some o->b ∉ X.ex->b ∉ ch:=λ b o e hx hb=>by
  rcases(y b hb).1 with z|z
  ·exact hx z
  ·exact absurd (aq (aD e) z) (bu _)
 have G:∀ x c,X.env.cells.lookup x=some c->∀ v,s.heap.IsCell c v->h'.IsCell c v:=λ x c e v ⟨o,ho,hd⟩=>by
  have h:c ∉ ch:=λ z=>(y c z).2.2.1 x c e rfl
  by_cases hc:c∈X.fs
  ·obtain⟨sl,q⟩:=slot c o (I.cne x c e) hc h ho (I.freeC x c e)
   exact⟨_,q,hd⟩
  ·exact⟨o,keep c o (I.cne x c e) hc h ho (I.freeC x c e),hd⟩
 refine⟨I.ok,I.os,hg,⟨λ b o e n hb hx=>?_,λ b o e n hb hx=>?_,λ b o e n hx=>?_,λ b o e hx=>?_,λ b Y e=>tups b Y (I.base.tups b Y e),λ b o Y e=>frzs b o Y (I.base.frzs b o Y e),λ b ps e=>?_⟩,?_,λ x c e=>?_,?_,λ x c e=>?_,λ p hp=>?_,hok,I.len⟩
 ·exact keep b o (a0 b o e) hb (J b o e hx) (I.base.keep b o e n hb hx) (I.base.free b o e n hx)
 ·obtain⟨sl,e1⟩:=I.base.slot b o e n hb hx
  obtain⟨a1,e2⟩:=slot b _ (a0 b o e) hb (J b o e hx) e1 (I.base.free b o e n hx)
  exact⟨a1,e2⟩
 ·obtain⟨Z,e1⟩:=I.base.there b o e hx
  exact free b Z (J b o e hx) e1 (I.base.free b o e n hx)
 ·obtain⟨Z,e1⟩:=I.base.there b o e hx
  exact there b Z (J b o e hx) e1
 ·obtain⟨m1,e1⟩:=I.base.tbls b ps e
  obtain⟨m2,e2⟩:=tbls b _ e1
  exact⟨m1++m2,by rw[e2,iw]⟩
 ·obtain⟨m,hn,hl⟩:=I.loc
  refine⟨m,ns m hn,λ i x v e1 e2 e3=>?_⟩
  obtain⟨u,r,l⟩:=hl i x v e1 e2 e3
  refine⟨u,r,?_⟩
  rcases l with l|⟨k,c,e,z⟩
  ·exact .inl l
  ·exact .inr ⟨k,c,e,G x c e _ z⟩
 ·obtain⟨v,z⟩:=I.cell x c e
  exact⟨v,G x c e v z⟩
 ·obtain⟨m,⟨o,_,_,ho,_⟩,_⟩:=I.loc
  exact free _ o (λ z=>(y _ z).2.1 rfl) ho I.free
 ·obtain⟨v,o,ho,hd⟩:=I.cell x c e
  exact free c o (λ z=>(y c z).2.2.1 x c e rfl) ho (I.freeC x c e)
 ·obtain⟨e,n,ne,nf,d⟩:=I.pin p hp
  have h:p.1 ∉ ch:=λ z=>(y p.1 z).2.2.2 p hp rfl
  exact⟨keep p.1 p.2 ne nf h e n,free p.1 p.2 h e n,ne,nf,d⟩
theorem Inv.un {t':Nat}(I:Inv X pins σ H s)(u:Un X.fs [] H H' s.heap h')(hok:HOk X.prog X.w H' h'):Inv X pins σ H' { s with heap:=h',toks:=t' }:=by
 obtain⟨m,⟨o,es,ep,ho,r⟩,_⟩:=id I.loc
 obtain⟨sl,Z⟩:=u.any ho I.free (by simp)
 exact I.step (g':=s.gens) (d':=s.drawn) (ch:=[]) (λ _ z=>nomatch z) (λ b o _ hb _ e n=>u.keep b o e n hb (by simp)) (λ b o _ hb _ e n=>u.slot b o e n hb (by simp)) (λ b o _ e n=>u.free b o e n (by simp)) (λ b o _ e=>u.there b o e (by simp)) u.tups u.frzs u.tbls (λ m' Y=>by
  obtain⟨o',y,G,h,J⟩:=Y
  rw[ho]at h;cases h
  exact⟨_,y,G,Z,J⟩) hok I.bare
theorem Inv.call {g':Array GenState}{t':Nat}{d':Drawn}{ch:List Addr}(I:Inv X pins σ H s)(u:Un (frs X.stack) ch H H' s.heap h')(hok:HOk X.prog X.w H' h')(hg:fq g')
  (h:∀ b∈ch,(b∈X.ex\/X.s₀.heap.objs.size<=b)/\b≠X.env.locals/\(∀ x c,X.env.cells.lookup x=some c->c≠b)/\∀ p∈X.pn++pins,p.1≠b) :
  Inv X pins σ H' { s with heap:=h',gens:=g',drawn:=d',toks:=t' }:=by
 obtain⟨m,⟨o,es,ep,ho,r⟩,_⟩:=id I.loc
 obtain⟨sl,G⟩:=u.any ho I.free λ z=>(h _ z).2.1 rfl
 exact I.step (ch:=ch) h (λ b o G hb hc e n=>u.keep b o e n (λ z=>(aI.mp (I.stkSub b z)).elim G hb) hc) (λ b o _ _ hc e n=>u.any e n hc) (λ b o hc e n=>u.free b o e n hc) (λ b o hc e=>u.there b o e hc) u.tups u.frzs u.tbls (λ m' hm=>by
  obtain⟨o',J,Y,y,Z⟩:=hm
  rw[ho]at y;cases y
  exact⟨_,J,Y,G,Z⟩) hok hg
theorem Inv.turned {t':Nat}{h:Addr}(I:Inv X pins σ H s)(k:∀ b o,b≠h->s.heap.get? b=some o->h'.get? b=some o)(hn:H h=none)(G:h≠X.env.locals)
  (J:h∈X.ex\/X.s₀.heap.objs.size<=h) (Y:∀ x c,X.env.cells.lookup x=some c->c≠h) (h3:∀ p∈X.pn++pins,p.1≠h):Inv X pins σ H { s with heap:=h',toks:=t' }:=by
 have y:∀ b u,H b=some u->b≠h:=λ b u e z=>by rw[z,hn]at e;cases e
 refine I.step (g':=s.gens) (d':=s.drawn) (ch:=[h]) (λ b hb=>?_) (λ b o _ _ hc e _=>k b o (λ z=>hc (by simp[z])) e) (λ b o _ _ hc e _=>⟨o.slots,k b o (λ z=>hc (by simp[z])) e⟩) (λ _ _ _ _ n=>n)
  (λ b o hc e=>⟨o,k b o (λ z=>hc (by simp[z])) e⟩) (λ _ _ e=>e) (λ _ _ _ e=>e) (λ b ps e=>⟨#[],by rw[e];simp⟩) (λ m hm=>?_) (λ b u e=>?_) I.bare
 ·have e:b=h:=by simpa using hb
  subst e
  exact⟨J,G,Y,h3⟩
 ·obtain⟨o,es,Z,ho,r⟩:=hm
  exact⟨o,es,Z,k _ o (bU G) ho,r⟩
 ·refine(I.hok b u e).stay (λ c v hc q=>k c v ?_ q) (λ _ q=>q) λ _ _ q=>q
  rcases hc with z|z
  ·rw[z];exact y b u e
  ·exact y c _ z
theorem Inv.tok (I:Inv X pins σ H s)(t:Nat):Inv X pins σ H { s with toks:=t }:=I.un (h':=s.heap) (t':=t) Un.refl I.hok
theorem Inv.kept {t':Nat}(I:Inv X pins σ H s)(k:∀ b u,s.heap.get? b=some u->h'.get? b=some u):Inv X pins σ H { s with heap:=h',toks:=t' }:=I.un (Un.kept k) (I.hok.kept k)
theorem Inv.laid {a:Addr}{o:HO}{t':Nat}(I:Inv X pins σ H s)(k:∀ b u,s.heap.get? b=some u->h'.get? b=some u)(h:s.heap.objs.size<=a)(new:ad9 X.prog X.w (upd H a o) h' a o) :
  Inv X pins σ (upd H a o) { s with heap:=h',toks:=t' }:=I.un (Un.laid k h (I.hok.fresh h)) (I.hok.laid k h new)
theorem Inv.write {x e:Addr}{o:HO}{t':Nat}(I:Inv X pins σ H s)(mu:Mut (H x))(y:e=x\/H e=some (.own x))(k:∀ b u,b≠e->s.heap.get? b=some u->h'.get? b=some u)(h:∃ u,h'.get? e=some u)
  (new:ad9 X.prog X.w (upd H x o) h' x o):Inv X pins σ (upd H x o) { s with heap:=h',toks:=t' }:=I.un (Un.write mu y k h) (I.hok.write mu y k h new)
theorem Inv.pins_of {y:List (Addr×Obj)}(I:Inv X pins σ H s)(h:∀ p∈y,s.heap.get? p.1=some p.2/\H p.1=none/\p.1≠X.env.locals/\p.1 ∉ X.fs/\∀ v,p.2.data≠.cell v):Inv X y σ H s :=
 ⟨I.ok,I.os,I.bare,I.base,I.loc,I.cell,I.free,I.freeC,λ p G=>(bV.mp G).elim (λ z=>I.pin p (dr _ z)) (h p),I.hok,I.len⟩
theorem aM8 {N:List Str}(hN:N.Nodup){i j:Nat}{x:Str}(a:N[i]?=some x)(b:N[j]?=some x):i=j:=by
 obtain⟨y,e1⟩:=ab.mp a
 obtain⟨h,e2⟩:=ab.mp b
 exact(List.getElem_inj hN).mp (e1.trans e2.symm)
theorem aD3 {M:Model}{A:aX}{E:Value->ah->Prop}{i:Nat}{x:Str}{v:V}{u:Value}{Q:Unit->ah->Prop}(I:Inv X pins σ H s)(hN:X.N.Nodup)(hi:X.N[i]?=some x)(hx:Loc X.env.scope x)(r:RelV v u)
  (h:∀ s',Inv X pins (σ.set i (some v)) H s'->(∃ a,dZ a s.heap s'.heap/\(a=X.env.locals\/X.env.cells.lookup x=some a))->Q () s') (hf:X.fn x=true\/X.env.scope.names.lookup x=some .local:=by first|exact .inl rfl|exact .inr rfl|assumption):wpAny M A (fQ X.env x u) Q E s:=by
 obtain⟨m,hn,hl⟩:=id I.loc
 have a3:(X.env.scope.kind==.class||(X.env.scope.kind==.module&&X.env.locals != X.env.globals))=false:=by rw[I.ok.kind];rfl
 have Z:i < σ.length:=by rw[I.len];exact(ab.mp hi).1
 have cne:=I.cne
 have G:∀ {a:Addr} {h':Heap},(∃ o,s.heap.get? a=some o/\H a=none)->dZ a s.heap h'->HOk X.prog X.w H h':=λ {a h'} ha hs b ob e=>by
  obtain⟨_,_,J⟩:=ha
  refine(I.hok b ob e).stay (λ c w' hc q=>(hs.2 c ?_).trans q) (λ _ q=>q) λ _ _ q=>q
  rintro rfl
  rcases hc with rfl|hc
  ·rw[J]at e;cases e
  ·rw[J]at hc;cases hc
 rcases hx with hk|hk
 ·refine gE hk hn (λ h' a5 hs=>?_) a3
  obtain⟨oL,_,_,a4,_⟩:=id hn
  refine h _ ⟨I.ok,I.os,I.bare,⟨λ b o e n hb hx=>?_,λ b o e n hb hx=>?_,I.base.free,λ b o e hx=>?_,I.base.tups,I.base.frzs,I.base.tbls⟩,⟨_,a5,λ j y v' e1 e2 e3=>?_⟩,λ y c e=>?_,I.free,I.freeC,λ p hp=>?_,G ⟨oL,a4,I.free⟩ hs,by simpa using I.len⟩ ⟨_,hs,.inl rfl⟩
  ·exact(hs.2 b (aA (aq (aD e) I.ok.above))).trans (I.base.keep b o e n hb hx)
  ·obtain⟨sl,e1⟩:=I.base.slot b o e n hb hx
   exact⟨sl,(hs.2 b (aA (aq (aD e) I.ok.above))).trans e1⟩
  ·obtain⟨o',e1⟩:=I.base.there b o e hx
   exact⟨o',(hs.2 b (aA (aq (aD e) I.ok.above))).trans e1⟩
  ·by_cases hj:j=i
   ·subst hj
    rw[hi]at e1;cases e1
    rw[aS Z]at e2
    cases e2
    exact⟨u,r,.inl ⟨hk,by simp⟩⟩
   ·rw[aY (bU hj)]at e2
    obtain⟨u',r',q⟩:=hl j y v' e1 e2 e3
    refine⟨u',r',?_⟩
    rcases q with⟨k,e⟩|⟨k,c,e,z⟩
    ·refine .inl ⟨k,?_⟩
     have:y≠x:=λ e=>hj (aM8 hN e1 (e▸hi))
     simp[this,e]
    ·exact .inr ⟨k,c,e,z.sameBut hs (cne y c e)⟩
  ·obtain⟨w',z⟩:=I.cell y c e
   exact⟨w',z.sameBut hs (cne y c e)⟩
  ·obtain⟨e,n,ne,nf,d⟩:=I.pin p hp
   exact⟨(hs.2 p.1 ne).trans e,n,ne,nf,d⟩
 ·have Y:X.fn x=true:=by
   rcases hf with z|z
   ·exact z
   ·rw[z]at hk;cases hk
  obtain⟨c,hc⟩:=I.ok.has x (.inl hk)
  obtain⟨w',z⟩:=I.cell x c hc
  refine gJ I.ok.kind hk hc z (λ h' a0 hs=>?_)
  obtain⟨oc,a1,a2⟩:=id z
  refine h { s with heap:=h' } ⟨I.ok,I.os,I.bare,⟨λ b o e n hb hx=>?_,λ b o e n hb hx=>?_,I.base.free,λ b o e hx=>?_,I.base.tups,I.base.frzs,I.base.tbls⟩,⟨m,hn.sameBut hs (bU (cne x c hc)),λ j y v' e1 e2 e3=>?_⟩,λ y c' e=>?_,I.free,I.freeC,λ p hp=>?_,G ⟨oc,a1,I.freeC x c hc⟩ hs,by simpa using I.len⟩ ⟨c,hs,.inr hc⟩
  ·exact(hs.2 b (aA (aq (aD e) (I.ok.cab x c Y hc)))).trans (I.base.keep b o e n hb hx)
  ·obtain⟨sl,e1⟩:=I.base.slot b o e n hb hx
   exact⟨sl,(hs.2 b (aA (aq (aD e) (I.ok.cab x c Y hc)))).trans e1⟩
  ·obtain⟨o',e1⟩:=I.base.there b o e hx
   exact⟨o',(hs.2 b (aA (aq (aD e) (I.ok.cab x c Y hc)))).trans e1⟩
  ·by_cases hj:j=i
   ·subst hj
    rw[hi]at e1;cases e1
    rw[aS Z]at e2
    cases e2
    exact⟨u,r,.inr ⟨.inl hk,c,hc,a0⟩⟩
   ·rw[aY (bU hj)]at e2
    obtain⟨u',r',q⟩:=hl j y v' e1 e2 e3
    refine⟨u',r',?_⟩
    rcases q with q|⟨k,c',e,z'⟩
    ·exact .inl q
    ·refine .inr ⟨k,c',e,z'.sameBut hs ?_⟩
     rintro rfl
     exact hj (aM8 hN e1 (I.ok.inj _ _ _ e hc▸hi))
  ·by_cases hcc:c'=c
   ·subst hcc;exact⟨_,a0⟩
   ·obtain⟨w2,z2⟩:=I.cell y c' e
    exact⟨w2,z2.sameBut hs hcc⟩
  ·obtain⟨e,n,ne,nf,d⟩:=I.pin p hp
   refine⟨(hs.2 p.1 ?_).trans e,n,ne,nf,d⟩
   intro q
   rw[q,a1]at e
   have q':oc=p.2:=av e
   exact d w' (by rw[<-q'];exact a2)
theorem aw6 {M:Model}{A:aX}{E:Value->ah->Prop}{i:Nat}{x:Str}{v:V}{u:Value}{Q:Unit->ah->Prop}(I:Inv X pins σ H s)(hN:X.N.Nodup)(G:X.N[i]?=some x)(hx:Loc X.env.scope x)(r:RelV v u)
  (h:∀ s',Inv X pins (σ.set i (some v)) H s'->Q () s') (J:X.fn x=true\/X.env.scope.names.lookup x=some .local:=by first|exact .inl rfl|exact .inr rfl|assumption):wpAny M A (fQ X.env x u) Q E s :=
 aD3 I hN G hx r (λ s' y _=>h s' y) J
theorem Inv.call' {s':ah}{ch:List Addr}(I:Inv X pins σ H s)(ho:s'.os=s.os)(u:Un (frs X.stack) ch H H' s.heap s'.heap)(hok:HOk X.prog X.w H' s'.heap)(G:fq s'.gens)
  (h:∀ b∈ch,(b∈X.ex\/X.s₀.heap.objs.size<=b)/\b≠X.env.locals/\(∀ x c,X.env.cells.lookup x=some c->c≠b)/\∀ p∈X.pn++pins,p.1≠b):Inv X pins σ H' s':=by
 obtain⟨h',g',d',t',y⟩:=s'
 have e:y=s.os:=ho
 subst e
 exact I.call (g':=g') (t':=t') (d':=d') u hok G h
end
abbrev XK:=Value->Option Addr->Hp->Prop
noncomputable abbrev St:=List (Option V)
abbrev VK:=V->Hp->Prop
abbrev TE:=St->Hp->VK->Prop
abbrev TT:=St->Hp->(Bool->Hp->Prop)->Prop
abbrev TA:=St->Hp->(List V->Hp->Prop)->Prop
structure Ends where
 nx:St->Hp->Prop
 rt:VK
 bk:St->Hp->Prop:=λ _ _=>False
 ct:St->Hp->Prop:=λ _ _=>False
abbrev TS:=Ends->St->Hp->Prop
def EP (X:Cx)(pins:List (Addr×Obj))(σ:St)(Q:VK)(u:Value)(s':ah):Prop:=∃ v H',Inv X pins σ H' s'/\RelV v u/\Q v H'
def TP (X:Cx)(pins:List (Addr×Obj))(σ:St)(Q:Bool->Hp->Prop)(b:Bool)(s':ah):Prop:=∃ H',Inv X pins σ H' s'/\Q b H'
def AP (X:Cx)(pins:List (Addr×Obj))(σ:St)(Q:List V->Hp->Prop)(us:List Value)(s':ah):Prop:=∃ vs H',Inv X pins σ H' s'/\Vals vs us/\Q vs H'
def SP (X:Cx)(pins:List (Addr×Obj))(D:Ends)(f:Flow)(s':ah):Prop :=
 match f with
 | .next=>∃ σ' H',Inv X pins σ' H' s'/\D.nx σ' H'
 | .brk=>∃ σ' H',Inv X pins σ' H' s'/\D.bk σ' H'
 | .cont=>∃ σ' H',Inv X pins σ' H' s'/\D.ct σ' H'
 | .ret u=>∃ v σ' H',Inv X pins σ' H' s'/\RelV v u/\D.rt v H'
def PE (X:Cx)(e:Expr)(t:TE):Prop :=
 ∀(pins:List (Addr×Obj)) (s:ah) (σ:St) (H:Hp) (Q:VK),Inv X pins σ H s->t σ H Q->wpAny (model X.prog X.w) X.A (eval e X.env) (EP X pins σ Q) X.xe s
def PT (X:Cx)(e:Expr)(t:TT):Prop :=
 ∀(pins:List (Addr×Obj)) (s:ah) (σ:St) (H:Hp) (Q:Bool->Hp->Prop),Inv X pins σ H s->t σ H Q->wpAny (model X.prog X.w) X.A (dP e X.env (eval e X.env)) (TP X pins σ Q) X.xe s
def PW (X:Cx)(e:Expr)(t:TT):Prop :=
 ∀(whole:Sem Value) (pins:List (Addr×Obj)) (s:ah) (σ:St) (H:Hp) (Q:Bool->Hp->Prop),Inv X pins σ H s->t σ H Q->wpAny (model X.prog X.w) X.A (dP e X.env whole) (TP X pins σ Q) X.xe s
theorem PW.pt {X:Cx}{e:Expr}{t:TT}(h:PW X e t):PT X e t:=h _
def PA (X:Cx)(es:List Expr)(t:TA):Prop :=
 ∀(pos:Pos) (pins:List (Addr×Obj)) (s:ah) (σ:St) (H:Hp) (Q:List V->Hp->Prop),Inv X pins σ H s->t σ H Q->wpAny (model X.prog X.w) X.A (spliced (d4 pos (bn es X.env))) (AP X pins σ Q) X.xe s
def PS (X:Cx)(st:Stmt)(t:TS):Prop :=
 ∀(pins:List (Addr×Obj)) (s:ah) (σ:St) (H:Hp) (D:Ends),Inv X pins σ H s->t D σ H->wpAny (model X.prog X.w) X.A (exec st X.env) (SP X pins D) X.xe s
def PSs (X:Cx)(st:List Stmt)(t:TS):Prop :=
 ∀(pins:List (Addr×Obj)) (s:ah) (σ:St) (H:Hp) (D:Ends),Inv X pins σ H s->t D σ H->wpAny (model X.prog X.w) X.A (execs st X.env) (SP X pins D) X.xe s
theorem thn {α:Type}{t:Sem α}{Q y:α->ah->Prop}{M:Model}{A:aX}{E:Value->ah->Prop}{s:ah}(h:wpAny M A t Q E s)(G:∀ a s,Q a s->y a s):wpAny M A t y E s:=ci h G λ _ _ x=>x
section
variable {X:Cx}
theorem bin {a b:Expr}{Y tb:TE}(ha:PE X a Y)(hb:PE X b tb){G:List (Addr×Obj)}{s:ah}{σ:St}{H:Hp}{R:V->V->Hp->Prop}(I:Inv X G σ H s)(h:Y σ H λ x J=>tb σ J λ y H2=>R x y H2)
  {α:Type} {Q:α->ah->Prop} {f:Value->Value->Sem α}
  (hf:∀ v u s2 x y H2,Inv X G σ H2 s2->RelV x v->RelV y u->R x y H2->wpAny (model X.prog X.w) X.A (f v u) Q X.xe s2) :
  wpAny (model X.prog X.w) X.A (eval a X.env) (λ v Z=>wpAny (model X.prog X.w) X.A (eval b X.env) (λ u s₂=>wpAny (model X.prog X.w) X.A (f v u) Q X.xe s₂) X.xe Z) X.xe s:=by
 refine thn (ha G s σ H _ I h) λ v s1 ⟨x,J,I1,r1,q1⟩=>?_
 refine thn (hb G s1 σ J _ I1 q1) λ u s2 ⟨y,H2,I2,r2,q2⟩=>?_
 exact hf v u s2 x y H2 I2 r1 r2 q2
def bs1 (i:Nat):TE:=λ σ H Q=>∃ v,σ[i]?=some (some v)/\Q v H
def tC (v:V):TE:=λ _ H Q=>Q v H
theorem bb9 {i:Nat}{x:Str}{pos:Pos}(hN:X.N[i]?=some x)(hv:Vis X.env.scope x)(hd:(x==("__debug__":Str))=false:=by decide)(G:(x==("__classdict__":Str))=false:=by decide):PE X (.Name x pos) (bs1 i):=by
 intro y s σ H Q I h
 obtain⟨v,e,h⟩:=h
 obtain⟨m,hn,hl⟩:=I.loc
 obtain⟨u,r,l⟩:=hl i x v hN e hv
 have fin:EP X y σ Q u s:=⟨v,H,I,r,h⟩
 rcases l with⟨hk,J⟩|⟨hk,c,hc,hcell⟩
 ·exact j0 (wpAny_loadName_local I.ok.kind hk hn J fin) hd
 ·rcases hk with hk|hk
  ·exact j0 (wpAny_loadName_cell I.ok.kind hk hc hcell fin) hd
  ·exact j0 (wpAny_loadName_free I.ok.kind hk hc hcell fin G) hd
theorem bY2 {i j pos}:PE X (.Constant (.int i) j pos) (tC (.int i)):=λ _ _ _ H _ I h=>wpAny_Constant_int ⟨.int i,H,I.tok _,⟨_,rfl⟩,h⟩
theorem ch0 {b j pos}:PE X (.Constant (.bool b) j pos) (tC (.bl b)):=λ _ _ _ H _ I h=>Constant_bool ⟨.bl b,H,I,rfl,h⟩
theorem bW0 {j pos}:PE X (.Constant .none j pos) (tC .non):=λ _ _ _ H _ I h=>ig ⟨.non,H,I,rfl,h⟩
theorem bU9 {x j pos}:PE X (.Constant (.str x) j pos) (tC (.str x)):=λ _ _ _ H _ I h=>Calls.Constant_str ⟨.str x,H,I.tok _,⟨_,rfl⟩,h⟩
def Gl (X:Cx)(x:Str):Prop:=X.env.kindOf x=some .globalImplicit
theorem av4 {E:Value->ah->Prop}{y:List (Addr×Obj)}{s:ah}{σ:St}{H:Hp}{x:Str}{u:Value}{pos:Pos}{Q:Value->ah->Prop}(I:Inv X y σ H s)(J:Gl X x)(G:X.mg x=some u)(h:Q u s)
  (hd:(x==("__debug__":Str))=false:=by decide):wpAny (model X.prog X.w) X.A (eval (.Name x pos) X.env) Q E s :=
 eY I.ok.kind J (Calls.loadGlobal_global (by rw[I.ok.glob];exact I.mod.glob.keeps I.bk) G h) hd
theorem aA8 {E:Value->ah->Prop}{y:List (Addr×Obj)}{s:ah}{σ:St}{H:Hp}{x:Str}{u:Value}{pos:Pos}{Q:Value->ah->Prop}(I:Inv X y σ H s)(Z:Gl X x)(G:X.mg x=none)(hv:be x=some u)(h:Q u s)
  (hn:x ≠ "__name__":=by decide) (hd:(x==("__debug__":Str))=false:=by decide):wpAny (model X.prog X.w) X.A (eval (.Name x pos) X.env) Q E s:=by
 obtain⟨mb,J,Y⟩:=I.mod.blt
 exact eY I.ok.kind Z (Calls.loadGlobal_builtin (by rw[I.ok.glob];exact I.mod.glob.keeps I.bk) G (by rw[I.ok.blt];exact J.keeps I.bk) ((Y x hn).trans hv) h) hd
theorem bC1 {x:Str}{v:V}{u:Value}{pos:Pos}(G:Gl X x)(y:X.mg x=some u)(r:RelV v u)(hd:(x==("__debug__":Str))=false:=by decide):PE X (.Name x pos) (tC v) :=
 λ _ _ _ H _ I h=>av4 I G y ⟨v,H,I,r,h⟩ hd
theorem bI5 {x:Str}{v:V}{u:Value}{pos:Pos}(G:Gl X x)(y:X.mg x=none)(hv:be x=some u)(r:RelV v u)(hn:x ≠ "__name__":=by decide)(hd:(x==("__debug__":Str))=false:=by decide):PE X (.Name x pos) (tC v) :=
 λ _ _ _ H _ I h=>aA8 I G y hv ⟨v,H,I,r,h⟩ hn hd
variable {a b:Expr} {ta tb:TE} {pos:Pos}
def PC (X:Cx)(op:CmpOp)(a b:Expr)(t:TE):Prop :=
 ∀(pins:List (Addr×Obj)) (s:ah) (σ:St) (H:Hp) (Q:VK),Inv X pins σ H s->t σ H Q ->
  wpAny (model X.prog X.w) X.A (eval a X.env) (λ v s₁=>wpAny (model X.prog X.w) X.A (eval b X.env) (λ u s₂=>wpAny (model X.prog X.w) X.A (c8 op v u) (EP X pins σ Q) X.xe s₂) X.xe s₁) X.xe s
theorem aK2 (b:Expr){op:CmpOp}(h:op≠.In)(y:op≠.NotIn):c9 op b=false:=by
 have e1:(op==CmpOp.In)=false:=by cases op<;>first|rfl|exact absurd rfl h
 have e2:(op==CmpOp.NotIn)=false:=by cases op<;>first|rfl|exact absurd rfl y
 cases b<;>simp[c9,e1,e2]
def tIsN (ta:TE):TE:=λ σ H Q=>ta σ H λ x H1=>Q (.bl (decide (x=.non))) H1
def bP2 (ta:TE):TE:=λ σ H Q=>ta σ H λ x H1=>Q (.bl (!decide (x=.non))) H1
theorem RelV.none_iff {x:V}{v:Value}(r:RelV x v):(v==Value.none)=decide (x=.non):=by
 cases x with
 | non=>cases r;rfl
 | bl _=>cases r;rfl
 | int _=>obtain⟨t,rfl⟩:=r;rfl
 | str _=>obtain⟨t,rfl⟩:=r;rfl
 | byt _=>obtain⟨t,rfl⟩:=r;rfl
 | flt _=>obtain⟨t,rfl⟩:=r;rfl
 | ref _=>cases r;rfl
 | ty _=>cases r;rfl
theorem bq5 {j pos'}(ha:PE X a ta):PC X .Is a (.Constant .none j pos') (tIsN ta):=by
 intro y s σ H Q I h
 refine thn (ha y s σ H _ I h) λ v s1 ⟨x,Y,J,r1,G⟩=>?_
 exact ig (is_none_gen ⟨.bl _,Y,J,by rw[r1.none_iff];rfl,G⟩)
theorem ba1 {j pos'}(ha:PE X a ta):PC X .IsNot a (.Constant .none j pos') (bP2 ta):=by
 intro y s σ H Q I h
 refine thn (ha y s σ H _ I h) λ v s1 ⟨x,Y,J,r1,G⟩=>?_
 exact ig (isnot_none_gen ⟨.bl _,Y,J,by rw[r1.none_iff];rfl,G⟩)
def tB (t:TE):TT:=λ σ H Q=>t σ H λ x H1=>∃ c,x=.bl c/\Q c H1
theorem br6 {op:CmpOp}{t:TE}(h:PC X op a b t)(G:c9 op b=false:=by first|exact aK2 _ (by decide) (by decide)|rfl):PE X (.Compare a [op] [b] pos) t:=λ y s σ H Q I hw=>wpAny_Compare1 (h y s σ H Q I hw) G
theorem bu2 {op:CmpOp}{t:TE}(h:PC X op a b t)(G:c9 op b=false:=by first|exact aK2 _ (by decide) (by decide)|rfl):PT X (.Compare a [op] [b] pos) (tB t):=by
 intro y s σ H Q I hw
 refine gF (thn (h y s σ H _ I hw) λ v s1 G=>thn G λ u s2 Z=>thn Z λ c s3 ⟨x,H1,Y,r1,J⟩=>?_) G
 obtain⟨d,rfl,q⟩:=J
 cases r1
 exact bW ⟨H1,Y,q⟩
theorem bL5 {e:Expr}{t:TE}(h:PE X e t)(he:∀ y,dP e X.env y=(do let v <- y;standAt e.pos;iL [v] (truthy v)):=by intro _;rfl):PT X e (tB t):=by
 intro G s σ H Q I hw
 refine isTrue_plain (thn (h G s σ H _ I hw) λ v s1 ⟨x,Z,Y,r1,J⟩=>?_) (he _)
 obtain⟨d,rfl,q⟩:=J
 cases r1
 exact bW ⟨Z,Y,q⟩
variable {tA tB':TT} {rest:List Expr}
def tAnd (t u:TT):TT:=λ σ H Q=>t σ H λ c H1=>if c=true then u σ H1 Q else Q false H1
def tOr (t u:TT):TT:=λ σ H Q=>t σ H λ c H1=>if c=true then Q true H1 else u σ H1 Q
def tNot (t:TT):TT:=λ σ H Q=>t σ H λ c H1=>Q (!c) H1
theorem bG8 (ha:PT X a tA):PW X (.BoolOp .And [a] pos) tA:=by
 intro G y s σ H Q I h
 refine isTrue_and (thn (ha y s σ H Q I h) λ c s1 e=>?_)
 cases c with
 | true=>exact isTrue_and_nil e
 | false=>exact e
theorem bL2 (ha:PT X a tA):PW X (.BoolOp .Or [a] pos) tA:=by
 intro G y s σ H Q I h
 refine isTrue_or (thn (ha y s σ H Q I h) λ c s1 e=>?_)
 cases c with
 | false=>exact isTrue_or_nil e
 | true=>exact e
theorem br4 (ha:PT X a tA)(hb:PW X (.BoolOp .And (b::rest) pos) tB'):PW X (.BoolOp .And (a::b::rest) pos) (tAnd tA tB'):=by
 intro Z y s σ H Q I h
 refine isTrue_and (thn (ha y s σ H _ I h) λ c s1 ⟨Y,J,G⟩=>?_)
 cases c with
 | true=>exact hb Z y s1 σ Y Q J G
 | false=>exact⟨Y,J,G⟩
theorem bN9 (ha:PT X a tA)(hb:PW X (.BoolOp .Or (b::rest) pos) tB'):PW X (.BoolOp .Or (a::b::rest) pos) (tOr tA tB'):=by
 intro Z y s σ H Q I h
 refine isTrue_or (thn (ha y s σ H _ I h) λ c s1 ⟨Y,J,G⟩=>?_)
 cases c with
 | true=>exact⟨Y,J,G⟩
 | false=>exact hb Z y s1 σ Y Q J G
theorem bW2 (ha:PT X a tA):PT X (.UnaryOp .Not a pos) (tNot tA):=by
 intro y s σ H Q I h
 exact isTrue_not (ha y s σ H (λ c G=>Q (!c) G) I h)
def bQ8 (ta tb:TE):TE:=λ σ H Q=>ta σ H λ x H1=>∃ c,x=.bl c/\if c=true then tb σ H1 Q else Q (.bl false) H1
def tOrV (ta tb:TE):TE:=λ σ H Q=>ta σ H λ x H1=>∃ c,x=.bl c/\if c=true then Q (.bl true) H1 else tb σ H1 Q
def bO6 (ta:TE):TE:=λ σ H Q=>ta σ H λ x H1=>∃ c,x=.bl c/\Q (.bl (!c)) H1
theorem bs2 {op}{t:TE}(h:PE X a t):PE X (.BoolOp op [a] pos) t:=λ y s σ H Q I hw=>BoolOp_one (h y s σ H Q I hw)
theorem bu3 (ha:PE X a ta)(hb:PE X (.BoolOp .And (b::rest) pos) tb):PE X (.BoolOp .And (a::b::rest) pos) (bQ8 ta tb):=by
 intro y s σ H Q I h
 refine BoolOp_and (thn (ha y s σ H _ I h) λ v s1 ⟨x,Y,J,r1,G⟩=>?_)
 obtain⟨c,rfl,G⟩:=G
 cases r1
 refine bW ?_
 cases c with
 | true=>exact hb y s1 σ Y Q J G
 | false=>exact⟨.bl false,Y,J,rfl,G⟩
theorem bU1 (ha:PE X a ta)(hb:PE X (.BoolOp .Or (b::rest) pos) tb):PE X (.BoolOp .Or (a::b::rest) pos) (tOrV ta tb):=by
 intro y s σ H Q I h
 refine BoolOp_or (thn (ha y s σ H _ I h) λ v s1 ⟨x,Y,J,r1,G⟩=>?_)
 obtain⟨c,rfl,G⟩:=G
 cases r1
 refine bW ?_
 cases c with
 | false=>exact hb y s1 σ Y Q J G
 | true=>exact⟨.bl true,Y,J,rfl,G⟩
theorem bK1 (ha:PE X a ta):PE X (.UnaryOp .Not a pos) (bO6 ta):=by
 intro y s σ H Q I h
 refine UnaryOp_ (thn (ha y s σ H _ I h) λ v s1 ⟨x,Y,J,r1,G⟩=>?_)
 obtain⟨c,rfl,G⟩:=G
 cases r1
 exact not_of (bW ⟨.bl (!c),Y,J,rfl,G⟩)
def tIf (t:TT)(ta tb:TE):TE:=λ σ H Q=>t σ H λ c H1=>if c=true then ta σ H1 Q else tb σ H1 Q
theorem bl6 {c:Expr}(hc:PT X c tA)(ha:PE X a ta)(hb:PE X b tb):PE X (.IfExp c a b pos) (tIf tA ta tb):=by
 intro y s σ H Q I h
 refine wpAny_IfExp (thn (hc y s σ H _ I h) λ d s1 ⟨Y,J,G⟩=>?_)
 cases d with
 | true=>exact ha y s1 σ Y Q J G
 | false=>exact hb y s1 σ Y Q J G
end
def SqL (K:ae)(H:Hp)(a:Addr)(xs:List V):Prop :=
 Rd H a (.lst xs) \/
  ∃(o:Obj) (its:Array Value) (n:Nat),K.lookup a=some o/\o.cls=.type "list"/\o.dict=none/\o.data=.seq its n/\its.size<=aL/\Vals xs its.toList
def SqT (K:ae)(H:Hp)(a:Addr)(xs:List V):Prop :=
 Rd H a (.tup xs) \/
  ∃(o:Obj) (its:Array Value) (n:Nat),K.lookup a=some o/\o.cls=.type "tuple"/\o.data=.seq its n/\its.size<=aL/\Vals xs its.toList
noncomputable def absV:Value->Option V
 | .none=>some .non
 | .bool b=>some (.bl b)
 | .int i _=>some (.int i)
 | .str x _=>some (.str x)
 | .bytes b _=>some (.byt b)
 | .float b _=>some (.flt b)
 | .ref a=>some (.ref a)
 | .type n=>some (.ty n)
 | _=>none
theorem RelV.abs {x:V}{u:Value}(r:RelV x u):absV u=some x:=by
 cases x with
 | non=>cases r;rfl
 | bl _=>cases r;rfl
 | int _=>obtain⟨t,rfl⟩:=r;rfl
 | str _=>obtain⟨t,rfl⟩:=r;rfl
 | byt _=>obtain⟨t,rfl⟩:=r;rfl
 | flt _=>obtain⟨t,rfl⟩:=r;rfl
 | ref _=>cases r;rfl
 | ty _=>cases r;rfl
theorem RelV.inj {x y:V}{u:Value}(r:RelV x u)(q:RelV y u):x=y:=av (r.abs.symm.trans q.abs)
theorem Vals.inj:∀ {h ys:List V} {us:List Value},Vals h us->Vals ys us->h=ys
 | _,_,_,.nil,.nil=>rfl
 | _,_,_,.cons r t,.cons r' t'=>by rw[r.inj r',Vals.inj t t']
section
variable {X:Cx} {pins:List (Addr×Obj)} {σ:St} {H:Hp} {s:ah} {a:Addr} {xs ys:List V}
theorem SqL.of {K:ae}(h:H a=some (.lst xs)):SqL K H a xs:=.inl (.inl h)
theorem SqT.of {K:ae}(h:H a=some (.tup xs)):SqT K H a xs:=.inl (.inl h)
theorem Inv.list (I:Inv X pins σ H s)(h:SqL X.K H a xs):∃ its:List Value,Vals xs its/\PlainL s.heap a its.toArray/\xs.length<=aL:=by
 rcases h with h|⟨o,its,n,hk,hc,hd,hs,hz,r⟩
 ·obtain⟨z,its,n,r,e⟩:=h.ok I.hok
  exact⟨its,r,⟨_,n,e,rfl,rfl,rfl⟩,z⟩
 ·refine⟨its.toList,r,⟨o,n,I.kIn a o hk,hc,hd,by simpa using hs⟩,?_⟩
  have e:=r.length
  simp only[eP]at e
  omega
theorem Inv.tuple (I:Inv X pins σ H s)(h:SqT X.K H a xs):∃ its:List Value,Vals xs its/\IsTup s.heap a its.toArray/\xs.length<=aL:=by
 rcases h with h|⟨o,its,n,hk,hc,hs,hz,r⟩
 ·obtain⟨z,its,r,p⟩:=h.ok I.hok
  exact⟨its,r,p,z⟩
 ·refine⟨its.toList,r,⟨o,I.kIn a o hk,hc,n,by simpa using hs⟩,?_⟩
  have e:=r.length
  simp only[eP]at e
  omega
theorem Inv.list_inj (I:Inv X pins σ H s)(h:SqL X.K H a xs)(h':SqL X.K H a ys):xs=ys:=by
 obtain⟨its,r,⟨o,n,e,_,_,d⟩,_⟩:=I.list h
 obtain⟨its',y,⟨J,G,e',_,_,d'⟩,_⟩:=I.list h'
 rw[e]at e';cases e'
 rw[d]at d'
 injection d' with d1 _
 have:its=its':=by simpa using congrArg iM d1
 subst this
 exact r.inj y
theorem Inv.tuple_inj (I:Inv X pins σ H s)(h:SqT X.K H a xs)(h':SqT X.K H a ys):xs=ys:=by
 obtain⟨its,r,⟨o,e,_,n,d⟩,_⟩:=I.tuple h
 obtain⟨its',y,⟨J,e',_,G,d'⟩,_⟩:=I.tuple h'
 rw[e]at e';cases e'
 rw[d]at d'
 injection d' with d1 _
 have:its=its':=by simpa using congrArg iM d1
 subst this
 exact r.inj y
end
noncomputable abbrev Cx.wish (X:Cx)(E:Value->ah->Prop):Cx:={ X with xe:=E }
noncomputable abbrev Cx.nox (X:Cx):Cx:=X.wish λ _ _=>False
theorem Cx.Ok.wish {X:Cx}(ok:X.Ok)(E:Value->ah->Prop):(X.wish E).Ok :=
 ⟨ok.mod,ok.kind,ok.glob,ok.blt,ok.above,ok.inj,ok.has,ok.cab,ok.hd,ok.frames,ok.stk,ok.exf,ok.bs,ok.bsz,ok.noex,ok.exfs,ok.funs,ok.frf⟩
theorem Cx.Ok.unwish {X:Cx}{E:Value->ah->Prop}(ok:(X.wish E).Ok):X.Ok :=
 ⟨ok.mod,ok.kind,ok.glob,ok.blt,ok.above,ok.inj,ok.has,ok.cab,ok.hd,ok.frames,ok.stk,ok.exf,ok.bs,ok.bsz,ok.noex,ok.exfs,ok.funs,ok.frf⟩
section
variable {X:Cx} {pins:List (Addr×Obj)} {σ:St} {H:Hp} {s:ah} {E:Value->ah->Prop}
theorem Inv.wish (I:Inv X pins σ H s)(E:Value->ah->Prop):Inv (X.wish E) pins σ H s:=⟨I.ok.wish E,I.os,I.bare,I.base,I.loc,I.cell,I.free,I.freeC,I.pin,I.hok,I.len⟩
theorem Inv.unwish (I:Inv (X.wish E) pins σ H s):Inv X pins σ H s:=⟨I.ok.unwish,I.os,I.bare,I.base,I.loc,I.cell,I.free,I.freeC,I.pin,I.hok,I.len⟩
theorem SP.unwish {D:Ends}{f:Flow}{s':ah}(h:SP (X.wish E) pins D f s'):SP X pins D f s':=by
 cases f with
 | next=>obtain⟨σ',H',I,q⟩:=h;exact⟨σ',H',I.unwish,q⟩
 | brk=>obtain⟨σ',H',I,q⟩:=h;exact⟨σ',H',I.unwish,q⟩
 | cont=>obtain⟨σ',H',I,q⟩:=h;exact⟨σ',H',I.unwish,q⟩
 | ret u=>obtain⟨v,σ',H',I,r,q⟩:=h;exact⟨v,σ',H',I.unwish,r,q⟩
theorem PSs.nox {st:List Stmt}{t:TS}(h:PSs X.nox st t):PSs X st t:=λ y s σ H D I hw =>
 ci (h y s σ H D (I.wish _) hw) (λ _ _ q=>q.unwish) λ _ _ z=>bF z
end
section
variable {X:Cx} {st:Stmt} {rest:List Stmt} {t u:TS} {e:Expr} {te:TE} {pos:Pos}
def bM6:TS:=λ D σ H=>D.nx σ H
noncomputable def tSeq (t u:TS):TS:=λ D σ H=>t { D with nx:=u D } σ H
theorem aF1:PSs X [] bM6:=λ _ _ σ H _ I h=>gz ⟨σ,H,I,h⟩
theorem am0 (Y:PS X st t)(J:PSs X rest u):PSs X (st::rest) (tSeq t u):=by
 intro y s σ H D I h
 refine wpAny_execs_cons (thn (Y y s σ H { D with nx:=u D } I h) λ f s1 q=>?_)
 cases f with
 | next =>
  obtain⟨σ',H',G,q⟩:=q
  exact J y s1 σ' H' D G q
 | ret v=>exact q
 | brk=>exact q
 | cont=>exact q
theorem Inv.quiet {h:List (Addr×Obj)}{σ:St}{H:Hp}{s:ah}(I:Inv X h σ H s):interactive X.env=false:=by simp[interactive,I.ok.kind]
def bK8 (te:TE):TS:=λ D σ H=>te σ H λ _ H1=>D.nx σ H1
theorem bw3 (J:PE X e te)(hs:eX e none pos.line X.env=pure false:=by rfl):PS X (.Expr e pos) (bK8 te):=by
 intro y s σ H D I h
 exact wpAny_Expr_any (thn (J y s σ H _ I h) λ v s1 ⟨x,Z,Y,r1,G⟩=>⟨σ,Z,Y,G⟩) I.quiet hs
def tRet (te:TE):TS:=λ D σ H=>te σ H D.rt
theorem be2 (J:PE X e te):PS X (.Return (some e) pos) (tRet te):=by
 intro y s σ H D I h
 exact wpAny_Return_some (thn (J y s σ H _ I h) λ v s1 ⟨x,Z,Y,r1,G⟩=>⟨x,σ,Z,Y,r1,G⟩)
def tIfS (c:TT)(t u:TS):TS:=λ D σ H=>c σ H λ b H1=>if b=true then t D σ H1 else u D σ H1
theorem cf1 {c:Expr}{a b:List Stmt}{G:TT}(hc:PT X c G)(ha:PSs X a t)(hb:PSs X b u):PS X (.If c a b pos) (tIfS G t u):=by
 intro y s σ H D I h
 refine wpAny_If (thn (hc y s σ H _ I h) λ d s1 ⟨Z,Y,J⟩=>?_)
 cases d with
 | true=>exact ha y s1 σ Z D Y J
 | false=>exact hb y s1 σ Z D Y J
def bS3:TS:=λ _ _ _=>False
theorem bl2:PS X st bS3:=λ _ _ _ _ _ _ h=>h.elim
end
abbrev TG:=V->St->Hp->(St->Hp->Prop)->Prop
abbrev TGs:=List V->St->Hp->(St->Hp->Prop)->Prop
def PG (X:Cx)(target:Expr)(t:TG):Prop :=
 ∀(pins:List (Addr×Obj)) (s:ah) (σ:St) (H:Hp) (v:V) (u:Value) (Q:St->Hp->Prop),Inv X pins σ H s->RelV v u->t v σ H Q ->
  wpAny (model X.prog X.w) X.A (f7 target X.env u) (λ _ s'=>∃ σ' H',Inv X pins σ' H' s'/\Q σ' H') X.xe s
def PGs (X:Cx)(ts:List Expr)(t:TGs):Prop :=
 ∀(pins:List (Addr×Obj)) (s:ah) (σ:St) (H:Hp) (vs:List V) (us:List Value) (Q:St->Hp->Prop),Inv X pins σ H s->Vals vs us->t vs σ H Q ->
  wpAny (model X.prog X.w) X.A (assignInOrder ((cy ts X.env).map (·.2)) us) (λ _ s'=>∃ σ' H',Inv X pins σ' H' s'/\Q σ' H') X.xe s
abbrev bZ8:=V->V->V->Hp->(Hp->Prop)->Prop
def cc4 (X:Cx)(t:bZ8):Prop :=
 ∀(pins:List (Addr×Obj)) (s:ah) (σ:St) (H:Hp) (o i v:V) (ov iv u:Value) (Q:Hp->Prop),Inv X pins σ H s->RelV o ov->RelV i iv->RelV v u->t o i v H Q ->
  wpAny (model X.prog X.w) X.A (setItem ov iv u) (λ _ s'=>∃ H',Inv X pins σ H' s'/\Q H') X.xe s
section
variable {X:Cx} {pos:Pos}
def az7 (i:Nat):TG:=λ v σ H Q=>Q (σ.set i (some v)) H
theorem aX9 {i:Nat}{x:Str}(hN:X.N.Nodup)(J:X.N[i]?=some x)(hx:Loc X.env.scope x)(Y:X.fn x=true\/X.env.scope.names.lookup x=some .local:=by first|exact .inl rfl|exact .inr rfl|assumption):PG X (.Name x pos) (az7 i):=by
 intro y s σ H v u Q I r h
 exact iO (aw6 I hN J hx r (λ s' G=>⟨_,H,G,h⟩) Y)
def gNil:TGs:=λ vs σ H Q=>vs=[]/\Q σ H
def bV4 (t:TG)(u:TGs):TGs:=λ vs σ H Q=>∃ v r,vs=v::r/\t v σ H λ σ' H'=>u r σ' H' Q
theorem bB0:PGs X [] gNil:=by
 intro y s σ H vs us Q I r h
 obtain⟨e,h⟩:=h
 subst e
 cases r
 exact assignInOrder_nil ⟨σ,H,I,h⟩
theorem bk2 {e:Expr}{es:List Expr}{t:TG}{u:TGs}(Y:PG X e t)(h2:PGs X es u)
  (hs:(cy (e::es) X.env).map (·.2)=f7 e X.env::(cy es X.env).map (·.2):=by rfl):PGs X (e::es) (bV4 t u):=by
 intro y s σ H vs us Q I r h
 obtain⟨v,vr,e1,h⟩:=h
 subst e1
 cases r with
 | cons r rr =>
  rw[hs]
  refine assignInOrder_cons (thn (Y y s σ H _ _ _ I r h) λ _ s1 ⟨σ1,J,G,Z⟩=>?_)
  exact h2 y s1 σ1 J _ _ Q G rr Z
def cb0 (K:ae)(n:Nat)(t:TGs):TG:=λ v σ H Q=>∃ a xs,v=.ref a/\SqT K H a xs/\xs.length=n/\t xs σ H Q
theorem bT1 {es:List Expr}{k:Nat}{t:TGs}{n:Nat}(hc:X.calm=true)(h:PGs X es t)
  (hn:(cy es X.env).length=n:=by rfl) (G:(cy es X.env).findIdx? (·.1)=none:=by rfl):PG X (.Tuple es k pos) (cb0 X.K n t):=by
 intro y s σ H v u Q I r hw
 obtain⟨a,xs,e1,hq,hl,hw⟩:=hw
 subst e1
 cases r
 obtain⟨its,J,Z,hz⟩:=I.tuple hq
 refine assign_Tuple_tuple (I.ok.hd hc) Z (by simp[hn,<-hl,J.length]) G λ h' hx=>?_
 have Y:Inv X y σ H { s with heap:=h' }:=I.kept (t':=s.toks) λ b o e=>hx b o (aA (aD e)) e
 exact h y _ σ H xs _ Q Y (by simpa using J) hw
def gSub (to ti:TE)(t:bZ8):TG:=λ v σ H Q=>to σ H λ o H1=>ti σ H1 λ i H2=>t o i v H2 λ H3=>Q σ H3
theorem bM3 {o i:Expr}{Z ti:TE}{t:bZ8}(ho:PE X o Z)(hi:PE X i ti)(hs:cc4 X t)
  (ha:∀ v,f7 (.Subscript o i pos) X.env v=(do
   let J <- iL [v] (eval o X.env)
   let Y <- iL [v,J] (eval i X.env)
   standAt pos
   iL [v,J,Y] (setItem J Y v)
   release [v,J,Y] []):=by intro _;rfl):PG X (.Subscript o i pos) (gSub Z ti t):=by
 intro G s σ H v u Q I r h
 rw[ha]
 refine ak (da (thn (ho G s σ H _ I h) λ J s1 ⟨x,H1,I1,r1,q1⟩=>?_))
 refine ak (da (thn (hi G s1 σ H1 _ I1 q1) λ Y s2 ⟨y,H2,I2,r2,q2⟩=>?_))
 refine ak (ii (ak (da (thn (hs G s2 σ H2 x y v J Y u _ I2 r1 r2 r q2) λ _ s3 ⟨H3,I3,q3⟩=>?_))))
 exact wpAny_release ⟨σ,H3,I3,q3⟩
def bi2 (te:TE)(g:TG):TS:=λ D σ H=>te σ H λ x H1=>g x σ H1 D.nx
theorem bq8 {tg e:Expr}{G:TE}{g:TG}(Y:PE X e G)(hg:PG X tg g)(hs:swapsWithSole [tg] e pos.line X.env=pure false:=by rfl)(hw:ij [tg] e X.env=pure none:=by rfl)
  (h1:(cy [tg] X.env).map (·.2)=[f7 tg X.env]:=by rfl):PS X (.Assign [tg] e pos) (bi2 G g):=by
 intro y s σ H D I h
 refine wpAny_Assign_stores (thn (Y y s σ H _ I h) λ v s1 ⟨x,H1,Z,r1,J⟩=>?_) hs hw
 rw[h1]
 exact thn (hg y s1 σ H1 x v _ Z r1 J) λ _ s2 q=>q
theorem bs5 {i:Nat}{x:Str}{e:Expr}{Y:TE}{G:Pos}(hN:X.N.Nodup)(hi:X.N[i]?=some x)(hx:Loc X.env.scope x)(he:PE X e Y)(hs:eX e (some (.Name x G)) pos.line X.env=pure false:=by rfl)(Z:X.fn x=true\/X.env.scope.names.lookup x=some .local:=by first|exact .inl rfl|exact .inr rfl|assumption) :
  PS X (.Assign [.Name x G] e pos) (bi2 Y (az7 i)):=by
 intro J s σ H D I h
 refine wpAny_Assign_Name (thn (he J s σ H _ I h) λ v s1 ⟨y,H1,I1,r1,q1⟩=>?_) hs
 exact aw6 I1 hN hi hx r1 (λ s2 I2=>⟨_,H1,I2,q1⟩) Z
end
section
variable {X:Cx} {pos:Pos}
def bu4 (c:TT)(tb:TS):TS:=λ D σ H=>∃ W:Nat->St->Hp->Prop,(∃ m,W m σ H)/\∀ m σ H,W m σ H ->
 c σ H λ b H1=>if b=true then ∃ N:St->Hp->Prop,(∀ σ' H',N σ' H'->∃ m',m'<m/\W m' σ' H')/\tb { D with nx:=N,ct:=N,bk:=D.nx } σ H1 else D.nx σ H1
theorem bm3 {c:Expr}{body:List Stmt}{tc:TT}{tb:TS}(hp:PassesOwn (model X.prog X.w) X.A X.env X.xe)(hc:PT X c tc)(hb:PSs X body tb):PS X (.While c body [] pos) (bu4 tc tb):=by
 intro y s σ H D I h
 obtain⟨W,⟨m0,w0⟩,turn⟩:=h
 refine wpAny_While (codeAny_whileLoop (λ n s'=>∃ σ' H',Inv X y σ' H' s'/\W n σ' H') ?_ m0 ⟨σ,H,I,w0⟩)
 rintro n s1 ⟨σ1,H1,I1,w1⟩
 refine cD hp (thn (hc y s1 σ1 H1 _ I1 (turn n σ1 H1 w1)) λ b s2 ⟨H2,I2,q2⟩=>?_)
 cases b with
 | true =>
  obtain⟨N,hN,q2⟩:=q2
  rw[if_pos rfl]
  refine cD hp (thn (hb y s2 σ1 H2 _ I2 q2) λ f s3 q3=>?_)
  cases f with
  | next =>
   obtain⟨σ3,G,I3,Y⟩:=q3
   obtain⟨m',Z,J⟩:=hN σ3 G Y
   exact⟨m',Z,σ3,G,I3,J⟩
  | cont =>
   obtain⟨σ3,G,I3,Y⟩:=q3
   obtain⟨m',Z,J⟩:=hN σ3 G Y
   exact⟨m',Z,σ3,G,I3,J⟩
  | brk=>exact q3
  | ret v=>exact q3
 | false =>
  rw[if_neg aR]
  exact gz ⟨σ1,H2,I2,q2⟩
end
structure It where
 go:Nat->Hp->Prop
 yld:Nat->Hp->V->Hp->Prop
 stop:Nat->Hp->Prop
def FpOk (X:Cx)(pins:List (Addr×Obj))(H:Hp)(b:Addr):Prop :=
 H b=none/\b≠X.env.locals/\b ∉ X.fs/\(b∈X.ex\/X.s₀.heap.objs.size<=b)/\(∀ x c,X.env.cells.lookup x=some c->c≠b)/\∀ p∈X.pn++pins,p.1≠b
theorem Inv.fpOk {X:Cx}{h:List (Addr×Obj)}{σ:St}{H H':Hp}{s:ah}{b:Addr}(I:Inv X h σ H s)(hb:s.heap.objs.size<=b)(hn:H' b=none):FpOk X h H' b:=by
 refine⟨hn,dw (aq I.lt hb),I.nofs hb,.inr (am I.sz hb),λ x c e z=>?_,λ p y z=>?_⟩
 ·obtain⟨v,q⟩:=I.cell x c e
  exact absurd (aq q.lt (by rw[z];exact hb)) (bu _)
 ·exact absurd (aq (aD (I.pin p y).1) (by rw[z];exact hb)) (bu _)
structure Turn (P:aN)(w:World)(K:ae)(tg:Expr)(J:It)(fp:List Addr)(it:Addr)(tn:Nat->Heap->Prop):Prop where
 mem:it∈fp
 obj:∀ i h,tn i h->∀ b∈fp,∃ o,h.get? b=some o/\∀ v,o.data≠.cell v
 keep:∀ i h h',tn i h->(∀ b∈fp,∀ o,h.get? b=some o->h'.get? b=some o)->tn i h'
 item:∀(X:Cx),X.prog=P->X.w=w->X.K=K->X.calm=true->∀(i:Nat) (pins:List (Addr×Obj)) (s:ah) (σ:St) (H:Hp) (E:Value->ah->Prop),Inv X pins σ H s->(∀ b∈fp,FpOk X pins H b)->tn i s.heap->J.go i H ->
  wpAny (model P w) X.A (iZ (.ref it)) (λ r s1=>∃ u,r=some u /\
   wpAny (model P w) X.A (eK tg (.ref it) u) (λ _ s2=>∃ x H',Inv X pins σ H' s2/\RelV x u/\J.yld i H x H'/\tn (i+1) s2.heap/\∀ b∈fp,H' b=none) E s1) E s
 done:∀(X:Cx),X.prog=P->X.w=w->X.K=K->X.calm=true->∀(i:Nat) (pins:List (Addr×Obj)) (s:ah) (σ:St) (H:Hp) (E:Value->ah->Prop),Inv X pins σ H s->(∀ b∈fp,FpOk X pins H b)->tn i s.heap->J.stop i H ->
  wpAny (model P w) X.A (iZ (.ref it)) (λ r s1=>r=none/\Inv X pins σ H s1) E s
 self:∀(A:aX) (i:Nat) (s:ah) (Q:Value->ah->Prop) (E:Value->ah->Prop),tn i s.heap->Q (.ref it) s->wpAny (model P w) A (kx (.ref it)) Q E s
abbrev TI:=St->Hp->(It->Hp->Prop)->Prop
def PIE (X:Cx)(pins:List (Addr×Obj))(σ:St)(tg:Expr)(R:It->Hp->Prop)(itv:Value)(s2:ah):Prop :=
 ∃(it:Addr) (fp:List Addr) (tn:Nat->Heap->Prop) (J:It) (H':Hp),itv=.ref it/\Inv X pins σ H' s2/\Turn X.prog X.w X.K tg J fp it tn/\tn 0 s2.heap/\(∀ b∈fp,FpOk X pins H' b)/\R J H'
def PI (X:Cx)(tg iter:Expr)(wi:TI):Prop :=
 ∀(pins:List (Addr×Obj)) (s:ah) (σ:St) (H:Hp) (R:It->Hp->Prop),Inv X pins σ H s->wi σ H R ->
  wpAny (model X.prog X.w) X.A (eval iter X.env) (λ v s1=>wpAny (model X.prog X.w) X.A (kx v) (PIE X pins σ tg R) X.xe s1) X.xe s
theorem bl8 {M : Model} {A : Around} {E : Value -> Shared -> Prop} {s : Shared} {tg : Expr} {it : Addr} {u : Value} {o : Obj} {n : String} {vs : Array Value} {Q : Unit -> Shared -> Prop} (ho : s.heap.get? it = some o) (hc : o.cls = .type n) (hd : o.data = .fields vs)
    (hn : ["enumerate", "zip", "dict_itemiterator", "dict_reverseitemiterator", "odict_iterator", "itertools.zip_longest", "itertools.pairwise"].contains n = false) (hQ : Q () s) : wpAny M A (eK tg (.ref it) u) Q E s := by
  unfold eK
  cases tg <;> first
    | exact aG hQ
    | (cases u <;> first
        | exact aG hQ
        | (refine ak (wpAny_load ho ?_)
           rw[hc, hd]
           show wpAny M A (if(["enumerate", "zip", "dict_itemiterator", "dict_reverseitemiterator", "odict_iterator", "itertools.zip_longest", "itertools.pairwise"].contains n && vs[0]? == some (cM _)) = true then _ else _) Q E s
           rw[if_neg (by intro h; rw[hn, Bool.false_and]at h; cases h)]
           exact aG hQ))
noncomputable def Itl (K:ae)(a:Addr):It :=
 ⟨λ i H=>∃ xs x,SqL K H a xs/\xs[i]?=some x,λ i H x H'=>H'=H/\∀ xs,SqL K H a xs->xs[i]?=some x,λ i H=>∃ xs,SqL K H a xs/\xs.length<=i⟩
noncomputable def Itt (K:ae)(a:Addr):It :=
 ⟨λ i H=>∃ xs x,SqT K H a xs/\xs[i]?=some x,λ i H x H'=>H'=H/\∀ xs,SqT K H a xs->xs[i]?=some x,λ i H=>∃ xs,SqT K H a xs/\xs.length<=i⟩
noncomputable def Itr (lo:Int)(n:Nat):It:=⟨λ i _=>i<n,λ i H x H'=>H'=H/\x=.int (lo+i),λ i _=>n<=i⟩
theorem bd9 {P:aN}{w:World}{K:ae}{tg:Expr}(a G:Addr):Turn P w K tg (Itl K a) [G] G (λ i h=>h.IsListIter G a i) where
 mem:=by simp
 obj:=λ i h st b hb=>by
  have e:b=G:=by simpa using hb
  subst e
  obtain⟨o,e,c,d⟩:=st
  exact⟨o,e,λ v z=>by rw[d]at z;cases z⟩
 keep:=λ i h h' st k=>st.at λ o e=>k G (by simp) o e
 item:=by
  intro X Z hw hK hc i y s σ H E I Y st hg
  subst Z hw hK
  obtain⟨xs,x,hq,hx⟩:=hg
  obtain⟨its,rv,p,hz⟩:=I.list hq
  obtain⟨u,hu,ru⟩:=rv.get hx
  obtain⟨f0,f1,f2,f3,f4,f5⟩:=Y G (by simp)
  refine wpAny_pyNext_list_item st p.isList (x:=u) (by simpa using hu) λ h' J sb=>?_
  have I1:Inv X y σ H { s with heap:=h' }:=I.turned (t':=s.toks) (λ b o hb e=>(sb.2 b hb).trans e) f0 f1 f3 f4 f5
  obtain⟨o,e,c,d⟩:=id J
  exact⟨u,rfl,bl8 (s:={ s with heap:=h' }) e c d (by decide) ⟨x,H,I1,ru,⟨rfl,λ ys hy=>by rw[I.list_inj hy hq];exact hx⟩,J,λ b hb=>(Y b hb).1⟩⟩
 done:=by
  intro X Z hw hK hc i y s σ H E I Y st hg
  subst Z hw hK
  obtain⟨xs,hq,hx⟩:=hg
  obtain⟨its,rv,p,hz⟩:=I.list hq
  obtain⟨f0,f1,f2,f3,f4,f5⟩:=Y G (by simp)
  have hl:=rv.length
  exact wpAny_pyNext_list_end (I.ok.hd hc) st p.isList (by simp;omega) λ h' eb=>⟨rfl,I.turned (t':=s.toks) (λ b o hb e=>eb b o hb e) f0 f1 f3 f4 f5⟩
 self:=λ _ _ _ _ _ st h=>wpAny_pyIter_listiter st h
theorem aT5 {P:aN}{w:World}{K:ae}{tg:Expr}(a G:Addr):Turn P w K tg (Itt K a) [G] G (λ i h=>h.IsTupleIter G a i) where
 mem:=by simp
 obj:=λ i h st b hb=>by
  have e:b=G:=by simpa using hb
  subst e
  obtain⟨o,e,c,d⟩:=st
  exact⟨o,e,λ v z=>by rw[d]at z;cases z⟩
 keep:=λ i h h' st k=>st.at λ o e=>k G (by simp) o e
 item:=by
  intro X Z hw hK hc i y s σ H E I Y st hg
  subst Z hw hK
  obtain⟨xs,x,hq,hx⟩:=hg
  obtain⟨its,rv,p,hz⟩:=I.tuple hq
  obtain⟨u,hu,ru⟩:=rv.get hx
  obtain⟨f0,f1,f2,f3,f4,f5⟩:=Y G (by simp)
  refine wpAny_pyNext_tuple_item st (show s.heap.IsTuple a its.toArray from p) (x:=u) (by simpa using hu) λ h' J sb=>?_
  have I1:Inv X y σ H { s with heap:=h' }:=I.turned (t':=s.toks) (λ b o hb e=>(sb.2 b hb).trans e) f0 f1 f3 f4 f5
  obtain⟨o,e,c,d⟩:=id J
  exact⟨u,rfl,bl8 (s:={ s with heap:=h' }) e c d (by decide) ⟨x,H,I1,ru,⟨rfl,λ ys hy=>by rw[I.tuple_inj hy hq];exact hx⟩,J,λ b hb=>(Y b hb).1⟩⟩
 done:=by
  intro X Z hw hK hc i y s σ H E I Y st hg
  subst Z hw hK
  obtain⟨xs,hq,hx⟩:=hg
  obtain⟨its,rv,p,hz⟩:=I.tuple hq
  obtain⟨f0,f1,f2,f3,f4,f5⟩:=Y G (by simp)
  have hl:=rv.length
  exact wpAny_pyNext_tuple_end (I.ok.hd hc) st (show s.heap.IsTuple a its.toArray from p) (by simp;omega) λ h' eb=>⟨rfl,I.turned (t':=s.toks) (λ b o hb e=>eb b o hb e) f0 f1 f3 f4 f5⟩
 self:=λ _ _ _ _ _ st h=>wpAny_pyIter_tupleiter st h
theorem aQ4 {P:aN}{w:World}{K:ae}{tg:Expr}(y:Addr)(Y:Int)(n:Nat):Turn P w K tg (Itr Y n) [y] y (λ i h=>IsRangeIter h y (Y+(i:Nat)*1) ((n:Int) - (i:Nat)) 1) where
 mem:=by simp
 obj:=λ i h st b hb=>by
  have e:b=y:=by simpa using hb
  subst e
  exact⟨_,st,λ v z=>by
   have z':Data.fields _=Data.cell v:=z
   cases z'⟩
 keep:=λ i h h' st k=>k y (by simp) _ st
 item:=by
  intro X hP hw hK hc i G s σ H E I Z st hg
  subst hP hw hK
  obtain⟨f0,f1,f2,f3,f4,f5⟩:=Z y (by simp)
  have W:=Walks.range (prog:=X.prog) (w:=X.w) (I.ok.hd hc) y Y 1 n
  refine W.item i s _ _ hg st λ v h' tk hv J kk=>?_
  obtain⟨t,rfl⟩:=hv
  have I1:Inv X G σ H { s with heap:=h',toks:=tk }:=I.turned (λ b o hb e=>kk b o (by simpa using hb) e) f0 f1 f3 f4 f5
  refine⟨_,rfl,bl8 (s:={ s with heap:=h',toks:=tk }) (n := "range_iterator") J rfl rfl (by decide) ⟨.int (Y+i),H,I1,⟨t,?_⟩,⟨rfl,rfl⟩,J,λ b hb=>(Z b hb).1⟩⟩
  rw[Int.mul_one]
 done:=by
  intro X hP hw hK hc i G s σ H E I Z st hg
  subst hP hw hK
  obtain⟨f0,f1,f2,f3,f4,f5⟩:=Z y (by simp)
  exact wpAny_pyNext_range_end (I.ok.hd hc) st (by have:n<=i:=hg;omega) λ h' eb=>⟨rfl,I.turned (t':=s.toks) (λ b o hb e=>eb b o hb e) f0 f1 f3 f4 f5⟩
 self:=λ _ _ _ _ _ st h=>wpAny_pyIter_rangeiter st h
section
variable {X:Cx} {tg:Expr}
def bB1 (K:ae)(tl:TE):TI:=λ σ H R=>tl σ H λ x H1=>∃ a,x=.ref a/\(∃ xs,SqL K H1 a xs)/\R (Itl K a) H1
def cb9 (K:ae)(tl:TE):TI:=λ σ H R=>tl σ H λ x H1=>∃ a,x=.ref a/\(∃ xs,SqT K H1 a xs)/\R (Itt K a) H1
theorem bz9 {l:Expr}{J:TE}(hl:PE X l J):PI X tg l (bB1 X.K J):=by
 intro y s σ H R I h
 refine thn (hl y s σ H _ I h) λ v s1 ⟨x,Y,G,r1,Z⟩=>?_
 obtain⟨a,e,⟨xs,hq⟩,q⟩:=Z
 subst e
 cases r1
 obtain⟨its,rv,p,hz⟩:=G.list hq
 refine di p.isList ?_
 refine⟨s1.heap.objs.size,[s1.heap.objs.size],_,_,Y,rfl,G.kept (t':=s1.toks) λ b o e=>aj _ e,bd9 a _,⟨_,aP _ rfl,rfl,rfl⟩,λ b hb=>?_,q⟩
 have e:b=s1.heap.objs.size:=by simpa using hb
 subst e
 exact G.fpOk (ai _) (G.hok.fresh (ai _))
theorem bJ6 {l:Expr}{J:TE}(hl:PE X l J):PI X tg l (cb9 X.K J):=by
 intro y s σ H R I h
 refine thn (hl y s σ H _ I h) λ v s1 ⟨x,Y,G,r1,Z⟩=>?_
 obtain⟨a,e,⟨xs,hq⟩,q⟩:=Z
 subst e
 cases r1
 obtain⟨its,rv,p,hz⟩:=G.tuple hq
 refine iy (show s1.heap.IsTuple a its.toArray from p) ?_
 refine⟨s1.heap.objs.size,[s1.heap.objs.size],_,_,Y,rfl,G.kept (t':=s1.toks) λ b o e=>aj _ e,aT5 a _,⟨_,aP _ rfl,rfl,rfl⟩,λ b hb=>?_,q⟩
 have e:b=s1.heap.objs.size:=by simpa using hb
 subst e
 exact G.fpOk (ai _) (G.hok.fresh (ai _))
theorem bp1 {G:List (Addr×Obj)}{σ:St}{H:Hp}{s:ah}{R:It->Hp->Prop}{E:Value->ah->Prop}{h y:Int}{t u v:Tok}{tk:Nat}(I:Inv X G σ H s)(Z:-(2^62)<=h)(h2:h<2^62)(h3:-(2^62)<=y)(Y:y<2^62)
  (q:R (Itr h (y - h).toNat) H):wpAny (model X.prog X.w) X.A (kx (.ref s.heap.objs.size)) (PIE X G σ tg R) E { s with heap:=s.heap.push { cls:=.type "range",data:=.fields #[.int h t,.int y u,.int 1 v] },toks:=tk }:=by
 refine wpAny_pyIter_range (IsRange.new ..) (small_one Z h2 h3 Y) ?_
 have J:Inv X G σ H { s with heap:=s.heap.push { cls:=.type "range",data:=.fields #[.int h t,.int y u,.int 1 v] },toks:=tk }:=I.kept λ b o e=>aj _ e
 refine⟨(s.heap.push { cls:=.type "range",data:=.fields #[.int h t,.int y u,.int 1 v] }).objs.size,[(s.heap.push { cls:=.type "range",data:=.fields #[.int h t,.int y u,.int 1 v] }).objs.size],_,_,H,rfl,
  J.kept (t':=tk) λ b o e=>aj _ e,aQ4 _ h (y - h).toNat,?_,λ b hb=>?_,q⟩
 ·have e1:h+((0:Nat):Int)*1=h:=by simp
  have e2:(((y - h).toNat:Nat):Int) - ((0:Nat):Int)=kr h y 1:=by rw[rangeSize_one];split<;>omega
  show IsRangeIter _ _ (h+((0:Nat):Int)*1) ((((y - h).toNat:Nat):Int) - ((0:Nat):Int)) 1
  rw[e1,e2]
  exact aP _ rfl
 ·have e:b=(s.heap.push { cls:=.type "range",data:=.fields #[.int h t,.int y u,.int 1 v] }).objs.size:=by simpa using hb
  subst e
  exact J.fpOk (ai _) (J.hok.fresh (ai _))
def bL1 (ta:TA):TI:=λ σ H R=>ta σ H λ vs H1=>∃ j:Int,vs=[.int j]/\-(2^62)<=j/\j<2^62/\R (Itr 0 j.toNat) H1
theorem bc0 {a:Expr}{J:TA}{p pos:Pos}(hg:Gl X "range")(Z:X.mg "range"=none)(ha:PA X [a] J)(hs:bn [a] X.env=[(false,eval a X.env)]:=by rfl):PI X tg (.Call (.Name "range" p) [a] [] pos) (bL1 J):=by
 intro y s σ H R I h
 refine Call_ (aA8 I hg Z boot_range (eQ (thn (ha pos y s σ H _ I h) λ us s1 ⟨vs,H1,Y,r1,G⟩=>?_) hs rfl))
 obtain⟨j,e,G,q2,q⟩:=G
 subst e
 cases r1 with
 | cons r rr =>
  cases rr
  obtain⟨t,rfl⟩:=r
  exact call_range_1 (bp1 Y (by omega) (by omega) G q2 (by simpa using q))
def tFor (wi:TI)(g:TG)(tb:TS):TS:=λ D σ H=>wi σ H λ J H1=>∃ W:Nat->Nat->St->Hp->Prop,(∃ m,W 0 m σ H1)/\∀ i m σ H,W i m σ H ->
 (J.stop i H/\D.nx σ H)\/(J.go i H/\∃ N:St->Hp->Prop,(∀ σ' H',N σ' H'->∃ m',m'<m/\W (i+1) m' σ' H')/\∀ x H',J.yld i H x H'->g x σ H' λ σ2 H2=>tb { D with nx:=N,ct:=N,bk:=D.nx } σ2 H2)
noncomputable def az4 (fp:List Addr)(h:Heap):List (Addr×Obj):=fp.filterMap λ b=>(h.get? b).map λ o=>(b,o)
theorem js {y:List Addr}{h:Heap}{b:Addr}{o:Obj}(hb:b∈y)(e:h.get? b=some o):(b,o)∈az4 y h:=bN.mpr ⟨b,hb,by rw[e];rfl⟩
theorem aY0 {y:List Addr}{h:Heap}{p:Addr×Obj}(G:p∈az4 y h):p.1∈y/\h.get? p.1=some p.2:=by
 obtain⟨b,hb,e⟩:=bN.mp G
 cases q:h.get? b with
 | none=>rw[q]at e;cases e
 | some o =>
  rw[q]at e
  have e':(b,o)=p:=av e
  subst e'
  exact⟨hb,q⟩
theorem Inv.pinned {h:List (Addr×Obj)}{σ:St}{H:Hp}{s:ah}{y:List Addr}(I:Inv X h σ H s)(J:∀ b∈y,FpOk X h H b)(ho:∀ b∈y,∃ o,s.heap.get? b=some o/\∀ v,o.data≠.cell v):Inv X (h++az4 y s.heap) σ H s :=
 I.pins_of λ p Z=>(bV.mp Z).elim (λ z=>I.pin p (bf _ z)) λ z=>by
  obtain⟨hb,e⟩:=aY0 z
  obtain⟨Y,f1,G,_⟩:=J p.1 hb
  obtain⟨o,e',d⟩:=ho p.1 hb
  rw[e]at e';cases e'
  exact⟨e,Y,f1,G,d⟩
theorem Inv.unpinned {h G:List (Addr×Obj)}{σ:St}{H:Hp}{s:ah}(I:Inv X (h++G) σ H s):Inv X h σ H s:=I.pins_of λ p y=>I.pin p (bf _ (dr _ y))
theorem bX1 {iter:Expr}{body:List Stmt}{wi:TI}{g:TG}{tb:TS}{pos:Pos}(hp:PassesOwn (model X.prog X.w) X.A X.env X.xe)(hc:X.calm=true)(hi:PI X tg iter wi)(hg:PG X tg g)(hb:PSs X body tb)
  (hs:∀ x,dj iter X.env x=pure x:=by intro _;rfl):PS X (.For tg iter body [] pos) (tFor wi g tb):=by
 intro y s σ H D I h
 refine wpAny_For (thn (hi y s σ H _ I h) λ v s1 h1=>thn h1 λ a6 s2 h2=>?_) hs
 obtain⟨it,fp,tn,J,H2,e,I2,T,a5,f2,W,⟨m0,w0⟩,turn⟩:=h2
 subst e
 have Z:∀ {H':Hp},(∀ b∈fp,H' b=none)->∀ b∈fp,FpOk X y H' b:=λ hn b hb=>⟨hn b hb,(f2 b hb).2⟩
 refine codeAny_forLoop_any (λ n s'=>∃ i σ' H',Inv X y σ' H' s'/\tn i s'.heap/\(∀ b∈fp,H' b=none)/\W i n σ' H') ?_ m0 ⟨0,σ,H2,I2,a5,λ b hb=>(f2 b hb).1,w0⟩
 rintro n s3 ⟨i,σ3,H3,I3,a2,a1,w3⟩
 rcases turn i n σ3 H3 w3 with⟨stop,qn⟩|⟨go,N,hN,step⟩
 ·refine cD hp (thn (T.done X rfl rfl rfl hc i y s3 σ3 H3 X.xe I3 (Z a1) a2 stop) λ r s4 ⟨hr,I4⟩=>?_)
  subst hr
  exact gz ⟨σ3,H3,I4,qn⟩
 ·refine cD hp (thn (T.item X rfl rfl rfl hc i y s3 σ3 H3 X.xe I3 (Z a1) a2 go) λ r s4 ⟨u,hr,h4⟩=>?_)
  subst hr
  refine cD hp (thn h4 λ _ s5 ⟨x,H5,I5,r5,y5,a0,a3⟩=>?_)
  have a4:=I5.pinned (Z a3) (T.obj _ _ a0)
  refine cD hp (thn (hg _ s5 σ3 H5 x u _ a4 r5 (step x H5 y5)) λ _ s6 ⟨σ6,H6,I6,q6⟩=>?_)
  refine cD hp (thn (hb _ s6 σ6 H6 _ I6 q6) λ f s7 q7=>?_)
  have G:∀ {σ7:St} {H7:Hp},Inv X (y++az4 fp s5.heap) σ7 H7 s7->N σ7 H7->∃ m,m<n/\∃ i σ' H',Inv X y σ' H' s7/\tn i s7.heap/\(∀ b∈fp,H' b=none)/\W i m σ' H':=λ {σ7 H7} Y n7=>by
   obtain⟨m',hm,w7⟩:=hN σ7 H7 n7
   refine⟨m',hm,i+1,σ7,H7,Y.unpinned,T.keep _ _ _ a0 λ b hb o e=>(Y.pin (b,o) (bf _ (bf _ (js hb e)))).1,λ b hb=>?_,w7⟩
   obtain⟨o,e,d⟩:=T.obj _ _ a0 b hb
   exact(Y.pin (b,o) (bf _ (bf _ (js hb e)))).2.1
  cases f with
  | next=>obtain⟨σ7,H7,Y,n7⟩:=q7;exact G Y n7
  | cont=>obtain⟨σ7,H7,Y,n7⟩:=q7;exact G Y n7
  | brk=>obtain⟨σ7,H7,Y,q7⟩:=q7;exact⟨σ7,H7,Y.unpinned,q7⟩
  | ret v=>obtain⟨x7,σ7,H7,Y,r7,q7⟩:=q7;exact⟨x7,σ7,H7,Y.unpinned,r7,q7⟩
end
abbrev R2:=V->V->Hp->VK->Prop
def OpR (X:Cx)(f:Value->Value->Sem Value)(r:R2):Prop :=
 ∀(pins:List (Addr×Obj)) (s:ah) (σ:St) (H:Hp) (x y:V) (v u:Value) (Q:VK),Inv X pins σ H s->RelV x v->RelV y u->r x y H Q ->
  wpAny (model X.prog X.w) X.A (f v u) (EP X pins σ Q) X.xe s
def UnR (X:Cx)(f:Value->Sem Value)(r:V->Hp->VK->Prop):Prop :=
 ∀(pins:List (Addr×Obj)) (s:ah) (σ:St) (H:Hp) (x:V) (v:Value) (Q:VK),Inv X pins σ H s->RelV x v->r x H Q ->
  wpAny (model X.prog X.w) X.A (f v) (EP X pins σ Q) X.xe s
def ae2 (X:Cx)(f:Value)(r:List V->Hp->VK->Prop):Prop :=
 ∀(pins:List (Addr×Obj)) (s:ah) (σ:St) (H:Hp) (xs:List V) (us:List Value) (Q:VK),Inv X pins σ H s->Vals xs us->r xs H Q ->
  wpAny (model X.prog X.w) X.A (call f us) (EP X pins σ Q) X.xe s
def tOp (r:R2)(ta tb:TE):TE:=λ σ H Q=>ta σ H λ x H1=>tb σ H1 λ y H2=>r x y H2 Q
def tUn (r:V->Hp->VK->Prop)(ta:TE):TE:=λ σ H Q=>ta σ H λ x H1=>r x H1 Q
def rI (C:Int->Int->Prop)(g:Int->Int->V):R2:=λ x y H Q=>∃ i j,x=.int i/\y=.int j/\C i j/\Q (g i j) H
def rI0 (g:Int->Int->V):R2:=λ x y H Q=>∃ i j,x=.int i/\y=.int j/\Q (g i j) H
def rU (g:Int->V):V->Hp->VK->Prop:=λ x H Q=>∃ i,x=.int i/\Q (g i) H
section
variable {X:Cx} {a b c:Expr} {ta tb tc:TE} {pos:Pos}
theorem cd3 (ha:PE X a ta)(hb:PE X b tb){G:List (Addr×Obj)}{s:ah}{σ:St}{H:Hp}{R:V->V->Hp->Prop}(I:Inv X G σ H s)
  (h:ta σ H λ x J=>tb σ J λ y H2=>R x y H2) {Q:Value->ah->Prop} {f:Value->Value->Sem Value}
  (hf:∀ v u s2 x y H2,Inv X G σ H2 s2->RelV x v->RelV y u->R x y H2->wpAny (model X.prog X.w) X.A (f v u) Q X.xe s2) :
  wpAny (model X.prog X.w) X.A (eval a X.env) (λ v Y=>wpAny (model X.prog X.w) X.A (eval b X.env) (λ u s₂=>wpAny (model X.prog X.w) X.A (f v u) Q X.xe s₂) X.xe Y) X.xe s:=by
 refine thn (ha G s σ H _ I h) λ v s1 ⟨x,J,I1,r1,q1⟩=>?_
 refine thn (hb G s1 σ J _ I1 q1) λ u s2 ⟨y,H2,I2,Z,q2⟩=>?_
 exact hf v u s2 x y H2 I2 r1 Z q2
theorem cg3 {op:Operator}{r:R2}(ho:OpR X (b9 op) r)(ha:PE X a ta)(hb:PE X b tb):PE X (.BinOp a op b pos) (tOp r ta tb):=by
 intro G s σ H Q I h
 exact wpAny_BinOp (cd3 ha hb I h λ v u s2 x y H2 I2 J Y q=>ho G s2 σ H2 x y v u Q I2 J Y q)
theorem ca4 {op:UnaryOp}{r:V->Hp->VK->Prop}(ho:UnR X (unaryOp op) r)(ha:PE X a ta):PE X (.UnaryOp op a pos) (tUn r ta):=by
 intro y s σ H Q I h
 exact UnaryOp_ (thn (ha y s σ H _ I h) λ v s1 ⟨x,Y,J,r1,G⟩=>ho y s1 σ Y x v Q J r1 G)
theorem opI {f:Value->Value->Sem Value}{C:Int->Int->Prop}{g:Int->Int->Int}
  (rule:∀(i j:Int) (t u:Tok) (s:ah) (Q:Value->ah->Prop) (E:Value->ah->Prop),C i j->Q (.int (g i j) s.toks) { s with toks:=s.toks+1 }->wpAny (model X.prog X.w) X.A (f (.int i t) (.int j u)) Q E s) :
  OpR X f (rI C λ i j=>.int (g i j)):=by
 intro G s σ H x y v u Q I J Y h
 obtain⟨i,j,rfl,rfl,hc,q⟩:=h
 obtain⟨t,rfl⟩:=J
 obtain⟨t',rfl⟩:=Y
 exact rule i j t t' s _ _ hc ⟨.int (g i j),H,I.tok _,⟨_,rfl⟩,q⟩
theorem opI0 {f:Value->Value->Sem Value}{g:Int->Int->Int}
  (rule:∀(i j:Int) (t u:Tok) (s:ah) (Q:Value->ah->Prop) (E:Value->ah->Prop),Q (.int (g i j) s.toks) { s with toks:=s.toks+1 }->wpAny (model X.prog X.w) X.A (f (.int i t) (.int j u)) Q E s) :
  OpR X f (rI0 λ i j=>.int (g i j)):=by
 intro G s σ H x y v u Q I J Y h
 obtain⟨i,j,rfl,rfl,q⟩:=h
 obtain⟨t,rfl⟩:=J
 obtain⟨t',rfl⟩:=Y
 exact rule i j t t' s _ _ ⟨.int (g i j),H,I.tok _,⟨_,rfl⟩,q⟩
theorem bY7 {f:Value->Value->Sem Value}{g:Int->Int->Bool}
  (rule:∀(i j:Int) (t u:Tok) (s:ah) (Q:Value->ah->Prop) (E:Value->ah->Prop),Q (.bool (g i j)) s->wpAny (model X.prog X.w) X.A (f (.int i t) (.int j u)) Q E s) :
  OpR X f (rI0 λ i j=>.bl (g i j)):=by
 intro G s σ H x y v u Q I J Y h
 obtain⟨i,j,rfl,rfl,q⟩:=h
 obtain⟨t,rfl⟩:=J
 obtain⟨t',rfl⟩:=Y
 exact rule i j t t' s _ _ ⟨.bl (g i j),H,I,rfl,q⟩
def CPow (i j:Int):Prop:=0<=j/\j<=1000000/\i.natAbs<2^64
def bY8 (i j:Int):Prop:=(-(2^64)<i/\i<2^64)\/(-(2^64)<j/\j<2^64)
theorem bY8.ok {i j:Int}(h:bY8 i j):IntMulOk i j:=by
 rcases h with⟨y,G⟩|⟨y,G⟩
 ·exact .of_left (intBits_le_64 y G)
 ·exact .of_right (intBits_le_64 y G)
theorem aS2 (k:Nat):(0:Int)<=2^k:=by
 rw[two_pow_cast]
 exact Int.natCast_nonneg _
theorem bS6:OpR X (b9 .Add) (rI0 λ i j=>.int (i+j)):=opI0 λ _ _ _ _ _ _ _ q=>add_int q
theorem bO8:OpR X (b9 .Sub) (rI0 λ i j=>.int (i - j)):=opI0 λ _ _ _ _ _ _ _ q=>sub_int q
theorem bM8:OpR X (b9 .Mod) (rI (λ _ j=>0<j) λ i j=>.int (i % j)):=opI λ i j _ _ _ _ _ hc q=>by
 have h:(0:Int)<j:=hc
 exact mod_int' (by omega) (by rw[Int.fmod_eq_emod_of_nonneg i (by omega)];exact q)
theorem bN0:OpR X (b9 .Pow) (rI CPow λ i j=>.int (i^j.toNat)):=opI λ _ _ _ _ _ _ _ hc q=>pow_int_small hc.1 hc.2.1 hc.2.2 q
theorem bP8:OpR X (b9 .LShift) (rI CPow λ i j=>.int (i*2^j.toNat)):=opI λ _ _ _ _ _ _ _ hc q=>lshift_int_small hc.1 hc.2.1 hc.2.2 q
theorem bN1:OpR X (b9 .RShift) (rI (λ _ j=>0<=j) λ i j=>.int (i / 2^j.toNat)):=opI λ i j _ _ _ _ _ hc q =>
 rshift_int hc (by rw[eZ i (aS2 _)];exact q)
theorem unI {f:Value->Sem Value}{g:Int->Int}
  (rule:∀(i:Int) (t:Tok) (s:ah) (Q:Value->ah->Prop) (E:Value->ah->Prop),Q (.int (g i) s.toks) { s with toks:=s.toks+1 }->wpAny (model X.prog X.w) X.A (f (.int i t)) Q E s) :
  UnR X f (rU λ i=>.int (g i)):=by
 intro y s σ H x v Q I G h
 obtain⟨i,rfl,q⟩:=h
 obtain⟨t,rfl⟩:=G
 exact rule i t s _ _ ⟨.int (g i),H,I.tok _,⟨_,rfl⟩,q⟩
theorem bV7:UnR X (unaryOp .USub) (rU λ i=>.int (-i)):=unI λ _ _ _ _ _ q=>neg_int q
end
section
variable {X:Cx} {a b c:Expr} {ta tb tc:TE} {pos:Pos}
theorem cb7:OpR X (c8 .Lt) (rI0 λ i j=>.bl (decide (i<j))):=bY7 λ _ _ _ _ _ _ _ q=>lt_int q
theorem cg0:OpR X (c8 .LtE) (rI0 λ i j=>.bl (decide (i<=j))):=bY7 λ _ _ _ _ _ _ _ q=>le_int q
theorem cf8:OpR X (c8 .Gt) (rI0 λ i j=>.bl (decide (j<i))):=bY7 λ _ _ _ _ _ _ _ q=>gt_int q
theorem cg9:OpR X (c8 .GtE) (rI0 λ i j=>.bl (decide (j<=i))):=bY7 λ _ _ _ _ _ _ _ q=>ge_int q
theorem bC5 {op:CmpOp}{r:R2}(ho:OpR X (c8 op) r)(ha:PE X a ta)(hb:PE X b tb)(Z:c9 op b=false):PE X (.Compare a [op] [b] pos) (tOp r ta tb):=by
 intro G s σ H Q I h
 exact wpAny_Compare1 (cd3 ha hb I h λ v u s2 x y H2 I2 J Y q=>ho G s2 σ H2 x y v u Q I2 J Y q) Z
def bP6 (t:TE):TT:=λ σ H Q=>t σ H λ x H'=>∃ k,x=.bl k/\Q k H'
theorem bE2 {op:CmpOp}{r:R2}(ho:OpR X (c8 op) r)(ha:PE X a ta)(hb:PE X b tb)(hm:c9 op b=false):PT X (.Compare a [op] [b] pos) (bP6 (tOp r ta tb)):=by
 intro G s σ H Q I h
 refine gF (thn (ha G s σ H _ I h) λ v s1 ⟨x,Z,Y,r1,q1⟩=>thn (hb G s1 σ Z _ Y q1) λ u s2 ⟨y,H2,I2,J,q2⟩ =>
  thn (ho G s2 σ H2 x y v u _ I2 r1 J q2) λ c s3 ⟨z,H3,I3,r3,k,e,q3⟩=>?_) hm
 subst e
 cases r3
 exact bW ⟨H3,I3,q3⟩
theorem an1:(aL:Nat)<2^63:=by rw[fu];decide
theorem aT1:OpR X (b9 .Add) (λ x y H Q=>∃ i j,x=.str i/\y=.str j/\i.length+j.length<=aL/\Q (.str (i++j)) H):=by
 intro G s σ H x y v u Q I J Y h
 obtain⟨i,j,rfl,rfl,hz,q⟩:=h
 obtain⟨t,rfl⟩:=J
 obtain⟨t',rfl⟩:=Y
 exact add_str (λ t' tk=>⟨.str (i++j),H,I.tok _,⟨_,rfl⟩,q⟩) hz
theorem ak7 {x:V}{us:List Value}(r:Vals [x] us):∃ u,us=[u]/\RelV x u:=by
 cases r with
 | cons r1 r2=>cases r2;exact⟨_,rfl,r1⟩
theorem bA3 {x y:V}{us:List Value}(r:Vals [x,y] us):∃ u h,us=[u,h]/\RelV x u/\RelV y h:=by
 cases r with
 | cons r1 r2 =>
  cases r2 with
  | cons r3 r4=>cases r4;exact⟨_,_,rfl,r1,r3⟩
theorem bn2:ae2 X (.builtin "abs") (λ y H Q=>∃ i,y=[.int i]/\Q (.int (if i<0 then -i else i)) H):=by
 intro G s σ H y us Q I r h
 obtain⟨i,rfl,q⟩:=h
 obtain⟨u,rfl,t,rfl⟩:=ak7 r
 exact call_abs_int λ u tk=>⟨.int (if i<0 then -i else i),H,I.tok _,⟨_,rfl⟩,q⟩
theorem aZ5 (hc:X.calm=true):ae2 X (.builtin "max") (λ y H Q=>∃ i j,y=[.int i,.int j]/\Q (.int (if j > i then j else i)) H):=by
 intro G s σ H y us Q I r h
 obtain⟨i,j,rfl,q⟩:=h
 obtain⟨u,J,rfl,⟨t,rfl⟩,⟨t',rfl⟩⟩:=bA3 r
 refine max_two_ints (I.ok.hd hc) λ h' tk k=>⟨_,H,I.kept k,?_,q⟩
 by_cases hj:j > i
 ·rw[if_pos hj,if_pos hj];exact⟨_,rfl⟩
 ·rw[if_neg hj,if_neg hj];exact⟨_,rfl⟩
theorem be9 (hc:X.calm=true):ae2 X (.builtin "min") (λ y H Q=>∃ i j,y=[.int i,.int j]/\Q (.int (if j<i then j else i)) H):=by
 intro G s σ H y us Q I r h
 obtain⟨i,j,rfl,q⟩:=h
 obtain⟨u,J,rfl,⟨t,rfl⟩,⟨t',rfl⟩⟩:=bA3 r
 refine min_two_ints (I.ok.hd hc) λ h' tk k=>⟨_,H,I.kept k,?_,q⟩
 by_cases hj:j<i
 ·rw[if_pos hj,if_pos hj];exact⟨_,rfl⟩
 ·rw[if_neg hj,if_neg hj];exact⟨_,rfl⟩
theorem bd5:ae2 X (.type "int") (λ y H Q=>(∃ i,y=[.int i]/\Q (.int i) H)\/∃ k,y=[.bl k]/\Q (.int (if k then 1 else 0)) H):=by
 intro G s σ H y us Q I r h
 rcases h with⟨i,rfl,q⟩|⟨k,rfl,q⟩
 ·obtain⟨u,rfl,t,rfl⟩:=ak7 r
  exact call_int_int ⟨.int i,H,I,⟨_,rfl⟩,q⟩
 ·obtain⟨u,rfl,r1⟩:=ak7 r
  cases r1
  exact call_int_bool ⟨.int (if k then 1 else 0),H,I.tok _,⟨_,rfl⟩,q⟩
end
structure ObjM (h:Heap)(x dx C:Addr)(mA:Str->Option Value):Prop where
 obj:h.get? x=some (gx C dx)
 ns:h.Ns1 dx mA
 ne:dx≠x
theorem aU3 {h:Heap}{Y:Addr}{J:Str->Option Value}(n:h.Ns1 Y J):∃ od,h.get? Y=some od/\∀ name,gK name od=some (J name):=by
 obtain⟨o,es,ep,ho,hd,hk,_,Z⟩:=n
 refine⟨o,ho,λ name=>?_⟩
 have e:=Z name
 unfold nsFind findBy at e
 rw[<-Array.find?_toList]at e
 unfold gK
 rw[hd]
 dsimp only
 split
 ·rename_i y q
  rw[q]at e
  exact congrArg some e
 ·rename_i q
  rw[q]at e
  have a:es.toList.any (·.refKey)=false:=by
   rw[List.any_eq_false]
   intro y hy
   obtain⟨z,t,G⟩:=hk y (Array.mem_toList_iff.mp hy)
   simp[DictEntry.refKey,G]
  have a':¬ es.toList.any (·.refKey)=true:=by rw[a];exact aR
  rw[if_neg a']
  exact congrArg some e
theorem ObjM.look {h:Heap}{x y C:Addr}{G:Str->Option Value}(I:ObjM h x y C G):∃ od,PySem.W.InstAt h x (gx C y) C (some od)/\∀ name,gK name od=some (G name) :=
 let⟨od,ho,hl⟩:=aU3 I.ns
 ⟨od,⟨I.obj,rfl,rfl,ho⟩,hl⟩
section
variable {prog:aN} {w:World} {A:aX} {E:Value->ah->Prop} {s:ah} {K:ae} {x dx C f:Addr} {mA:Str->Option Value} {name:Str} {v:Value}
end
theorem aY2.some_of {v:V}{o:Option Value}(r:aY2 (some v) o):∃ u,o=some u/\RelV v u:=by
 cases o with
 | none=>exact(show False from r).elim
 | some u=>exact⟨u,rfl,r⟩
section
variable {P:aN} {w:World} {H H':Hp} {h h':Heap} {a C dx:Addr} {fs fs':List (Str×V)}
theorem bv4 (hok:HOk P w H h)(e:H a=some (.ins C dx fs)):∃ y,ObjM h a dx C y/\(∀ f,aY2 (fs.lookup f) (y f))/\ku y (fs.map (·.1))/\fs.length<=1000/\H dx=some (.own a):=by
 obtain⟨d,z,ne,ob,y,n,r,q⟩:=(show ad9 P w H h a (.ins C dx fs)from hok a _ e)
 exact⟨y,⟨ob,n,ne⟩,r,q,z,d⟩
end
structure Cls (K:ae)(C:Addr):Prop where
 pg:i0 K C Str.empty=true
 hd:PySem.W.hasDictIn K C=true
 po:PySem.W.plainOver K C=true
 sa:gL K (.ref C) "__setattr__"=some (some (.builtin "object.__setattr__"))
theorem Cls.get {K:ae}{C:Addr}(c:Cls K C)(f:Str):i0 K C f=true:=c.pg
section
variable {X:Cx} {pins:List (Addr×Obj)} {σ:St} {H:Hp} {s:ah} {a C dx:Addr} {fs:List (Str×V)} {f:Str} {v:V} {A:aX} {E:Value->ah->Prop}
end
section
variable {X:Cx} {o e value:Expr} {f:Str} {pos pos' tpos:Pos} {ta tv:TE}
end
section
variable {X:Cx} {pins:List (Addr×Obj)} {σ:St} {H:Hp} {s:ah} {A:aX} {E:Value->ah->Prop} {Q:Value->ah->Prop} {c:Value} {b:Bool}
inductive TyOf (K:ae)(H:Hp):V->Value->Prop where
 | non:TyOf K H .non (.type "NoneType")
 | bl (x:Bool):TyOf K H (.bl x) (.type "bool")
 | int (i:Int):TyOf K H (.int i) (.type "int")
 | str (x:Str):TyOf K H (.str x) (.type "str")
 | flt (x:UInt64):TyOf K H (.flt x) (.type "float")
 | lst {a:Addr} {xs:List V} (e:H a=some (.lst xs)):TyOf K H (.ref a) (.type "list")
 | frz {a:Addr} {o:Obj} {xs:List V} (e:H a=some (.frz o (.lst xs))):TyOf K H (.ref a) (.type "list")
 | tup {a:Addr} {xs:List V} (e:H a=some (.tup xs)):TyOf K H (.ref a) (.type "tuple")
 | dK {a:Addr} {kvs:List (Key×V)} (e:H a=some (.dK kvs)):TyOf K H (.ref a) (.type "dict")
 | dT {a:Addr} {kvs:List (List Key×V)} (e:H a=some (.dT kvs)):TyOf K H (.ref a) (.type "dict")
 | ins {a C dx:Addr} {fs:List (Str×V)} (e:H a=some (.ins C dx fs)) (cl:Cls K C) (ha:gL K (.ref C) "__class__"=some (some (.builtin "object.__class__")))
   (hn:PySem.W.specialIn K (.builtin "object.__class__") "__get__"=some (some (.builtin "getset_descriptor.__get__"))) (htk:PySem.W.takesIn K (.builtin "object.__class__")=some true)
   (hm:PySem.W.mroIn K C (.type "object")=some true):TyOf K H (.ref a) (.ref C)
theorem jp {x:V}{u t:Value}(I:Inv X pins σ H s)(G:RelV x u)(ty:TyOf X.K H x t)(e:cz X.K t c=some b)(h:∀ tk,Q (.bool b) { s with toks:=tk }) :
  wpAny (model X.prog X.w) A (call (.builtin "isinstance") [u,c]) Q E s:=by
 cases ty with
 | non=>cases(show u=Value.none from G);exact bK PySem.W.kitx_none I.kIn True.intro e (λ z=>nomatch z) h
 | bl y=>cases(show u=Value.bool y from G);exact bK PySem.W.kitx_bool I.kIn True.intro e (λ z=>nomatch z) h
 | int i=>obtain⟨t,q⟩:=(show ∃ t,u=Value.int i t from G);cases q;exact bK PySem.W.kitx_int I.kIn True.intro e (λ z=>nomatch z) h
 | str y=>obtain⟨t,q⟩:=(show ∃ t,u=Value.str y t from G);cases q;exact bK PySem.W.kitx_str I.kIn True.intro e (λ z=>nomatch z) h
 | flt y=>obtain⟨t,q⟩:=(show ∃ t,u=Value.float y t from G);cases q;exact bK PySem.W.kitx_float I.kIn True.intro e (λ z=>nomatch z) h
 | @lst a Z ea =>
  cases(show u=Value.ref a from G)
  obtain⟨_,_,n,_,Y⟩:=(show ad9 X.prog X.w H s.heap a (.lst Z)from I.hok a _ ea)
  exact bK iP I.kIn ⟨_,Y,rfl⟩ e (λ z=>nomatch z) h
 | @frz a ob Z ea =>
  cases(show u=Value.ref a from G)
  obtain⟨_,_,_,n,_,Y⟩:=(show ad9 X.prog X.w H s.heap a (.frz ob (.lst Z))from I.hok a _ ea)
  exact bK iP I.kIn ⟨_,Y,rfl⟩ e (λ z=>nomatch z) h
 | @tup a Z ea =>
  cases(show u=Value.ref a from G)
  obtain⟨_,_,_,p⟩:=(show ad9 X.prog X.w H s.heap a (.tup Z)from I.hok a _ ea)
  obtain⟨o,Y,h2,_⟩:=p
  exact bK iz I.kIn ⟨o,Y,h2⟩ e (λ z=>nomatch z) h
 | @dK a kvs ea =>
  cases(show u=Value.ref a from G)
  obtain⟨_,_,vs,_,p⟩:=(show ad9 X.prog X.w H s.heap a (.dK kvs)from I.hok a _ ea)
  obtain⟨o,es,ep,Y,h2,_⟩:=p
  exact bK iQ I.kIn ⟨o,Y,h2.1⟩ e (λ z=>nomatch z) h
 | @dT a kvs ea =>
  cases(show u=Value.ref a from G)
  obtain⟨_,_,Z,_,o,es,ep,Y,h2,_⟩:=(show ad9 X.prog X.w H s.heap a (.dT kvs)from I.hok a _ ea)
  exact bK iQ I.kIn ⟨o,Y,h2.1⟩ e (λ z=>nomatch z) h
 | @ins a C dx fs ea cl ha hn htk hm =>
  cases(show u=Value.ref a from G)
  obtain⟨mA,O,_⟩:=bv4 I.hok ea
  obtain⟨od,J,_⟩:=O.look
  exact bK (PySem.W.kitx_own (cl.get _) cl.hd ha hn htk hm) I.kIn J e (λ z=>nomatch z) h
end
structure Room (k:Nat)(A:aX):Prop where
 hd:A.handled=none
 dp:A.depth+3*k+5<recursionLimit
 un:A.units+16*k+200<cLine
theorem Room.mono {j k:Nat}{A:aX}(r:Room k A)(h:j<=k):Room j A:=⟨r.hd,by have:=r.dp;omega,by have:=r.un;omega⟩
theorem Room.deeper {k:Nat}{A:aX}(r:Room (k+1) A)(env:Env):Room k (A.deeper env) :=
 ⟨r.hd,by have:=r.dp;show A.depth+1+3*k+5<_;omega,by have:=r.un;show A.units+3+16*k+200<_;omega⟩
theorem Room.in1 {k:Nat}{A:aX}(r:Room (k+1) A):Room k A.in1 :=
 ⟨r.hd,by have:=r.dp;show A.depth+3*k+5<_;omega,by have:=r.un;show A.units+1+16*k+200<_;omega⟩
theorem Room.depth {k:Nat}{A:aX}(r:Room k A):A.depth<recursionLimit:=by have:=r.dp;omega
theorem Room.units {k:Nat}{A:aX}(r:Room k A):A.units+64<cLine:=by have:=r.un;omega
theorem Room.units0 {k:Nat}{A:aX}(r:Room k A):A.units<cLine:=by have:=r.un;omega
def bp4:TA:=λ _ H Q=>Q [] H
def aw9 (ta:TE)(tr:TA):TA:=λ σ H Q=>ta σ H λ x H1=>tr σ H1 λ xs H2=>Q (x::xs) H2
section
variable {X:Cx} {e:Expr} {es:List Expr} {te:TE} {t:TA} {pos:Pos}
theorem ag7:PA X [] bp4:=λ _ _ _ _ H Q I h=>Calls.spliced_nil ⟨[],H,I,.nil,h⟩
theorem qy (ha:PE X e te)(Z:PA X es t)(hs:bn (e::es) X.env=(false,eval e X.env)::bn es X.env:=by rfl):PA X (e::es) (aw9 te t):=by
 intro pos y s σ H Q I h
 rw[hs]
 show wpAny _ _ (spliced ((false,eval e X.env)::d4 pos (bn es X.env))) _ _ s
 refine Calls.spliced_cons (thn (ha y s σ H _ I h) λ u s1 ⟨x,H1,I1,r1,Y⟩=>?_)
 exact thn (Z pos y s1 σ H1 _ I1 Y) λ us s2 ⟨G,H2,I2,J,q2⟩=>⟨x::G,H2,I2,.cons r1 J,q2⟩
def tTup (t:TA):TE:=λ σ H Q=>t σ H λ xs H1=>xs.length<=aL/\∀ p,H1 p=none->Q (.ref p) (upd H1 p (.tup xs))
def tLst (t:TA):TE:=λ σ H Q=>t σ H λ xs H1=>xs.length<=aL/\∀ p,H1 p=none->Q (.ref p) (upd H1 p (.lst xs))
theorem bJ7 {x1}(h:PA X es t):PE X (.Tuple es x1 pos) (tTup t):=by
 intro y s σ H Q I hq
 refine wpAny_Tuple_spliced (thn (h pos y s σ H _ I hq) λ us s1 ⟨Y,J,G,r,z,q⟩=>⟨by rw[<-r.length];exact z,?_⟩)
 have Z:J s1.heap.objs.size=none:=G.hok.fresh (ai _)
 refine⟨.ref s1.heap.objs.size,upd J s1.heap.objs.size (.tup Y),G.laid (t':=s1.toks) (λ b u e=>aj _ e) (ai _) ?_,rfl,q _ Z⟩
 exact⟨z,us,r,⟨_,aP _ rfl,rfl,_,rfl⟩⟩
theorem bq9 (h:PA X es t):PE X (.List es pos) (tLst t):=by
 intro y s σ H Q I hq
 refine wpAny_List_spliced (thn (h pos y s σ H _ I hq) λ us s1 ⟨Y,J,G,r,z,q⟩=>⟨by rw[<-r.length];exact z,?_⟩)
 have Z:J s1.heap.objs.size=none:=G.hok.fresh (ai _)
 refine⟨.ref s1.heap.objs.size,upd J s1.heap.objs.size (.lst Y),G.laid (t':=s1.toks) (λ b u e=>aj _ e) (ai _) ?_,rfl,q _ Z⟩
 exact⟨z,us,0,r,aP _ rfl⟩
end
abbrev Sp:=List V->Hp->VK->XK->Prop
abbrev CXT:=List Env->Hp->ah->XK->Value->ah->Prop
structure Env0 (P:aN)(w:World)(K:ae)(mg:Str->Option Value)(base:Heap)(A:aX)(outer:List Env)(s:ah)(H:Hp):Prop where
 frames:A.frames=some outer
 mod:Mod K mg base
 bs:∀ b o,base.get? b=some o->s.heap.get? b=some o/\H b=none
 bsz:base.objs.size<=s.heap.objs.size
 funs:s.heap.FunFrames base outer
 frf:∀ b∈frs outer,H b=none
 hok:HOk P w H s.heap
 bare:fq s.gens
def CE (outer:List Env)(P:aN)(w:World)(H:Hp)(s:ah)(Q:VK)(u:Value)(s':ah):Prop :=
 ∃ v H',s'.os=s.os/\fq s'.gens/\Un (frs outer) [] H H' s.heap s'.heap/\HOk P w H' s'.heap/\RelV v u/\Q v H'
def CR (CX:CXT)(outer:List Env)(P:aN)(w:World)(H:Hp)(s:ah)(Q:VK)(E:XK)(r:Result)(s':ah):Prop :=
 match r with
 | .ok (.ret u)=>CE outer P w H s Q u s'
 | .ok _=>False
 | .error e=>CX outer H s E e s'
structure FnOk (P:aN)(w:World)(K:ae)(mg:Str->Option Value)(base:Heap)(CX:CXT)(k:Nat)(f:Addr)(fd:bI)(ps:List Str)(sp:Sp):Prop where
 len:∀ vs H Q E,sp vs H Q E->vs.length=ps.length
 run:∀(A:aX) (outer:List Env) (s:ah) (H:Hp) (args:Args) (us:List Value) (vs:List V) (Q:VK) (E:XK),Room k A->Env0 P w K mg base A outer s H->jX s fd args (ps.zip us)->Vals vs us->sp vs H Q E ->
  fv (model P w) A (.call (.ref f) args) (CR CX outer P w H s Q E) s
theorem FnOk.imp {P:aN}{w:World}{K:ae}{mg:Str->Option Value}{y:Heap}{J:CXT}{k:Nat}{f:Addr}{Y:bI}{ps:List Str}{sp G:Sp}(F:FnOk P w K mg y J k f Y ps sp)
  (h:∀ vs H Q E,G vs H Q E->sp vs H Q E):FnOk P w K mg y J k f Y ps G :=
 ⟨λ vs H Q E q=>F.len vs H Q E (h _ _ _ _ q),λ A outer s H args us vs Q E hr Z hb hv hs=>F.run A outer s H args us vs Q E hr Z hb hv (h _ _ _ _ hs)⟩
section
variable {X:Cx} {pins:List (Addr×Obj)} {σ:St} {H:Hp} {s s':ah}
theorem Inv.env0 (I:Inv X pins σ H s):Env0 X.prog X.w X.K X.mg X.base X.A X.stack s H :=
 ⟨I.ok.frames,I.ok.mod,I.bs,am I.ok.bsz I.sz,I.stack,I.stkFree,I.hok,I.bare⟩
theorem Inv.after {Q:VK}{u:Value}(I:Inv X pins σ H s)(h:CE X.stack X.prog X.w H s Q u s'):EP X pins σ Q u s':=by
 obtain⟨v,H',os,bare,un,hok,r,q⟩:=h
 obtain⟨G,g,d,t,y⟩:=s'
 obtain rfl:y=s.os:=os
 exact⟨v,H',I.call (h':=G) (g':=g) (d':=d) (t':=t) (ch:=[]) un hok bare (λ b z=>absurd z (by simp)),r,q⟩
end
def aR1 (sp:Sp)(dvs:List V)(E:XK)(t:TA):TE:=λ σ H Q=>t σ H λ vs H1=>sp (vs++dvs) H1 Q E
def Binds (K:ae)(fd:bI)(ps:List Str)(ds:List Value):Prop :=
 ∀(s:ah) (us:List Value),K.In s.heap->(us++ds).length=ps.length->jX s fd ⟨us,[]⟩ (ps.zip (us++ds))
theorem Binds.all {K:ae}{y:bI}{ps:List Str}(h:∀ us:List Value,us.length=ps.length->eC y ⟨us,[]⟩=pure (ps.zip us)):Binds K y ps []:=λ s us _ hl=>by
 rw[bD]at hl ⊢
 exact .of_eq (h us hl)
def aN4 (CX:CXT)(X:Cx)(E:XK):Prop:=∀(pins:List (Addr×Obj)) (σ:St) (H:Hp) (s:ah) (e:Value) (s':ah),Inv X pins σ H s->CX X.stack H s E e s'->X.xe e s'
section
variable {X:Cx} {CX:CXT} {k:Nat} {f C:Addr} {fd:bI} {ps:List Str} {sp:Sp} {dvs:List V} {ds:List Value} {E:XK} {x m:Str} {p pos apos:Pos} {e o:Expr} {es:List Expr} {ta:TE} {t:TA}
theorem bs3 {y:List (Addr×Obj)}{σ:St}{H:Hp}{s:ah}{Q:VK}{us:List Value}{vs:List V}(F:FnOk X.prog X.w X.K X.mg X.base CX k f fd ps sp)(J:Room k X.A)(hb:Binds X.K fd ps ds)(hd:Vals dvs ds)(hx:aN4 CX X E)
  (I:Inv X y σ H s) (r:Vals vs us) (h:sp (vs++dvs) H Q E):wpAny (model X.prog X.w) X.A (call (.ref f) us) (EP X y σ Q) X.xe s:=by
 have G:Vals (vs++dvs) (us++ds):=r.append hd
 have hl:(us++ds).length=ps.length:=by rw[<-G.length];exact F.len _ _ _ _ h
 refine j1 (eR (F.run X.A X.stack s H ⟨us,[]⟩ (us++ds) (vs++dvs) Q E J I.env0 (hb s us I.kIn hl) G h) λ r s' hq=>?_)
 cases r with
 | error e=>exact hx y σ H s e s' I hq
 | ok fl =>
  cases fl with
  | ret u=>exact I.after hq
  | next=>exact bF hq
  | brk=>exact bF hq
  | cont=>exact bF hq
theorem bI6 (F:FnOk X.prog X.w X.K X.mg X.base CX k f fd ps sp)(Z:Room k X.A)(hg:Gl X x)(hm:X.mg x=some (.ref f))(hk:cf X.K (.ref f)=true)(hb:Binds X.K fd ps ds)(hd:Vals dvs ds)(hx:aN4 CX X E)
  (ha:PA X (e::es) t) (J:(x==("__debug__":Str))=false:=by decide) (he:bn (e::es) X.env=(false,eval e X.env)::bn es X.env:=by rfl) (G:(d4 pos (bn es X.env)).any (·.1)=false:=by rfl) :
  PE X (.Call (.Name x p) (e::es) [] pos) (aR1 sp dvs E t):=by
 intro y s σ H Q I h
 refine cb (av4 I hg hm ?_ J)
 refine iA (h₀:=X.base) I.ok.mod.kin hk (thn (ha pos y s σ H _ I h) λ us s1 ⟨vs,H1,Y,r,q⟩=>⟨Y.kIn,?_⟩) he G
 exact bs3 F Z hb hd hx Y r q
theorem bj2 (F:FnOk X.prog X.w X.K X.mg X.base CX k f fd ps sp)(J:Room k X.A)(Z:Gl X x)(Y:X.mg x=some (.ref f))(hk:cf X.K (.ref f)=true)(hb:Binds X.K fd ps ds)(hd:Vals dvs ds)(hx:aN4 CX X E)
  (y:(x==("__debug__":Str))=false:=by decide):PE X (.Call (.Name x p) [] [] pos) (aR1 sp dvs E bp4):=by
 intro G s σ H Q I h
 refine cb (av4 I Z Y ?_ y)
 exact PySem.W.callWith_K0 I.kIn hk (bs3 (us:=[]) F J hb hd hx I .nil h)
structure Mk (K:ae)(C f:Addr):Prop where
 makes:PySem.W.makesIn K C=true
 init:gL K (.ref C) "__init__"=some (some (.ref f))
 fn:PySem.W.isFn K (.ref f)=true
 kp:cf K (.ref C)=true
end
section
variable {X:Cx} {CX:CXT} {k:Nat} {f C:Addr} {fd:bI} {ps ks:List Str} {sp:Sp} {E:XK} {x m:Str} {p pos apos kpos:Pos} {e o:Expr} {es:List Expr} {kws:List jY} {te ta:TE} {t tk:TA} {nm:Option Str}
variable {g:List Value->List Value->List Value} {gV:List V->List V->List V}
end
structure FnScope (N P:List Str)(sc:Scope):Prop where
 kind:sc.kind=.function
 co:sc.isCoroutine=false
 gen:sc.isGenerator=false
 nd:N.Nodup
 pre:N.take P.length=P
 par:∀ x∈P,sc.names.lookup x=some .local\/sc.names.lookup x=some .cell
 nofree:∀ y∈sc.names,y.2≠.free
theorem aB3 {et:Str->Option bO}{x:Str}:∀ {binds:List (Str×Value)} {m:Str->Option Value},(∀ v,(x,v) ∉ binds)->bindL et binds m x=m x
 | [],_,_=>rfl
 | (n,v)::r,m,h=>by
  unfold bindL
  rw[aB3 λ w hw=>h w (az _ hw)]
  split
  ·have:x≠n:=by rintro rfl;exact h v aH
   simp[this]
  ·rfl
theorem aE7 {et:Str->Option bO}{x:Str}:∀ {binds:List (Str×Value)} {m:Str->Option Value},(∀ v,(x,v) ∉ binds)->bindC et binds m x=m x
 | [],_,_=>rfl
 | (n,v)::r,m,h=>by
  unfold bindC
  rw[aE7 λ w hw=>h w (az _ hw)]
  split
  ·rfl
  ·have:x≠n:=by rintro rfl;exact h v aH
   simp[this]
theorem an7 {et:Str->Option bO}{x:Str}{v:Value}:∀ {P:List Str} {vs:List Value} {i:Nat} {m:Str->Option Value},P.Nodup->P[i]?=some x->vs[i]?=some v->et x=some .local ->
  bindL et (P.zip vs) m x=some v
 | [],_,_,_,_,h,_,_=>by simp at h
 | _::_,[],_,_,_,_,h,_=>by simp at h
 | p::P,w::vs,0,m,nd,h1,h2,hk=>by
  simp at h1 h2;subst h1;subst h2
  show bindL et ((p,w)::P.zip vs) m p=_
  unfold bindL
  rw[aB3 λ v hv=>(cX.mp nd).1 (dJ hv).1,if_pos hk]
  simp
 | p::P,w::vs,i+1,m,nd,h1,h2,hk=>by
  show bindL et ((p,w)::P.zip vs) m x=_
  unfold bindL
  exact an7 (i:=i) (cX.mp nd).2 (by simpa using h1) (by simpa using h2) hk
theorem ap7 {et:Str->Option bO}{x:Str}{v:Value}:∀ {P:List Str} {vs:List Value} {i:Nat} {m:Str->Option Value},P.Nodup->P[i]?=some x->vs[i]?=some v->et x≠some .local ->
  bindC et (P.zip vs) m x=some v
 | [],_,_,_,_,h,_,_=>by simp at h
 | _::_,[],_,_,_,_,h,_=>by simp at h
 | p::P,w::vs,0,m,nd,h1,h2,hk=>by
  simp at h1 h2;subst h1;subst h2
  show bindC et ((p,w)::P.zip vs) m p=_
  unfold bindC
  rw[aE7 λ v hv=>(cX.mp nd).1 (dJ hv).1,if_neg hk]
  simp
 | p::P,w::vs,i+1,m,nd,h1,h2,hk=>by
  show bindC et ((p,w)::P.zip vs) m x=_
  unfold bindC
  exact ap7 (i:=i) (cX.mp nd).2 (by simpa using h1) (by simpa using h2) hk
noncomputable def aj0 (N:List Str)(vs:List V):St:=vs.map some++ar (N.length - vs.length) none
noncomputable def bo4 (CX:CXT)(P:aN)(w:World)(K:ae)(mg:Str->Option Value)(base:Heap)(N:List Str)(qual:Str)(scope:Scope)(f:Addr)(cd:Value)(A:aX)(outer:List Env)(s:ah)(H:Hp)(E:XK):Cx where
 prog:=P
 w:=w
 K:=K
 mg:=mg
 base:=base
 A:=A.deeper (fF qual scope s.heap.objs.size f cd)
 N:=N
 s₀:=s
 H₀:=H
 env:=fF qual scope s.heap.objs.size f cd
 outer:=outer
 stack:=fF qual scope s.heap.objs.size f cd::outer
 ex:=[]
 calm:=true
 fn:=λ _=>true
 pn:=[]
 xe:=λ e s'=>wpAny (model P w) (A.deeper (fF qual scope s.heap.objs.size f cd)) (leaving (fF qual scope s.heap.objs.size f cd) e) (λ _ s''=>CX outer H s E e s'') (λ e' s''=>CX outer H s E e' s'') s'
theorem qp {sc:Scope}{n:Nat}{x:Str}(h:sc.names.lookup x=some .cell):∃ c,(aM n sc.names []).lookup x=some c:=by
 have q:=f8 sc.names n [] (.inl h)
 exact fG.mp q
theorem be8 {CX:CXT}{P:aN}{w:World}{K:ae}{mg:Str->Option Value}{J:Heap}{N ps:List Str}{qual:Str}{scope:Scope}{f:Addr}{cd:Value}{A:aX}{outer:List Env}{s s1:ah}{H:Hp}{E:XK}{us:List Value}{vs:List V}
  (S:FnScope N ps scope) (hd:A.handled=none) (Y:Env0 P w K mg J A outer s H) (hl:vs.length=ps.length) (r:Vals vs us)
  (x:fw s s.heap.objs.size (bindL (fF qual scope s.heap.objs.size f cd).kindOf (ps.zip us) λ _=>none) (aM (s.heap.objs.size+1) scope.names []) (bindC (fF qual scope s.heap.objs.size f cd).kindOf (ps.zip us) λ _=>none) s1) :
  Inv (bo4 CX P w K mg J N qual scope f cd A outer s H E) [] (aj0 N vs) H s1:=by
 have a1:ps.length<=N.length:=by have:=congrArg kH S.pre;rw[bG]at this;omega
 obtain⟨h1,tk,rfl,hk⟩:=x.done
 have Z:∀ b:Addr,b ∉ (bo4 CX P w K mg J N qual scope f cd A outer s H E).ex:=λ b z=>absurd (show b∈([]:List Addr)from z) (by simp)
 refine⟨⟨Y.mod,S.kind,rfl,rfl,ai _,λ y z c h1 G=>?_,λ y hy=>?_,λ y c _ h=>?_,λ _=>hd,gM Y.frames,.inr ⟨rfl,rfl⟩,λ b z=>absurd z (Z b),Y.bs,Y.bsz,λ b _ _=>Z b,λ b z=>absurd z (Z b),Y.funs,Y.frf⟩,
  rfl,Y.bare,Un.kept hk,⟨_,x.toInCall.ns,λ i y v h1 G h3=>?_⟩,λ y c h=>⟨_,x.cell y c h⟩,Y.hok.fresh (ai _),λ y c h=>?_,λ p hp=>absurd (show p∈([]:List (Addr×Obj))from hp) (by simp),Y.hok.kept hk,?_⟩
 ·exact f9 x.apart (aC h1) (aC G)
 ·have hy:scope.names.lookup y=some .cell\/scope.names.lookup y=some .free:=hy
  rcases hy with hy|hy
  ·exact qp hy
  ·exact absurd rfl (S.nofree _ (aC hy))
 ·exact dv (x.above y c (aC h))
 ·have hi:i<vs.length:=by
   unfold aj0 at G
   by_cases hi:i<vs.length
   ·exact hi
   ·rw[af (by simpa using hi)]at G
    rw[fR]at G
    split at G<;>cases G
  have ha:vs[i]?=some v:=by
   unfold aj0 at G
   rw[aw (by simpa using hi),ao]at G
   cases e:vs[i]? with
   | none=>rw[e]at G;cases G
   | some a=>rw[e]at G;cases G;rfl
  obtain⟨u,hu,rv⟩:=r.get ha
  have hp:ps[i]?=some y:=by
   rw[<-S.pre,List.getElem?_take_of_lt (by omega)];exact h1
  have a0:ps.Nodup:=by rw[<-S.pre];exact S.nd.sublist (List.take_sublist _ _)
  refine⟨u,rv,?_⟩
  rcases S.par y (aW hp)with k|k
  ·exact .inl ⟨k,an7 a0 hp hu k⟩
  ·obtain⟨c,e⟩:=qp (n:=s.heap.objs.size+1) k
   refine .inr ⟨.inl k,c,e,?_⟩
   have q:=x.cell y c e
   rw[ap7 a0 hp hu (by show scope.names.lookup y≠_;rw[k];decide)]at q
   exact q
 ·exact Y.hok.fresh (dv (x.above y c (aC h)))
 ·unfold aj0
  show _=N.length
  rw[aQ,ax,List.length_replicate]
  omega
theorem bT9 {CX:CXT}{P:aN}{w:World}{K:ae}{mg:Str->Option Value}{base:Heap}{k:Nat}{f:Addr}{name qual:Str}{params:a9}{body:List Stmt}{scope:Scope}{dV kV Z pm h ct oc:Value}{an od:Option Addr}
  {a2:Array (Option Value)} {N ps:List Str} {sp:Sp} (lk:K.lookup f=some ⟨oc,od,.func (cV name qual params body scope dV kV Z pm an h ct),a2⟩) (a3:e8 K h qual=true) (S:FnScope N ps scope)
  (len:∀ vs H Q E,sp vs H Q E->vs.length=ps.length)
  (G:∀(A:aX) (outer:List Env) (s:ah) (H:Hp) (vs:List V) (Q:VK) (E:XK),Room k (A.deeper (fF qual scope s.heap.objs.size f h))->sp vs H Q E ->
   ∃ t,PSs (bo4 CX P w K mg base N qual scope f h A outer s H E) body t/\t { nx:=λ _ H'=>Q .non H',rt:=Q } (aj0 N vs) H) :
  FnOk P w K mg base CX (k+1) f (cV name qual params body scope dV kV Z pm an h ct) ps sp:=by
 refine⟨len,λ A outer s H args us vs Q E hr e0 hb r a0=>?_⟩
 have hl:=len _ _ _ _ a0
 have KX:K.In s.heap:=e0.mod.kin.keeps λ b o e=>(e0.bs b o e).1
 have a1:s.heap.NoLimit:=e0.mod.nolimit.keeps λ b o e=>(e0.bs b o e).1
 have Y:∀ y∈ps.zip us,scope.names.lookup y.1=some .local\/(scope.names.lookup y.1=some .cell/\((aM (s.heap.objs.size+1) scope.names []).lookup y.1).isSome=true):=λ⟨n,v⟩ hy=>by
  rcases S.par n (dJ hy).1 with q|q
  ·exact .inl q
  ·exact .inr ⟨q,f8 _ _ _ (.inl q)⟩
 refine gG hr.depth (KX _ _ lk) rfl S.co S.gen rfl (PySem.W.codeRec_of KX a3) (hb _ _ _ _ ?_)
 refine wpAny_newFunctionEnv_cells S.kind Y λ env he s1 x=>?_
 subst he
 refine⟨a1.keeps x.toInCall.keep,codeAny_func ?_⟩
 obtain⟨t,ht,hq⟩:=G A outer s H vs Q E (hr.deeper _) a0
 have I:Inv (bo4 CX P w K mg base N qual scope f h A outer s H E) [] (aj0 N vs) H s1:=be8 S hr.hd e0 hl r x
 refine ci (ht [] s1 (aj0 N vs) H _ I hq) (λ fl s' hs=>?_) λ e s' hs=>hs
 have fin:∀ {σ':St} {H':Hp} {v:V} {u:Value},Inv (bo4 CX P w K mg base N qual scope f h A outer s H E) [] σ' H' s'->RelV v u->Q v H'->CE outer P w H s Q u s' :=
  λ {σ' H' v u} J rv q=>⟨v,H',J.os,J.bare,J.base,J.hok,rv,q⟩
 cases fl with
 | ret u =>
  obtain⟨v,σ',H',J,rv,q⟩:=hs
  exact fin J rv q
 | next =>
  obtain⟨σ',H',J,q⟩:=hs
  exact fin (v:=V.non) (u:=Value.none) J rfl q
 | brk =>
  obtain⟨_,_,_,q⟩:=hs
  exact bF q
 | cont =>
  obtain⟨_,_,_,q⟩:=hs
  exact bF q
section
variable {X:Cx} {x:Str} {p pos:Pos} {e:Expr} {es:List Expr} {t:TA} {id T:String} {r:List V->Hp->VK->Prop}
def tCB (r:List V->Hp->VK->Prop)(t:TA):TE:=λ σ H Q=>t σ H λ vs H1=>r vs H1 Q
theorem av7 (hc:ae2 X (.builtin id) r)(hg:Gl X x)(hm:X.mg x=none)(hv:be x=some (.builtin id))(ha:PA X (e::es) t)(hn:x ≠ "__name__":=by decide)(J:(x==("__debug__":Str))=false:=by decide)
  (he:bn (e::es) X.env=(false,eval e X.env)::bn es X.env:=by rfl) (G:(d4 pos (bn es X.env)).any (·.1)=false:=by rfl):PE X (.Call (.Name x p) (e::es) [] pos) (tCB r t):=by
 intro y s σ H Q I h
 refine cb (aA8 I hg hm hv ?_ hn J)
 exact PyProof.Rows.callWith_builtin1 (thn (ha pos y s σ H _ I h) λ us s1 ⟨vs,H1,Z,r1,Y⟩=>hc y s1 σ H1 vs us Q Z r1 Y) he G
theorem ao3 (hc:ae2 X (.type T) r)(hg:Gl X x)(hm:X.mg x=none)(hv:be x=some (.type T))(ha:PA X (e::es) t)(hn:x ≠ "__name__":=by decide)(J:(x==("__debug__":Str))=false:=by decide)
  (he:bn (e::es) X.env=(false,eval e X.env)::bn es X.env:=by rfl) (G:(d4 pos (bn es X.env)).any (·.1)=false:=by rfl):PE X (.Call (.Name x p) (e::es) [] pos) (tCB r t):=by
 intro y s σ H Q I h
 refine cb (aA8 I hg hm hv ?_ hn J)
 exact eQ (thn (ha pos y s σ H _ I h) λ us s1 ⟨vs,H1,Z,r1,Y⟩=>hc y s1 σ H1 vs us Q Z r1 Y) he G
end
end L2
end
noncomputable section
namespace HT
open PySem PyProof.Rows
section
open PySem.SeqAt
open PySem.AutoSeq1 (wpAny_loadPart')
open PySem.MeetsSeq PySem.MeetsSeq2 PySem.MeetsSeq3
end
section
variable {prog:aN} {w:World} {A:aX} {E:Value->ah->Prop} {s:ah}
theorem cat_tup {t b:Addr}{vs ws:List Value}{Q:Value->ah->Prop}(ht:IsTup s.heap t vs.toArray)(hb:IsTup s.heap b ws.toArray)(hv:vs≠[])
  (h1:ws=[]->Q (.ref t) s) (h2:ws≠[]->Q (.ref s.heap.objs.size) { s with heap:=s.heap.push { cls:=.type "tuple",data:=.seq (vs++ws).toArray } })
  (hsz:vs.length+ws.length<=aL):wpAny (model prog w) A (b9 .Add (.ref t) (.ref b)) Q E s:=by
 obtain⟨⟨cls,dd,data,sl⟩,ho,hc,n,hd⟩:=id ht
 obtain⟨⟨a0,Y,Z,y⟩,h,J,n2,G⟩:=id hb
 simp only at hc hd J G
 subst hc hd J G
 have e:vs.toArray++ws.toArray=(vs++ws).toArray:=by simp
 by_cases hw:ws=[]
 ·exact iR ⟨_,ho,rfl⟩ ⟨_,h,rfl⟩ fS ik d5 dU (dG _ _)
   (tuple_addW1 t b vs.toArray ws.toArray n n2 dd Y sl y (by simpa using hv) (by simp[hw])) ⟨ho,h,h1 hw⟩
 ·refine iR ⟨_,ho,rfl⟩ ⟨_,h,rfl⟩ fS ik d5 dU (dG _ _)
   (tuple_addW2 t b vs.toArray ws.toArray n n2 dd Y sl y (by simpa using hv) (by simpa using hw) (by rw[ay,ay];exact hsz)) ⟨ho,h,?_⟩
  rw[e]
  exact h2 hw
noncomputable def sIx (n d:Nat):Option Int->Nat
 | none=>d
 | some v=>if v<0 then(v+(n:Int)).toNat else min v.toNat n
theorem sIx_le (n d:Nat)(hd:d<=n)(o:Option Int):sIx n d o<=n:=by
 cases o with
 | none=>exact hd
 | some v =>
  show(if v<0 then(v+(n:Int)).toNat else min v.toNat n)<=n
  by_cases hv:v<0
  ·rw[if_pos hv];omega
  ·rw[if_neg hv];exact fT _ _
theorem clip_eq (v:Int)(n d:Nat):(if v<0 then max (v+(n:Int)) 0 else min v (n:Int))=((sIx n d (some v):Nat):Int):=by
 show(if v<0 then max (v+(n:Int)) 0 else min v (n:Int))=(((if v<0 then(v+(n:Int)).toNat else min v.toNat n):Nat):Int)
 by_cases hv:v<0
 ·simp only[if_pos hv];omega
 ·simp only[if_neg hv];omega
theorem adjust_gen (h y:Option Int)(n:Nat):dE h y 1 (n:Int)=(((sIx n 0 h:Nat):Int),((sIx n n y:Nat):Int)):=by
 have G:¬((1:Int)<0):=by omega
 unfold dE
 simp only[G,if_false]
 refine Prod.ext ?_ ?_
 ·cases h with
  | none=>rfl
  | some v=>exact clip_eq v n 0
 ·cases y with
  | none=>rfl
  | some v=>exact clip_eq v n n
theorem places_gen (i j:Nat):cC (i:Int) (j:Int) 1=j - i:=by
 unfold cC
 have h:(1:Int) > 0:=by omega
 simp only[h,if_true,Int.ediv_one]
 split<;>omega
theorem slicePart_ {v:Value}{o:Option Int}{Q:Option Int->ah->Prop}(p:fH v o)(h:Q o s):wpAny (model prog w) A (jQ v) Q E s:=by
 cases p with
 | none=>exact slicePart_none h
 | int i t=>exact slicePart_int h
theorem sliceApplied_gen {sl:Addr}{vl vu:Value}{y J:Option Int}{n:Nat}{Q:Int×Int×Nat->ah->Prop}(hs:s.heap.IsSliceOf sl vl vu .none)(pl:fH vl y)(pu:fH vu J)
  (h:Q (((sIx n 0 y:Nat):Int),1,sIx n n J - sIx n 0 y) s):wpAny (model prog w) A (e9 (.ref sl) (pure (n:Int))) Q E s:=by
 obtain⟨os,G,Z,Y⟩:=id hs
 unfold e9 ki
 refine ak (ak (dW G Y (x:=vl) rfl (ak (dW G Y (x:=vu) rfl (ak (dW G Y (x:=.none) rfl (aG ?_)))))))
 refine ak (slicePart_none ?_)
 show wpAny _ _ (if((1:Int)==0)=true then _ else _) _ _ s
 rw[if_neg (by decide)]
 refine ak (slicePart_ pl (ak (slicePart_ pu (ak (aG ?_)))))
 show wpAny _ _ (match dE y J 1 (n:Int)with|(y,J)=>pure (y,(1:Int),cC y J 1)) _ _ s
 rw[adjust_gen y J n]
 show wpAny _ _ (pure (((sIx n 0 y:Nat):Int),(1:Int),cC ((sIx n 0 y:Nat):Int) ((sIx n n J:Nat):Int) 1)) _ _ s
 rw[places_gen]
 exact aG h
theorem pick_gen (h:Array Value)(i k:Nat):((ac k).filterMap λ(m:Nat)=>h[((i:Int)+(m:Int)*1).toNat]?).toArray=((h.toList.drop i).take k).toArray:=by
 have e:(λ(m:Nat)=>h[((i:Int)+(m:Int)*1).toNat]?)=λ m=>h[i+m]?:=by
  funext m
  have:((i:Int)+(m:Int)*1).toNat=i+m:=by omega
  rw[this]
 rw[e]
 have:=pick_run h i k
 rw[dQ]at this
 have e2:((λ x=>h[x]?) ∘ λ x=>i+x)=λ m=>h[i+m]?:=rfl
 rw[e2]at this
 rw[this]
theorem getItem_tuple_cut {t sl:Addr}{y:Array Value}{vl vu:Value}{J Y:Option Int}{Q:Value->ah->Prop}(Z:IsTup s.heap t y)(hs:s.heap.IsSliceOf sl vl vu .none)(pl:fH vl J)(pu:fH vu Y)
  (hw:¬(sIx y.size 0 J=0/\sIx y.size y.size Y=y.size))
  (h:Q (.ref s.heap.objs.size) { s with heap:=s.heap.push { cls:=.type "tuple",data:=.seq ((y.toList.drop (sIx y.size 0 J)).take (sIx y.size y.size Y - sIx y.size 0 J)).toArray } })
  (hsz:y.size<=aL):wpAny (model prog w) A (ga (.ref t) (.ref sl)) Q E s:=by
 have G:sizeOk (.seq ((y.toList.drop (sIx y.size 0 J)).take (sIx y.size y.size Y - sIx y.size 0 J)).toArray):=by
  show((y.toList.drop (sIx y.size 0 J)).take (sIx y.size y.size Y - sIx y.size 0 J)).toArray.size<=aL
  rw[ay,bG,fU,eP]
  omega
 have hj:sIx y.size y.size Y<=y.size:=sIx_le _ _ (ai _) Y
 obtain⟨os,a3,a0,a4⟩:=id hs
 have a2:s.TypeIs (.ref sl) "slice":=⟨os,a3,a0⟩
 unfold ga
 try with_reducible refine da ?_
 first|refine ak (aG ?_)|skip
 refine ak (iT Z.typeIs (by decide) ?_)
 refine ak (cN (name:=cE "__getitem__") Z.typeIs bp
  (dz bp Z.typeIs hU ?_ (iB _ _)))
 show wpAny _ _ (dt (.ref t) >>= _) _ _ s
 refine ak (io Z ?_)
 refine ak (gb a2 ?_)
 rw[if_pos (by decide)]
 refine ak (sliceApplied_gen hs pl pu ?_)
 have a1:¬((((sIx y.size 0 J:Nat):Int)==0&&(1:Int)==1&&(sIx y.size y.size Y - sIx y.size 0 J)==y.size)=true):=by
  intro q
  rw[au,au]at q
  have q1:((sIx y.size 0 J:Nat):Int)=0:=eq_of_beq q.1.1
  have q2:sIx y.size y.size Y - sIx y.size 0 J=y.size:=eq_of_beq q.2
  exact hw ⟨by omega,by omega⟩
 show wpAny _ _ (if(((sIx y.size 0 J:Nat):Int)==0&&(1:Int)==1&&(sIx y.size y.size Y - sIx y.size 0 J)==y.size)=true then _ else _) _ _ s
 rw[if_neg a1,pick_gen]
 first
  | exact ak (m:=cJ _) (bH (aG ⟨_,rfl,aG h⟩) G)
  | exact ak (m:=cJ _) (bH (ak (aG (aG ⟨_,rfl,aG h⟩))) G)
  | exact ak (ak (m:=cJ _) (bH (aG (aG ⟨_,rfl,aG h⟩)) G))
  | exact ak (ak (m:=cJ _) (bH (aG ⟨_,rfl,aG h⟩) G))
end
end HT
noncomputable section
namespace L2
open PySem PySem.Spec PyProof.Rows
abbrev TO:=St->Hp->(Option Int->Hp->Prop)->Prop
def PO (X:Cx)(e:Option Expr)(t:TO):Prop :=
 ∀(pins:List (Addr×Obj)) (s:ah) (σ:St) (H:Hp) (Q:Option Int->Hp->Prop),Inv X pins σ H s->t σ H Q ->
  wpAny (model X.prog X.w) X.A (evalPart e X.env) (λ u s'=>∃ o H',Inv X pins σ H' s'/\fH u o/\Q o H') X.xe s
noncomputable def aG3:TO:=λ _ H Q=>Q none H
noncomputable def aZ4 (t:TE):TO:=λ σ H Q=>t σ H λ x H1=>∃ i,x=.int i/\Q (some i) H1
section
variable {X:Cx} {e:Expr} {te:TE} {lo hi:Option Expr} {tl th:TO} {pos p2:Pos}
theorem bG3:PO X none aG3:=by
 intro y s σ H Q I h
 rw[evalPart_none]
 exact aG ⟨none,H,I,.none,h⟩
theorem bz5 (h:PE X e te):PO X (some e) (aZ4 te):=by
 intro y s σ H Q I hw
 rw[evalPart_some]
 refine thn (h y s σ H _ I hw) λ u s1 ⟨x,Y,J,r1,G⟩=>?_
 obtain⟨i,rfl,q⟩:=G
 obtain⟨t,rfl⟩:=r1
 exact⟨some i,Y,J,.int i t,q⟩
def SlR (X:Cx)(r:V->Option Int->Option Int->Hp->VK->Prop):Prop :=
 ∀(pins:List (Addr×Obj)) (s:ah) (σ:St) (H:Hp) (x:V) (v vl vu:Value) (lo hi:Option Int) (sl:Addr) (Q:VK),Inv X pins σ H s->RelV x v->s.heap.IsSliceOf sl vl vu .none->fH vl lo->fH vu hi->r x lo hi H Q ->
  ∃ T id,typeLookup (.type T) "__getitem__"=pure (some (.builtin id))/\s.TypeIs v T/\wpAny (model X.prog X.w) X.A (ga v (.ref sl)) (EP X pins σ Q) X.xe s
def tSl (r:V->Option Int->Option Int->Hp->VK->Prop)(te:TE)(tl th:TO):TE:=λ σ H Q=>te σ H λ x H1=>tl σ H1 λ l H2=>th σ H2 λ u H3=>r x l u H3 Q
theorem bo1 {r:V->Option Int->Option Int->Hp->VK->Prop}(hr:SlR X r)(he:PE X e te)(hl:PO X lo tl)(hu:PO X hi th):PE X (.Subscript e (.Slice lo hi none p2) pos) (tSl r te tl th):=by
 intro y s σ H Q I h
 refine Subscript_ (thn (he y s σ H _ I h) λ v s1 ⟨x,Z,J,r1,q1⟩=>?_)
 refine wpAny_Slice (thn (hl y s1 σ Z _ J q1) λ vl s2 ⟨l,H2,I2,Y,q2⟩=>thn (hu y s2 σ H2 _ I2 q2) λ vu s3 ⟨u,G,I3,pu,q3⟩=>?_)
 rw[evalPart_none]
 refine aG ?_
 have I4:Inv X y σ G { s3 with heap:=s3.heap.push { cls:=.type "slice",data:=.fields #[vl,vu,.none] } }:=I3.kept (t':=s3.toks) λ b ob q=>aj _ q
 obtain⟨T,id,hT,ht,hg⟩:=hr y { s3 with heap:=s3.heap.push { cls:=.type "slice",data:=.fields #[vl,vu,.none] } } σ G x v vl vu l u s3.heap.objs.size Q I4 r1 (kM ..) Y pu q3
 show wpAny (model X.prog X.w) X.A (subscriptTail e (.Slice lo hi none p2) v (.ref s3.heap.objs.size)) (EP X y σ Q) X.xe { s3 with heap:=s3.heap.push { cls:=.type "slice",data:=.fields #[vl,vu,.none] } }
 exact tail_any (ops:=[.ref s3.heap.objs.size,v]) ht hT hg (by with_unfolding_all rfl)
noncomputable def bc2 (xs:List V)(lo hi:Option Int):List V:=(xs.drop (HT.sIx xs.length 0 lo)).take (HT.sIx xs.length xs.length hi - HT.sIx xs.length 0 lo)
theorem ar0 (h:List V)(y G:Option Int):(bc2 h y G).length<=h.length:=by
 unfold bc2
 rw[bG,fU]
 omega
def rSlT (K:ae):V->Option Int->Option Int->Hp->VK->Prop:=λ x lo hi H Q=>∃ a xs,x=.ref a/\SqT K H a xs /\
 ¬(HT.sIx xs.length 0 lo=0/\HT.sIx xs.length xs.length hi=xs.length)/\∀ p,H p=none->Q (.ref p) (upd H p (.tup (bc2 xs lo hi)))
theorem bT4:SlR X (rSlT X.K):=by
 intro a0 s σ H x v vl vu J Y sl Q I rx hs pl pu h
 obtain⟨a,G,rfl,hx,hw,q⟩:=h
 cases rx
 obtain⟨its,r,Z,hz⟩:=I.tuple hx
 have y:its.toArray.size=G.length:=by rw[ay];exact r.length.symm
 refine⟨"tuple",_,bp.lookup,Z.typeIs,?_⟩
 refine HT.getItem_tuple_cut Z hs pl pu (by rw[y];exact hw) ?_ (by rw[y];exact hz)
 rw[y]
 refine⟨.ref s.heap.objs.size,_,I.laid (t':=s.toks) (o:=.tup (bc2 G J Y)) (λ b ob q=>aj _ q) (ai _) ?_,rfl,q _ (I.hok.fresh (ai _))⟩
 exact⟨am (ar0 G J Y) hz,_,(r.drop (HT.sIx G.length 0 J)).take (HT.sIx G.length G.length Y - HT.sIx G.length 0 J),i3 _ _⟩
def ce0 (K:ae):R2:=λ x y H Q=>∃ a b xs ys,x=.ref a/\y=.ref b/\SqT K H a xs/\SqT K H b ys/\xs≠[]/\xs.length+ys.length<=aL /\
 (ys=[]->Q (.ref a) H)/\(ys≠[]->∀ p,H p=none->Q (.ref p) (upd H p (.tup (xs++ys))))
theorem Vals.nil_iff {h:List V}{us:List Value}(r:Vals h us):us=[]↔h=[]:=by
 cases r with
 | nil=>simp
 | cons _ _=>simp
theorem by3:OpR X (b9 .Add) (ce0 X.K):=by
 intro Y s σ H x y v u Q I rx ry h
 obtain⟨a,b,xs,ys,rfl,rfl,ha,hb,hx,hz,q1,q2⟩:=h
 cases rx
 cases ry
 obtain⟨its,r1,p1,_⟩:=I.tuple ha
 obtain⟨J,G,Z,_⟩:=I.tuple hb
 refine HT.cat_tup p1 Z (λ z=>hx (r1.nil_iff.mp z)) (λ z=>⟨.ref a,H,I,rfl,q1 (G.nil_iff.mp z)⟩) (λ z=>?_) (by rw[<-r1.length,<-G.length];exact hz)
 refine⟨.ref s.heap.objs.size,_,I.laid (t':=s.toks) (o:=.tup (xs++ys)) (λ b ob q=>aj _ q) (ai _) ?_,rfl,q2 (λ w=>z (G.nil_iff.mpr w)) _ (I.hok.fresh (ai _))⟩
 exact⟨by rw[aQ];exact hz,_,r1.append G,i3 _ _⟩
end
noncomputable def ixN (n:Nat)(i:Int):Option Nat:=if 0<=i then(if i<n then some i.toNat else none)else if -(n:Int)<=i then some (i+n).toNat else none
noncomputable def atI {α:Type}(xs:List α)(i:Int):Option α:=(ixN xs.length i).bind λ j=>xs[j]?
theorem bb0 {n:Nat}{i:Int}{j:Nat}(h:ixN n i=some j):seqIndex? i n=some j/\j<n/\-(n:Int)<=i/\i<n:=by
 unfold ixN at h
 by_cases h0:0<=i
 ·rw[if_pos h0]at h
  by_cases h1:i<n
  ·rw[if_pos h1]at h
   have e:i.toNat=j:=av h
   exact⟨by rw[jN h0 h1,e],by omega,by omega,h1⟩
  ·rw[if_neg h1]at h;cases h
 ·rw[if_neg h0]at h
  by_cases h1:-(n:Int)<=i
  ·rw[if_pos h1]at h
   have e:(i+n).toNat=j:=av h
   exact⟨by rw[iU (by omega) h1,e],by omega,h1,by omega⟩
  ·rw[if_neg h1]at h;cases h
theorem aF4 {α:Type}{y:List α}{i:Int}{v:α}(h:atI y i=some v):∃ j,seqIndex? i y.length=some j/\y[j]?=some v/\j<y.length/\-(y.length:Int)<=i/\i<y.length:=by
 unfold atI at h
 cases e:ixN y.length i with
 | none=>rw[e]at h;cases h
 | some j =>
  rw[e]at h
  obtain⟨Y,J,h3,G⟩:=bb0 e
  exact⟨j,Y,h,J,h3,G⟩
def aY4 (b:Expr):Prop:=∀ o i,subscripted b false o i=operate [o,i] (ga o i)
def IxR (X:Cx)(r:R2):Prop :=
 ∀(value slice:Expr) (pins:List (Addr×Obj)) (s:ah) (σ:St) (H:Hp) (x y:V) (v u:Value) (Q:VK),Inv X pins σ H s->RelV x v->RelV y u->r x y H Q ->
  subscripted slice false v u=operate [v,u] (ga v u)->wpAny (model X.prog X.w) X.A (subscriptTail value slice v u) (EP X pins σ Q) X.xe s
def MtR (X:Cx)(id:String)(r:V->List V->Hp->VK->Prop):Prop :=
 ∀(pins:List (Addr×Obj)) (s:ah) (σ:St) (H:Hp) (x:V) (xs:List V) (v:Value) (us:List Value) (Q:VK),Inv X pins σ H s->RelV x v->Vals xs us->r x xs H Q ->
  wpAny (model X.prog X.w) X.A (call (.builtin id) (v::us)) (EP X pins σ Q) X.xe s
section
variable {X:Cx} {a b:Expr} {ta tb:TE} {pos:Pos}
theorem ca6 {r:R2}(J:IxR X r)(ha:PE X a ta)(hb:PE X b tb)(hs:aY4 b):PE X (.Subscript a b pos) (tOp r ta tb):=by
 intro G s σ H Q I h
 exact Subscript_ (cd3 ha hb I h λ v u s2 x y H2 I2 Y Z q=>J a b G s2 σ H2 x y v u Q I2 Y Z q (hs _ _))
def rIxL (K:ae):R2:=λ x y H Q=>∃ p xs i v,x=.ref p/\y=.int i/\SqL K H p xs/\atI xs i=some v/\Q v H
def rIxT (K:ae):R2:=λ x y H Q=>∃ p xs i v,x=.ref p/\y=.int i/\SqT K H p xs/\atI xs i=some v/\Q v H
def rIxS:R2:=λ x y H Q=>∃ z i c,x=.str z/\y=.int i/\z.length<=aL/\atI z.cps.toList i=some c/\Q (.str ⟨#[c]⟩) H
theorem bx3:IxR X (rIxL X.K):=by
 intro a1 Y G s σ H x y v u Q I rx ry h hs
 obtain⟨p,xs,i,z,rfl,rfl,hq,he,q⟩:=h
 cases rx
 obtain⟨t,rfl⟩:=ry
 obtain⟨its,r,Z,hz⟩:=I.list hq
 obtain⟨j,J,h2,h3,h4,h5⟩:=aF4 he
 obtain⟨w,ew,a0⟩:=r.get h2
 have hl:=r.length
 have hn:=an1
 have fin:EP X G σ Q w s:=⟨z,H,I,a0,q⟩
 by_cases h0:0<=i
 ·have hj:i.toNat=j:=by
   rw[jN h0 h5]at J
   exact av J
  exact item_listR Z.isList h0 (by omega) (by rw[hj];simpa using ew) fin hs
 ·have hj:(i+(its.toArray.size:Int)).toNat=j:=by
   rw[iU (by omega) h4]at J
   rw[ay,<-hl]
   exact av J
  exact gf (x:=w) Z.isList.typeIs iV.lookup
   (wpAny_getItem_list_neg (Q:=λ r s'=>r=w/\EP X G σ Q r s') Z.isList (by omega) (by rw[ay]<;>omega) (by omega) (by rw[hj];simpa using ew) ⟨rfl,fin⟩) hs
theorem ix_tup:IxR X (rIxT X.K):=by
 intro Z J G s σ H x y v u Q I rx ry h hs
 obtain⟨p,xs,i,z,rfl,rfl,hq,he,q⟩:=h
 cases rx
 obtain⟨t,rfl⟩:=ry
 obtain⟨its,r,pl,hz⟩:=I.tuple hq
 obtain⟨j,h1,h2,h3,h4,h5⟩:=aF4 he
 obtain⟨w,ew,Y⟩:=r.get h2
 have hl:=r.length
 have hn:=an1
 have fin:EP X G σ Q w s:=⟨z,H,I,Y,q⟩
 exact gf (x:=w) pl.typeIs bp.lookup
  (getItem_tuple (j:=j) (Q:=λ r s'=>r=w/\EP X G σ Q r s') pl (by omega) (by omega) (by rw[ay,<-hl];exact h1) (by simpa using ew) ⟨rfl,fin⟩) hs
theorem ix_str:IxR X rIxS:=by
 intro J G Z s σ H x y v u Q I rx ry h hs
 obtain⟨z,i,c,rfl,rfl,hz,he,q⟩:=h
 obtain⟨t,rfl⟩:=rx
 obtain⟨t',rfl⟩:=ry
 obtain⟨j,Y,h2,h3,h4,h5⟩:=aF4 he
 have hl:z.cps.toList.length=z.length:=by simp[Str.length]
 rw[hl]at Y h4 h5
 have hn:=an1
 exact tail_any (j2 s z t) slot_str_getitem.lookup (getItem_str (c:=c) (by
  have e1:decide (i < -(2^63:Int))=false:=decide_eq_false (by omega)
  have e2:decide (i ≥ 2^63)=false:=decide_eq_false (by omega)
  rw[e1,e2,Bool.or_false]) (by rw[Y];simpa using h2) ⟨.str ⟨#[c]⟩,H,I.tok _,⟨_,rfl⟩,q⟩) hs
theorem aQ8 (its:List Value)(n j:Nat)(u:Value):gh (·.setIfInBounds j u) { cls:=.type "list",data:=.seq its.toArray n }={ cls:=.type "list",data:=.seq (its.set j u).toArray n }:=by
 simp[gh]
theorem Inv.lst {y:List (Addr×Obj)}{σ:St}{H:Hp}{s:ah}{p:Addr}{G:List V}(I:Inv X y σ H s)(h:H p=some (.lst G)) :
  ∃(its:List Value) (n:Nat),Vals G its/\s.heap.get? p=some { cls:=.type "list",data:=.seq its.toArray n }/\G.length<=aL:=by
 obtain⟨z,its,n,r,e⟩:=I.hok p _ h
 exact⟨its,n,r,e,z⟩
theorem Inv.lstUpd {y:List (Addr×Obj)}{σ:St}{H:Hp}{s:ah}{p:Addr}{Y ys:List V}{its its':List Value}{n G:Nat}{f:Obj->Obj}(I:Inv X y σ H s)(h:H p=some (.lst Y))
  (ho:s.heap.get? p=some { cls:=.type "list",data:=.seq its.toArray n }) (J:f { cls:=.type "list",data:=.seq its.toArray n }={ cls:=.type "list",data:=.seq its'.toArray G }) (r:Vals ys its') (hz:ys.length<=aL) (t:Nat) :
  Inv X y σ (upd H p (.lst ys)) { s with heap:=s.heap.update p f,toks:=t }:=by
 have e:(s.heap.update p f).get? p=some { cls:=.type "list",data:=.seq its'.toArray G }:=by
  rw[dg f ho (by rw[J]<;>rfl),J]
 refine I.write (x:=p) (e:=p) (by rw[h];trivial) (.inl rfl) (λ b u hb q=>(bQ _ _ (bU hb)).trans q) ⟨_,e⟩ ?_
 exact⟨hz,its',G,r,e⟩
def cc1:V->V->V->Hp->(Hp->Prop)->Prop:=λ o i v H Q=>∃ p xs k j,o=.ref p/\i=.int k/\H p=some (.lst xs)/\ixN xs.length k=some j/\Q (upd H p (.lst (xs.set j v)))
theorem bp5:cc4 X cc1:=by
 intro y s σ H o i v ov iv u Q I ro ri rv h
 obtain⟨p,xs,k,j,rfl,rfl,Z,hj,q⟩:=h
 cases ro
 obtain⟨t,rfl⟩:=ri
 obtain⟨its,n,r,ho,hz⟩:=I.lst Z
 obtain⟨G,h2,h3,J⟩:=bb0 hj
 have hl:=r.length
 have hn:=an1
 have Y:Inv X y σ (upd H p (.lst (xs.set j v))) { s with heap:=s.heap.update p (gh (·.setIfInBounds j u)) } :=
  I.lstUpd Z ho (aQ8 its n j u) (r.set rv j) (by rw[bw];exact hz) s.toks
 by_cases h0:0<=k
 ·have hk:k.toNat=j:=by
   rw[jN h0 J]at G
   exact av G
  exact PySem.W.ki_setAt ho h0 (by omega) (by rw[ay,<-hl];exact J) (by rw[hk];exact⟨_,Y,q⟩)
 ·have hk:(k+(its.toArray.size:Int)).toNat=j:=by
   rw[iU (by omega) h3]at G
   rw[ay,<-hl]
   exact av G
  exact PySem.W.ki_setBack ho (by omega) (by rw[ay,<-hl];exact h3) (by omega) (by rw[hk];exact⟨_,Y,q⟩)
theorem aC4 (y G:Option Int)(n:Nat):(dX y G none n).1=((HT.sIx n 0 y:Nat):Int)/\(dX y G none n).2.1=((HT.sIx n n G:Nat):Int)/\(dX y G none n).2.2=1:=by
 refine⟨?_,?_,rfl⟩
 ·cases y with
  | none=>simp[dX,HT.sIx]
  | some i =>
   simp only[dX,HT.sIx,i4,show(1:Int) > 0 by decide,if_true]
   by_cases h:i<0
   ·simp only[h,if_true]<;>omega
   ·simp only[h,if_false]<;>omega
 ·cases G with
  | none=>simp[dX,HT.sIx]
  | some i =>
   simp only[dX,HT.sIx,i4,show(1:Int) > 0 by decide,if_true]
   by_cases h:i<0
   ·simp only[h,if_true]<;>omega
   ·simp only[h,if_false]<;>omega
theorem aw1 (its:List Value)(h y:Option Int):slicePick its.toArray h y none=((its.drop (HT.sIx its.length 0 h)).take (HT.sIx its.length its.length y - HT.sIx its.length 0 h)).toArray:=by
 obtain⟨G,J,h3⟩:=aC4 h y its.toArray.size
 unfold slicePick
 rw[G,J,h3]
 simp only[sliceRange_one,pick_run,ay]<;>rfl
def rSlL (K:ae):V->Option Int->Option Int->Hp->VK->Prop:=λ x lo hi H Q=>∃ a xs,x=.ref a/\SqL K H a xs/\∀ p,H p=none->Q (.ref p) (upd H p (.lst (bc2 xs lo hi)))
theorem bD5:SlR X (rSlL X.K):=by
 intro a0 s σ H x v vl vu J Y sl Q I rx hs pl pu h
 obtain⟨a,y,rfl,hx,q⟩:=h
 cases rx
 obtain⟨its,r,Z,hz⟩:=I.list hx
 have G:=r.length
 refine⟨"list",_,iV.lookup,Z.isList.typeIs,?_⟩
 refine wpAny_getItem_list_slice Z.isList hs pl pu .none (by simp) ?_ (by rw[ay]<;>omega)
 rw[aw1,<-G]
 refine⟨.ref s.heap.objs.size,_,I.laid (t':=s.toks) (o:=.lst (bc2 y J Y)) (λ b ob q=>aj _ q) (ai _) ?_,rfl,q _ (I.hok.fresh (ai _))⟩
 exact⟨am (ar0 y J Y) hz,_,0,(r.drop (HT.sIx y.length 0 J)).take (HT.sIx y.length y.length Y - HT.sIx y.length 0 J),aP _ rfl⟩
theorem aC0:ae2 X (.builtin "len") (λ Y H Q=>∃ p ys,Y=[.ref p]/\(SqL X.K H p ys\/SqT X.K H p ys)/\Q (.int ys.length) H):=by
 intro Z s σ H Y us Q I r h
 obtain⟨p,ys,rfl,hq,q⟩:=h
 obtain⟨u,rfl,rx⟩:=ak7 r
 cases rx
 have hn:=an1
 rcases hq with hq|hq
 ·obtain⟨its,G,J,hz⟩:=I.list hq
  have y:=G.length
  exact Calls.call_len_list J.isList (by simp only[ay]<;>omega) ⟨.int ys.length,H,I.tok _,⟨s.toks+1,by rw[ay,y]⟩,q⟩
 ·obtain⟨its,G,J,hz⟩:=I.tuple hq
  have y:=G.length
  exact len_tuple J (by simp only[ay]<;>omega) ⟨.int ys.length,H,I.tok _,⟨s.toks+1,by rw[ay,y]⟩,q⟩
theorem aB6:ae2 X (.builtin "len") (λ y H Q=>∃ z,y=[.str z]/\z.length<=aL/\Q (.int z.length) H):=by
 intro G s σ H y us Q I r h
 obtain⟨z,rfl,hz,q⟩:=h
 obtain⟨u,rfl,t,rfl⟩:=ak7 r
 have hn:=an1
 exact len_str (by omega) ⟨.int z.length,H,I.tok _,⟨_,rfl⟩,q⟩
theorem ae2.or {f:Value}{r J:List V->Hp->VK->Prop}(h:ae2 X f r)(h':ae2 X f J):ae2 X f (λ G H Q=>r G H Q\/J G H Q):=by
 intro y s σ H G us Q I Y q
 rcases q with q|q
 ·exact h y s σ H G us Q I Y q
 ·exact h' y s σ H G us Q I Y q
theorem aE9:ae2 X (.type "list") (λ xs H Q=>∃ p ys,xs=[.ref p]/\(SqL X.K H p ys\/SqT X.K H p ys)/\∀ l,H l=none->Q (.ref l) (upd H l (.lst ys))):=by
 intro J s σ H xs us Q I r h
 obtain⟨p,ys,rfl,hq,q⟩:=h
 obtain⟨u,rfl,rx⟩:=ak7 r
 cases rx
 have fin:∀(its:List Value),Vals ys its->ys.length<=aL->∀(h':Heap) (y:Nat),(∀ b o',s.heap.get? b=some o'->h'.get? b=some o') ->
   h'.get? s.heap.objs.size=some { cls:=.type "list",dict:=none,data:=.seq its.toArray y,slots:=#[] }->EP X J σ Q (.ref s.heap.objs.size) { s with heap:=h' }:=λ its G hz h' y kp e =>
  ⟨.ref s.heap.objs.size,_,I.laid (t':=s.toks) kp (ai _) (show ad9 X.prog X.w _ h' _ (.lst ys)from⟨hz,its,y,G,e⟩),rfl,q _ (I.hok.fresh (ai _))⟩
 rcases hq with hq|hq
 ·obtain⟨its,G,Z,hz⟩:=I.list hq
  have Y:=G.length
  obtain⟨o,ho,hc,n,hd⟩:=Z.isList
  exact call_list_seq p (.inl rfl) ho hc hd (λ h' y kp e=>fin its G hz h' y kp e) (by simp only[ay]<;>omega)
 ·obtain⟨its,G,Z,hz⟩:=I.tuple hq
  have Y:=G.length
  obtain⟨o,ho,hc,n,hd⟩:=Z
  exact call_list_seq p (.inr rfl) ho hc hd (λ h' y kp e=>fin its G hz h' y kp e) (by simp only[ay]<;>omega)
theorem ay6:ae2 X (.type "tuple") (λ Z H Q=>∃ p ys,Z=[.ref p]/\((SqL X.K H p ys/\∀ l,H l=none->Q (.ref l) (upd H l (.tup ys)))\/(SqT X.K H p ys/\Q (.ref p) H))):=by
 intro y s σ H Z us Q I r h
 obtain⟨p,ys,rfl,h⟩:=h
 obtain⟨u,rfl,rx⟩:=ak7 r
 cases rx
 rcases h with⟨hq,q⟩|⟨hq,q⟩
 ·obtain⟨its,J,G,hz⟩:=I.list hq
  have a0:=J.length
  refine call_tuple_list G.isList (λ h' kp=>?_) (by simp only[ay]<;>omega)
  have Y:Inv X y σ H { s with heap:=h' }:=I.kept (t':=s.toks) kp
  have I2:Inv X y σ (upd H h'.objs.size (.tup ys)) { s with heap:=h'.push { cls:=.type "tuple",data:=.seq its.toArray } } :=
   Y.laid (t':=s.toks) (λ b o e=>aj _ e) (ai _) (show ad9 X.prog X.w _ _ _ (.tup ys)from⟨hz,its,J,i3 _ _⟩)
  exact⟨.ref h'.objs.size,_,I2,rfl,q _ (Y.hok.fresh (ai _))⟩
 ·obtain⟨its,J,G,hz⟩:=I.tuple hq
  exact call_tuple_same G ⟨.ref p,H,I,rfl,q⟩
def tyV (K:ae)(T:String)(x:V)(H:Hp):Prop:=match x with
 | .str _=>T = "str"
 | .int _=>T = "int"
 | .ref p=>(T = "list"/\∃ xs,SqL K H p xs)\/(T = "tuple"/\∃ o,K.lookup p=some o/\o.cls=.type "tuple"/\o.dict=none) \/
   (T = "dict"/\((∃ kvs,H p=some (.dK kvs))\/∃ kvs,H p=some (.dT kvs)))\/(T = "set"/\∃ S n,H p=some (.set S n))
 | _=>False
theorem bt6 {h:List (Addr×Obj)}{σ:St}{H:Hp}{s:ah}{T:String}{x:V}{v:Value}(I:Inv X h σ H s)(r:RelV x v)(y:tyV X.K T x H) :
  s.TypeIs v T/\∀ a,v=.ref a->∃ ob,s.heap.get? a=some ob/\ob.dict=none:=by
 cases x with
 | str z =>
  obtain⟨t,rfl⟩:=r
  cases(show T = "str" from y)
  exact⟨j2 s z t,λ _ e=>nomatch e⟩
 | int i =>
  obtain⟨t,rfl⟩:=r
  cases(show T = "int" from y)
  exact⟨gi s i t,λ _ e=>nomatch e⟩
 | ref p =>
  cases r
  rcases y with⟨rfl,Y,hq⟩|⟨rfl,o,hk,hc,hd⟩|⟨rfl,hk⟩|⟨rfl,S,n,hk⟩
  ·obtain⟨its,_,J,_⟩:=I.list hq
   refine⟨J.isList.typeIs,λ a e=>?_⟩
   cases e
   obtain⟨o,n,e,c,hd,_⟩:=J
   exact⟨o,e,hd⟩
  ·refine⟨⟨o,I.kIn p o hk,hc⟩,λ a e=>?_⟩
   cases e
   exact⟨o,I.kIn _ o hk,hd⟩
  ·have z:∃ o,s.heap.get? p=some o/\o.ExactDict:=by
    rcases hk with⟨G,hk⟩|⟨G,hk⟩
    ·obtain⟨_,_,_,_,o,_,_,e,ex,_⟩:=I.hok p _ hk
     exact⟨o,e,ex⟩
    ·obtain⟨_,_,_,_,o,_,_,e,ex,_⟩:=I.hok p _ hk
     exact⟨o,e,ex⟩
   obtain⟨o,e,ex⟩:=z
   refine⟨⟨o,e,ex.1⟩,λ a e2=>?_⟩
   cases e2
   exact⟨o,e,ex.2.1⟩
  ·obtain⟨o,_,_,_,e,ex,_⟩:=I.hok p _ hk
   refine⟨⟨o,e,ex.1⟩,λ a e2=>?_⟩
   cases e2
   exact⟨o,e,ex.2.1⟩
 | _=>exact bF y
def tBM0 (K:ae)(T:String)(r:V->List V->Hp->VK->Prop)(to:TE):TE:=λ σ H Q=>to σ H λ x H1=>tyV K T x H1/\r x [] H1 Q
def tBM (K:ae)(T:String)(r:V->List V->Hp->VK->Prop)(to:TE)(t:TA):TE:=λ σ H Q=>to σ H λ x H1=>tyV K T x H1/\t σ H1 λ xs H2=>r x xs H2 Q
variable {o e:Expr} {es:List Expr} {to:TE} {t:TA} {name:Str} {apos cpos:Pos} {T id:String} {r:V->List V->Hp->VK->Prop}
theorem bP7 (pa:j3 T)(slot:Slot T name id)(Y:typeOf (.builtin id)=pure (.type "method_descriptor"))(hm:MtR X id r)(ho:PE X o to)
  (G:fI o name X.env (eval o X.env)=eval o X.env:=by rfl) (J:(apos.endLine==cpos.line)=true:=by rfl):PE X (.Call (.Attribute o name apos) [] [] cpos) (tBM0 X.K T r to):=by
 intro y s σ H Q I h
 refine wpAny_Call_method0_late G J (thn (ho y s σ H _ I h) λ v s1 ⟨x,H1,Z,r1,ty,q1⟩=>?_)
 obtain⟨h1,h2⟩:=bt6 Z r1 ty
 exact⟨T,id,pa,slot,Y,h1,h2,gj rfl (PySem.evalArgs_none (hm y s1 σ H1 x [] v [] Q Z r1 .nil q1))⟩
theorem cg1 (pa:j3 T)(slot:Slot T name id)(a0:typeOf (.builtin id)=pure (.type "method_descriptor"))(hm:MtR X id r)(ho:PE X o to)(ha:PA X (e::es) t)
  (J:fI o name X.env (eval o X.env)=eval o X.env:=by rfl)
  (Z:((d4 cpos (bn (e::es) X.env)).all (λ x=>!x.1)&&(backToKw cpos (keywordEach [] X.env)).all (λ x=>x.1.isSome)
   && decide ((e::es).length+([]:List jY).length+(if([]:List jY).isEmpty then 0 else 1)<30))=true:=by rfl)
  (Y:(apos.endLine==cpos.line)=true:=by rfl) (hs:bn (e::es) X.env=(false,eval e X.env)::bn es X.env:=by rfl) (G:(d4 cpos (bn es X.env)).any (·.1)=false:=by rfl) :
  PE X (.Call (.Attribute o name apos) (e::es) [] cpos) (tBM X.K T r to t):=by
 intro y s σ H Q I h
 refine wpAny_Call_method_late J Z Y rfl (thn (ho y s σ H _ I h) λ v s1 ⟨x,H1,I1,r1,ty,q1⟩=>?_)
 obtain⟨h1,h2⟩:=bt6 I1 r1 ty
 refine⟨T,id,pa,slot,a0,h1,h2,?_⟩
 have hA:=ha cpos y s1 σ H1 _ I1 q1
 rw[hs]at hA ⊢
 refine gj (by show(false||(d4 cpos (bn es X.env)).any (·.1))=false;rw[G]<;>rfl) (Calls.evalArgs_plain ?_)
 exact thn hA λ us s2 ⟨vs,H2,I2,r2,q2⟩=>hm y s2 σ H2 x vs v us Q I2 r1 r2 q2
end
def MtM (X:Cx)(id:String)(r:V->List V->Hp->VK->Prop):Prop :=
 ∀(pins:List (Addr×Obj)) (s:ah) (σ:St) (H:Hp) (x:V) (xs:List V) (v:Value) (us:List Value) (Q:VK),Inv X pins σ H s->RelV x v->Vals xs us->r x xs H Q ->
  wpAny (model X.prog X.w) X.A (call (.builtin id) (v::us)) (EP X pins σ Q) X.xe s
theorem Vals.one:∀ {x:V} {us:List Value},Vals [x] us->∃ u,us=[u]/\RelV x u
 | _,_,.cons r .nil=>⟨_,rfl,r⟩
theorem Vals.zero:∀ {us:List Value},Vals [] us->us=[]
 | _,.nil=>rfl
theorem Vals.dropLast {y:List V}{us:List Value}(h:Vals y us):Vals y.dropLast us.dropLast:=by
 induction h with
 | nil=>exact .nil
 | cons r t ih =>
  cases t with
  | nil=>exact .nil
  | cons q t'=>exact .cons r ih
theorem Vals.reverse {y:List V}{us:List Value}(h:Vals y us):Vals y.reverse us.reverse:=by
 induction h with
 | nil=>exact .nil
 | cons r t ih=>rw[d6,d6];exact Vals.append ih (.cons r .nil)
theorem Vals.rep {y:List V}{us:List Value}(h:Vals y us):∀ k:Nat,Vals (ar k y).flatten (ar k us).flatten
 | 0=>.nil
 | k+1=>by
  rw[bM,bM,dk,dk]
  exact Vals.append h (Vals.rep h k)
theorem aA5 (its:List Value):∀(k:Nat) (h:List Value),
  j4 (λ x1 y=>x1++y) h.toArray (ar k its.toArray)=(h++(ar k its).flatten).toArray
 | 0,h=>by simp
 | k+1,h=>by
  have e:h.toArray++its.toArray=(h++its).toArray:=by simp
  have e2:(h++its)++(ar k its).flatten=h++(ar (k+1) its).flatten:=by
   rw[bM,dk,cg]
  rw[<-e2,<-aA5 its k (h++its),<-e,bM,cj]
section
variable {X:Cx} {pins:List (Addr×Obj)} {σ:St} {H:Hp} {s:ah} {l b:Addr} {xs ys zs:List V}
theorem Inv.lset {its its':List Value}{n:Nat}{f:Array Value->Array Value}{t':Nat}(I:Inv X pins σ H s)(G:H l=some (.lst xs))
  (e:s.heap.get? l=some { cls:=.type "list",data:=.seq its.toArray n }) (h:f its.toArray=its'.toArray) (hv:Vals ys its') (hz:ys.length<=aL) :
  Inv X pins σ (upd H l (.lst ys)) { s with heap:=s.heap.update l (gh f),toks:=t' }:=by
 have q:=PySem.IsL.update e f
 rw[h]at q
 refine I.write (x:=l) (e:=l) (by rw[G];exact trivial) (.inl rfl) (λ J u hb y=>(bQ s.heap (gh f) (bU hb)).trans y) ⟨_,q⟩ ?_
 exact⟨hz,its',_,hv,q⟩
theorem Inv.lnew {its:List Value}{t':Nat}(I:Inv X pins σ H s)(hv:Vals ys its)(hz:ys.length<=aL) :
  Inv X pins σ (upd H s.heap.objs.size (.lst ys)) { s with heap:=s.heap.push { cls:=.type "list",data:=.seq its.toArray },toks:=t' } :=
 I.laid (λ _ _ q=>aj _ q) (ai _) ⟨hz,its,0,hv,aP _ rfl⟩
theorem Inv.fresh (I:Inv X pins σ H s):H s.heap.objs.size=none:=I.hok.fresh (ai _)
theorem Inv.lstM (I:Inv X pins σ H s)(h:H l=some (.lst xs)):xs.length<=aL/\∃(its:List Value) (n:Nat),Vals xs its/\xs.length=its.length/\s.heap.get? l=some { cls:=.type "list",data:=.seq its.toArray n }:=by
 obtain⟨z,its,n,r,e⟩:=I.hok l _ h
 exact⟨z,its,n,r,r.length,e⟩
theorem bm5 {n:Nat}(h:n<=aL):dH n=false:=by
 unfold dH
 exact decide_eq_false (by omega)
end
section
variable {X:Cx}
def bI7:V->List V->Hp->VK->Prop:=λ x vs H Q=>∃ l xs y,x=.ref l/\vs=[y]/\H l=some (.lst xs)/\xs.length<aL/\Q .non (upd H l (.lst (xs++[y])))
theorem aA6:MtM X "list.append" bI7:=by
 intro G s σ H x vs v us Q I Z Y h
 obtain⟨l,xs,y,rfl,rfl,J,hz,q⟩:=h
 cases Z
 obtain⟨u,rfl,ru⟩:=Y.one
 obtain⟨z,its,n,r,hl,e⟩:=I.lstM J
 refine iC gH ⟨_,e,rfl⟩ F.entry_list_append (F.args_list_append_2 _ _) (PySem.list_append l its.toArray n u (by rw[ay];omega)) ⟨e,?_⟩
 refine⟨.non,_,I.lset (its':=its++[u]) J e (by simp) (r.append (.cons ru .nil)) ?_,rfl,q⟩
 rw[aQ,dh]
 omega
def rCat:R2:=λ x y H Q=>∃ l b xs zs,x=.ref l/\y=.ref b/\H l=some (.lst xs)/\H b=some (.lst zs)/\xs.length+zs.length<=aL/\∀ p,H p=none->Q (.ref p) (upd H p (.lst (xs++zs)))
theorem bS8:OpR X (b9 .Add) rCat:=by
 intro J s σ H x y v u Q I rx ry h
 obtain⟨l,b,xs,zs,rfl,rfl,hH,Z,hz,q⟩:=h
 cases rx
 cases ry
 obtain⟨z,its,n,r,hl,e⟩:=I.lstM hH
 obtain⟨z2,G,n2,Y,hl2,e2⟩:=I.lstM Z
 refine PySem.P.add_list e e2 ?_ (by rw[ay,ay];omega)
 have ea:its.toArray++G.toArray=(its++G).toArray:=by simp
 rw[ea]
 exact⟨.ref _,_,I.lnew (t':=s.toks) (r.append Y) (by rw[aQ];omega),rfl,q _ I.fresh⟩
def rRep:R2:=λ x y H Q=>∃ l k xs,x=.ref l/\y=.int k/\H l=some (.lst xs)/\-(2^63)<=k/\k<2^63/\xs.length*k.toNat<=aL /\
 ∀ p,H p=none->Q (.ref p) (upd H p (.lst (ar k.toNat xs).flatten))
theorem bC6 {α:Type}(h:List α)(k:Nat):(ar k h).flatten.length=k*h.length:=by
 induction k with
 | zero=>simp
 | succ k ih=>rw[bM,dk,aQ,ih,Nat.succ_mul,gk]
theorem bK3:OpR X (b9 .Mult) rRep:=by
 intro a1 s σ H x y v u Q I rx ry h
 obtain⟨l,k,xs,rfl,rfl,hH,h1,h2,hz,q⟩:=h
 cases rx
 obtain⟨t,rfl⟩:=ry
 obtain⟨z,its,n,r,hl,e⟩:=I.lstM hH
 have a0:its.toArray.size*k.toNat<=aL:=by rw[ay,<-hl];exact hz
 have J:¬ its.toArray.size*k.toNat > (2^63 - 1) / 8:=by
  have:(aL:Nat)<=(2^63 - 1) / 8:=by decide
  omega
 have Z:¬(!Builtin.List.listFitsIndex k)=true:=by
  rw[fitsIndex_both h1 h2]
  exact aR
 have G:¬ dH (its.toArray.size*k.toNat)=true:=by
  rw[bm5 a0]
  exact aR
 have Y:j4 (λ x1 x2=>x1++x2) #[] (ar (if its.toArray.isEmpty=true then 0 else k.toNat) its.toArray)=(ar k.toNat its).flatten.toArray:=by
  have f0:∀ m:Nat,j4 (λ x1 x2=>x1++x2) #[] (ar m its.toArray)=(ar m its).flatten.toArray:=λ m=>by
   have:=aA5 its m []
   rw[dL]at this
   exact this
  rw[f0]
  cases its with
  | nil=>simp
  | cons a r'=>rw[if_neg (by simp)]
 refine fh (T := "list") (U := "int") (by decide) ⟨_,e,rfl⟩ (λ s'=>gi s' k t) noFill_list_mul iD dR repeat_list hV.lookup
  (iC dR (gi s k t) hZ (gN _ _) (int___rmul___int_list k t l its.toArray n)
   ⟨e,rfl,⟨_,e,rfl⟩,iC F.slot_list_mul ⟨_,e,rfl⟩ F.entry_list_mul (F.args_list_mul_2 _ _) (AutoListH.list___mul___list_int_3 l its.toArray n k t Z J G) ⟨e,?_⟩⟩)
 rw[Y]
 exact⟨.ref _,_,I.lnew (t':=s.toks) (r.rep k.toNat) (by rw[bC6,iW];exact hz),rfl,q _ I.fresh⟩
end
section
variable {prog:aN} {w:World} {A:aX} {E:Value->ah->Prop} {s:ah}
end
section
variable {X:Cx}
end
end L2
end
noncomputable section
namespace Att
open PySem PySem.W PySem.Calls PyProof.Rows
theorem ints_of_wellAll {P:Params}{h:Heap}:∀(ns:List Int) (vs:List Value),WellAll P h vs (ns.map WData.int)->jZ vs ns:=by
 intro ns
 induction ns with
 | nil =>
  intro vs w
  rw[cq]at w
  cases w
  exact .nil
 | cons n ns ih =>
  intro vs w
  rw[aJ]at w
  cases w with
  | cons a b =>
   cases a
   exact .cons _ _ (ih _ b)
theorem script_of {l:OpenLaw}{n:Nat}(hn:l.most=some n){P:Params}{h:Heap}{args:List WData}{G:List Value}
  (y:l.row.toRowW.claim.pre args=true) (a0:WellAll P h G args) :
  ∃ a vs ns,G=[Value.ref a]/\args=[WData.list (ns.map WData.int)]/\h.get? a=some { cls:=.type "list",data:=.seq vs.toArray }/\jZ vs ns/\ns.length<=n:=by
 have a1:WShape.hasAll [] args [.list .int]=true:=(pre_splitW y).1
 have hc:l.pre.holds [] { args:=args }=true:=(pre_splitW y).2
 obtain⟨d,r,rfl,h1,h2⟩:=hasAllW_cons a1
 obtain rfl:=hasAllW_nil h2
 obtain⟨xs,rfl,h3⟩:=hasW_list h1
 obtain⟨ns,rfl⟩:=items_int h3
 have J:ns.length<=n:=by
  unfold OpenLaw.pre at hc
  have Y:(WTm.not (.lt (.lit (.int (n:Int))) (.len (.arg 0)))).holds [] { args:=[.list (ns.map .int)] }=true:=by
   have Y:=(holds_andW hc).1
   rw[hn]at Y
   exact Y
  have Z:=condW_of Y (w_not (w_lt w_lit (w_len_list (w_arg rfl))))
  rw[ax]at Z
  refine i5 λ q=>?_
  have q':(n:Int)<((ns.length:Nat):Int):=by omega
  first
   | (rw[decide_eq_true q']at Z;exact absurd Z (by decide))
   | (simp at Z;omega)
 cases a0 with
 | cons w1 w2 =>
  cases w2
  cases w1 with
  | list ho hall=>exact⟨_,_,ns,rfl,rfl,ho,ints_of_wellAll ns _ hall,J⟩
theorem post_true (l:OpenLaw)(args:List WData):l.row.toRowW.claim.post args (.bool true) args=true :=
 postW_of (r:=l.row.toRowW) (X:=(true==true))
  (show WShape.has [] (.bool true) .bool=true by first|rfl|decide|simp[WShape.has,WShape.arms,WShape.armsAll])
  (show(WTm.eq .res (.lit (.bool true))).value [] { args:=args,res:=some (.bool true),after:=args }=some (.bool (true==true))from w_eq_bool (w_res rfl) w_lit) rfl
theorem attach_call {l:OpenLaw}{n:Nat}{q:aN}{loose:List Str}{XP:(Str->Option Value)->Heap->Prop}{YP:World->Heap->Prop}{d:DefRec}
  (hn:l.most=some n) (a5:d.params.defaults=[])
  (call:∀(w:World) (s₀ h:ah) (mg mb:Str->Option Value) (fa:Addr) (o:Obj) (pm cd y:Value) (a:Addr) (vs:List Value) (ns:List Int),
   Ground q loose [] XP w s₀ mg mb h.heap->YP w h.heap ->
   h.heap.get? fa=some o->o.data=.func (docDef d.name d.params d.body d.scope pm cd y)->h.heap.CodeRec cd d.name->mg d.name=some (.ref fa) ->
   h.heap.get? a=some { cls:=.type "list",data:=.seq vs.toArray }->jZ vs ns->ns.length<=n->h.gens=#[] ->
   fv (model l.prog w) g7 (.call (.ref fa) ⟨[.ref a],[]⟩) (λ r s'=>r=.ok (.ret (.bool true))/\OldK h.heap s'.heap/\s'.os=h.os/\fq s'.gens) h) :
  WalkO q loose XP YP l.row.toRowW d [] (λ f vs=>j5 f vs):=by
 intro w s₀ h mg mb G Y fa o pm cd y dV kV ho hd a4 hD a3 hg args a6 as Z b0 b1 a2 b2
 obtain rfl:dV=.none:=Dflts.none hD a5
 obtain rfl:kV=.none:=Dflts.noKw hD
 obtain⟨a,vs,ns,rfl,rfl,a0,J,a1⟩:=script_of hn Z a2
 refine enter_call (eR (call w s₀ h mg mb fa o pm cd y a vs ns G Y ho (fd_plain hd) a4 a3 a0 J a1 hg) λ r s' hq=>?_)
 obtain⟨rfl,h2,h3,h4⟩:=hq
 exact⟨.inl ⟨.bool true,.bool true,[],rfl,λ _=>rfl,.bool true,post_true l _,λ _=>⟨List.Pairwise.nil,λ _ hm=>(nomatch hm)⟩⟩,h2,h3,h4⟩
section
variable {prog:aN} {w:World} {A:aX} {E:Value->ah->Prop} {s:ah} {K:Frag}
end
end Att
noncomputable section
namespace L2
open PySem PySem.Spec PyProof.Rows
theorem az8:∀ {vs:List Value} {ns:List Int},jZ vs ns->Vals (ns.map V.int) vs
 | _,_,.nil=>.nil
 | _,_,.cons n t h=>.cons ⟨t,rfl⟩ (az8 h)
noncomputable def defArgs (s:Stmt):a9:=match s with
 | .FunctionDef _ a _ _ _ _ _ _ _ _=>a
 | _=>{ posonlyargs:=[],args:=[],vararg:=none,kwonlyargs:=[],kw_defaults:=[],kwarg:=none,defaults:=[] }
noncomputable def qa (s:Stmt):List Stmt:=match s with
 | .FunctionDef _ _ b _ _ _ _ _ _ _=>b
 | _=>[]
noncomputable def defScope (s:Stmt):Scope:=match s with
 | .FunctionDef _ _ _ _ _ _ sc _ _ _=>sc
 | _=>{ kind:=.function,names:=[],isGenerator:=false,isCoroutine:=false }
noncomputable abbrev CX0:CXT:=λ _ _ _ _ _ _=>False
abbrev E0:XK:=λ _ _ _=>False
theorem bY5 {X:Cx}:aN4 CX0 X E0:=λ _ _ _ _ _ _ _ h=>h.elim
structure Fun (K:ae)(x qual:Str)(st:Stmt)(f:Addr)(fd:bI):Prop where
 ex:∃(oc:Value) (od:Option Addr) (kV doc pm:Value) (an:Option Addr) (cdv ct:Value) (osl:Array (Option Value)),
  fd=cV x qual (defArgs st) (qa st) (defScope st) .none kV doc pm an cdv ct/\K.lookup f=some ⟨oc,od,.func fd,osl⟩/\e8 K cdv qual=true
 kp:cf K (.ref f)=true
section
variable {P:aN} {w:World} {K:ae} {mg:Str->Option Value} {base:Heap}
theorem Fun.ok {x qual:Str}{st:Stmt}{f:Addr}{Z:bI}{N ps:List Str}{k:Nat}{sp:Sp}(F:Fun K x qual st f Z)(S:FnScope N ps (defScope st))(len:∀ vs H Q E,sp vs H Q E->vs.length=ps.length)
  (G:∀(y:Value) (A:aX) (outer:List Env) (s:ah) (H:Hp) (vs:List V) (Q:VK) (E:XK),Room k (A.deeper (fF qual (defScope st) s.heap.objs.size f y))->sp vs H Q E ->
   ∃ t,PSs (bo4 CX0 P w K mg base N qual (defScope st) f y A outer s H E).nox (qa st) t/\t { nx:=λ _ H'=>Q .non H',rt:=Q } (aj0 N vs) H):FnOk P w K mg base CX0 (k+1) f Z ps sp:=by
 obtain⟨oc,od,kV,a0,pm,an,y,ct,a1,rfl,lk,Y⟩:=F.ex
 refine bT9 lk Y S len λ A outer s H vs Q E hr J=>?_
 obtain⟨t,h,q⟩:=G y A outer s H vs Q E hr J
 exact⟨t,h.nox,q⟩
theorem Fun.binds {x qual:Str}{st:Stmt}{f:Addr}{Z:bI}{ps:List Str}(F:Fun K x qual st f Z)
  (h:∀(kV y Y:Value) (J:Option Addr) (G ct:Value) (us:List Value),us.length=ps.length->eC (cV x qual (defArgs st) (qa st) (defScope st) .none kV y Y J G ct) ⟨us,[]⟩=pure (ps.zip us)):Binds K Z ps []:=by
 obtain⟨oc,od,kV,y,Y,J,G,ct,a0,rfl,lk,a1⟩:=F.ex
 exact .all (h kV y Y J G ct)
theorem bs0 {x qual:Str}{st:Stmt}{f:Addr}{oc:Value}{od J:Option Addr}{G:Array (Option Value)}{kV y Y h ct:Value}(l:K.lookup f=some ⟨oc,od,.func (cV x qual (defArgs st) (qa st) (defScope st) .none kV y Y J h ct),G⟩)
  (c:e8 K h qual=true) (k:cf K (.ref f)=true):Fun K x qual st f (cV x qual (defArgs st) (qa st) (defScope st) .none kV y Y J h ct):=⟨⟨oc,od,kV,y,Y,J,h,ct,G,rfl,l,c⟩,k⟩
end
theorem bj1 {A:aX}{k:Nat}(h:Room k A):A.units+1<cLine:=Nat.lt_of_le_of_lt (Nat.add_le_add_left (by decide:1<=64) _) h.units
section
variable {X:Cx}
theorem pv (i:Nat){x:Str}{pos:Pos}(hN:X.N[i]?=some x:=by rfl)(hv:Vis X.env.scope x:=by first|exact Or.inl rfl|exact Or.inr (Or.inl rfl)|exact Or.inr (Or.inr rfl))(hd:(x==("__debug__":Str))=false:=by decide)
  (h:(x==("__classdict__":Str))=false:=by decide):PE X (.Name x pos) (bs1 i):=bb9 hN hv hd h
end
theorem iteF {A B:Prop}(h:B):if false=true then A else B:=by
 rw[if_neg aR]
 exact h
theorem iteT {A B:Prop}(h:A):if true=true then A else B:=by
 rw[if_pos rfl]
 exact h
def ag9 (H H':Hp):Prop:=∀ b o,H b=some o->H' b=some o
theorem ag9.refl (H:Hp):ag9 H H:=λ _ _ h=>h
theorem aU6 {prog:aN}{w:World}{A:aX}{R:Result->ah->Prop}{s:ah}{Y y iter:Expr}{G:List Expr}{scope:Scope}{pos:Pos}{it J:Value}{env:Env}(I:Nat->ah->Prop)
  (turn:∀ n s,I n s->wpAny (model prog w) A (iZ it) (λ r s₁=>match r with
   | none=>R (.ok .next) s₁
   | some v=>wpAny (model prog w) A (eK y it v) (λ _ Z=>wpAny (model prog w) A (f7 y env v) (λ _ s₂ =>
     wpAny (model prog w) A (forIn G true λ c r=>if r=true then do let ok <- dP c env (eval c env);pure (ForInStep.yield ok)else pure (ForInStep.yield r)) (λ ok s₃ =>
      if ok=true then wpAny (model prog w) A (eval Y env) (λ x s₄ =>
       wpAny (model prog w) A (call (.builtin "list.append") [J,x]) (λ _ s₅=>∃ m,m<n/\I m s₅) (iX (model prog w) A env λ e s'=>R (.error e) s') s₄) (iX (model prog w) A env λ e s'=>R (.error e) s') s₃
      else ∃ m,m<n/\I m s₃) (iX (model prog w) A env λ e s'=>R (.error e) s') s₂) (iX (model prog w) A env λ e s'=>R (.error e) s') Z) (iX (model prog w) A env λ e s'=>R (.error e) s') s₁) (iX (model prog w) A env λ e s'=>R (.error e) s') s)
  (n:Nat) (h:I n s) :
  fv (model prog w) A (.compLoop (.ListComp Y [⟨y,iter,G,0⟩] scope pos) 0 it J env) R s:=by
 refine codeAny_loop rfl I (λ n s hI=>?_) n h
 show wpAny _ A ((compTurn (.ListComp Y [⟨y,iter,G,0⟩] scope pos) 0 it J env).onRaise (λ x=>do noteFrame x env;theTreesLotGoes x)) _ _ s
 refine wpAny_noted ?_
 rw[compTurn_list]
 refine ak (ii (ak (ci (turn n s hI) (λ r s₁ h₁=>?_) λ _ _ h'=>h')))
 cases r with
 | none=>exact aG h₁
 | some v =>
  refine ak (ci h₁ (λ _ Z a0=>?_) λ _ _ h'=>h')
  refine ak (ci a0 (λ _ s₂ h₂=>ak (ci h₂ (λ ok s₃ h₃=>?_) λ _ _ h'=>h')) λ _ _ h'=>h')
  cases ok with
  | false=>exact aG ⟨rfl,h₃⟩
  | true =>
   exact ak (ak (ci h₃ (λ x s₄ h₄=>ak (ci h₄ (λ _ s₅ h₅=>aG (aG ⟨rfl,h₅⟩)) λ _ _ h'=>h')) λ _ _ h'=>h'))
noncomputable def af6 (cells:List (Str×Addr)):List (Str×bO)->List (Str×Addr)->List (Str×Addr)
 | [],acc=>acc
 | (n,k)::r,acc=>af6 cells r (if k==.free then(match cells.lookup n with|some c=>(n,c)::acc|none=>acc)else acc)
theorem ai4 {env:Env}:∀(names:List (Str×bO)) (G:List (Str×Addr)),(∀ y∈names,y.2=.free->∃ c,env.cells.lookup y.1=some c) ->
  (forIn names G λ(x:Str×bO) (cs:List (Str×Addr))=>(if x.2==.free then do let c <- cellOf env x.1;pure (ForInStep.yield ((x.1,c)::cs))else pure (ForInStep.yield cs):Sem (ForInStep (List (Str×Addr)))))=pure (af6 env.cells names G)
 | [],G,_=>by rw[gO];rfl
 | (n,k)::r,G,h=>by
  have J:=λ a=>ai4 r a λ y hy=>h y (az _ hy)
  rw[jR]
  unfold af6
  cases e:(k==NameKind.free)with
  | false =>
   simp only[aK,if_false]
   exact J G
  | true =>
   have hk:k=.free:=by simpa using e
   obtain⟨c,hc⟩:=h (n,k) aH hk
   have e1:cellOf env n=pure c:=by unfold cellOf;rw[hc]
   simp only[if_true,e1,hc]
   exact J _
theorem qF {scope:Scope}{env:Env}(h:∀ y∈scope.names,y.2=.free->∃ c,env.cells.lookup y.1=some c):closureFor scope env=pure (af6 env.cells scope.names []):=by
 have:=ai4 (env:=env) scope.names [] h
 show(forIn scope.names [] (λ(x:Str×bO) (cs:List (Str×Addr))=>(if x.2==.free then do let c <- cellOf env x.1;pure (ForInStep.yield ((x.1,c)::cs))else pure (ForInStep.yield cs):Sem (ForInStep (List (Str×Addr))))) >>= λ cs=>pure cs)=_
 rw[this]
 rfl
theorem clOf_mem {cells:List (Str×Addr)}{n:Str}{c:Addr}:∀ {names:List (Str×bO)} {G:List (Str×Addr)},(n,c)∈af6 cells names G->cells.lookup n=some c\/(n,c)∈G
 | [],_,h=>.inr h
 | (m,k)::r,G,h=>by
  unfold af6 at h
  rcases clOf_mem h with z|z
  ·exact .inl z
  ·cases e:(k==NameKind.free)with
   | false=>simp only[e,aK,if_false]at z;exact .inr z
   | true =>
    simp only[e,if_true]at z
    cases q:cells.lookup m with
    | none=>rw[q]at z;exact .inr z
    | some d =>
     rw[q]at z
     rcases aI.mp z with y|y
     ·cases y;exact .inl q
     ·exact .inr y
theorem aK4 {cells:List (Str×Addr)}{n:Str}{c:Addr}(hc:cells.lookup n=some c):∀ {names:List (Str×bO)} {y:List (Str×Addr)},((n,NameKind.free)∈names\/(n,c)∈y)->(n,c)∈af6 cells names y
 | [],_,h=>by rcases h with h|h;(exact absurd h (by simp));exact h
 | (m,k)::r,y,h=>by
  unfold af6
  refine aK4 hc ?_
  rcases h with h|h
  ·rcases aI.mp h with e|h
   ·cases e
    right
    simp[hc]
   ·exact .inl h
  ·right
   cases e:(k==NameKind.free)with
   | false=>simpa using h
   | true =>
    simp only[if_true]
    cases q:cells.lookup m with
    | none=>exact h
    | some d=>exact az _ h
theorem ai0 {α:Type}{n:Str}{c:α}:∀ {l:List (Str×α)},(n,c)∈l->(∀ d,(n,d)∈l->d=c)->l.lookup n=some c
 | (m,d)::r,h,u=>by
  rw[a8]
  cases e:n==m with
  | true =>
   have e':=beq_iff_eq.mp e
   subst e'
   rw[u d aH]
  | false =>
   rcases aI.mp h with z|z
   ·cases z;simp at e
   ·exact ai0 z λ d' h'=>u d' (az _ h')
theorem qO {cells:List (Str×Addr)}{n:Str}{c:Addr}{names:List (Str×bO)}(hc:cells.lookup n=some c)(h:(n,NameKind.free)∈names):(af6 cells names []).lookup n=some c:=by
 refine ai0 (aK4 hc (.inl h)) λ d hd=>?_
 rcases clOf_mem hd with z|z
 ·rw[hc]at z;exact(av z).symm
 ·exact absurd z (by simp)
theorem zy:∀(names:List (Str×bO)) (n:Nat) (h:List (Str×Addr)),aM n names h=aM n names []++h
 | [],_,h=>by simp[aM]
 | (x,k)::r,n,h=>by
  unfold aM
  split
  ·rw[zy r (n+1) ((x,n)::h),zy r (n+1) [(x,n)]]
   simp
  ·exact zy r n h
theorem zS:∀ {names:List (Str×bO)} {n:Nat} {G:List (Str×Addr)} {x:Str} {c:Addr},(x,c)∈aM n names G->(x,NameKind.cell)∈names\/(x,c)∈G
 | [],_,_,_,_,h=>.inr h
 | (y,k)::r,n,G,x,c,h=>by
  unfold aM at h
  split at h
  ·rename_i hk
   rcases zS h with z|z
   ·exact .inl (az _ z)
   ·rcases aI.mp z with e|z
    ·cases e
     have:k=.cell:=by simpa using hk
     subst this
     exact .inl aH
    ·exact .inr z
  ·rcases zS h with z|z
   ·exact .inl (az _ z)
   ·exact .inr z
theorem zX {α:Type}(x:Str):∀(l r:List (Str×α)),(l++r).lookup x=(l.lookup x).or (r.lookup x)
 | [],r=>by simp
 | (y,v)::l,r=>by
  rw[cw,a8,a8]
  cases x==y with
  | true=>rfl
  | false=>exact zX x l r
noncomputable def qv (N':List Str)(src:List (Option Nat))(scope:Scope)(XN:List Str)(xs:Scope):Bool :=
 (scope.kind==.function) &&
 (scope.names.all λ y=>!(y.2==.free)||(xs.names.lookup y.1==some .cell||xs.names.lookup y.1==some .free)) &&
 (scope.names.all λ y=>!(y.2==.local)||scope.names.lookup y.1==some .local) &&
 (scope.names.all λ y=>!(y.2==.cell)||(scope.names.all λ z=>!(z.1==y.1)||z.2==.cell)) &&
 (src.length==N'.length) &&
 ((N'.zip src).all λ y=>match y.2 with|none=>true|some j=>XN[j]?==some y.1&&scope.names.lookup y.1==some .free)
structure CompCk (N':List Str)(src:List (Option Nat))(scope:Scope)(XN:List Str)(xs:Scope):Prop where
 kind:scope.kind=.function
 fr:∀ y∈scope.names,y.2=.free->xs.names.lookup y.1=some .cell\/xs.names.lookup y.1=some .free
 loc:∀ y∈scope.names,y.2=.local->scope.names.lookup y.1=some .local
 cel:∀ y∈scope.names,y.2=.cell->∀ z∈scope.names,z.1=y.1->z.2=.cell
 len:src.length=N'.length
 sr:∀(i j:Nat) (x:Str),src[i]?=some (some j)->N'[i]?=some x->XN[j]?=some x/\scope.names.lookup x=some .free
theorem bs7 {G:List Str}{src:List (Option Nat)}{scope:Scope}{Y:List Str}{J:Scope}(h:qv G src scope Y J=true):CompCk G src scope Y J:=by
 unfold qv at h
 simp only[au]at h
 obtain⟨⟨⟨⟨⟨h1,h2⟩,h3⟩,h4⟩,h5⟩,h6⟩:=h
 refine⟨by simpa using h1,λ y hy e=>?_,λ y hy e=>?_,λ y hy e z hz Z=>?_,by simpa using h5,λ i j x e1 e2=>?_⟩
 ·have:=aO.mp h2 y hy
  simpa [e]using this
 ·have:=aO.mp h3 y hy
  simpa [e]using this
 ·have:=aO.mp h4 y hy
  simp only[e,beq_self_eq_true,Bool.not_true,kn]at this
  have:=aO.mp this z hz
  simpa [Z]using this
 ·have hm:(x,some j)∈G.zip src:=by
   refine aW (i:=i) ?_
   rw[List.getElem?_zip_eq_some]
   exact⟨e2,e1⟩
  have:=aO.mp h6 _ hm
  simpa using this
noncomputable abbrev zZ (X:Cx)(N':List Str)(scope:Scope)(C:Addr)(cells:List (Str×Addr))(s:ah)(H:Hp)(ex:List Addr):Cx where
 prog:=X.prog
 w:=X.w
 K:=X.K
 mg:=X.mg
 base:=X.base
 A:=X.A
 N:=N'
 s₀:=s
 H₀:=H
 env:={ scope:=eB scope X.env,locals:=C,globals:=X.env.globals,cells:=cells,qual:=X.env.qual,func:=none,code:=X.env.code,frame:=X.env.frame,builtins:=X.env.builtins }
 outer:=X.stack
 stack:=X.stack
 ex:=ex
 fn:=λ x=>scope.names.lookup x==some .cell
 calm:=X.calm
 pn:=[]
 xe:=λ _ _=>False
def PIf (X:Cx)(ifs:List Expr)(t:TT):Prop :=
 ∀(pins:List (Addr×Obj)) (s:ah) (σ:St) (H:Hp) (Q:Bool->Hp->Prop),Inv X pins σ H s->t σ H Q ->
  wpAny (model X.prog X.w) X.A (forIn ifs true λ c r=>if r=true then do let ok <- dP c X.env (eval c X.env);pure (ForInStep.yield ok)else pure (ForInStep.yield r)) (TP X pins σ Q) X.xe s
def tYes:TT:=λ _ H Q=>Q true H
theorem bI4 {X:Cx}:PIf X [] tYes:=λ _ _ _ H _ I h=>wpAny_tests_nil ⟨H,I,h⟩
theorem bD7 {X:Cx}{c:Expr}{t:TT}(h:PT X c t):PIf X [c] t:=λ y s σ H Q I hw=>wpAny_tests_one (h y s σ H Q I hw)
noncomputable def aD4 (src:List (Option Nat))(σ:St):St:=src.map λ o=>match o with|none=>none|some j=>(σ[j]?).join
def tComp (src:List (Option Nat))(wi:TI)(g:TG)(tc:TT)(te:TE):TE:=λ σ H Q=>wi σ H λ J H1=>∀ D,H1 D=none ->
 ∃ W:Nat->Nat->St->Hp->Prop,(∃ m,W 0 m (aD4 src σ) (upd H1 D (.lst [])))/\∀ i m σ' H',W i m σ' H' ->
  (J.stop i H'/\Q (.ref D) H')\/(J.go i H'/\∃ N:St->Hp->Prop,(∀ σ2 H2,N σ2 H2->∃ m',m'<m/\W (i+1) m' σ2 H2) /\
   ∀ x H2,J.yld i H' x H2->g x σ' H2 λ σ3 H3=>tc σ3 H3 λ b H4=>if b=true then te σ3 H4 λ v H5=>∃ ys,H5 D=some (.lst ys)/\ys.length<aL/\N σ3 (upd H5 D (.lst (ys++[v])))else N σ3 H4)
theorem qZ {env:Env}:∀ {names:List (Str×bO)} {x:Str} {k:bO},names.lookup x=some k ->
  (names.map λ(n,k)=>if(k==NameKind.free&&env.scope.kind==.function&&env.kindOf n==some .cell)then(n,NameKind.cell)else(n,k)).lookup x =
   some (if(k==NameKind.free&&env.scope.kind==.function&&env.kindOf x==some .cell)then NameKind.cell else k)
 | [],_,_,h=>by simp at h
 | (n,k)::r,x,k',h=>by
  have y:=@qZ env r x k'
  show kI x ((if(k==NameKind.free&&env.scope.kind==.function&&env.kindOf n==some .cell)=true then(n,NameKind.cell)else(n,k))::_)=_
  cases hx:x==n with
  | true =>
   have e:=beq_iff_eq.mp hx
   subst e
   simp only[a8,hx]at h
   cases h
   by_cases hc:(k==NameKind.free&&env.scope.kind==.function&&env.kindOf x==some .cell)=true
   ·rw[if_pos hc,if_pos hc];simp only[a8,hx]
   ·rw[if_neg hc,if_neg hc];simp only[a8,hx]
  | false =>
   simp only[a8,hx]at h
   by_cases hc:(k==NameKind.free&&env.scope.kind==.function&&env.kindOf n==some .cell)=true
   ·rw[if_pos hc];simp only[a8,hx];exact y h
   ·rw[if_neg hc];simp only[a8,hx];exact y h
theorem qH {env:Env}:∀ {names:List (Str×bO)} {x:Str},names.lookup x=none ->
  (names.map λ(n,k)=>if(k==NameKind.free&&env.scope.kind==.function&&env.kindOf n==some .cell)then(n,NameKind.cell)else(n,k)).lookup x=none
 | [],_,_=>rfl
 | (n,k)::r,x,h=>by
  have y:=@qH env r x
  show kI x ((if(k==NameKind.free&&env.scope.kind==.function&&env.kindOf n==some .cell)=true then(n,NameKind.cell)else(n,k))::_)=_
  cases hx:x==n with
  | true=>simp only[a8,hx]at h;cases h
  | false =>
   simp only[a8,hx]at h
   by_cases hc:(k==NameKind.free&&env.scope.kind==.function&&env.kindOf n==some .cell)=true
   ·rw[if_pos hc];simp only[a8,hx];exact y h
   ·rw[if_neg hc];simp only[a8,hx];exact y h
theorem at0 {X:Cx}{N':List Str}{src:List (Option Nat)}{scope:Scope}{a6:List (Addr×Obj)}{σ:St}{H:Hp}{s s4:ah}{fp:List Addr}
  (G:CompCk N' src scope X.N X.env.scope) (I:Inv X a6 σ H s) (hf:∀ b∈fp,FpOk X a6 H b) (b1:∀ b∈fp,b<s.heap.objs.size)
  (e4:∃ tk,s4={ s with heap:=eA (s.heap.push { cls:=.type "dict",data:=.dict #[] }) scope.names,toks:=tk }) :
  Inv (zZ X N' scope s.heap.objs.size (aM (s.heap.objs.size+1) scope.names (af6 X.env.cells scope.names [])) s H fp) [] (aD4 src σ) H s4:=by
 obtain⟨tk,rfl⟩:=e4
 have hk:∀ b o,s.heap.get? b=some o->(eA (s.heap.push { cls:=.type "dict",data:=.dict #[] }) scope.names).get? b=some o:=λ b o e=>cY _ _ b o (aj _ e)
 have ok:=cellsFrom_ok scope.names (s.heap.push { cls:=.type "dict",data:=.dict #[] }) (s.heap.objs.size+1) [] ⟨λ _ _ hm=>(nomatch hm),List.Pairwise.nil⟩ (by rw[bX];exact ai _)
 rw[bX]at ok
 have a3:=zy scope.names (s.heap.objs.size+1) (af6 X.env.cells scope.names [])
 have lk:∀ x c,(aM (s.heap.objs.size+1) scope.names (af6 X.env.cells scope.names [])).lookup x=some c ->
   ((x,c)∈aM (s.heap.objs.size+1) scope.names []/\(x,NameKind.cell)∈scope.names)\/(X.env.cells.lookup x=some c/\(aM (s.heap.objs.size+1) scope.names []).lookup x=none):=λ x c e=>by
  rw[a3,zX]at e
  cases q:(aM (s.heap.objs.size+1) scope.names []).lookup x with
  | some d =>
   rw[q]at e
   have e':d=c:=av e
   subst e'
   have hm:=aC q
   refine .inl ⟨hm,?_⟩
   rcases zS hm with z|z
   ·exact z
   ·exact absurd z (by simp)
  | none =>
   rw[q]at e
   have e':(af6 X.env.cells scope.names []).lookup x=some c:=e
   rcases clOf_mem (aC e')with z|z
   ·exact .inr ⟨z,rfl⟩
   ·exact absurd z (by simp)
 have up:∀ x c,(x,c)∈aM (s.heap.objs.size+1) scope.names []->s.heap.objs.size+1<=c:=λ x c h=>(ok.empty x c h).2
 have b5:∀ x c,X.env.cells.lookup x=some c->c<s.heap.objs.size:=λ x c h=>by
  obtain⟨v,q⟩:=I.cell x c h
  exact q.lt
 have a4:∀ b,b<s.heap.objs.size->b≠s.heap.objs.size:=λ b h=>aA h
 have b3:∀ b∈fp,H b=none/\b≠X.env.locals/\b ∉ X.fs:=λ b hb=>⟨(hf b hb).1,(hf b hb).2.1,(hf b hb).2.2.1⟩
 have b6:(eA (s.heap.push { cls:=.type "dict",data:=.dict #[] }) scope.names).Ns s.heap.objs.size (λ _=>none):=(kJ s.heap (.type "dict")).keeps (cY _ _)
 have a0:∀ x k,scope.names.lookup x=some k->(eB scope X.env).names.lookup x=some (if(k==NameKind.free&&X.env.scope.kind==.function&&X.env.kindOf x==some .cell)then NameKind.cell else k):=λ x k e=>qZ (env:=X.env) e
 have a5:∀ x,scope.names.lookup x=none->(eB scope X.env).names.lookup x=none:=λ x e=>qH (env:=X.env) e
 have b4:∀ x c,(x,NameKind.free)∈scope.names->X.env.cells.lookup x=some c->(aM (s.heap.objs.size+1) scope.names (af6 X.env.cells scope.names [])).lookup x=some c:=λ x c hx hc=>by
  rw[a3,zX]
  cases q:(aM (s.heap.objs.size+1) scope.names []).lookup x with
  | some d =>
   rcases zS (aC q)with z|z
   ·have:=G.cel _ z rfl _ hx rfl
    cases this
   ·exact absurd z (by simp)
  | none=>exact qO hc hx
 have b0:∀ x,(x,NameKind.free)∈scope.names->∃ c,X.env.cells.lookup x=some c:=λ x hx=>I.ok.has x (G.fr _ hx rfl)
 refine⟨⟨I.ok.mod,G.kind,I.ok.glob,I.ok.blt,ai _,λ x y c e1 e2=>?_,λ x hx=>?_,λ x c hx e=>?_,I.ok.hd,I.ok.frames,.inl rfl,λ b hb=>⟨a4 b (b1 b hb),λ x c e z=>?_⟩,I.bs,am I.ok.bsz I.sz,λ b o e hb=>?_,λ b hb z=>?_,I.stack,I.stkFree⟩,
  rfl,I.bare,Un.kept hk,⟨_,b6,λ i x v e1 e2 e3=>?_⟩,λ x c e=>?_,I.hok.fresh (ai _),λ x c e=>?_,λ p hp=>absurd (show p∈([]:List (Addr×Obj))from hp) (by simp),I.hok.kept hk,by unfold aD4;rw[ax];exact G.len⟩
 ·rcases lk x c e1 with⟨a1,_⟩|⟨a1,_⟩<;>rcases lk y c e2 with⟨a2,_⟩|⟨a2,_⟩
  ·exact f9 ok.apart a1 a2
  ·exact absurd (aq (b5 _ _ a2) (fx (up _ _ a1))) (bu _)
  ·exact absurd (aq (b5 _ _ a1) (fx (up _ _ a2))) (bu _)
  ·exact I.ok.inj x y c a1 a2
 ·cases q:scope.names.lookup x with
  | none =>
   have J:(eB scope X.env).names.lookup x=some .cell\/(eB scope X.env).names.lookup x=some .free:=hx
   rw[a5 x q]at J
   rcases J with z|z<;>cases z
  | some k =>
   have J:(eB scope X.env).names.lookup x=some .cell\/(eB scope X.env).names.lookup x=some .free:=hx
   rw[a0 x k q]at J
   cases k with
   | free =>
    obtain⟨c,hc⟩:=b0 x (aC q)
    exact⟨c,b4 x c (aC q) hc⟩
   | cell =>
    obtain⟨c,hc⟩:=qp (n:=s.heap.objs.size+1) q
    exact⟨c,by show(aM _ _ _).lookup x=_;rw[a3,zX,hc];rfl⟩
   | _=>rcases J with z|z<;>cases z
 ·have J:(scope.names.lookup x==some .cell)=true:=hx
  have q:scope.names.lookup x=some .cell:=by simpa using J
  rcases lk x c e with⟨a,_⟩|⟨a,b⟩
  ·have:=up _ _ a;show s.heap.objs.size<=c;omega
  ·obtain⟨d,hd⟩:=qp (n:=s.heap.objs.size+1) q
   rw[hd]at b;cases b
 ·subst z
  rcases lk x c e with⟨a,_⟩|⟨a,_⟩
  ·exact absurd (aq (b1 c hb) (fx (up _ _ a))) (bu _)
  ·exact(hf c hb).2.2.2.2.1 x c a rfl
 ·rcases(hf b hb).2.2.2.1 with z|z
  ·exact I.ok.noex b o e z
  ·exact absurd (aq (aD e) (am I.ok.bsz z)) (bu _)
 ·rcases aI.mp (I.stkSub b z)with y|y
  ·exact(b3 b hb).2.1 y
  ·exact(b3 b hb).2.2 y
 ·have Y:(aD4 src σ)[i]?=some (some v):=e2
  unfold aD4 at Y
  rw[ao]at Y
  cases q:src[i]? with
  | none=>rw[q]at Y;cases Y
  | some o =>
   rw[q]at Y
   cases o with
   | none=>cases Y
   | some j =>
    have Z:(σ[j]?).join=some v:=av Y
    have ej:σ[j]?=some (some v):=by
     cases q2:σ[j]? with
     | none=>rw[q2]at Z;cases Z
     | some o2=>rw[q2]at Z;exact congrArg some Z
    obtain⟨h1,h2⟩:=G.sr i j x q e1
    have hm:=aC h2
    obtain⟨mX,c3,c0⟩:=I.loc
    have b2:Vis X.env.scope x:=by
     rcases G.fr _ hm rfl with z|z
     ·exact .inr (.inl z)
     ·exact .inr (.inr z)
    obtain⟨u,ru,look⟩:=c0 j x v h1 ej b2
    refine⟨u,ru,.inr ?_⟩
    have hcell:∃ c,X.env.cells.lookup x=some c/\s.heap.IsCell c (some u):=by
     rcases look with⟨z,_⟩|⟨_,c,z1,z2⟩
     ·have z':X.env.scope.names.lookup x=some .local:=z
      rcases G.fr _ hm rfl with y|y<;>(rw[z']at y;cases y)
     ·exact⟨c,z1,z2⟩
    obtain⟨c,c1,c2⟩:=hcell
    refine⟨?_,c,b4 x c hm c1,c2.keeps hk⟩
    show(eB scope X.env).names.lookup x=some .cell\/(eB scope X.env).names.lookup x=some .free
    rw[a0 x _ h2]
    by_cases hc:(NameKind.free==NameKind.free&&X.env.scope.kind==.function&&X.env.kindOf x==some .cell)=true
    ·rw[if_pos hc];exact .inl rfl
    ·rw[if_neg hc];exact .inr rfl
 ·rcases lk x c e with⟨a,_⟩|⟨a,_⟩
  ·exact⟨_,(ok.empty x c a).1⟩
  ·obtain⟨v,q⟩:=I.cell x c a
   exact⟨v,q.keeps hk⟩
 ·rcases lk x c e with⟨a,_⟩|⟨a,_⟩
  ·exact I.hok.fresh (by have:=up _ _ a;omega)
  ·exact I.freeC x c a
theorem aL4 {X:Cx}{N':List Str}{scope:Scope}{h:List (Addr×Obj)}{σ σ':St}{H Z:Hp}{s s5:ah}{Y:List Addr}{cells:List (Str×Addr)}{h':Heap}
  (I:Inv X h σ H s) (G:∀ b∈Y,FpOk X h H b) (J:Inv (zZ X N' scope s.heap.objs.size cells s H Y) [] σ' Z s5) (hs:dZ s.heap.objs.size s5.heap h') :
  Inv X h σ Z { s5 with heap:=h' }:=by
 have y:∀ b o,s.heap.get? b=some o->b≠s.heap.objs.size:=λ b o e=>aA (aD e)
 have u:Un (frs X.stack) Y H Z s.heap s5.heap:=J.base
 refine I.call' (s':={ s5 with heap:=h' }) (ch:=Y) J.os ⟨λ b o e n hb hx=>?_,λ b o e n hb hx=>?_,λ b o e n hx=>u.free b o e n hx,λ b o e hx=>?_,u.tups,u.frzs,u.tbls⟩ (λ b o e=>?_) J.bare λ b hb=>⟨(G b hb).2.2.2.1,(G b hb).2.1,(G b hb).2.2.2.2.1,(G b hb).2.2.2.2.2⟩
 ·exact(hs.2 b (y b o e)).trans (u.keep b o e n hb hx)
 ·obtain⟨sl,q⟩:=u.slot b o e n hb hx
  exact⟨sl,(hs.2 b (y b o e)).trans q⟩
 ·obtain⟨o',q⟩:=u.there b o e hx
  exact⟨o',(hs.2 b (y b o e)).trans q⟩
 ·have fr:Z s.heap.objs.size=none:=J.free
  refine(J.hok b o e).stay (λ c w' hc q=>(hs.2 c ?_).trans q) (λ _ q=>q) λ _ _ q=>q
  rintro rfl
  rcases hc with z|hc
  ·rw[<-z,fr]at e;cases e
  ·rw[fr]at hc;cases hc
theorem ah6 {M:Model}{A:aX}{E:Value->ah->Prop}{s:ah}{scope:Scope}{globals:Addr}{y:List (Str×Addr)}{qual:Str}{outer:Env}{Q:Env->ah->Prop}
  (h:Q { scope:=scope,locals:=s.heap.objs.size,globals:=globals,cells:=aM (s.heap.objs.size+1) scope.names y,qual:=qual,func:=none,code:=outer.code,frame:=outer.frame,builtins:=outer.builtins }
   { s with heap:=eA (s.heap.push { cls:=.type "dict",data:=.dict #[] }) scope.names }) :
  wpAny M A (fc scope globals y [] qual none .none (some outer)) Q E s:=by
 simp only[fc,fe,if_true]
 refine ak (wpAny_alloc ?_)
 refine ak (wpAny_layCells _ (λ name kind cells=>by cases hkc:kind==NameKind.cell<;>simp[hkc]) _ _ _ _ ?_)
 rw[show({ s with heap:=s.heap.push { cls:=.type "dict",data:=.dict #[] } }:ah).heap.objs.size=s.heap.objs.size+1 from bX ..]
 refine ak ?_
 rw[gO]
 exact aG (aG h)
theorem aB4 {X':Cx}{R:Result->ah->Prop}{a5 tg iter:Expr}{a4:List Expr}{scope:Scope}{pos:Pos}{g:TG}{tc:TT}{te:TE}{J:It}{fp:List Addr}{it D:Addr}{tn:Nat->Heap->Prop}{W:Nat->Nat->St->Hp->Prop}
  {QD:Hp->Prop} {σ0:St} {H0:Hp} {s4:ah} {m0:Nat} (hx:X'.xe=λ _ _=>False) (Z:X'.calm=true) (I4:Inv X' [] σ0 H0 s4) (T:Turn X'.prog X'.w X'.K tg J fp it tn) (b1:tn 0 s4.heap)
  (G:∀ H':Hp,(∀ b∈fp,H' b=none)->∀ b∈fp,FpOk X' [] H' b) (a6:∀ b∈fp,H0 b=none) (w0:W 0 m0 σ0 H0)
  (turn:∀ i m σ' H',W i m σ' H'->(J.stop i H'/\QD H')\/(J.go i H'/\∃ N:St->Hp->Prop,(∀ σ2 H2,N σ2 H2->∃ m',m'<m/\W (i+1) m' σ2 H2) /\
   ∀ x H2,J.yld i H' x H2->g x σ' H2 λ σ3 H3=>tc σ3 H3 λ b H4=>if b=true then te σ3 H4 λ v H5=>∃ ys,H5 D=some (.lst ys)/\ys.length<aL/\N σ3 (upd H5 D (.lst (ys++[v])))else N σ3 H4))
  (hg:PG X' tg g) (hif:PIf X' a4 tc) (he:PE X' a5 te) (a1:∀ σ' H' s',Inv X' [] σ' H' s'->QD H'->R (.ok .next) s') :
  fv (model X'.prog X'.w) X'.A (.compLoop (.ListComp a5 [⟨tg,iter,a4,0⟩] scope pos) 0 (.ref it) (.ref D) X'.env) R s4:=by
 have nox:∀ {α:Type} {t:Sem α} {Q Q':α->ah->Prop} {E:Value->ah->Prop} {s:ah},wpAny (model X'.prog X'.w) X'.A t Q X'.xe s->(∀ a s,Q a s->Q' a s)->wpAny (model X'.prog X'.w) X'.A t Q' E s :=
  λ h hQ=>ci h hQ λ _ _ z=>by rw[hx]at z;exact z.elim
 refine aU6 (λ n s'=>∃ i σ' H',Inv X' [] σ' H' s'/\tn i s'.heap/\(∀ b∈fp,H' b=none)/\W i n σ' H') ?_ m0 ⟨0,σ0,H0,I4,b1,a6,w0⟩
 rintro n s3 ⟨i,σ3,H3,I3,a3,a2,w3⟩
 rcases turn i n σ3 H3 w3 with⟨stop,qn⟩|⟨go,N,hN,step⟩
 ·refine nox (T.done X' rfl rfl rfl Z i [] s3 σ3 H3 X'.xe I3 (G H3 a2) a3 stop) λ r s4 ⟨hr,I4⟩=>?_
  subst hr
  exact a1 σ3 H3 s4 I4 qn
 ·refine nox (T.item X' rfl rfl rfl Z i [] s3 σ3 H3 X'.xe I3 (G H3 a2) a3 go) λ r s4 ⟨u,hr,h4⟩=>?_
  subst hr
  refine nox h4 λ _ s5 ⟨x,H5,I5,r5,y5,a0,b2⟩=>?_
  have b0:=I5.pinned (G H5 b2) (T.obj _ _ a0)
  refine nox (hg _ s5 σ3 H5 x u _ b0 r5 (step x H5 y5)) λ _ s6 ⟨σ6,H6,I6,q6⟩=>?_
  have Y:∀ {σ7:St} {H7:Hp} {s7:ah},Inv X' ([]++az4 fp s5.heap) σ7 H7 s7->N σ7 H7->∃ m,m<n/\∃ i σ' H',Inv X' [] σ' H' s7/\tn i s7.heap/\(∀ b∈fp,H' b=none)/\W i m σ' H':=λ {σ7 H7 s7} I7 n7=>by
   obtain⟨m',hm,w7⟩:=hN σ7 H7 n7
   refine⟨m',hm,i+1,σ7,H7,I7.unpinned,T.keep _ _ _ a0 λ b hb o e=>(I7.pin (b,o) (bf _ (bf _ (js hb e)))).1,λ b hb=>?_,w7⟩
   obtain⟨o,e,d⟩:=T.obj _ _ a0 b hb
   exact(I7.pin (b,o) (bf _ (bf _ (js hb e)))).2.1
  refine nox (hif _ s6 σ6 H6 _ I6 q6) λ b s7 ⟨H7,I7,q7⟩=>?_
  cases b with
  | false =>
   rw[if_neg aR]at q7 ⊢
   exact Y I7 q7
  | true =>
   rw[if_pos rfl]at q7 ⊢
   refine nox (he _ s7 σ6 H7 _ I7 q7) λ v s8 ⟨y,H8,I8,r8,ys,hy,hz,q8⟩=>?_
   refine nox (aA6 _ s8 σ6 H8 (.ref D) [y] (.ref D) [v] (λ _ H9=>N σ6 H9) I8 rfl (.cons r8 .nil) ⟨D,ys,y,rfl,rfl,hy,hz,q8⟩) λ v9 s9 ⟨_,H9,I9,_,q9⟩=>?_
   exact Y I9 q9
theorem bd6 {X:Cx}{a5 tg iter:Expr}{a2:List Expr}{scope:Scope}{pos:Pos}{wi:TI}{g:TG}{tc:TT}{te:TE}(N':List Str)(src:List (Option Nat))
  (b2:qv N' src scope X.N X.env.scope=true) (hi:PI X tg iter wi) (Z:X.calm=true)
  (b3:∀(C:Addr) (cells:List (Str×Addr)) (s:ah) (H:Hp) (ex:List Addr),PG (zZ X N' scope C cells s H ex) tg g/\PIf (zZ X N' scope C cells s H ex) a2 tc/\PE (zZ X N' scope C cells s H ex) a5 te)
  (hs:∀ x,dj iter X.env x=pure x:=by intro _;rfl):PE X (.ListComp a5 [⟨tg,iter,a2,0⟩] scope pos) (tComp src wi g tc te):=by
 intro G s σ H Q I h
 have ck:=bs7 b2
 rw[eval_ListComp]
 have b4:=qF (scope:=scope) (env:=X.env) λ y hy e=>I.ok.has y.1 (ck.fr y hy e)
 refine fJ (use:=none) rfl hs b4 ck.kind ck.loc (thn (hi G s σ H _ I h) λ v s1 h1=>thn h1 λ c0 s2 h2=>?_)
 obtain⟨it,Y,tn,J,H2,e,I2,T,a4,f2,W⟩:=h2
 subst e
 have hD:=I2.fresh
 obtain⟨W,⟨m0,w0⟩,turn⟩:=W _ hD
 have I3:=I2.lnew (its:=[]) (ys:=[]) (t':=s2.toks) .nil (cS _)
 have a6:∀ b∈Y,b<s2.heap.objs.size:=λ b hb=>by obtain⟨o,q,_⟩:=T.obj _ _ a4 b hb;exact aD q
 have f3:∀ b∈Y,FpOk X G (upd H2 s2.heap.objs.size (.lst [])) b:=λ b hb=>⟨by rw[zm (aA (a6 b hb))];exact(f2 b hb).1,(f2 b hb).2⟩
 refine bH (ah6 ?_)
 generalize a0:({ s2 with heap:=s2.heap.push { cls:=.type "list",data:=.seq ([]:List Value).toArray },toks:=s2.toks }:ah)=s3 at I3
 have b6:({ s2 with heap:=s2.heap.push { cls:=.type "list",data:=.seq ([]:List Value).toArray } }:ah)=s3:=a0
 have b0:∀ b∈Y,b<s3.heap.objs.size:=λ b hb=>by
  rw[<-a0]
  show b<(s2.heap.push _).objs.size
  rw[bX]
  exact fy (a6 b hb)
 have I4:=at0 (s4:={ s3 with heap:=eA (s3.heap.push { cls:=.type "dict",data:=.dict #[] }) scope.names }) ck I3 f3 b0 ⟨_,rfl⟩
 have a1:tn 0 (eA (s3.heap.push { cls:=.type "dict",data:=.dict #[] }) scope.names):=T.keep _ _ _ a4 λ b hb o e=>cY _ _ b o (aj _ (by rw[<-a0];exact aj _ e))
 obtain⟨hg,hif,he⟩:=b3 s3.heap.objs.size (aM (s3.heap.objs.size+1) scope.names (af6 X.env.cells scope.names [])) s3 (upd H2 s2.heap.objs.size (.lst [])) Y
 have a3:∀ H':Hp,(∀ b∈Y,H' b=none)->∀ b∈Y,FpOk (zZ X N' scope s3.heap.objs.size (aM (s3.heap.objs.size+1) scope.names (af6 X.env.cells scope.names [])) s3 (upd H2 s2.heap.objs.size (.lst [])) Y) [] H' b:=λ H' hn b hb =>
  ⟨hn b hb,(I4.ok.exf b hb).1,I4.ok.exfs b hb,.inl hb,λ x c e=>(I4.ok.exf b hb).2 x c e,λ p hp=>absurd (show p∈([]:List (Addr×Obj))from hp) (by simp)⟩
 have T':Turn X.prog X.w X.K tg J Y it tn:=T
 have b1:∀ b∈Y,upd H2 s2.heap.objs.size (.lst []) b=none:=λ b hb=>(f3 b hb).1
 have L:=aB4 (X':=zZ X N' scope s3.heap.objs.size (aM (s3.heap.objs.size+1) scope.names (af6 X.env.cells scope.names [])) s3 (upd H2 s2.heap.objs.size (.lst [])) Y) (R:=compPost (model X.prog X.w) X.A X.xe none (EP X G σ Q) (Value.ref s2.heap.objs.size) s3.heap.objs.size) (iter:=iter) (scope:=scope) (pos:=pos) (QD:=λ H'=>Q (.ref s2.heap.objs.size) H') rfl Z I4 T' a1 a3 b1 w0 turn hg hif he
  (λ σ' H' s' J' q=>by
   obtain⟨mm,hn,_⟩:=J'.loc
   exact⟨mm,hn,λ h' b5=>⟨.ref s2.heap.objs.size,H',aL4 I3 f3 J' b5,rfl,q⟩⟩)
 exact gm L (T.self _ _ _ _ _ a1 L)
section
variable {X:Cx}
theorem cd8:be "abs"=some (.builtin "abs"):=by decide +kernel
theorem cf0:be "len"=some (.builtin "len"):=by decide +kernel
theorem bG7:be "min"=some (.builtin "min"):=by decide +kernel
theorem bT7:be "max"=some (.builtin "max"):=by decide +kernel
theorem ce5:be "all"=some (.builtin "all"):=by decide +kernel
theorem aA7:be "isinstance"=some (.builtin "isinstance"):=by decide +kernel
theorem bQ1:be "int"=some (.type "int"):=by decide +kernel
theorem bS4:be "bool"=some (.type "bool"):=by decide +kernel
theorem cd5:be "str"=some (.type "str"):=by decide +kernel
theorem bh3:be "tuple"=some (.type "tuple"):=by decide +kernel
theorem bs9:be "list"=some (.type "list"):=by decide +kernel
def ch4 (i j:Int):Prop:=0<j/\j<2^4096
theorem aR3 {y:Int}(h0:0<y)(h:y<2^4096):y.natAbs.log2<9000:=by
 have hn:y.natAbs<2^4096:=by
  have:(y.natAbs:Int)=y:=by omega
  have G:(y.natAbs:Int)<((2^4096:Nat):Int):=by rw[this];simpa using h
  exact Int.ofNat_lt.mp G
 have:=(Nat.log2_lt (by omega)).mpr hn
 omega
theorem bo9:OpR X (b9 .FloorDiv) (rI ch4 λ i j=>.int (i / j)):=opI λ i j _ _ _ _ _ hc q=>by
 refine floordiv_int (by have:=hc.1;omega) ?_ (.inl (PyProof.noPylong_of_log2 (aR3 hc.1 hc.2)))
 rw[eZ i (by have:=hc.1;omega)]
 exact q
theorem aM4 {K:ae}(h:X.K=K):IxR X (rIxL K):=by subst h;exact bx3
theorem bB2 {K:ae}(h:X.K=K):IxR X (rIxT K):=by subst h;exact ix_tup
theorem ao0 {K:ae}(y:X.K=K):ae2 X (.builtin "len") (λ h H Q=>∃ p ys,h=[.ref p]/\(SqL K H p ys\/SqT K H p ys)/\Q (.int ys.length) H):=by subst y;exact aC0
theorem aF5 {K:ae}(y:X.K=K):ae2 X (.type "tuple") (λ h H Q=>∃ p ys,h=[.ref p]/\((SqL K H p ys/\∀ l,H l=none->Q (.ref l) (upd H l (.tup ys)))\/(SqT K H p ys/\Q (.ref p) H))):=by subst y;exact ay6
theorem aS9 {K:ae}(y:X.K=K):ae2 X (.type "list") (λ h H Q=>∃ p ys,h=[.ref p]/\(SqL K H p ys\/SqT K H p ys)/\∀ l,H l=none->Q (.ref l) (upd H l (.lst ys))):=by subst y;exact aE9
theorem bi5 {K:ae}{tg l:Expr}{h:TE}(y:X.K=K)(hl:PE X l h):PI X tg l (bB1 K h):=by subst y;exact bz9 hl
theorem bI3 {K:ae}{tg l:Expr}{h:TE}(y:X.K=K)(hl:PE X l h):PI X tg l (cb9 K h):=by subst y;exact bJ6 hl
theorem bF1 {K:ae}{pos:Pos}{es:List Expr}{k:Nat}{t:TGs}{n:Nat}(G:X.K=K)(hc:X.calm=true)(h:PGs X es t)
  (hn:(cy es X.env).length=n:=by rfl) (y:(cy es X.env).findIdx? (·.1)=none:=by rfl):PG X (.Tuple es k pos) (cb0 K n t):=by subst G;exact bT1 hc h hn y
end
structure DefAt (K:ae)(mg:Str->Option Value)(x:Str)(st:Stmt)(ps:List Str)(f:Addr)(fd:bI):Prop where
 fn:Fun K x x st f fd
 mg:mg x=some (.ref f)
 bi:Binds K fd ps []
@[irreducible] noncomputable def Hold (p:Prop):Prop:=p
theorem ag9.new {p:Addr}{H y:Hp}{o:HO}(h:ag9 H y)(G:y p=none):ag9 H (L2.upd y p o):=λ x o e=>by
 have e1:=h x o e
 rw[zm (zJ e1 G)]
 exact e1
section
variable {prog:aN} {w:World} {A:aX} {R:Result->ah->Prop} {I:Addr} {fp wr:List Addr} {n:Nat} {P:Nat->Value->Prop} {St:Nat->Heap->Prop} {kw:List (Str×Value)}
theorem aZ6 (W:Walks prog w A.in1 I fp wr n P St)(bt:Nat->Nat->Bool)(b3:CmpOf prog w A.in1 .Lt P bt)(S:Addr)(b0:S ∉ fp) :
  ∀(k j:Nat) (s:ah) (vb:Value) (c:Nat),n - (j+1)=k->j+1<=n->St (j+1) s.heap->P (dA bt j) vb ->
  s.heap.get? S=some { cls:=.type "list",dict:=none,data:=.seq #[vb,vb] c,slots:=#[] } ->
  (∀ v h' tk,P (dA bt (n - 1)) v->(∀ b o,b ∉ wr->b≠S->s.heap.get? b=some o->h'.get? b=some o)->R (.ok (.ret v)) { s with heap:=h',toks:=tk }) ->
  fv (model prog w) A (.builtin "min.loop" ⟨[.ref I,.none,.ref S],kw⟩) R s:=by
 have b1:S ∉ wr:=λ h=>b0 (W.sub _ h)
 have Y:(toString "min"++toString ".loop":String) = "min.loop":=by decide
 intro k
 induction k with
 | zero =>
  intro j s vb c hk hj a5 a2 hS hR
  have b2:j+1=n:=by omega
  refine gA fV ?_
  rw[eD cx _]
  show wpAny _ A.in1 (g8 (.ref S) >>= _) _ _ s
  refine ak (d7 hS rfl ?_)
  show wpAny _ A.in1 (tryCatch (iZ (.ref I)) _ >>= _) _ _ s
  refine ak (d8 (W.done s _ _ (b2▸a5) λ h' tk J=>?_))
  have Z:=J S _ b1 hS
  show wpAny _ A.in1 (updateSeq S (λ _=>#[]) >>= _) _ _ _
  refine ak ?_
  refine gB Z rfl (ak (gP (aG ?_)))
  refine hR vb _ tk (by rw[<-b2];exact a2) λ b o y G e=>(bQ _ _ (bU G)).trans (J b o y e)
 | succ k ih =>
  intro j s vb c hk hj a5 a2 hS hR
  have hlt:j+1<n:=by omega
  refine gA fV ?_
  rw[eD cx _]
  show wpAny _ A.in1 (g8 (.ref S) >>= _) _ _ s
  refine ak (d7 hS rfl ?_)
  show wpAny _ A.in1 (tryCatch (iZ (.ref I)) _ >>= _) _ _ s
  refine ak (d8 (W.item (j+1) s _ _ hlt a5 λ v h' tk hP a3 J=>?_))
  have Z:=J S _ b1 hS
  show wpAny _ A.in1 (tryCatch (iL [v,v] (richCompare .Lt v vb >>= _)) _ >>= _) _ _ _
  refine ak (d8 (da (ak (b3 (j+1) (dA bt j) v vb _ _ _ hP a2 ?_))))
  refine ak (da (bW ?_))
  refine ak (gP (aG ?_))
  cases hb:bt (j+1) (dA bt j)with
  | true =>
   simp only[if_true]
   refine ak ?_
   refine gB Z rfl (ak (gP ?_))
   rw[Y]
   refine aG ⟨fK cx _,ih (j+1) _ v _ (by omega) hlt (W.frame _ _ _ a3 λ b b4 o e=>?_) (by simp only[dA,hb,if_true];exact hP) (dg _ Z rfl)
    λ v' a4 a0 a6 a1=>?_⟩
   ·exact(bQ _ _ (λ h:S=b=>b0 (by rw[h];exact b4))).trans e
   ·exact hR v' a4 a0 a6 λ b o y G e=>a1 b o y G ((bQ _ _ (bU G)).trans (J b o y e))
  | false =>
   simp only[aK,if_false]
   refine ak (gP ?_)
   rw[Y]
   refine aG ⟨fK cx _,ih (j+1) _ vb c (by omega) hlt a3 (by simp only[dA,hb,aK,if_false];exact a2) Z λ v' a4 a0 a6 a1=>?_⟩
   exact hR v' a4 a0 a6 λ b o y G e=>a1 b o y G (J b o y e)
theorem aS7 (W:Walks prog w A.in1 I fp wr n P St)(bt:Nat->Nat->Bool)(a5:CmpOf prog w A.in1 .Lt P bt)(S:Addr)(J:S ∉ fp){s:ah}{c:Nat}{d:Value}(a2:St 0 s.heap)
  (hS:s.heap.get? S=some { cls:=.type "list",dict:=none,data:=.seq #[] c,slots:=#[] })
  (h0:n=0->∀ h' tk,(∀ b o,b ∉ wr->b≠S->s.heap.get? b=some o->h'.get? b=some o)->R (.ok (.ret d)) { s with heap:=h',toks:=tk })
  (hR:0<n->∀ v h' tk,P (dA bt (n - 1)) v->(∀ b o,b ∉ wr->b≠S->s.heap.get? b=some o->h'.get? b=some o)->R (.ok (.ret v)) { s with heap:=h',toks:=tk }) :
  fv (model prog w) A (.builtin "min.loop" ⟨[.ref I,.none,.ref S],[(cE "default",d)]⟩) R s:=by
 have a6:S ∉ wr:=λ h=>J (W.sub _ h)
 have Y:(toString "min"++toString ".loop":String) = "min.loop":=by decide
 refine gA fV ?_
 rw[eD cx _]
 show wpAny _ A.in1 (g8 (.ref S) >>= _) _ _ s
 refine ak (d7 hS rfl ?_)
 show wpAny _ A.in1 (tryCatch (iZ (.ref I)) _ >>= _) _ _ s
 rcases Nat.eq_zero_or_pos n with hn|hn
 ·refine ak (d8 (W.done s _ _ (hn▸a2) λ h' tk G=>?_))
  show wpAny _ A.in1 (rule _ >>= _) _ _ _
  refine ak (iE (aG ?_))
  exact h0 hn h' tk λ b o y _ e=>G b o y e
 ·refine ak (d8 (W.item 0 s _ _ hn a2 λ v h' tk hP a0 G=>?_))
  have a1:=G S _ a6 hS
  show wpAny _ A.in1 (updateSeq S (λ _=>#[v,v]) >>= _) _ _ _
  refine ak ?_
  refine gB a1 rfl ?_
  rw[Y]
  refine aG ⟨fK cx _,aZ6 W bt a5 S J _ 0 _ v _ rfl hn (W.frame _ _ _ a0 λ b b0 o e=>?_) hP (dg _ a1 rfl) λ v' b1 a3 b2 a4=>?_⟩
  ·exact(bQ _ _ (λ h:S=b=>J (by rw[h];exact b0))).trans e
  ·exact hR hn v' b1 a3 b2 λ b o y Z e=>a4 b o y Z ((bQ _ _ (bU Z)).trans (G b o y e))
end
theorem aV9 (a d:Value):argsOk "min" ⟨[a],[(cE "default",d)]⟩:=by unfold argsOk;kernel_rfl
theorem jK (val : Nat -> Int) : ∀ k j, j <= k -> val (dA (λ i j => decide (val i < val j)) k) <= val j
  | 0, j, h => by have : j = 0 := by omega
                  subst this; exact eF _
  | k + 1, j, h => by
    have ih := jK val k
    unfold dA
    by_cases hb : val (k + 1) < val (dA (λ i j => decide (val i < val j)) k)
    · rw[if_pos (by simpa using hb)]
      by_cases hj : j = k + 1
      · subst hj; exact eF _
      · have := ih j (by omega); omega
    · rw[if_neg (by simpa using hb)]
      by_cases hj : j = k + 1
      · subst hj; omega
      · exact ih j (by omega)
def bE1 (K:ae):V->V->Hp->VK->Prop:=λ x d H Q=>∃ a ns,x=.ref a/\SqL K H a (ns.map V.int)/\(ns=[]->Q d H)/\∀ m∈ns,(∀ y∈ns,m<=y)->Q (.int m) H
theorem ax3 {ns:List Int}{its:List Value}(r:Vals (ns.map V.int) its){i:Nat}{v:Value}(h:its[i]?=some v):∃ z t,ns[i]?=some z/\v=Value.int z t:=by
 have hl:=r.length
 rw[ax]at hl
 have y:i<its.length:=(ab.mp h).1
 obtain⟨u,e1,q⟩:=r.get (i:=i) (x:=.int ns[i]) (by rw[ao,ag (by omega)];rfl)
 rw[h]at e1;cases e1
 obtain⟨t,rfl⟩:=q
 exact⟨_,t,ag (by omega),rfl⟩
theorem bm6 {X:Cx}{G:List (Addr×Obj)}{σ:St}{H:Hp}{s:ah}{x d:V}{u w':Value}{Q:VK}(hc:X.calm=true)(I:Inv X G σ H s)(rx:RelV x u)(rd:RelV d w')(h:bE1 X.K x d H Q) :
  wpAny (model X.prog X.w) X.A (call (.builtin "min") [u] [(cE "default",w')]) (EP X G σ Q) X.xe s:=by
 obtain⟨a,ns,rfl,hS,q0,qm⟩:=h
 cases rx
 obtain⟨its,rv,pl,hz⟩:=I.list hS
 have hl:=rv.length
 rw[ax]at hl
 have Y:(toString "min"++toString ".loop":String) = "min.loop":=by decide
 refine kmb_tree F.kind_min F.plain_min F.entry_min (aV9 _ _) ?_
 show wpAny _ X.A.in1 (eT "min" ["key", "default"] 0 ⟨[],[(cE "default",w')]⟩ >>= _) _ _ s
 refine ak (wpAny_of_eq (show eT "min" ["key", "default"] 0 ⟨[],[(cE "default",w')]⟩=pure [none,some w']from rfl) ?_)
 refine ak (aG ?_)
 refine ak (di pl.isList ?_)
 have a2:a<s.heap.objs.size:=by obtain⟨o,_,e,_⟩:=pl;exact aD e
 have W:=j6 (prog:=X.prog) (w:=X.w) (A:=X.A.in1) (I.ok.hd hc) s.heap.objs.size a (aA a2) its.toArray
 refine ak (bH ?_)
 generalize Z:s.heap.push _=h2
 have J:h2.objs.size=s.heap.objs.size+1:=by rw[<-Z,bX]
 have a1:∀ b o,s.heap.get? b=some o->h2.get? b=some o:=λ b o e=>by rw[<-Z];exact aj _ e
 have a3:h2.objs.size ∉ [s.heap.objs.size,a]:=by
  rw[J]
  intro z
  rcases aI.mp z with z|z
  ·exact absurd z (Nat.succ_ne_self _)
  ·have z':s.heap.objs.size+1=a:=by simpa using z
   exact absurd (aq a2 (by rw[<-z'];exact du _)) (bu _)
 have a4:(h2.push { cls:=.type "list",data:=.seq ([]:List Value).toArray }).IsListIter s.heap.objs.size a 0/\(h2.push { cls:=.type "list",data:=.seq ([]:List Value).toArray }).IsList a its.toArray:=by
  refine⟨⟨_,aj _ (by rw[<-Z];exact aP _ rfl),rfl,rfl⟩,?_⟩
  obtain⟨o,e,r⟩:=pl.isList
  exact⟨o,aj _ (a1 _ _ e),r⟩
 let val:Nat->Int:=λ i=>ns.getD i 0
 have a0:∀ i v,its.toArray[i]?=some v->∃ t,v=Value.int (val i) t:=λ i v e=>by
  obtain⟨z,t,e1,e2⟩:=ax3 rv (i:=i) (v:=v) (by rw[cB]at e;exact e)
  refine⟨t,?_⟩
  rw[e2]
  show Value.int z t=Value.int (ns.getD i 0) t
  rw[aE,e1]
  rfl
 rw[Y]
 have nx:∀(h':Heap) (tk:Nat),(∀ b o,b ∉ [s.heap.objs.size]->b≠h2.objs.size->(h2.push { cls:=.type "list",data:=.seq ([]:List Value).toArray }).get? b=some o->h'.get? b=some o)->Inv X G σ H { s with heap:=h',toks:=tk }:=λ h' tk k=>I.kept λ b o e=>by
  refine k b o ?_ ?_ (aj _ (a1 b o e))
  ·intro z
   have z':b=s.heap.objs.size:=by simpa using z
   exact absurd (aD e) (by rw[z'];exact bu _)
  ·intro z
   exact absurd (aD e) (by rw[z,J];exact Nat.not_lt.mpr (du _))
 refine aG ⟨fK cx _,aS7 (d:=w') W _ (ko val a0) h2.objs.size a3 a4 (aP _ rfl) (λ hn h' tk k=>?_) λ hn v h' tk hP k=>?_⟩
 ·have e:ns=[]:=by
   have:its.toArray.size=0:=hn
   have:its.length=0:=by simpa using this
   exact cO.mp (by omega)
  exact⟨d,H,nx h' tk k,rd,q0 e⟩
 ·obtain⟨z,t,e1,e2⟩:=ax3 rv (i:=dA (λ i j=>decide (val i<val j)) (its.toArray.size - 1)) (v:=v) (by rw[cB]at hP;exact hP)
  subst e2
  have hv:val (dA (λ i j=>decide (val i<val j)) (its.toArray.size - 1))=z:=by
   show ns.getD _ 0=z
   rw[aE,e1]
   rfl
  refine⟨.int z,H,nx h' tk k,⟨t,rfl⟩,qm z (aW e1) λ y hy=>?_⟩
  obtain⟨j,hj,e3⟩:=cF.mp hy
  have:=jK val (its.toArray.size - 1) j (by simp only[ay];omega)
  rw[hv]at this
  have e4:val j=y:=by
   show ns.getD j 0=y
   rw[aE,ag hj]
   exact e3
  omega
def cg2 (K:ae)(ta td:TE):TE:=λ σ H Q=>ta σ H λ x H1=>td σ H1 λ d H2=>bE1 K x d H2 Q
theorem bx7 {X:Cx}{K:ae}{e de:Expr}{Y G:TE}{p pos kp:Pos}(hK:X.K=K)(hc:X.calm=true)(hg:Gl X "min")(hm:X.mg "min"=none)(ha:PE X e Y)(hd:PE X de G)
  (hs:bn [e] X.env=[(false,eval e X.env)]:=by rfl) :
  PE X (.Call (.Name "min" p) [e] [⟨some "default",de,kp⟩] pos) (cg2 K Y G):=by
 subst hK
 intro y s σ H Q I h
 refine cb (aA8 I hg hm bG7 ?_)
 have h':aw9 Y bp4 σ H (λ vs J=>match vs with|[x]=>G σ J λ d H2=>bE1 X.K x d H2 Q|_=>False):=h
 refine callWith_kw (env:=X.env) (thn ((qy ha ag7 hs) pos y s σ H _ I h') λ us s1 ⟨vs,J,I1,r1,Z⟩=>?_) (by rw[hs];rfl) (by rw[hs];rfl)
 match vs,Z,r1 with
 | [x],Z,r1 =>
  obtain⟨u,rfl,ru⟩:=ak7 r1
  refine kws_cons (thn (hd y s1 σ J _ I1 Z) λ v s2 ⟨d,H2,I2,rd,q2⟩=>kws_nil ?_)
  exact bm6 hc I2 ru rd q2
inductive D where
 | non|bl (b:Bool)|int (i:Int)|str (x:Str)|tup (l:List D)|lst (l:List D)
mutual
noncomputable def D.deep:D->Nat
 | .tup l=>D.deepL l+1
 | .lst l=>D.deepL l+1
 | _=>0
noncomputable def D.deepL:List D->Nat
 | []=>0
 | d::l=>max (D.deep d) (D.deepL l)
end
section
variable {X:Cx}
end
section
variable {X:Cx}
def ce3 (K:ae):R2:=λ x y H Q=>∃ a b xs ys,x=.ref a/\y=.ref b/\SqT K H a xs/\SqT K H b ys/\xs.length+ys.length<=aL/\∀ p H',ag9 H H'->SqT K H' p (xs++ys)->Q (.ref p) H'
theorem bw4 {prog:aN}{w:World}{A:aX}{E:Value->ah->Prop}{s:ah}{t b:Addr}{ws:List Value}{Q:Value->ah->Prop}(ht:IsTup s.heap t ([]:List Value).toArray)(hb:IsTup s.heap b ws.toArray)(h1:Q (.ref b) s) :
  wpAny (model prog w) A (b9 .Add (.ref t) (.ref b)) Q E s:=by
 obtain⟨⟨cls,dd,data,sl⟩,ho,hc,n,hd⟩:=id ht
 obtain⟨⟨a0,Z,J,Y⟩,G,h,n2,y⟩:=id hb
 simp only at hc hd h y
 subst hc hd h y
 exact iR ⟨_,ho,rfl⟩ ⟨_,G,rfl⟩ fS ik d5 dU (dG _ _)
   (tuple_addW0 t b _ ws.toArray n n2 dd Z sl Y rfl) ⟨ho,G,h1⟩
theorem bE5 {K:ae}(hK:X.K=K):OpR X (b9 .Add) (ce3 K):=by
 subst hK
 intro G s σ H x y v u Q I Z ry h
 obtain⟨a,b,Y,ys,e1,e2,ha,hb,hz,q⟩:=h
 by_cases hx:Y=[]
 ·subst e1;subst e2;subst hx
  cases Z;cases ry
  obtain⟨its,r1,p1,_⟩:=I.tuple ha
  obtain⟨J,r2,p2,_⟩:=I.tuple hb
  obtain rfl:its=[]:=r1.nil_iff.mpr rfl
  exact bw4 p1 p2 ⟨.ref b,H,I,rfl,q b H (ag9.refl H) hb⟩
 ·refine by3 G s σ H x y v u Q I Z ry ⟨a,b,Y,ys,e1,e2,ha,hb,hx,hz,λ z=>?_,λ z p hp=>?_⟩
  ·subst z
   exact q a H (ag9.refl H) (by rw[bD];exact ha)
  ·exact q p _ ((ag9.refl H).new hp) (SqT.of zo)
def rSlA (K:ae):V->Option Int->Option Int->Hp->VK->Prop:=λ x lo hi H Q=>∃ a xs,x=.ref a/\SqT K H a xs/\∀ p H',ag9 H H'->SqT K H' p (bc2 xs lo hi)->Q (.ref p) H'
theorem aw2 {prog:aN}{w:World}{A:aX}{E:Value->ah->Prop}{s:ah}{t sl:Addr}{y:Array Value}{vl vu:Value}{G Z:Option Int}{Q:Value->ah->Prop}(J:IsTup s.heap t y)(hs:s.heap.IsSliceOf sl vl vu .none)(pl:fH vl G)(pu:fH vu Z)
  (hw:HT.sIx y.size 0 G=0/\HT.sIx y.size y.size Z=y.size) (h:Q (.ref t) s):wpAny (model prog w) A (ga (.ref t) (.ref sl)) Q E s:=by
 obtain⟨os,a2,a0,a3⟩:=id hs
 have a1:s.TypeIs (.ref sl) "slice":=⟨os,a2,a0⟩
 unfold ga
 try with_reducible refine da ?_
 first|refine ak (aG ?_)|skip
 refine ak (iT J.typeIs (by decide) ?_)
 refine ak (cN (name:=cE "__getitem__") J.typeIs bp
  (dz bp J.typeIs hU ?_ (iB _ _)))
 show wpAny _ _ (dt (.ref t) >>= _) _ _ s
 refine ak (io J ?_)
 refine ak (gb a1 ?_)
 rw[if_pos (by decide)]
 refine ak (HT.sliceApplied_gen hs pl pu ?_)
 have Y:((((HT.sIx y.size 0 G:Nat):Int)==0&&(1:Int)==1&&(HT.sIx y.size y.size Z - HT.sIx y.size 0 G)==y.size)=true):=by
  rw[hw.1,hw.2]
  simp
 show wpAny _ _ (if(((HT.sIx y.size 0 G:Nat):Int)==0&&(1:Int)==1&&(HT.sIx y.size y.size Z - HT.sIx y.size 0 G)==y.size)=true then _ else _) _ _ s
 rw[if_pos Y]
 refine ak (ak (gb J.typeIs (aG ?_)))
 rw[if_pos (by decide)]
 exact ak (iE (aG ⟨_,rfl,aG h⟩))
theorem aP3 {y:List V}{G J:Option Int}(h:HT.sIx y.length 0 G=0/\HT.sIx y.length y.length J=y.length):bc2 y G J=y:=by
 unfold bc2
 rw[h.1,h.2]
 simp
theorem bF9 {K:ae}(hK:X.K=K):SlR X (rSlA K):=by
 subst hK
 intro G s σ H x v vl vu Y hi sl Q I rx hs Z pu h
 obtain⟨a,y,e1,hx,q⟩:=h
 by_cases hw:HT.sIx y.length 0 Y=0/\HT.sIx y.length y.length hi=y.length
 ·subst e1
  cases rx
  obtain⟨its,r,ht,hz⟩:=I.tuple hx
  have J:its.toArray.size=y.length:=by rw[ay];exact r.length.symm
  refine⟨"tuple",_,bp.lookup,ht.typeIs,?_⟩
  exact aw2 ht hs Z pu (by rw[J];exact hw) ⟨.ref a,H,I,rfl,q a H (ag9.refl H) (by rw[aP3 hw];exact hx)⟩
 ·exact bT4 G s σ H x v vl vu Y hi sl Q I rx hs Z pu ⟨a,y,e1,hx,hw,λ p hp=>q p _ ((ag9.refl H).new hp) (SqT.of zo)⟩
theorem bp7 {K:ae}(h:X.K=K):SlR X (rSlL K):=by subst h;exact bD5
end
noncomputable def Its (x:Str):It:=⟨λ i _=>i<x.cps.size,λ i H v H'=>H'=H/\∃ c,x.cps[i]?=some c/\v=.str ⟨#[c]⟩,λ i _=>x.cps.size<=i⟩
theorem aL1 {P:aN}{w:World}{K:ae}{tg:Expr}{Y:String}{x:Str}{t:Tok}(y:Addr)(hn:["enumerate", "zip", "dict_itemiterator", "dict_reverseitemiterator", "odict_iterator", "itertools.zip_longest", "itertools.pairwise"].contains Y=false)
  (W:∀ A:aX,A.handled=none->Walks P w A y [y] [y] x.cps.size (SignAt x) (λ i h=>h.IsStrIter y Y x t i))
  (Z:∀(A:aX) (s:ah) (i:Nat) (Q:Option Value->ah->Prop) (E:Value->ah->Prop),A.handled=none->s.heap.IsStrIter y Y x t i->x.cps[i]?=none->(∀ h',jO y s.heap h'->Q none { s with heap:=h' })->wpAny (model P w) A (iZ (.ref y)) Q E s)
  (J:∀(A:aX) (i:Nat) (s:ah) (Q:Value->ah->Prop) (E:Value->ah->Prop),s.heap.IsStrIter y Y x t i->Q (.ref y) s->wpAny (model P w) A (kx (.ref y)) Q E s):Turn P w K tg (Its x) [y] y (λ i h=>h.IsStrIter y Y x t i) where
 mem:=by simp
 obj:=λ i h st b hb=>by
  have e:b=y:=by simpa using hb
  subst e
  obtain⟨o,ho,hc,hd⟩:=st
  exact⟨o,ho,λ v z=>by rw[hd]at z;cases z⟩
 keep:=λ i h h' st k=>by
  obtain⟨o,ho,r⟩:=st
  exact⟨o,k y (by simp) _ ho,r⟩
 item:=by
  intro X hP hw hK hc i G s σ H E I hf st hg
  subst hP hw hK
  obtain⟨f0,f1,f2,f3,f4,f5⟩:=hf y (by simp)
  refine(W X.A (I.ok.hd hc)).item i s _ _ hg st λ v h' tk hv a0 kk=>?_
  obtain⟨c,u,a2,rfl⟩:=hv
  have I1:Inv X G σ H { s with heap:=h',toks:=tk }:=I.turned (λ b o hb e=>kk b o (by simpa using hb) e) f0 f1 f3 f4 f5
  obtain⟨o,ho,a1,hd⟩:=id a0
  exact⟨_,rfl,bl8 (s:={ s with heap:=h',toks:=tk }) (n:=Y) ho a1 hd hn ⟨.str ⟨#[c]⟩,H,I1,⟨u,rfl⟩,⟨rfl,c,a2,rfl⟩,a0,λ b hb=>(hf b hb).1⟩⟩
 done:=by
  intro X hP hw hK hc i G s σ H E I hf st hg
  subst hP hw hK
  obtain⟨f0,f1,f2,f3,f4,f5⟩:=hf y (by simp)
  have a3:x.cps.size<=i:=hg
  exact Z X.A s i _ E (I.ok.hd hc) st (by simp;omega) λ h' eb=>⟨rfl,I.turned (t':=s.toks) (λ b o hb e=>eb b o hb e) f0 f1 f3 f4 f5⟩
 self:=λ A i s Q E st h=>J A i s Q E st h
def iStr (tl:TE):TI:=λ σ H R=>tl σ H λ v H1=>∃ x,v=.str x/\R (Its x) H1
theorem bQ0 {X:Cx}{tg l:Expr}{tl:TE}(hl:PE X l tl):PI X tg l (iStr tl):=by
 intro y s σ H R I h
 refine thn (hl y s σ H _ I h) λ v s1 ⟨v0,H1,J,r1,q1⟩=>?_
 obtain⟨x,e,q⟩:=q1
 subst e
 obtain⟨t,rfl⟩:=r1
 have fin:∀(Y:String) (o:Obj),o={ cls:=.type Y,data:=.fields #[.str x t,.int 0 0] }->Turn X.prog X.w X.K tg (Its x) [s1.heap.objs.size] s1.heap.objs.size (λ i h=>h.IsStrIter s1.heap.objs.size Y x t i)->PIE X y σ tg R (.ref s1.heap.objs.size) { s1 with heap:=s1.heap.push o }:=λ Y o eo T=>by
  subst eo
  refine⟨s1.heap.objs.size,[s1.heap.objs.size],_,_,H1,rfl,J.kept (t':=s1.toks) λ b o e=>aj _ e,T,⟨_,aP _ rfl,rfl,rfl⟩,λ b hb=>?_,q⟩
  have e:b=s1.heap.objs.size:=by simpa using hb
  subst e
  exact J.fpOk (ai _) (J.hok.fresh (ai _))
 cases ha:x.cps.all (·<128)
 ·exact wpAny_pyIter_wide ha (fin "str_iterator" _ rfl (aL1 _ (by decide) (λ A G=>Walks.strWide G _ x t) (λ A s i Q E G st hx Z=>wpAny_pyNext_wide_end G st hx Z) λ A i s Q E st h=>wpAny_pyIter_striter_wide st h))
 ·exact wpAny_pyIter_ascii ha (fin "str_ascii_iterator" _ rfl (aL1 _ (by decide) (λ A G=>Walks.strAscii G _ x t) (λ A s i Q E G st hx Z=>wpAny_pyNext_ascii_end G st hx Z) λ A i s Q E st h=>wpAny_pyIter_striter_ascii st h))
section
variable {X:Cx} {K:ae} {T id:String} {name:Str} {o e:Expr} {es:List Expr} {to:TE} {t:TA} {r:V->List V->Hp->VK->Prop} {apos cpos:Pos}
theorem bR8 (hK:X.K=K)(Z:j3 T)(slot:Slot T name id)(Y:typeOf (.builtin id)=pure (.type "method_descriptor"))(hm:MtR X id r)(ho:PE X o to)(ha:PA X (e::es) t)
  (y:fI o name X.env (eval o X.env)=eval o X.env:=by rfl)
  (J:((d4 cpos (bn (e::es) X.env)).all (λ x=>!x.1)&&(backToKw cpos (keywordEach [] X.env)).all (λ x=>x.1.isSome)
   && decide ((e::es).length+([]:List jY).length+(if([]:List jY).isEmpty then 0 else 1)<30))=true:=by rfl)
  (G:(apos.endLine==cpos.line)=true:=by rfl) (hs:bn (e::es) X.env=(false,eval e X.env)::bn es X.env:=by rfl) (h:(d4 cpos (bn es X.env)).any (·.1)=false:=by rfl) :
  PE X (.Call (.Attribute o name apos) (e::es) [] cpos) (tBM K T r to t):=by
 subst hK
 exact cg1 Z slot Y hm ho ha y J G hs h
end
structure Mach where
 letters:Int
 rooms:Int
 begins:List Int
 ends:List Int
 doors:List (Int×Str×Int×Int)
noncomputable def ch3 (q:Int×Str×Int×Int):D:=.tup [.int q.1,.str q.2.1,.int q.2.2.1,.int q.2.2.2]
noncomputable def Mach.D (M:Mach):D:=.tup [.int M.letters,.int M.rooms,.tup (M.begins.map .int),.tup (M.ends.map .int),.tup (M.doors.map ch3)]
noncomputable def ltr (i:Nat):Str:=⟨#[97+i]⟩
structure DoorOk (letters rooms:Int)(q:Int×Str×Int×Int):Prop where
 s0:0<=q.1
 s1:q.1<rooms
 l:∃ i:Nat,(i:Int)<letters/\q.2.1=ltr i
 g0:0<=q.2.2.1
 g1:q.2.2.1<rooms
 t0:0<=q.2.2.2
 t1:q.2.2.2<=3
structure RoomsOk (rooms:Int)(l:List Int):Prop where
 mem:∀ r∈l,0<=r/\r<rooms
 up:l.Pairwise (· < ·)
structure Mach.Ok (most:Nat)(M:Mach):Prop where
 l0:1<=M.letters
 l1:M.letters<=3
 r0:1<=M.rooms
 r1:M.rooms<=5
 b:RoomsOk M.rooms M.begins
 e:RoomsOk M.rooms M.ends
 d:∀ q∈M.doors,DoorOk M.letters M.rooms q
 m:M.doors.length<=most
mutual
noncomputable def D.tups:D->Bool
 | .lst _=>false
 | .tup l=>D.tupsL l
 | _=>true
noncomputable def D.tupsL:List D->Bool
 | []=>true
 | d::l=>D.tups d&&D.tupsL l
end
end L2
end
noncomputable section
namespace L2
end L2
end
noncomputable section
namespace L2
open PySem PySem.Spec PyProof.Rows
noncomputable def optD:Option Int->D
 | none=>.non
 | some i=>.int i
noncomputable def addO:Option Int->Option Int->Option Int
 | some a,some b=>some (a+b)
 | _,_=>none
noncomputable def minO:List Int->Option Int
 | []=>none
 | a::l=>some (match minO l with|none=>a|some b=>if b<a then b else a)
theorem aP5 {X:Cx}{a0 tg iter:Expr}{Z:List Expr}{scope:Scope}{pos a1 py:Pos}{y:Str}{i:Nat}{wi:TI}{g:TG}{tc:TT}{te:TE}(N':List Str)(src:List (Option Nat))
  (hN:X.N.Nodup) (c2:X.N[i]?=some y) (a6:X.env.scope.names.lookup y=some .local)
  (c1:qv N' src scope X.N X.env.scope=true) (hi:PI X tg iter wi) (a2:X.calm=true)
  (c0:∀(C:Addr) (cells:List (Str×Addr)) (s:ah) (H:Hp) (ex:List Addr),PG (zZ X N' scope C cells s H ex) tg g/\PIf (zZ X N' scope C cells s H ex) Z tc/\PE (zZ X N' scope C cells s H ex) a0 te)
  (hs:∀ x,dj iter X.env x=pure x:=by intro _;rfl)
  (b3:eX (.ListComp a0 [⟨tg,iter,Z,0⟩] scope pos) (some (.Name y py)) a1.line X.env=pure true:=by rfl) :
  PS X (.Assign [.Name y py] (.ListComp a0 [⟨tg,iter,Z,0⟩] scope pos) a1) (bi2 (tComp src wi g tc te) (az7 i)):=by
 intro G s σ H D0 I h
 have ck:=bs7 c1
 rw[exec_Assign_Name_used _ _ _ _ b3]
 refine ak (ii (ak ?_))
 show wpAny _ X.A (do let _ <- comprehension (.ListComp a0 [⟨tg,iter,Z,0⟩] scope pos) scope X.env _ (newList []) false (eval iter X.env) (some (f7 (.Name y py) X.env))) _ _ s
 have b4:=qF (scope:=scope) (env:=X.env) λ y hy e=>I.ok.has y.1 (ck.fr y hy e)
 refine ak (ci (fJ (use:=some (f7 (.Name y py) X.env)) (Q:=λ _ s'=>SP X G D0 .next s') rfl hs b4 ck.kind ck.loc (thn (hi G s σ H _ I h) λ v s1 h1=>thn h1 λ c4 s2 h2=>?_)) (λ _ s' hq=>aG (aG hq)) λ _ _ e=>e)
 obtain⟨it,Y,tn,J,H2,e,I2,T,a5,f2,W⟩:=h2
 subst e
 have hD:=I2.fresh
 obtain⟨W,⟨m0,w0⟩,turn⟩:=W _ hD
 have I3:=I2.lnew (its:=[]) (ys:=[]) (t':=s2.toks) .nil (cS _)
 have b1:∀ b∈Y,b<s2.heap.objs.size:=λ b hb=>by obtain⟨o,q,_⟩:=T.obj _ _ a5 b hb;exact aD q
 have f3:∀ b∈Y,FpOk X G (upd H2 s2.heap.objs.size (.lst [])) b:=λ b hb=>⟨by rw[zm (aA (b1 b hb))];exact(f2 b hb).1,(f2 b hb).2⟩
 refine bH (ah6 ?_)
 generalize a3:({ s2 with heap:=s2.heap.push { cls:=.type "list",data:=.seq ([]:List Value).toArray },toks:=s2.toks }:ah)=s3 at I3
 have c3:({ s2 with heap:=s2.heap.push { cls:=.type "list",data:=.seq ([]:List Value).toArray } }:ah)=s3:=a3
 have b6:∀ b∈Y,b<s3.heap.objs.size:=λ b hb=>by
  rw[<-a3]
  show b<(s2.heap.push _).objs.size
  rw[bX]
  exact fy (b1 b hb)
 have I4:=at0 (s4:={ s3 with heap:=eA (s3.heap.push { cls:=.type "dict",data:=.dict #[] }) scope.names }) ck I3 f3 b6 ⟨_,rfl⟩
 have b0:tn 0 (eA (s3.heap.push { cls:=.type "dict",data:=.dict #[] }) scope.names):=T.keep _ _ _ a5 λ b hb o e=>cY _ _ b o (aj _ (by rw[<-a3];exact aj _ e))
 obtain⟨hg,hif,he⟩:=c0 s3.heap.objs.size (aM (s3.heap.objs.size+1) scope.names (af6 X.env.cells scope.names [])) s3 (upd H2 s2.heap.objs.size (.lst [])) Y
 have a4:∀ H':Hp,(∀ b∈Y,H' b=none)->∀ b∈Y,FpOk (zZ X N' scope s3.heap.objs.size (aM (s3.heap.objs.size+1) scope.names (af6 X.env.cells scope.names [])) s3 (upd H2 s2.heap.objs.size (.lst [])) Y) [] H' b:=λ H' hn b hb =>
  ⟨hn b hb,(I4.ok.exf b hb).1,I4.ok.exfs b hb,.inl hb,λ x c e=>(I4.ok.exf b hb).2 x c e,λ p hp=>absurd (show p∈([]:List (Addr×Obj))from hp) (by simp)⟩
 have T':Turn X.prog X.w X.K tg J Y it tn:=T
 have b2:∀ b∈Y,upd H2 s2.heap.objs.size (.lst []) b=none:=λ b hb=>(f3 b hb).1
 have L:=aB4 (X':=zZ X N' scope s3.heap.objs.size (aM (s3.heap.objs.size+1) scope.names (af6 X.env.cells scope.names [])) s3 (upd H2 s2.heap.objs.size (.lst [])) Y) (R:=compPost (model X.prog X.w) X.A X.xe (some (f7 (.Name y py) X.env)) (λ _ s'=>SP X G D0 .next s') (Value.ref s2.heap.objs.size) s3.heap.objs.size) (iter:=iter) (scope:=scope) (pos:=pos) (QD:=λ H'=>D0.nx (σ.set i (some (.ref s2.heap.objs.size))) H') rfl a2 I4 T' b0 a4 b2 w0 turn hg hif he
  (λ σ' H' s' J' q=>by
   have J2:=aL4 I3 f3 J' (Heap.SameBut.refl _ _)
   obtain⟨mm,hn,_⟩:=J'.loc
   have nL:s3.heap.objs.size≠X.env.locals:=dw I3.lt
   have nC:∀ x c,X.env.cells.lookup x=some c->c≠s3.heap.objs.size:=λ x c e=>by
    obtain⟨v,z⟩:=I3.cell x c e
    exact aA z.lt
   show wpAny _ X.A (f7 (.Name y py) X.env (.ref s2.heap.objs.size)) _ _ _
   refine iO (aD3 (v:=.ref s2.heap.objs.size) J2 hN c2 (.inl a6) rfl (λ s5 I5 sb=>?_) (.inr a6))
   obtain⟨aa,sb,ha⟩:=sb
   have na:s3.heap.objs.size≠aa:=by
    rcases ha with z|z
    ·rw[z];exact nL
    ·exact λ e=>nC _ _ z e.symm
   refine⟨mm,hn.sameBut sb na,λ h' b5=>⟨_,H',I5.turned (t':=s5.toks) (λ b o hb e=>(b5.2 b hb).trans e) J'.free nL (.inr I3.sz) nC λ p hp z=>?_,q⟩⟩
   exact absurd (aD (I3.pin p hp).1) (by rw[z];exact bu _))
 exact gm L (T.self _ _ _ _ _ b0 L)
def rSlS:V->Option Int->Option Int->Hp->VK->Prop:=λ x lo hi H Q=>∃ z,x=.str z/\z.length<=aL/\Q (.str (eM z lo hi)) H
theorem aB7 {v:Value}{o:Option Int}(p:fH v o):∃ q:Option (Int×Tok),v=partValue q/\q.map (·.1)=o:=by
 cases p with
 | none=>exact⟨none,rfl,rfl⟩
 | int i t=>exact⟨some (i,t),rfl,rfl⟩
theorem bX2 {X:Cx}:SlR X rSlS:=by
 intro Z s σ H x v vl vu G J sl Q I rx hs pl pu h
 obtain⟨z,rfl,hz,q⟩:=h
 obtain⟨t,rfl⟩:=rx
 obtain⟨l,rfl,el⟩:=aB7 pl
 obtain⟨u,rfl,eu⟩:=aB7 pu
 refine⟨"str",_,F.slot_str_getitem.lookup,j2 s z t,?_⟩
 refine wpAny_getItem_str_slice (l:=l) (u:=u) (st:=none) hs rfl ?_
 unfold sliceMade
 have e:slicePicked z l u none=bC G J 1 z.length:=by
  unfold slicePicked
  rw[el,eu]
  rfl
 rw[e]
 unfold eM at q
 split
 ·rename_i hc
  have y:((1:Int)==1&&(bC G J 1 z.length).length==z.length)=true:=hc
  rw[if_pos y]at q
  exact⟨.str z,H,I,⟨t,rfl⟩,q⟩
 ·rename_i hc
  have y:¬((1:Int)==1&&(bC G J 1 z.length).length==z.length)=true:=hc
  rw[if_neg y]at q
  have Y:(Str.mk (gQ (λ x=>z.cps[x]?) (bC G J 1 z.length)).toArray).length<=aL:=by
   show(gQ (λ x=>z.cps[x]?) (bC G J 1 z.length)).toArray.size<=aL
   rw[ay]
   exact am (fL _ _) (am (sliceIndices_le G J z.length) hz)
  exact⟨Y,.str _,H,I.tok _,⟨_,rfl⟩,q⟩
section
variable {M:Model} {A:aX} {E:Value->ah->Prop} {s₀ s:ah} {m cm:Str->Option Value} {env:Env} {cs:List (Str×Addr)}
theorem bw9 {n:Str}{v:Value}{Q:Unit->ah->Prop}(z:fw s₀ env.locals m cs cm s)(G:env.scope.kind=.function)(kl:env.kindOf n=some .local)
  (go:∀ s',fw s₀ env.locals (λ y=>if y=n then some v else m y) cs cm s'->Q () s'):wpAny M A (fQ env n v) Q E s:=by
 refine gE kl z.toInCall.ns (λ g J h=>go _ ⟨⟨?a,J,λ b o e=>?b,z.toInCall.fresh⟩,λ k c e=>?c,z.apart,z.above⟩) (by rw[G];rfl)
 case a=>obtain⟨Y,tk,e⟩:=z.toInCall.same;subst e;exact⟨g,_,rfl⟩
 case b=>exact h.extBut b o (aA (aq (aD e) z.toInCall.fresh)) (z.toInCall.keep b o e)
 case c=>exact(z.cell k c e).sameBut h (dw (z.above k c (aC e)))
theorem bD1 {n:Str}{c:Addr}{v:Value}{Q:Unit->ah->Prop}(z:fw s₀ env.locals m cs cm s)(Y:env.scope.kind=.function)(J:env.kindOf n=some .cell)
  (e1:env.cells.lookup n=some c) (e2:cs.lookup n=some c) (go:∀ s',fw s₀ env.locals m cs (λ y=>if y=n then some v else cm y) s'->Q () s'):wpAny M A (fQ env n v) Q E s:=by
 have up:=z.above n c (aC e2)
 refine gJ Y J e1 (z.cell n c e2) λ g Z h=>go _ ⟨⟨?a,z.toInCall.ns.sameBut h (aA up),λ b o e=>?b,z.toInCall.fresh⟩,λ k G e=>?c,z.apart,z.above⟩
 case a=>obtain⟨h₁,tk,e⟩:=z.toInCall.same;subst e;exact⟨g,_,rfl⟩
 case b=>exact h.extBut b o (aA (cG (aq (aD e) z.toInCall.fresh) up)) (z.toInCall.keep b o e)
 case c =>
  by_cases q:k=n
  ·subst q
   rw[e2]at e;cases e
   simpa using Z
  ·rw[if_neg q]
   exact(z.cell k G e).sameBut h λ y=>q (f9 z.apart (aC e) (y▸aC e2))
theorem aF3 (f:Str×Value->PUnit->Sem (ForInStep PUnit))(Z:∀ n v u,f (n,v) u=(do fQ env n v;pure (.yield ⟨⟩)))(Y:env.scope.kind=.function)(sub:∀ n c,cs.lookup n=some c->env.cells.lookup n=some c) :
  ∀(bs:List (Str×Value)) (m J:Str->Option Value) (s:ah) (Q:PUnit->ah->Prop),fw s₀ env.locals m cs J s ->
   (∀ y∈bs,env.kindOf y.1=some .local\/(env.kindOf y.1=some .cell/\∃ c,cs.lookup y.1=some c)) ->
   (∀ s',fw s₀ env.locals (bindL env.kindOf bs m) cs (bindC env.kindOf bs J) s'->Q ⟨⟩ s')->wpAny M A (forIn bs ⟨⟩ f) Q E s
 | [],m,J,s,Q,z,_,go=>by rw[gO];exact aG (go s z)
 | (n,v)::r,m,J,s,Q,z,hy,go=>by
  rw[jR,Z]
  have hr:=λ y (q:y∈r)=>hy y (az _ q)
  rcases hy (n,v) aH with kl|⟨kc,c,e2⟩
  ·refine ak (ak (bw9 z Y kl λ s' z'=>aG (aF3 f Z Y sub r _ _ s' Q z' hr λ G h=>go G ?_)))
   unfold bindL bindC;rw[if_pos kl,if_pos kl];exact h
  ·have nl:¬ env.kindOf n=some .local:=by rw[kc];decide
   refine ak (ak (bD1 z Y kc (sub n c e2) e2 λ s' z'=>aG (aF3 f Z Y sub r _ _ s' Q z' hr λ G h=>go G ?_)))
   unfold bindL bindC;rw[if_neg nl,if_neg nl];exact h
end
theorem at4 {M:Model}{A:aX}{E:Value->ah->Prop}{s:ah}{scope:Scope}{globals:Addr}{h:List (Str×Addr)}{binds:List (Str×Value)}{qual:Str}{func:Option Addr}{code:Value}{builtins:Addr}{Q:Env->ah->Prop}
  (Y:scope.kind=.function) (hy:∀ y∈binds,scope.names.lookup y.1=some .local\/(scope.names.lookup y.1=some .cell/\∃ c,(aM (s.heap.objs.size+1) scope.names []).lookup y.1=some c))
  (go:∀ env,env=newEnv scope s.heap.objs.size globals (aM (s.heap.objs.size+1) scope.names h) qual func code none builtins ->
   ∀ s',fw s env.locals (bindL env.kindOf binds λ _=>none) (aM (s.heap.objs.size+1) scope.names []) (bindC env.kindOf binds λ _=>none) s'->Q env s') :
  wpAny M A (fc scope globals h binds qual func code none builtins) Q E s:=by
 simp only[fc,iG,aK,if_false]
 refine ak (wpAny_alloc (ak (wpAny_layCells _ (λ Z kd ce=>by cases q:kd==NameKind.cell<;>simp[q]) _ _ _ _ ?_)))
 have ok:=cellsFrom_ok scope.names (s.heap.push { cls:=.type "frame",data:=.dict #[] }) (s.heap.objs.size+1) [] ⟨λ _ _ J=>(nomatch J),List.Pairwise.nil⟩ (by rw[bX];exact ai _)
 have G:({ s with heap:=s.heap.push { cls:=.type "frame",data:=.dict #[] } }:ah).heap.objs.size=s.heap.objs.size+1:=bX ..
 rw[bX]at ok
 rw[G]
 refine ak (aF3 (s₀:=s) (cs:=aM (s.heap.objs.size+1) scope.names []) (env:=newEnv scope s.heap.objs.size globals (aM (s.heap.objs.size+1) scope.names h) qual func code none builtins)
  _ (λ _ _ _=>rfl) Y (λ n c e=>?sub) binds (λ _=>none) (λ _=>none) _ _ ⟨⟨⟨_,_,rfl⟩,?ns,λ b o e=>?k,ai _⟩,λ n c e=>(ok.empty n c (aC e)).1,ok.apart,λ n c e=>(ok.empty n c e).2⟩ hy λ s' x=>aG (go _ rfl s' x))
 case sub =>
  show(aM _ _ _).lookup n=some c
  rw[zy,zX,e];rfl
 case ns=>exact(kJ s.heap (.type "frame")).keeps (cY _ _)
 case k=>exact cY _ _ b o (aj _ e)
noncomputable def qJ (c:Addr)(qual:Str):HO:=.ext λ h=>h.CodeRec (.ref c) qual
noncomputable def aw4 (f:Addr)(fd:bI):HO:=.ext λ h=>h.get? f=some { cls:=.type "function",data:=.func fd }
theorem aK8 {P:aN}{w:World}{H:Hp}{h:Heap}{c:Addr}{q:Str}(r:h.CodeRec (.ref c) q):ad9 P w H h c (qJ c q):=by
 refine⟨r,?_,λ J G z k=>?_⟩
 ·obtain⟨y,o,vs,t,e,g,_⟩:=r
  cases e
  exact⟨o,g⟩
 ·obtain⟨y,o,vs,t,e,g,d⟩:=z
  cases e
  exact⟨c,o,vs,t,rfl,k o g,d⟩
theorem aD2 {P:aN}{w:World}{H:Hp}{h:Heap}{c:Addr}{q:Str}(x:HOk P w H h)(e:H c=some (qJ c q)):h.CodeRec (.ref c) q:=(x c _ e).1
theorem ax1 {P:aN}{w:World}{H:Hp}{h:Heap}{f:Addr}{y:bI}(r:h.get? f=some { cls:=.type "function",data:=.func y }):ad9 P w H h f (aw4 f y) :=
 ⟨r,⟨_,r⟩,λ _ _ z k=>k _ z⟩
theorem av5 {P:aN}{w:World}{H:Hp}{h:Heap}{f:Addr}{y:bI}(x:HOk P w H h)(e:H f=some (aw4 f y)):h.get? f=some { cls:=.type "function",data:=.func y }:=(x f _ e).1
noncomputable def isC (cells:List (Str×Addr))(b:Addr):Bool:=cells.any λ p=>cells.lookup p.1==some b
theorem ag3 {cells:List (Str×Addr)}{b:Addr}:isC cells b=true↔∃ x,cells.lookup x=some b:=by
 unfold isC
 rw[i6]
 constructor
 ·rintro⟨p,_,e⟩;exact⟨p.1,by simpa using e⟩
 ·rintro⟨x,e⟩;exact⟨(x,b),aC e,by simpa using e⟩
noncomputable def ac7 (cells:List (Str×Addr))(H:Hp):Hp:=λ b=>if isC cells b=true then none else H b
noncomputable def Put (cells:List (Str×Addr))(H H':Hp):Hp:=λ b=>if isC cells b=true then H b else H' b
theorem ac7.cell {cells:List (Str×Addr)}{H:Hp}{b:Addr}(h:isC cells b=true):ac7 cells H b=none:=if_pos h
theorem ac7.ne {cells:List (Str×Addr)}{H:Hp}{b:Addr}(h:isC cells b≠true):ac7 cells H b=H b:=if_neg h
theorem ac7.some {cells:List (Str×Addr)}{H:Hp}{b:Addr}{o:HO}(h:ac7 cells H b=some o):isC cells b≠true/\H b=some o:=by
 unfold ac7 at h
 split at h
 ·cases h
 ·rename_i z;exact⟨z,h⟩
theorem ac7.none {cells:List (Str×Addr)}{H:Hp}{b:Addr}(h:H b=none):ac7 cells H b=none:=by
 unfold ac7
 split
 ·rfl
 ·exact h
theorem Put.cell {cells:List (Str×Addr)}{H H':Hp}{b:Addr}(h:isC cells b=true):Put cells H H' b=H b:=if_pos h
theorem Put.ne {cells:List (Str×Addr)}{H H':Hp}{b:Addr}(h:isC cells b≠true):Put cells H H' b=H' b:=if_neg h
def Cells (clos:List (Str×Addr))(H:Hp):Prop:=∀ x c,clos.lookup x=some c->∃ o v,H c=some (.frz o (.own c))/\o.data=.cell v
theorem Cells.at {y:List (Str×Addr)}{H:Hp}(z:Cells y H){b:Addr}(h:isC y b=true):∃ o v,H b=some (.frz o (.own b))/\o.data=.cell v:=by
 obtain⟨x,e⟩:=ag3.mp h
 exact z x b e
def Cap (clos:List (Str×Addr))(H:Hp)(fr:List Str)(cap:List V):Prop:=∀(i:Nat) (x:Str) (v:V),fr[i]?=some x->cap[i]?=some v->∃ c o u,clos.lookup x=some c/\H c=some (.frz o (.own c))/\o.data=.cell (some u)/\RelV v u
structure LamScope (N ps fr:List Str)(sc:Scope):Prop where
 kind:sc.kind=.function
 co:sc.isCoroutine=false
 gen:sc.isGenerator=false
 nd:N.Nodup
 app:N=ps++fr
 par:∀ x∈ps,sc.names.lookup x=some .local\/sc.names.lookup x=some .cell
 frs:∀ x∈fr,sc.names.lookup x=some .free
 cel:∀ y∈sc.names,y.2=.cell->sc.names.lookup y.1=some .cell
noncomputable def aG5 (P:aN)(w:World)(K:ae)(mg:Str->Option Value)(base:Heap)(N:List Str)(qual:Str)(scope:Scope)(f:Addr)(cd:Value)(clos:List (Str×Addr))(A:aX)(outer:List Env)(s:ah)(H:Hp):Cx where
 prog:=P
 w:=w
 K:=K
 mg:=mg
 base:=base
 A:=A.deeper (cW qual scope s.heap.objs.size f cd (aM (s.heap.objs.size+1) scope.names clos))
 N:=N
 s₀:=s
 H₀:=ac7 clos H
 env:=cW qual scope s.heap.objs.size f cd (aM (s.heap.objs.size+1) scope.names clos)
 outer:=outer
 stack:=cW qual scope s.heap.objs.size f cd (aM (s.heap.objs.size+1) scope.names clos)::outer
 ex:=[]
 fn:=λ x=>scope.names.lookup x==some .cell
 calm:=true
 pn:=[]
 xe:=λ _ _=>False
theorem HOk.drop {P:aN}{w:World}{H:Hp}{h:Heap}{G:List (Str×Addr)}(x:HOk P w H h)(z:Cells G H):HOk P w (ac7 G H) h:=λ b o e=>by
 obtain⟨_,e'⟩:=ac7.some e
 have Y:∀ c u,H c=some u->(∀ o v,u≠.frz o v)->isC G c≠true:=λ c u q d y=>by
  obtain⟨o,v,J,_⟩:=z.at y
  rw[q]at J;cases J
  exact d _ _ rfl
 exact(x b o e').stay (λ _ _ _ q=>q) (λ c q=>by rw[ac7.ne (Y c _ q λ _ _=>by nofun)];exact q) λ c Z q=>by rw[ac7.ne (Y c _ q λ _ _=>by nofun)];exact q
theorem aX0 {P:aN}{w:World}{K:ae}{mg:Str->Option Value}{Y:Heap}{N ps fr:List Str}{qual:Str}{scope:Scope}{f:Addr}{cd:Value}{h:List (Str×Addr)}{A:aX}{outer:List Env}{s s1:ah}{H:Hp}{us:List Value}{vs cap:List V}
  (S:LamScope N ps fr scope) (hd:A.handled=none) (G:Env0 P w K mg Y A outer s H) (hl:vs.length=ps.length) (a4:cap.length=fr.length) (r:Vals vs us)
  (hc:Cells h H) (inj:∀ x y c,h.lookup x=some c->h.lookup y=some c->x=y) (a3:∀ x,scope.names.lookup x=some .free->∃ c,h.lookup x=some c) (a0:Cap h H fr cap)
  (x:fw s s.heap.objs.size (bindL (cW qual scope s.heap.objs.size f cd (aM (s.heap.objs.size+1) scope.names h)).kindOf (ps.zip us) λ _=>none) (aM (s.heap.objs.size+1) scope.names [])
   (bindC (cW qual scope s.heap.objs.size f cd (aM (s.heap.objs.size+1) scope.names h)).kindOf (ps.zip us) λ _=>none) s1) :
  Inv (aG5 P w K mg Y N qual scope f cd h A outer s H) [] (vs.map some++cap.map some) (ac7 h H) s1:=by
 obtain⟨h1,tk,rfl,hk⟩:=x.done
 have Z:∀ b:Addr,b ∉ (aG5 P w K mg Y N qual scope f cd h A outer s H).ex:=λ b z=>absurd (show b∈([]:List Addr)from z) (by simp)
 have lk:∀ y c,(aM (s.heap.objs.size+1) scope.names h).lookup y=some c->(aM (s.heap.objs.size+1) scope.names []).lookup y=some c\/((aM (s.heap.objs.size+1) scope.names []).lookup y=none/\h.lookup y=some c):=λ y c e=>by
  rw[zy,zX]at e
  cases q:(aM (s.heap.objs.size+1) scope.names []).lookup y with
  | some d=>rw[q]at e;left;simpa using e
  | none=>rw[q]at e;right;exact⟨rfl,by simpa using e⟩
 have own:∀ y c,(aM (s.heap.objs.size+1) scope.names []).lookup y=some c->s.heap.objs.size<c:=λ y c e=>x.above y c (aC e)
 have a2:∀ y c,h.lookup y=some c->c<s.heap.objs.size:=λ y c e=>by
  obtain⟨o,v,q,_⟩:=hc y c e
  exact G.hok.lt q
 have hx:∀ y c,h.lookup y=some c->scope.names.lookup y=some .free->(aM (s.heap.objs.size+1) scope.names h).lookup y=some c:=λ y c e k=>by
  rw[zy,zX]
  cases q:(aM (s.heap.objs.size+1) scope.names []).lookup y with
  | none=>exact e
  | some d =>
   rcases zS (aC q)with z|z
   ·rw[S.cel _ z rfl]at k;cases k
   ·exact absurd z (by simp)
 have dn:∀ b,H b=none->ac7 h H b=none:=λ b e=>ac7.none e
 refine⟨⟨G.mod,S.kind,rfl,rfl,ai _,λ y z c a b=>?inj,λ y hy=>?has,λ y c hy e=>?cab,λ _=>hd,gM G.frames,.inr ⟨rfl,rfl⟩,λ b z=>absurd z (Z b),λ b o e=>⟨(G.bs b o e).1,dn b (G.bs b o e).2⟩,G.bsz,λ b _ _=>Z b,λ b z=>absurd z (Z b),G.funs,λ b hb=>dn b (G.frf b hb)⟩,
  rfl,G.bare,Un.kept hk,⟨_,x.toInCall.ns,λ i y v q1 q2 q3=>?loc⟩,λ y c e=>?cell,dn _ (G.hok.fresh (ai _)),λ y c e=>?freeC,λ p hp=>absurd (show p∈([]:List (Addr×Obj))from hp) (by simp),(G.hok.drop hc).kept hk,?len⟩
 case inj =>
  rcases lk y c a with a|⟨_,a⟩<;>rcases lk z c b with b|⟨_,b⟩
  ·exact f9 x.apart (aC a) (aC b)
  ·exact absurd (cG (own _ _ a) (a2 _ _ b)) (bu _)
  ·exact absurd (cG (own _ _ b) (a2 _ _ a)) (bu _)
  ·exact inj y z c a b
 case has =>
  have hy:scope.names.lookup y=some .cell\/scope.names.lookup y=some .free:=hy
  rcases hy with hy|hy
  ·obtain⟨c,e⟩:=qp (n:=s.heap.objs.size+1) hy
   refine⟨c,?_⟩
   show(aM (s.heap.objs.size+1) scope.names h).lookup y=some c
   rw[zy,zX,e];rfl
  ·obtain⟨c,e⟩:=a3 y hy
   exact⟨c,hx y c e hy⟩
 case cab =>
  have hy:(scope.names.lookup y==some .cell)=true:=hy
  have a5:scope.names.lookup y=some .cell:=by simpa using hy
  rcases lk y c e with a|⟨a,_⟩
  ·exact dv (own y c a)
  ·obtain⟨d,q⟩:=qp (n:=s.heap.objs.size+1) a5
   rw[q]at a;cases a
 case loc =>
  have a1:ps.Nodup:=by have:=S.nd;rw[S.app]at this;exact(List.nodup_append.mp this).1
  by_cases hi:i<vs.length
  ·have ha:vs[i]?=some v:=by
    rw[aw (by simpa using hi),ao]at q2
    cases e:vs[i]? with
    | none=>rw[e]at q2;cases q2
    | some a=>rw[e]at q2;cases q2;rfl
   obtain⟨u,hu,rv⟩:=r.get ha
   have hp:ps[i]?=some y:=by
    have J:N[i]?=some y:=q1
    rw[S.app,aw (by omega)]at J;exact J
   refine⟨u,rv,?_⟩
   rcases S.par y (aW hp)with k|k
   ·exact .inl ⟨k,an7 a1 hp hu k⟩
   ·obtain⟨c,e⟩:=qp (n:=s.heap.objs.size+1) k
    refine .inr ⟨.inl k,c,?_,?_⟩
    ·show(aM (s.heap.objs.size+1) scope.names h).lookup y=some c
     rw[zy,zX,e];rfl
    ·have q:=x.cell y c e
     rw[ap7 a1 hp hu (by show scope.names.lookup y≠_;rw[k];decide)]at q
     exact q
  ·have hf:fr[i - vs.length]?=some y:=by
    have J:N[i]?=some y:=q1
    rw[S.app,af (by omega)]at J;rw[hl];exact J
   have hv:cap[i - vs.length]?=some v:=by
    rw[af (by simpa using hi),ao,ax]at q2
    cases e:cap[i - vs.length]? with
    | none=>rw[e]at q2;cases q2
    | some a=>rw[e]at q2;cases q2;rfl
   obtain⟨c,o,u,e1,e2,e3,e4⟩:=a0 _ y v hf hv
   have kf:=S.frs y (aW hf)
   refine⟨u,e4,.inr ⟨.inr kf,c,hx y c e1 kf,?_⟩⟩
   exact⟨o,hk c o (G.hok c _ e2).1,e3⟩
 case cell =>
  rcases lk y c e with a|⟨_,a⟩
  ·exact⟨_,x.cell y c a⟩
  ·obtain⟨o,v,q,d⟩:=hc y c a
   exact⟨v,o,hk c o (G.hok c _ q).1,d⟩
 case freeC =>
  rcases lk y c e with a|⟨_,a⟩
  ·exact dn c (G.hok.fresh (dv (own y c a)))
  ·exact ac7.cell (ag3.mpr ⟨y,a⟩)
 case len =>
  show _=N.length
  rw[S.app]
  simp[hl,a4]
theorem aZ3 {P:aN}{w:World}{outer:List Env}{H H':Hp}{s s':ah}{h:List (Str×Addr)}(hok:HOk P w H s.heap)(hc:Cells h H)(frf:∀ b∈frs outer,H b=none)
  (un:Un (frs outer) [] (ac7 h H) H' s.heap s'.heap) (Y:HOk P w H' s'.heap):Un (frs outer) [] H (Put h H H') s.heap s'.heap/\HOk P w (Put h H H') s'.heap:=by
 have nc:∀ b,H b=none->isC h b≠true:=λ b e y=>by
  obtain⟨o,v,q,_⟩:=hc.at y
  rw[e]at q;cases q
 have G:∀ c u,H c=some u->(∀ o v,u≠.frz o v)->isC h c≠true:=λ c u q d y=>by
  obtain⟨o,v,q',_⟩:=hc.at y
  rw[q]at q';cases q'
  exact d _ _ rfl
 have J:∀ b,isC h b=true->H' b=none:=λ b y=>by
  obtain⟨o,v,q,_⟩:=hc.at y
  exact un.free b o (hok b _ q).1 (ac7.cell y) (by simp)
 refine⟨⟨λ b o e n hb hx=>un.keep b o e (ac7.none n) hb hx,λ b o e n hb hx=>un.slot b o e (ac7.none n) hb hx,λ b o e n hx=>?_,λ b o e hx=>un.there b o e hx,λ b xs e=>?_,λ b o u e=>?_,λ b ps e=>?_⟩,λ b o e=>?_⟩
 ·rw[Put.ne (nc b n)];exact un.free b o e (ac7.none n) hx
 ·have z:=G b _ e λ _ _=>by nofun
  rw[Put.ne z];exact un.tups b xs (by rw[ac7.ne z];exact e)
 ·by_cases z:isC h b=true
  ·rw[Put.cell z];exact e
  ·rw[Put.ne z];exact un.frzs b o u (by rw[ac7.ne z];exact e)
 ·have z:=G b _ e λ _ _=>by nofun
  rw[Put.ne z];exact un.tbls b ps (by rw[ac7.ne z];exact e)
 ·by_cases z:isC h b=true
  ·rw[Put.cell z]at e
   obtain⟨ob,v,q,d⟩:=hc.at z
   rw[q]at e;cases e
   have g:=(hok b _ q).1
   have g':=un.keep b ob g (ac7.cell z) (λ y=>by rw[frf b y]at q;cases q) (by simp)
   exact⟨g',ob,g'⟩
  ·rw[Put.ne z]at e
   have Z:∀ c u,H' c=some u->Put h H H' c=some u:=λ c u q=>by
    rw[Put.ne λ y=>by rw[J c y]at q;cases q];exact q
   exact(Y b o e).stay (λ _ _ _ q=>q) (λ c q=>Z c _ q) λ c xs q=>Z c _ q
structure ClOk (P:aN)(w:World)(K:ae)(mg:Str->Option Value)(base:Heap)(k:Nat)(R:Hp->Prop)(f:Addr)(sp:Sp):Prop where
 run:∀(A:aX) (outer:List Env) (s:ah) (H:Hp) (us:List Value) (vs:List V) (Q:VK),Room k A->Env0 P w K mg base A outer s H->R H->Vals vs us->sp vs H Q E0 ->
  fv (model P w) A (.call (.ref f) ⟨us,[]⟩) (CR CX0 outer P w H s Q E0) s
theorem ClOk.ofFn {P:aN}{w:World}{K:ae}{mg:Str->Option Value}{y:Heap}{k:Nat}{f:Addr}{J:bI}{ps:List Str}{sp:Sp}(F:FnOk P w K mg y CX0 k f J ps sp)(hb:Binds K J ps []):ClOk P w K mg y k (λ _=>True) f sp :=
 ⟨λ A outer s H us vs Q Y G _ r h=>by
  have hl:=F.len _ _ _ _ h
  have:=hb s us (G.mod.kin.keeps λ b o e=>(G.bs b o e).1) (by rw[bD,<-r.length];exact hl)
  rw[bD]at this
  exact F.run A outer s H ⟨us,[]⟩ us vs Q E0 Y G this r h⟩
def aA0 (H:Hp)(f:Addr)(qual:Str)(params:a9)(body:Expr)(scope:Scope)(fr:List Str)(cap:List V)(clos:List (Str×Addr)):Prop :=
 ∃ pm c' ctv,H f=some (aw4 f (bS "<lambda>" qual params body scope clos pm (.ref c') ctv))/\H c'=some (qJ c' qual)/\Cells clos H /\
  (∀ x y c,clos.lookup x=some c->clos.lookup y=some c->x=y)/\(∀ x,scope.names.lookup x=some .free->∃ c,clos.lookup x=some c)/\Cap clos H fr cap
def BM (mg:Str->Option Value)(base:Heap):Prop:=∃ bm ob,mg "__builtins__"=some (.ref bm)/\bm≠f6/\base.get? bm=some ob/\ob.cls=.type "module"/\ob.dict=some f6/\ob.data=.plain
def tLam (cells:List (Str×Addr))(P:Addr)(qual:Str)(params:a9)(body:Expr)(scope:Scope)(pos:Pos):TE:=λ _ H Q =>
 ∃ ps:Array Value,H P=some (.tbl ps)/\g9 ps.toList /\
  (cQ pos ps.toList=none->∀ c' f pm ctv,H c'=none->H f=none->c'≠f ->
   Q (.ref f) (upd (upd (upd H P (.tbl (ps++#[cM pos.line,cM pos.col,.ref c']))) c' (qJ c' qual)) f (aw4 f (bS "<lambda>" qual params body scope (af6 cells scope.names []) pm (.ref c') ctv)))) /\
  (∀ cv,cQ pos ps.toList=some cv->∃ c',cv=.ref c'/\∀ f pm ctv,H f=none->Q (.ref f) (upd H f (aw4 f (bS "<lambda>" qual params body scope (af6 cells scope.names []) pm (.ref c') ctv))))
noncomputable def lamCheck (scope xs:Scope):Bool:=scope.names.all λ y=>!(y.2==.free)||(xs.names.lookup y.1==some .cell||xs.names.lookup y.1==some .free)
theorem ba8 {X:Cx}{c P:Addr}{params:a9}{body:Expr}{scope:Scope}{pos:Pos}(Z:X.env.code=.ref c)(C:bT X.base c P)(hB:BM X.mg X.base)
  (d2:lamCheck scope X.env.scope=true) (a1:j7 params X.env=([],[]):=by rfl) :
  PE X (.Lambda params body scope pos) (tLam X.env.cells P (X.env.qual ++ "<lambda>") params body scope pos):=by
 intro e0 s σ H Q I h
 have d0:∀ y∈scope.names,y.2=.free->X.env.kindOf y.1=some .cell\/X.env.kindOf y.1=some .free:=λ y hy e=>by
  have z:=aO.mp d2 y hy
  have z':X.env.scope.names.lookup y.1=some .cell\/X.env.scope.names.lookup y.1=some .free:=by simpa [e]using z
  exact z'
 obtain⟨ps,hP,ht,a3,c1⟩:=h
 refine PySem.W.kla_eval a1 ?_
 have b0:=qF (scope:=scope) (env:=X.env) λ y hy e=>I.ok.has y.1 (d0 y hy e)
 have oP:s.heap.get? P=some (d9 ps):=I.hok P _ hP
 have a0:s.heap.Ns bj X.mg:=I.mod.glob.keeps I.bk
 have hC:bT s.heap c P:=C.keeps I.bk
 have d3:bj≠P:=λ q=>by
  obtain⟨o,es,ep,e,d,_⟩:=a0
  rw[q,oP]at e;cases e;cases d
 have hb:s.heap.BuiltinsAt X.mg P:=by
  obtain⟨bm,ob,b1,b2,b3,b4,b5,b6⟩:=hB
  refine⟨bm,ob,b1,b2,λ q=>?_,λ q=>?_,I.bk _ _ b3,b4,b5,b6⟩
  ·obtain⟨o,es,ep,e,d,_⟩:=I.mod.glob
   rw[q,e]at b3;cases b3;rw[d]at b6;cases b6
  ·have e:=I.bk _ _ b3
   rw[q,oP]at e;cases e;cases b4
 cases q:cQ pos ps.toList with
 | none =>
  refine PySem.W.kla_makeFunction (mg:=X.mg) b0 I.ok.glob a0 Z hC oP ht q d3 hb λ G J h' tk hx hge hlt a6 a4=>?_
  have c0:P<s.heap.objs.size:=aD oP
  have d1:G≠P:=dw (aq c0 hge)
  have c4:h'.objs.size≠P:=dw (cG (aq c0 hge) hlt)
  have c3:G≠h'.objs.size:=aA hlt
  have hsz:s.heap.objs.size<=h'.objs.size:=am hge (dv hlt)
  have nP:∀ b,H b=none->b≠P:=λ b n z=>by rw[z,hP]at n;cases n
  have lt:∀ b o,H b=some o->b≠G/\b≠h'.objs.size:=λ b o e=>⟨aA (aq (I.hok.lt e) hge),aA (aq (I.hok.lt e) hsz)⟩
  have a5:∀ b o,s.heap.get? b=some o->b≠G/\b≠h'.objs.size:=λ b o e=>⟨aA (aq (aD e) hge),aA (aq (aD e) hsz)⟩
  have keep:∀ b o,b≠P->s.heap.get? b=some o->(h'.push (PySem.W.kla_obj "<lambda>" (X.env.qual ++ "<lambda>") params body scope (af6 X.env.cells scope.names []) ((X.mg "__name__").getD .none) G J)).get? b=some o:=λ b o n e=>aj _ (hx b o n e)
  have Y:∀ b,b≠P->b≠G->b≠h'.objs.size->∀ o1 o2 o3,upd (upd (upd H P o1) G o2) h'.objs.size o3 b=H b:=λ b n1 n2 n3 o1 o2 o3=>by rw[zm n3,zm n2,zm n1]
  refine⟨.ref h'.objs.size,upd (upd (upd H P (.tbl (ps++#[cM pos.line,cM pos.col,.ref G]))) G (qJ G (X.env.qual ++ "<lambda>"))) h'.objs.size (aw4 h'.objs.size (bS "<lambda>" (X.env.qual ++ "<lambda>") params body scope (af6 X.env.cells scope.names []) ((X.mg "__name__").getD .none) (.ref G) J)),I.un (t':=tk) ⟨λ b o e n _ _=>keep b o (nP b n) e,λ b o e n _ _=>⟨o.slots,keep b o (nP b n) e⟩,λ b o e n _=>?fr,λ b o e _=>?th,λ b xs e=>?tu,λ b o u e=>?fz,λ b qs e=>?tb⟩ ?ok,rfl,a3 q G h'.objs.size _ J (I.hok.fresh hge) (I.hok.fresh hsz) c3⟩
  case fr=>rw[Y b (nP b n) (a5 b o e).1 (a5 b o e).2];exact n
  case th =>
   by_cases z:b=P
   ·subst z;exact⟨_,aj _ a4⟩
   ·exact⟨o,keep b o z e⟩
  case tu=>rw[Y b (λ z=>by rw[z,hP]at e;cases e) (lt b _ e).1 (lt b _ e).2];exact e
  case fz=>rw[Y b (λ z=>by rw[z,hP]at e;cases e) (lt b _ e).1 (lt b _ e).2];exact e
  case tb =>
   by_cases z:b=P
   ·subst z
    rw[hP]at e;cases e
    exact⟨#[cM pos.line,cM pos.col,.ref G],by rw[zm (bU c4),zm (bU d1),zo]⟩
   ·exact⟨#[],by rw[Y b z (lt b _ e).1 (lt b _ e).2,e];simp⟩
  case ok =>
   intro b o e
   by_cases zf:b=h'.objs.size
   ·subst zf
    rw[zo]at e;cases e
    exact ax1 (aP _ rfl)
   ·rw[zm zf]at e
    by_cases zc:b=G
    ·subst zc
     rw[zo]at e;cases e
     obtain⟨c2,oc,vs,t,e1,e2,e3⟩:=a6
     exact aK8 ⟨c2,oc,vs,t,e1,aj _ e2,e3⟩
    ·rw[zm zc]at e
     by_cases zp:b=P
     ·subst zp
      rw[zo]at e;cases e
      exact aj _ a4
     ·rw[zm zp]at e
      have a2:∀ d u,H d=some u->(∀ ps,u≠.tbl ps)->upd (upd (upd H P (.tbl (ps++#[cM pos.line,cM pos.col,.ref G]))) G (qJ G (X.env.qual ++ "<lambda>"))) h'.objs.size (aw4 h'.objs.size (bS "<lambda>" (X.env.qual ++ "<lambda>") params body scope (af6 X.env.cells scope.names []) ((X.mg "__name__").getD .none) (.ref G) J)) d=some u:=λ d u e nt=>by
       rw[Y d (λ z=>by rw[z,hP]at e;cases e;exact nt _ rfl) (lt d _ e).1 (lt d _ e).2];exact e
      refine(I.hok b o e).stay (λ d u hd q=>keep d u ?_ q) (λ d q=>a2 d _ q λ _=>by nofun) λ d xs q=>a2 d _ q λ _=>by nofun
      rintro rfl
      rcases hd with hd|hd
      ·exact zp hd.symm
      ·rw[hP]at hd;cases hd
 | some cv =>
  obtain⟨G,rfl,hq⟩:=c1 cv q
  refine PySem.W.kla_makeFunctionHit (mg:=X.mg) b0 I.ok.glob a0 Z hC oP ht q hb λ J h' tk hk hsz=>?_
  refine⟨.ref h'.objs.size,_,I.laid (t':=tk) (λ b o e=>aj _ (hk b o e)) hsz (ax1 (aP _ rfl)),rfl,hq h'.objs.size _ J (I.hok.fresh hsz)⟩
structure Caught (cl:List (Str×Addr))(N:List Str)(kd:Str->Option bO)(σ:St)(H1 H2:Hp):Prop where
 ne:∀ b,isC cl b≠true->H2 b=H1 b
 free:∀ b,isC cl b=true->H1 b=none
 cells:Cells cl H2
 cap:∀(i:Nat) (x:Str) (v:V) (c:Addr),N[i]?=some x->σ[i]?=some (some v)->(kd x=some .cell\/kd x=some .free)->cl.lookup x=some c->∃ o u,H2 c=some (.frz o (.own c))/\o.data=.cell (some u)/\RelV v u
 inj:∀ x y c,cl.lookup x=some c->cl.lookup y=some c->x=y
def bV2 (cl:List (Str×Addr))(N:List Str)(kd:Str->Option bO)(sp:Sp)(t:TA):TE:=λ σ H Q=>t σ H λ vs H1=>∀ H2,Caught cl N kd σ H1 H2->sp vs H2 (λ v H3=>Q v (ac7 cl H3)) E0
theorem bz1 {X:Cx}{k:Nat}{f:Addr}{fd:bI}{ps:List Str}{sp:Sp}{Y:List (Addr×Obj)}{σ:St}{H:Hp}{s:ah}{Q:VK}{us:List Value}{vs:List V}(F:FnOk X.prog X.w X.K X.mg X.base CX0 k f fd ps sp)(hr:Room k X.A)(hb:Binds X.K fd ps [])
  (b0:∀ x,X.fn x=true) (I:Inv X Y σ H s) (r:Vals vs us) (h:∀ H2,Caught X.env.cells X.N X.env.kindOf σ H H2->sp vs H2 (λ v H3=>Q v (ac7 X.env.cells H3)) E0):wpAny (model X.prog X.w) X.A (call (.ref f) us) (EP X Y σ Q) X.xe s:=by
 let H2:Hp:=λ b=>if isC X.env.cells b=true then(s.heap.get? b).map λ o=>.frz o (.own b)else H b
 have G:∀ b,isC X.env.cells b≠true->H2 b=H b:=λ b z=>if_neg z
 have J:∀ b,isC X.env.cells b=true->∃ o v,s.heap.get? b=some o/\o.data=.cell v/\H2 b=some (.frz o (.own b)):=λ b z=>by
  obtain⟨x,e⟩:=ag3.mp z
  obtain⟨v,o,g,d⟩:=I.cell x b e
  exact⟨o,v,g,d,by show(if _ then _ else _)=_;rw[if_pos z,g];rfl⟩
 have fr:∀ b,isC X.env.cells b=true->H b=none:=λ b z=>by
  obtain⟨x,e⟩:=ag3.mp z
  exact I.freeC x b e
 have up:∀ b,isC X.env.cells b=true->X.s₀.heap.objs.size<=b:=λ b z=>by
  obtain⟨x,e⟩:=ag3.mp z
  exact I.ok.cab x b (b0 x) e
 have a5:∀ b o,X.s₀.heap.get? b=some o->isC X.env.cells b≠true:=λ b o e z=>absurd (aq (aD e) (up b z)) (bu _)
 have a2:∀ b∈frs X.stack,isC X.env.cells b≠true:=λ b hb z=>by
  rcases aI.mp (I.stkSub b hb)with e|hb
  ·obtain⟨x,e2⟩:=ag3.mp z
   exact I.cne x b e2 e
  ·obtain⟨_,o,ho,_⟩:=I.ok.funs.mem hb
   exact a5 b o ho z
 have a6:HOk X.prog X.w H2 s.heap:=λ b o e=>by
  by_cases z:isC X.env.cells b=true
  ·obtain⟨ob,v,g,d,q⟩:=J b z
   rw[q]at e;cases e
   exact⟨g,ob,g⟩
  ·rw[G b z]at e
   have np:∀ c u,H c=some u->H2 c=some u:=λ c u q=>by rw[G c λ y=>by rw[fr c y]at q;cases q];exact q
   exact(I.hok b o e).stay (λ _ _ _ q=>q) (λ c q=>np c _ q) λ c xs q=>np c _ q
 have nb:∀ b o,X.base.get? b=some o->isC X.env.cells b≠true:=λ b o e=>a5 b o (I.ok.bs b o e).1
 have e0:Env0 X.prog X.w X.K X.mg X.base X.A X.stack s H2:=⟨I.ok.frames,I.ok.mod,λ b o e=>⟨(I.bs b o e).1,by rw[G b (nb b o e)];exact(I.bs b o e).2⟩,am I.ok.bsz I.sz,I.stack,λ b hb=>by rw[G b (a2 b hb)];exact I.stkFree b hb,a6,I.bare⟩
 have ca:Caught X.env.cells X.N X.env.kindOf σ H H2:=⟨G,fr,λ x c e=>by
   obtain⟨o,v,g,d,q⟩:=J c (ag3.mpr ⟨x,e⟩)
   exact⟨o,v,q,d⟩,λ i x v c e1 e2 e3 e4=>by
   obtain⟨m,hn,hl⟩:=I.loc
   have vis:Vis X.env.scope x:=e3.elim (λ z=>.inr (.inl z)) λ z=>.inr (.inr z)
   obtain⟨u,ru,lk⟩:=hl i x v e1 e2 vis
   rcases lk with⟨z,_⟩|⟨_,c2,z1,z2⟩
   ·rcases e3 with y|y<;>(rw[z]at y;cases y)
   ·rw[e4]at z1;cases z1
    obtain⟨o,w',g,d,q⟩:=J c (ag3.mpr ⟨x,e4⟩)
    obtain⟨o2,g2,d2⟩:=z2
    rw[g]at g2;cases g2
    exact⟨o,u,q,d2,ru⟩,I.ok.inj⟩
 have a0:=h H2 ca
 have hl:=F.len _ _ _ _ a0
 have a4:=hb s us I.kIn (by rw[bD,<-r.length];exact hl)
 rw[bD]at a4
 refine j1 (eR (F.run X.A X.stack s H2 ⟨us,[]⟩ us vs _ E0 hr e0 a4 r a0) λ r s' hq=>?_)
 cases r with
 | error e=>exact bF hq
 | ok fl =>
  cases fl with
  | next=>exact bF hq
  | brk=>exact bF hq
  | cont=>exact bF hq
  | ret u =>
   obtain⟨v,H3,os,bare,un,a3,rv,q⟩:=hq
   have a1:∀ b,isC X.env.cells b=true->∃ o,s.heap.get? b=some o/\s'.heap.get? b=some o/\H3 b=some (.frz o (.own b)):=λ b z=>by
    obtain⟨o,v,g,d,q2⟩:=J b z
    have q3:=un.frzs b o _ q2
    exact⟨o,g,(a3 b _ q3).1,q3⟩
   have Z:∀ b u,H b=some u->isC X.env.cells b≠true:=λ b u e y=>by rw[fr b y]at e;cases e
   refine⟨v,_,I.call' (H':=ac7 X.env.cells H3) (ch:=[]) os ⟨λ b o e n hb hx=>?k,λ b o e n hb hx=>?sl,λ b o e n hx=>?fr,λ b o e hx=>un.there b o e hx,λ b xs e=>?tu,λ b o u e=>?fz,λ b ps e=>?tb⟩ (λ b o e=>?hok) bare (λ b z=>absurd z (by simp)),rv,q⟩
   case k =>
    by_cases z:isC X.env.cells b=true
    ·obtain⟨o2,g,g',_⟩:=a1 b z
     rw[e]at g;cases g
     exact g'
    ·exact un.keep b o e (by rw[G b z];exact n) hb hx
   case sl=>exact un.slot b o e (by rw[G b (a2 b hb)];exact n) hb hx
   case fr =>
    by_cases z:isC X.env.cells b=true
    ·exact ac7.cell z
    ·exact ac7.none (un.free b o e (by rw[G b z];exact n) hx)
   case tu =>
    rw[ac7.ne (Z b _ e)]
    exact un.tups b xs (by rw[G b (Z b _ e)];exact e)
   case fz =>
    rw[ac7.ne (Z b _ e)]
    exact un.frzs b o u (by rw[G b (Z b _ e)];exact e)
   case tb =>
    rw[ac7.ne (Z b _ e)]
    exact un.tbls b ps (by rw[G b (Z b _ e)];exact e)
   case hok =>
    obtain⟨z,e3⟩:=ac7.some e
    have np:∀ c u,H3 c=some u->(∀ o w',u≠.frz o w')->ac7 X.env.cells H3 c=some u:=λ c u q d=>by
     rw[ac7.ne λ y=>by obtain⟨o,_,_,q3⟩:=a1 c y;rw[q]at q3;cases q3;exact d _ _ rfl];exact q
    exact(a3 b o e3).stay (λ _ _ _ q=>q) (λ c q=>np c _ q λ _ _=>by nofun) λ c xs q=>np c _ q λ _ _=>by nofun
theorem aL3 {X:Cx}{k:Nat}{f:Addr}{fd:bI}{ps:List Str}{sp:Sp}{x:Str}{p pos:Pos}{e:Expr}{es:List Expr}{t:TA}(F:FnOk X.prog X.w X.K X.mg X.base CX0 k f fd ps sp)(hr:Room k X.A)(hg:Gl X x)(hm:X.mg x=some (.ref f))(hk:cf X.K (.ref f)=true)(hb:Binds X.K fd ps [])
  (J:∀ x,X.fn x=true) (ha:PA X (e::es) t) (Y:(x==("__debug__":Str))=false:=by decide) (he:bn (e::es) X.env=(false,eval e X.env)::bn es X.env:=by rfl) (G:(d4 pos (bn es X.env)).any (·.1)=false:=by rfl) :
  PE X (.Call (.Name x p) (e::es) [] pos) (bV2 X.env.cells X.N X.env.kindOf sp t):=by
 intro y s σ H Q I h
 refine cb (av4 I hg hm ?_ Y)
 refine iA (h₀:=X.base) I.ok.mod.kin hk (thn (ha pos y s σ H _ I h) λ us s1 ⟨vs,H1,Z,r,q⟩=>⟨Z.kIn,?_⟩) he G
 exact bz1 F hr hb J Z r q
def bv9 (K:ae)(H:Hp)(f:Addr):Prop:=(∃ fd,H f=some (aw4 f fd))\/∃ oc od fd sl,K.lookup f=some ⟨oc,od,.func fd,sl⟩
theorem bv9.at {X:Cx}{y:List (Addr×Obj)}{σ:St}{H:Hp}{s:ah}{f:Addr}(h:bv9 X.K H f)(I:Inv X y σ H s):PySem.W.FnAt f s.heap:=by
 rcases h with⟨G,h⟩|⟨oc,od,G,sl,h⟩
 ·exact⟨_,_,_,_,av5 I.hok h⟩
 ·exact⟨_,_,_,_,I.kIn _ _ h⟩
def bT2 (P:aN)(w:World)(K:ae)(mg:Str->Option Value)(base:Heap)(k:Nat)(i:Nat)(t:TA):TE:=λ σ H Q=>∃ f,σ[i]?=some (some (.ref f))/\bv9 K H f/\t σ H λ vs H1=>bv9 K H1 f/\∃ R sp,ClOk P w K mg base k R f sp/\R H1/\sp vs H1 Q E0
theorem bV0 {X:Cx}{k:Nat}{f:Addr}{sp:Sp}{R:Hp->Prop}{y:List (Addr×Obj)}{σ:St}{H:Hp}{s:ah}{Q:VK}{us:List Value}{vs:List V}(F:ClOk X.prog X.w X.K X.mg X.base k R f sp)(J:Room k X.A)(I:Inv X y σ H s)(G:R H)(r:Vals vs us)(h:sp vs H Q E0) :
  wpAny (model X.prog X.w) X.A (call (.ref f) us) (EP X y σ Q) X.xe s:=by
 refine j1 (eR (F.run X.A X.stack s H us vs Q J I.env0 G r h) λ r s' hq=>?_)
 cases r with
 | error e=>exact bF hq
 | ok fl =>
  cases fl with
  | ret u=>exact I.after hq
  | next=>exact bF hq
  | brk=>exact bF hq
  | cont=>exact bF hq
theorem bl7 {X:Cx}{P:aN}{w:World}{K:ae}{mg:Str->Option Value}{base:Heap}{k i:Nat}{x:Str}{p pos:Pos}{e:Expr}{es:List Expr}{t:TA}(hP:X.prog=P)(hw:X.w=w)(hK:X.K=K)(J:X.mg=mg)(Y:X.base=base)(hr:Room k X.A)(hv:PE X (.Name x p) (bs1 i))(ha:PA X (e::es) t)
  (he:bn (e::es) X.env=(false,eval e X.env)::bn es X.env:=by rfl) (G:(d4 pos (bn es X.env)).any (·.1)=false:=by rfl) :
  PE X (.Call (.Name x p) (e::es) [] pos) (bT2 P w K mg base k i t):=by
 subst hP hw hK J Y
 intro y s σ H Q I h
 obtain⟨f,hσ,hf,ht⟩:=h
 refine cb (thn (hv y s σ H (λ v H'=>v=.ref f/\H'=H) I ⟨.ref f,hσ,rfl,rfl⟩) λ u s0 ⟨v,H0,I0,r0,ev,eH⟩=>?_)
 subst ev
 subst eH
 cases r0
 exact PySem.W.callWith_F (q:=f) (hf.at I0) (thn (ha pos y s0 σ H0 _ I0 ht) λ us s1 ⟨vs,H1,Z,r,hF,R,sp,F,hR,q⟩=>⟨hF.at Z,bV0 F hr Z hR r q⟩) he G
noncomputable def aA3 (K:ae)(names:List Str):List (Str×Addr×Addr):=names.filterMap λ x=>(bh K x).map λ p=>(x,p)
theorem au2 {K:ae}{names:List Str}{y:Str×Addr×Addr}:y∈aA3 K names↔y.1∈names/\bh K y.1=some y.2:=by
 unfold aA3
 rw[bN]
 constructor
 ·rintro⟨x,hx,e⟩
  obtain⟨p,h,rfl⟩:=bZ.mp e
  exact⟨hx,h⟩
 ·rintro⟨hx,e⟩
  exact⟨y.1,hx,by rw[e];rfl⟩
def bA4 (K:ae)(names:List Str)(base:Heap):Prop:=∀ x∈names,∀ c P,bh K x=some (c,P)->bT base c P
def bx5 (K:ae)(names:List Str)(H:Hp):Prop:=∀ x∈names,∀ c P,bh K x=some (c,P)->H P=some (.tbl #[])
noncomputable def bT6 (K:ae)(names:List Str)(ts:List Addr):Bool:=names.all λ x=>match bh K x with
 | some (c,P)=>i7 K c P&&ts.contains P
 | none=>true
theorem aw0 {K:ae}{x:Str}(h:(bh K x).isSome=true):bh K x=some (((bh K x).getD (0,0)).1,((bh K x).getD (0,0)).2):=by
 obtain⟨p,e⟩:=fG.mp h
 rw[e]
 rfl
def bR2 (H:Hp)(P:Addr)(q:Str):Prop:=∃ ps:Array Value,H P=some (.tbl ps)/\g9 ps.toList/\∀ pos cv,cQ pos ps.toList=some cv->∃ c',cv=.ref c'/\H c'=some (qJ c' q)
def TabsH (T:List (Addr×Str))(H:Hp):Prop:=∀ y∈T,bR2 H y.1 y.2
def bf1 (H H':Hp):Prop:=∀ b o,(∀ ps,o≠.tbl ps)->H b=some o->H' b=some o
theorem bf1.of {H y:Hp}(a:ag9 H y):bf1 H y:=λ c o _ h=>a c o h
theorem TabsH.keep {T:List (Addr×Str)}{H H':Hp}(h:TabsH T H)(k:∀ b o,(∀ G,o≠.lst G)->H b=some o->H' b=some o):TabsH T H':=λ y hy=>by
 obtain⟨ps,e,t,c⟩:=h y hy
 refine⟨ps,k _ _ (λ _=>by nofun) e,t,λ pos J q=>?_⟩
 obtain⟨Y,e1,e2⟩:=c pos J q
 exact⟨Y,e1,k _ _ (λ _=>by unfold qJ;nofun) e2⟩
theorem TabsH.same {T:List (Addr×Str)}{H H':Hp}(h:TabsH T H)(s:ag9 H H'):TabsH T H':=h.keep λ b o _ e=>s b o e
theorem TabsH.new {T:List (Addr×Str)}{H:Hp}{a:Addr}{o:HO}(h:TabsH T H)(n:H a=none):TabsH T (upd H a o):=h.same ((ag9.refl H).new n)
theorem TabsH.put {T:List (Addr×Str)}{H:Hp}{a:Addr}{o:HO}{y:List V}(h:TabsH T H)(n:H a=some (.lst y)):TabsH T (upd H a o):=h.keep λ b u d e=>by
 rw[zm λ z=>by subst z;rw[n]at e;cases e;exact d _ rfl];exact e
theorem TabsH.init {T:List (Addr×Str)}{H:Hp}(h:∀ p∈T.map (·.1),H p=some (.tbl #[])):TabsH T H:=λ y hy =>
 ⟨#[],h _ (bo hy),trivial,λ pos G e=>by simp[cQ]at e⟩
theorem codeAmong_add {pos:Pos}{a b:Int}{c G:Value}:∀(l:List Value),g9 l->cQ pos (l++[cM a,cM b,c])=some G->cQ pos l=some G\/G=c:=by
 intro l
 fun_induction g9 l with
 | case1 =>
  intro _ e
  simp only[dL,cQ,cM]at e
  split at e
  ·exact .inr (av e).symm
  ·cases e
 | case2 x t y u z rest ih =>
  intro h e
  simp only[cw,cQ]at e ⊢
  split at e
  ·rename_i q
   left;rw[if_pos q];exact e
  ·rename_i q
   rw[if_neg q];exact ih h e
 | case3 l h1 h2=>intro h;exact h.elim
theorem bj6 {cells:List (Str×Addr)}{N:List Str}{kd:Str->Option bO}{σ:St}{H1 H2:Hp}{f:Addr}{q:Str}{params:a9}{body:Expr}{scope:Scope}{fr:List Str}{cap:List V}(Z:Caught cells N kd σ H1 H2)
  (hf:∃ pm J h,H1 f=some (aw4 f (bS "<lambda>" q params body scope (af6 cells scope.names []) pm (.ref J) h))/\H1 J=some (qJ J q))
  (Y:∀ x,scope.names.lookup x=some .free->∃ c,cells.lookup x=some c)
  (G:∀(i:Nat) (x:Str) (v:V),fr[i]?=some x->cap[i]?=some v->scope.names.lookup x=some .free/\(kd x=some .cell\/kd x=some .free)/\∃ j:Nat,N[j]?=some x/\σ[j]?=some (some v)) :
  aA0 H2 f q params body scope fr cap (af6 cells scope.names []):=by
 obtain⟨pm,J,h,h1,h2⟩:=hf
 have up:∀ b o,H1 b=some o->H2 b=some o:=λ b o e=>by
  rw[Z.ne b λ z=>by rw[Z.free b z]at e;cases e];exact e
 have sub:∀ x c,(af6 cells scope.names []).lookup x=some c->cells.lookup x=some c:=λ x c e=>by
  rcases clOf_mem (aC e)with z|z
  ·exact z
  ·exact absurd z (by simp)
 refine⟨pm,J,h,up _ _ h1,up _ _ h2,λ x c e=>Z.cells x c (sub x c e),λ x y c e1 e2=>Z.inj x y c (sub x c e1) (sub y c e2),λ x k=>?_,λ i x v e1 e2=>?_⟩
 ·obtain⟨c,e⟩:=Y x k
  exact⟨c,qO e (aC k)⟩
 ·obtain⟨k,kk,j,e3,e4⟩:=G i x v e1 e2
  obtain⟨c,e⟩:=Y x k
  obtain⟨o,u,e5,e6,e7⟩:=Z.cap j x v c e3 e4 kk e
  exact⟨c,o,u,qO e (aC k),e5,e6,e7⟩
theorem Caught.same {cells:List (Str×Addr)}{N:List Str}{kd:Str->Option bO}{σ:St}{y H2:Hp}(h:Caught cells N kd σ y H2):ag9 y H2:=λ b o e=>by
 rw[h.ne b λ z=>by rw[h.free b z]at e;cases e];exact e
theorem Fun.okC {P:aN}{w:World}{K:ae}{mg:Str->Option Value}{y:Heap}{x qual:Str}{st:Stmt}{f c:Addr}{Z:bI}{N ps:List Str}{k:Nat}{sp:Sp}(F:Fun K x qual st f Z)(Y:Z.code=.ref c)(S:FnScope N ps (defScope st))(len:∀ vs H Q E,sp vs H Q E->vs.length=ps.length)
  (G:∀(A:aX) (outer:List Env) (s:ah) (H:Hp) (vs:List V) (Q:VK) (E:XK),Room k (A.deeper (fF qual (defScope st) s.heap.objs.size f (.ref c)))->sp vs H Q E ->
   ∃ t,PSs (bo4 CX0 P w K mg y N qual (defScope st) f (.ref c) A outer s H E).nox (qa st) t/\t { nx:=λ _ H'=>Q .non H',rt:=Q } (aj0 N vs) H):FnOk P w K mg y CX0 (k+1) f Z ps sp:=by
 obtain⟨oc,od,kV,a1,pm,an,a0,ct,a2,rfl,lk,hc⟩:=F.ex
 have e:a0=.ref c:=Y
 subst e
 refine bT9 lk hc S len λ A outer s H vs Q E hr J=>?_
 obtain⟨t,h,q⟩:=G A outer s H vs Q E hr J
 exact⟨t,h.nox,q⟩
noncomputable def rowO (r:List (Option Int)):D:=.tup (r.map optD)
theorem aW3 {X:Cx}{K:ae}(hc:X.calm=true)(hK:X.K=K):ae2 X (.builtin "min") (λ xs H Q=>∃ a ns,xs=[.ref a]/\SqL K H a (ns.map V.int)/\ns≠[]/\∀ m∈ns,(∀ y∈ns,m<=y)->Q (.int m) H):=by
 subst hK
 intro a2 s σ H xs us Q I r h
 obtain⟨a,ns,rfl,hS,a0,q⟩:=h
 obtain⟨u,rfl,ru⟩:=ak7 r
 cases ru
 obtain⟨its,rv,Z,hz⟩:=I.list hS
 have hl:=rv.length
 rw[ax]at hl
 have a1:0<ns.length:=List.length_pos_iff.mpr a0
 refine call_min_walk (di Z.isList ?_)
 have J:a<s.heap.objs.size:=by obtain⟨o,_,e,_⟩:=Z;exact aD e
 have W:=j6 (prog:=X.prog) (w:=X.w) (A:=X.A.in1) (I.ok.hd hc) s.heap.objs.size a (aA J) its.toArray
 let val:Nat->Int:=λ i=>ns.getD i 0
 have G:∀ i v,its.toArray[i]?=some v->∃ t,v=Value.int (val i) t:=λ i v e=>by
  obtain⟨z,t,e1,e2⟩:=ax3 rv (i:=i) (v:=v) (by rw[cB]at e;exact e)
  refine⟨t,?_⟩
  rw[e2]
  show Value.int z t=Value.int (ns.getD i 0) t
  rw[aE,e1]
  rfl
 refine⟨_,_,_,_,_,_,_,rfl,W,⟨⟨_,aP _ rfl,rfl,rfl⟩,?_⟩,λ b hb=>?_,by rw[ay];omega,ko val G,λ v h' tk hP k=>?_⟩
 ·obtain⟨o,e,r⟩:=Z.isList
  exact⟨o,aj _ e,r⟩
 ·show b<(s.heap.push _).objs.size
  rw[bX]
  rcases aI.mp hb with z|z
  ·rw[z];exact dB _
  ·have Y:b=a:=by simpa using z
   rw[Y];exact fy J
 ·obtain⟨z,t,e1,e2⟩:=ax3 rv (i:=dA (λ i j=>decide (val i<val j)) (its.toArray.size - 1)) (v:=v) (by rw[cB]at hP;exact hP)
  subst e2
  have hv:val (dA (λ i j=>decide (val i<val j)) (its.toArray.size - 1))=z:=by
   show ns.getD _ 0=z
   rw[aE,e1]
   rfl
  refine⟨.int z,H,I.kept (h':=h') (t':=tk) λ b o q=>k b o ?_ (aj _ q),⟨t,rfl⟩,q z (aW e1) λ y hy=>?_⟩
  ·intro z
   have Y:b=s.heap.objs.size:=by simpa using z
   exact absurd (aD q) (by rw[Y];exact bu _)
  ·obtain⟨j,hj,e3⟩:=cF.mp hy
   have:=jK val (its.toArray.size - 1) j (by simp only[ay];omega)
   rw[hv]at this
   have e4:val j=y:=by
    show ns.getD j 0=y
    rw[aE,ag hj]
    exact e3
   omega
noncomputable def mx (a b:Int):Int:=if b > a then b else a
section
variable {X:Cx}
end
noncomputable def mx3 (a b c:Int):Int:=mx (mx a b) c
theorem bb7 {X:Cx}(hc:X.calm=true):ae2 X (.builtin "max") (λ y H Q=>∃ i j k,y=[.int i,.int j,.int k]/\Q (.int (mx3 i j k)) H):=by
 intro G s σ H y us Q I r h
 obtain⟨i,j,k,rfl,q⟩:=h
 cases r with
 | cons r1 r =>
  cases r with
  | cons r2 r =>
   cases r with
   | cons r3 r =>
    cases r
    obtain⟨Y,rfl⟩:=r1
    obtain⟨t2,rfl⟩:=r2
    obtain⟨Z,rfl⟩:=r3
    refine max_three_ints (I.ok.hd hc) λ h' tk J=>⟨_,H,I.kept J,?_,q⟩
    unfold mx3 mx
    by_cases h1:j > i
    ·rw[if_pos h1,if_pos h1]
     by_cases h2:k > j
     ·rw[if_pos h2,if_pos h2];exact⟨_,rfl⟩
     ·rw[if_neg h2,if_neg h2];exact⟨_,rfl⟩
    ·rw[if_neg h1,if_neg h1]
     by_cases h2:k > i
     ·rw[if_pos h2,if_pos h2];exact⟨_,rfl⟩
     ·rw[if_neg h2,if_neg h2];exact⟨_,rfl⟩
noncomputable def rnd (x:Int):Int:=if x=0\/x=3 then x else 2
noncomputable def sharp (n:Nat)(s:Nat->Nat->Int)(i j:Nat):Int:=(minO ((ac n).map λ k=>mx3 (s i k) (rnd (s k k)) (s k j))).getD 3
section
variable {n:Nat} {s:Nat->Nat->Int}
end
def tDef (cells:List (Str×Addr))(P:Addr)(name q:Str)(params:a9)(body:List Stmt)(scope:Scope)(pos:Pos)(i:Nat):TS:=λ D σ H =>
 ∃ ps:Array Value,H P=some (.tbl ps)/\g9 ps.toList /\
  (cQ pos ps.toList=none->∀ c' f doc pm ctv,H c'=none->H f=none->c'≠f ->
   D.nx (σ.set i (some (.ref f))) (upd (upd (upd H P (.tbl (ps++#[cM pos.line,cM pos.col,.ref c']))) c' (qJ c' q)) f (aw4 f (cu name q params body scope (af6 cells scope.names []) .none .none doc pm none (.ref c') ctv)))) /\
  (∀ cv,cQ pos ps.toList=some cv->∃ c',cv=.ref c'/\∀ f doc pm ctv,H f=none->D.nx (σ.set i (some (.ref f))) (upd H f (aw4 f (cu name q params body scope (af6 cells scope.names []) .none .none doc pm none (.ref c') ctv))))
theorem bS7 {X:Cx}{c P:Addr}{name q:Str}{i:Nat}{params:a9}{body:List Stmt}{scope:Scope}{pos:Pos}(hN:X.N.Nodup)(hi:X.N[i]?=some name)(hx:Loc X.env.scope name)(Z:X.env.code=.ref c)(C:bT X.base c P)(hB:BM X.mg X.base)
  (e5:lamCheck scope X.env.scope=true) (hq:j8 X.env name name=q:=by rfl) (e0:params.defaults=[]:=by rfl) (hk0:params.kw_defaults=[]:=by rfl) (ha:annTrees params none X.env=[]:=by rfl) (hf:X.fn name=true\/X.env.scope.names.lookup name=some .local:=by first|exact .inl rfl|exact .inr rfl) :
  PS X (.FunctionDef name params body [] none [] scope none name pos) (tDef X.env.cells P name q params body scope pos i):=by
 intro a1 s σ H D I h
 have e4:∀ y∈scope.names,y.2=.free->X.env.kindOf y.1=some .cell\/X.env.kindOf y.1=some .free:=λ y hy e=>by
  have z:=aO.mp e5 y hy
  have z':X.env.scope.names.lookup y.1=some .cell\/X.env.scope.names.lookup y.1=some .free:=by simpa [e]using z
  exact z'
 obtain⟨ps,hP,ht,a3,c3⟩:=h
 refine PySem.W.nestDef_K e0 hk0 ha ?_
 rw[hq]
 have fin:∀ {H2:Hp} {f:Addr} {s2:ah},Inv X a1 σ H2 s2->D.nx (σ.set i (some (.ref f))) H2->wpAny (model X.prog X.w) X.A (fQ X.env name (.ref f)) (λ _ s3=>SP X a1 D .next s3) X.xe s2:=λ {H2 f s2} I2 q2=>aw6 (v:=.ref f) I2 hN hi hx rfl (λ s3 I3=>⟨_,H2,I3,q2⟩) hf
 have c0:=qF (scope:=scope) (env:=X.env) λ y hy e=>I.ok.has y.1 (e4 y hy e)
 have oP:s.heap.get? P=some (d9 ps):=I.hok P _ hP
 have a2:s.heap.Ns bj X.mg:=I.mod.glob.keeps I.bk
 have hC:bT s.heap c P:=C.keeps I.bk
 have c4:bj≠P:=λ q=>by
  obtain⟨o,es,ep,e,d,_⟩:=a2
  rw[q,oP]at e;cases e;cases d
 have hb:s.heap.BuiltinsAt X.mg P:=by
  obtain⟨bm,ob,b1,b2,b3,b4,b5,b6⟩:=hB
  refine⟨bm,ob,b1,b2,λ q=>?_,λ q=>?_,I.bk _ _ b3,b4,b5,b6⟩
  ·obtain⟨o,es,ep,e,d,_⟩:=I.mod.glob
   rw[q,e]at b3;cases b3;rw[d]at b6;cases b6
  ·have e:=I.bk _ _ b3
   rw[q,oP]at e;cases e;cases b4
 cases qq:cQ pos ps.toList with
 | none =>
  refine PySem.W.makeFunction_K (mg:=X.mg) c0 I.ok.glob a2 Z hC oP ht qq c4 hb λ G Y J h' tk hx hge hlt a5 b0=>?_
  have c1:P<s.heap.objs.size:=aD oP
  have d1:G≠P:=dw (aq c1 hge)
  have d3:h'.objs.size≠P:=dw (cG (aq c1 hge) hlt)
  have d2:G≠h'.objs.size:=aA hlt
  have hsz:s.heap.objs.size<=h'.objs.size:=am hge (dv hlt)
  have nP:∀ b,H b=none->b≠P:=λ b n z=>by rw[z,hP]at n;cases n
  have lt:∀ b o,H b=some o->b≠G/\b≠h'.objs.size:=λ b o e=>⟨aA (aq (I.hok.lt e) hge),aA (aq (I.hok.lt e) hsz)⟩
  have a4:∀ b o,s.heap.get? b=some o->b≠G/\b≠h'.objs.size:=λ b o e=>⟨aA (aq (aD e) hge),aA (aq (aD e) hsz)⟩
  have keep:∀ b o,b≠P->s.heap.get? b=some o->(h'.push (PySem.W.fnMade name q params body scope (af6 X.env.cells scope.names []) J ((X.mg "__name__").getD .none) G Y)).get? b=some o:=λ b o n e=>aj _ (hx b o n e)
  have a0:∀ b,b≠P->b≠G->b≠h'.objs.size->∀ o1 o2 o3,upd (upd (upd H P o1) G o2) h'.objs.size o3 b=H b:=λ b n1 n2 n3 o1 o2 o3=>by rw[zm n3,zm n2,zm n1]
  refine fin (H2:=upd (upd (upd H P (.tbl (ps++#[cM pos.line,cM pos.col,.ref G]))) G (qJ G q)) h'.objs.size (aw4 h'.objs.size (cu name q params body scope (af6 X.env.cells scope.names []) .none .none J ((X.mg "__name__").getD .none) none (.ref G) Y))) (I.un (t':=tk) ⟨λ b o e n _ _=>keep b o (nP b n) e,λ b o e n _ _=>⟨o.slots,keep b o (nP b n) e⟩,λ b o e n _=>?fr,λ b o e _=>?th,λ b xs e=>?tu,λ b o u e=>?fz,λ b qs e=>?tb⟩ ?ok) (a3 qq G h'.objs.size J _ Y (I.hok.fresh hge) (I.hok.fresh hsz) d2)
  case fr=>rw[a0 b (nP b n) (a4 b o e).1 (a4 b o e).2];exact n
  case th =>
   by_cases z:b=P
   ·subst z;exact⟨_,aj _ b0⟩
   ·exact⟨o,keep b o z e⟩
  case tu=>rw[a0 b (λ z=>by rw[z,hP]at e;cases e) (lt b _ e).1 (lt b _ e).2];exact e
  case fz=>rw[a0 b (λ z=>by rw[z,hP]at e;cases e) (lt b _ e).1 (lt b _ e).2];exact e
  case tb =>
   by_cases z:b=P
   ·subst z
    rw[hP]at e;cases e
    exact⟨#[cM pos.line,cM pos.col,.ref G],by rw[zm (bU d3),zm (bU d1),zo]⟩
   ·exact⟨#[],by rw[a0 b z (lt b _ e).1 (lt b _ e).2,e];simp⟩
  case ok =>
   intro b o e
   by_cases zf:b=h'.objs.size
   ·subst zf
    rw[zo]at e;cases e
    exact ax1 (aP _ rfl)
   ·rw[zm zf]at e
    by_cases zc:b=G
    ·subst zc
     rw[zo]at e;cases e
     obtain⟨c2,oc,vs,t,e1,e2,e3⟩:=a5
     exact aK8 ⟨c2,oc,vs,t,e1,aj _ e2,e3⟩
    ·rw[zm zc]at e
     by_cases zp:b=P
     ·subst zp
      rw[zo]at e;cases e
      exact aj _ b0
     ·rw[zm zp]at e
      have a6:∀ d u,H d=some u->(∀ ps,u≠.tbl ps)->upd (upd (upd H P (.tbl (ps++#[cM pos.line,cM pos.col,.ref G]))) G (qJ G q)) h'.objs.size (aw4 h'.objs.size (cu name q params body scope (af6 X.env.cells scope.names []) .none .none J ((X.mg "__name__").getD .none) none (.ref G) Y)) d=some u:=λ d u e nt=>by
       rw[a0 d (λ z=>by rw[z,hP]at e;cases e;exact nt _ rfl) (lt d _ e).1 (lt d _ e).2];exact e
      refine(I.hok b o e).stay (λ d u hd q=>keep d u ?_ q) (λ d q=>a6 d _ q λ _=>by nofun) λ d xs q=>a6 d _ q λ _=>by nofun
      rintro rfl
      rcases hd with hd|hd
      ·exact zp hd.symm
      ·rw[hP]at hd;cases hd
 | some cv =>
  obtain⟨G,rfl,d0⟩:=c3 cv qq
  refine PySem.W.makeFunction_hit (mg:=X.mg) c0 I.ok.glob a2 Z hC oP ht qq hb λ Y J h' tk hk hsz=>?_
  exact fin (I.laid (t':=tk) (λ b o e=>aj _ (hk b o e)) hsz (ax1 (aP _ rfl))) (d0 h'.objs.size J _ Y (I.hok.fresh hsz))
def aq3 (H:Hp)(f:Addr)(name qual:Str)(params:a9)(body:List Stmt)(scope:Scope)(fr:List Str)(cap:List V)(clos:List (Str×Addr)):Prop :=
 ∃ doc pm c' ctv,H f=some (aw4 f (cu name qual params body scope clos .none .none doc pm none (.ref c') ctv))/\H c'=some (qJ c' qual)/\Cells clos H /\
  (∀ x y c,clos.lookup x=some c->clos.lookup y=some c->x=y)/\(∀ x,scope.names.lookup x=some .free->∃ c,clos.lookup x=some c)/\Cap clos H fr cap
theorem bk8 {cells:List (Str×Addr)}{N:List Str}{kd:Str->Option bO}{σ:St}{H1 H2:Hp}{f:Addr}{q:Str}{name:Str}{params:a9}{body:List Stmt}{scope:Scope}{fr:List Str}{cap:List V}(ca:Caught cells N kd σ H1 H2)
  (hf:∃ h pm Y G,H1 f=some (aw4 f (cu name q params body scope (af6 cells scope.names []) .none .none h pm none (.ref Y) G))/\H1 Y=some (qJ Y q))
  (Z:∀ x,scope.names.lookup x=some .free->∃ c,cells.lookup x=some c)
  (J:∀(i:Nat) (x:Str) (v:V),fr[i]?=some x->cap[i]?=some v->scope.names.lookup x=some .free/\(kd x=some .cell\/kd x=some .free)/\∃ j:Nat,N[j]?=some x/\σ[j]?=some (some v)) :
  aq3 H2 f name q params body scope fr cap (af6 cells scope.names []):=by
 obtain⟨h,pm,Y,G,h1,h2⟩:=hf
 have up:∀ b o,H1 b=some o->H2 b=some o:=λ b o e=>by
  rw[ca.ne b λ z=>by rw[ca.free b z]at e;cases e];exact e
 have sub:∀ x c,(af6 cells scope.names []).lookup x=some c->cells.lookup x=some c:=λ x c e=>by
  rcases clOf_mem (aC e)with z|z
  ·exact z
  ·exact absurd z (by simp)
 refine⟨h,pm,Y,G,up _ _ h1,up _ _ h2,λ x c e=>ca.cells x c (sub x c e),λ x y c e1 e2=>ca.inj x y c (sub x c e1) (sub y c e2),λ x k=>?_,λ i x v e1 e2=>?_⟩
 ·obtain⟨c,e⟩:=Z x k
  exact⟨c,qO e (aC k)⟩
 ·obtain⟨k,kk,j,e3,e4⟩:=J i x v e1 e2
  obtain⟨c,e⟩:=Z x k
  obtain⟨o,u,e5,e6,e7⟩:=ca.cap j x v c e3 e4 kk e
  exact⟨c,o,u,qO e (aC k),e5,e6,e7⟩
theorem aq3.fn {K:ae}{H:Hp}{f:Addr}{name qual:Str}{params:a9}{body:List Stmt}{scope:Scope}{fr:List Str}{cap:List V}{y:List (Str×Addr)}(h:aq3 H f name qual params body scope fr cap y):bv9 K H f:=by
 obtain⟨J,pm,Z,G,Y,_⟩:=h
 exact .inl ⟨_,Y⟩
end L2
end
noncomputable section
namespace L2
open PySem PySem.Spec PyProof.Rows Builtin
section
variable {P:aN} {w:World} {A:aX} {E:Value->ah->Prop} {s:ah}
theorem aH0 {h t:Addr}{i:Nat}{l:Array Value}{v:Value}{Q:Value->ah->Prop}(G:s.heap.IsTupleIter h t i)(J:s.heap.IsTuple t l)(hv:l[i]?=some v)
  (k:∀ h',h'.IsTupleIter h t (i+1)->dZ h s.heap h'->Q v { s with heap:=h' }):wpAny (model P w) A (bR (.ref h)) Q E s:=by
 obtain⟨o,e1,e2,y⟩:=id G
 obtain⟨p,Y,_,n,Z⟩:=J
 unfold bR
 refine ak (cN (name:=cE "__next__") G.typeIs cA (dz cA G.typeIs eU ?_ (eN _)))
 show wpAny _ _ (field (.ref h) 0 >>= _) _ _ _
 refine ak (dW e1 y (x:=.ref t) rfl ?_)
 show wpAny _ _ (if(Value.ref t==Value.none)=true then _ else _) _ _ _
 rw[if_neg (show ¬((Value.ref t==Value.none)=true)from λ z=>nomatch z)]
 show wpAny _ _ (field (.ref h) 1 >>= _) _ _ _
 refine ak (dW e1 y (x:=.int i 0) rfl ?_)
 show wpAny _ _ (g8 (.ref t) >>= _) _ _ _
 refine ak (d7 Y Z ?_)
 simp only[cH,hv]
 refine ak (wpAny_setField e1 y (by simp) (aG ⟨v,rfl,aG (k _ ⟨_,dg _ e1 (Obj.isFreed_of_fields (iH y _)),(Obj.cls_mapFields ..).trans e2,by rw[iH y];simp[cM]⟩ (ib ..))⟩))
theorem aR8 {h t:Addr}{i:Nat}{l:Array Value}{Q:Value->ah->Prop}(J:A.handled=none)(y:s.heap.IsTupleIter h t i)(Y:s.heap.IsTuple t l)(hv:l[i]?=none)
  (k:∀ h' e,jO h s.heap h'->(∃ o,h'.get? e=some o/\o.cls=.type "StopIteration")->E (.ref e) { s with heap:=h' }):wpAny (model P w) A (bR (.ref h)) Q E s:=by
 obtain⟨o,e1,e2,G⟩:=id y
 obtain⟨p,Z,_,n,p2⟩:=Y
 unfold bR
 refine ak (cN (name:=cE "__next__") y.typeIs cA (dz cA y.typeIs eU ?_ (eN _)))
 show wpAny _ _ (field (.ref h) 0 >>= _) _ _ _
 refine ak (dW e1 G (x:=.ref t) rfl ?_)
 show wpAny _ _ (if(Value.ref t==Value.none)=true then _ else _) _ _ _
 rw[if_neg (show ¬((Value.ref t==Value.none)=true)from λ z=>nomatch z)]
 show wpAny _ _ (field (.ref h) 1 >>= _) _ _ _
 refine ak (dW e1 G (x:=.int i 0) rfl ?_)
 show wpAny _ _ (g8 (.ref t) >>= _) _ _ _
 refine ak (d7 Z p2 ?_)
 simp only[cH,hv]
 refine ak (iE (ak (wpAny_setField e1 G (by simp) ?_)))
 show wpAny _ _ (newExc (.type "StopIteration") [] >>= _) _ _ (_:ah)
 refine ak ?_
 simp only[newExc,newTuple]
 refine ak (bH ?_ (by size_fits))
 refine ak (m:=firstArgMember _ _) (wpAny_of_eq (a:=Value.none) (by first|rfl|(simp only[firstArgMember];rfl)) (bH ?_ (by size_fits)))
 simp only[raiseNew]
 refine ak (wpAny_handled ?_)
 first|rw[show A.in1.handled=none from J]|rw[J]
 exact ak (aG (wpAny_throw (k _ _ (((ib ..).extBut.push _).push _) ⟨_,aP _ rfl,rfl⟩)))
end
structure Dw (P:aN)(w:World)(K:ae)(J:It)(it:Addr)(tn:Nat->Heap->Prop):Prop where
 obj:∀ i h,tn i h->∃ o,h.get? it=some o/\∀ v,o.data≠.cell v
 keep:∀ i h h',tn i h->(∀ o,h.get? it=some o->h'.get? it=some o)->tn i h'
 item:∀(X:Cx),X.prog=P->X.w=w->X.K=K->∀(A:aX) (i:Nat) (pins:List (Addr×Obj)) (s:ah) (σ:St) (H:Hp) (Q:Value->ah->Prop) (E:Value->ah->Prop),Inv X pins σ H s->tn i s.heap->J.go i H ->
  (∀ x u h' tk,RelV x u->J.yld i H x H->tn (i+1) h'->dZ it s.heap h'->Q u { s with heap:=h',toks:=tk })->wpAny (model P w) A (bR (.ref it)) Q E s
 done:∀(X:Cx),X.prog=P->X.w=w->X.K=K->∀(A:aX) (i:Nat) (pins:List (Addr×Obj)) (s:ah) (σ:St) (H:Hp) (Q:Value->ah->Prop) (E:Value->ah->Prop),A.handled=none->Inv X pins σ H s->tn i s.heap->J.stop i H ->
  (∀ h' e,jO it s.heap h'->(∃ o,h'.get? e=some o/\o.cls=.type "StopIteration")->E (.ref e) { s with heap:=h' })->wpAny (model P w) A (bR (.ref it)) Q E s
theorem bw7 {P:aN}{w:World}{K:ae}(a it:Addr):Dw P w K (Itl K a) it (λ i h=>h.IsListIter it a i) where
 obj:=λ i h st=>by
  obtain⟨o,e,c,d⟩:=st
  exact⟨o,e,λ v z=>by rw[d]at z;cases z⟩
 keep:=λ i h h' st k=>st.at k
 item:=by
  intro X G hw J A i y s σ H Q E I st Z k
  subst G hw J
  obtain⟨xs,x,hq,hx⟩:=Z
  obtain⟨its,rv,p,hz⟩:=I.list hq
  obtain⟨u,hu,ru⟩:=rv.get hx
  exact wpAny_nextOf_list_item st p.isList (x:=u) (by simpa using hu) λ h' Y sb=>k x u h' s.toks ru ⟨rfl,λ ys hy=>by rw[I.list_inj hy hq];exact hx⟩ Y sb
 done:=by
  intro X G hw J A i y s σ H Q E hA I st Z k
  subst G hw J
  obtain⟨xs,hq,hx⟩:=Z
  obtain⟨its,rv,p,hz⟩:=I.list hq
  have hl:=rv.length
  exact wpAny_nextOf_list_end hA st p.isList (by simp;omega) k
theorem bW4 {P:aN}{w:World}{K:ae}(a it:Addr):Dw P w K (Itt K a) it (λ i h=>h.IsTupleIter it a i) where
 obj:=λ i h st=>by
  obtain⟨o,e,c,d⟩:=st
  exact⟨o,e,λ v z=>by rw[d]at z;cases z⟩
 keep:=λ i h h' st k=>st.at k
 item:=by
  intro X G hw J A i y s σ H Q E I st Z k
  subst G hw J
  obtain⟨xs,x,hq,hx⟩:=Z
  obtain⟨its,rv,p,hz⟩:=I.tuple hq
  obtain⟨u,hu,ru⟩:=rv.get hx
  exact aH0 st (show s.heap.IsTuple a its.toArray from p) (v:=u) (by simpa using hu) λ h' Y sb=>k x u h' s.toks ru ⟨rfl,λ ys hy=>by rw[I.tuple_inj hy hq];exact hx⟩ Y sb
 done:=by
  intro X G hw J A i y s σ H Q E hA I st Z k
  subst G hw J
  obtain⟨xs,hq,hx⟩:=Z
  obtain⟨its,rv,p,hz⟩:=I.tuple hq
  have hl:=rv.length
  exact aR8 hA st (show s.heap.IsTuple a its.toArray from p) (by simp;omega) k
theorem bL7 {P:aN}{w:World}{K:ae}(x:Str)(t:Tok)(it:Addr):Dw P w K (Its x) it (λ i h=>h.IsStrIter it (gR x) x t i) where
 obj:=λ i h st=>by
  obtain⟨o,e,c,d⟩:=st
  exact⟨o,e,λ v z=>by rw[d]at z;cases z⟩
 keep:=λ i h h' st k=>by
  obtain⟨o,ho,r⟩:=st
  exact⟨o,k _ ho,r⟩
 item:=by
  intro X Z hw hK A i J s σ H Q E I st hg k
  subst Z hw hK
  have G:i<x.cps.size:=hg
  have hc:x.cps[i]?=some x.cps[i]:=by simp[G]
  unfold gR at st k
  cases ha:x.cps.all (·<128)
  ·rw[ha]at st k
   exact wpAny_nextOf_wide_item st hc λ h' y Y=>k (.str ⟨#[x.cps[i]]⟩) _ h' (s.toks+1) ⟨_,rfl⟩ ⟨rfl,_,hc,rfl⟩ y Y
  ·rw[ha]at st k
   exact wpAny_nextOf_ascii_item st hc λ h' y Y=>k (.str ⟨#[x.cps[i]]⟩) _ h' (s.toks+1) ⟨_,rfl⟩ ⟨rfl,_,hc,rfl⟩ y Y
 done:=by
  intro X Z hw hK A i J s σ H Q E hA I st hg k
  subst Z hw hK
  have G:x.cps.size<=i:=hg
  have hc:x.cps[i]?=none:=by simp[G]
  unfold gR at st
  cases ha:x.cps.all (·<128)
  ·rw[ha]at st
   exact wpAny_nextOf_wide_end hA st hc k
  ·rw[ha]at st
   exact wpAny_nextOf_ascii_end hA st hc k
section
variable {X:Cx} {pins:List (Addr×Obj)} {σ:St} {H:Hp} {s:ah} {A:aX} {E:Value->ah->Prop} {J1 J2:It} {t1 t2:Nat->Heap->Prop} {z ti to i1 i2:Addr} {n:Nat} {a b:Value}
end
def Mkr (v:Value)(o:Obj)(h:Heap):Prop:=∀(P:aN) (w:World) (A:aX) (E:Value->ah->Prop) (s:ah) (Q:Value->ah->Prop),(∀ b u,h.get? b=some u->s.heap.get? b=some u) ->
 Q (.ref s.heap.objs.size) { s with heap:=s.heap.push o }->wpAny (model P w) A (kx v) Q E s
def Sr (K:ae)(H:Hp)(x:V)(J:It):Prop:=(∃ a,x=.ref a/\(∃ xs,SqL K H a xs)/\J=Itl K a)\/(∃ a,x=.ref a/\(∃ xs,SqT K H a xs)/\J=Itt K a)\/∃ y,x=.str y/\J=Its y
theorem Sr.mk {X:Cx}{Y:List (Addr×Obj)}{σ:St}{H:Hp}{s:ah}{x:V}{u:Value}{J:It}(I:Inv X Y σ H s)(h:Sr X.K H x J)(r:RelV x u) :
  ∃(o:Obj) (Z:Addr->Nat->Heap->Prop),o.isFreed=false/\Mkr u o s.heap/\(∀ G,Dw X.prog X.w X.K J G (Z G))/\∀ G h',h'.get? G=some o->Z G 0 h':=by
 rcases h with⟨a,e,⟨xs,hq⟩,e'⟩|⟨a,e,⟨xs,hq⟩,e'⟩|⟨y,e,e'⟩
 ·subst e e';cases r
  obtain⟨its,rv,p,hz⟩:=I.list hq
  exact⟨_,λ G i h=>h.IsListIter G a i,rfl,λ P w A E s' Q hk q=>di (p.isList.at λ o e=>hk _ _ e) q,λ G=>bw7 a G,λ G h' e=>⟨_,e,rfl,rfl⟩⟩
 ·subst e e';cases r
  obtain⟨its,rv,p,hz⟩:=I.tuple hq
  exact⟨_,λ G i h=>h.IsTupleIter G a i,rfl,λ P w A E s' Q hk q=>iy (Heap.IsTuple.at (show s.heap.IsTuple a its.toArray from p) λ o e=>hk _ _ e) q,λ G=>bW4 a G,λ G h' e=>⟨_,e,rfl,rfl⟩⟩
 ·subst e e';obtain⟨t,rfl⟩:=r
  exact⟨_,λ G i h=>h.IsStrIter G (gR y) y t i,rfl,λ P w A E s' Q hk q=>wpAny_pyIter_strU q,λ G=>bL7 y t G,λ G h' e=>⟨_,e,rfl,rfl⟩⟩
end L2
end
noncomputable section
namespace L2
open PySem PySem.Spec PyProof.Rows Builtin
open AutoSeq1 (wpAny_loadPart')
section
variable {X:Cx} {pins:List (Addr×Obj)} {σ:St} {H:Hp} {s:ah} {A:aX} {E:Value->ah->Prop} {J1:It} {t1:Nat->Heap->Prop} {z it:Addr} {n:Nat} {old:Value}
end
end L2
end
noncomputable section
namespace L2
open PySem PySem.Spec PyProof.Rows Builtin
open AutoSeq1 (wpAny_loadPart')
theorem aH4:fillsNumberSlot (.type "tuple") "mul"=pure false :=
 PySem.fillsNumberSlot_seq (id := "tuple.__mul__") (r:=some (.builtin "tuple.__rmul__")) ee.lookup (by decide +kernel) fW.lookup (by decide +kernel)
theorem aR2:seqRepeat? (.type "tuple")=pure (some (.builtin "tuple.__mul__")):=by
 unfold seqRepeat?
 rw[i8 (T := "tuple") (name := "__mul__") (id := "tuple.__mul__") ee.lookup (by decide +kernel),i8 (T := "tuple") (name := "__rmul__") (id := "tuple.__rmul__") fW.lookup (by decide +kernel)]
 rfl
theorem aE0 (a:Int)(t:Tok)(l:Addr)(o:Obj)(y:Array Value)(n:Nat)(G:Option Addr)(sl:Array (Option Value)) :
  Meets (Builtin.«int.__rmul__» ⟨[.int a t,.ref l],[]⟩) (λ _ R s=>s.heap.get? l=some { cls:=.type "tuple",dict:=G,data:=.seq y n,slots:=sl }/\R (.ok (.ret Value.notImplemented)) s) :=
 .of_wp λ prog w A R s h=>by obtain⟨J,g,d,tk,os⟩:=s;obtain⟨hl,h⟩:=h;wp_walk;exact⟨_,rfl,h⟩
noncomputable def at6 {α:Type}:Nat->List α->List α
 | 0,_=>[]
 | n+1,a=>a++at6 n a
theorem aM7 {α:Type}(l:List α):∀(n:Nat) (h:Array α),(ar n l.toArray).foldl (·++·) h=h++(at6 n l).toArray
 | 0,h=>by simp[at6]
 | n+1,h=>by rw[bM,cj,aM7 l n];simp[at6]
theorem aF0 {α:Type}(a:Array α):∀(n:Nat) (h:Array α),((ar n a).foldl (·++·) h).size=h.size+a.size*n
 | 0,h=>by simp
 | n+1,h=>by rw[bM,cj,aF0 a n,Array.size_append,Nat.mul_succ];omega
def TmA (items:Array Value)(k:Int)(l:Addr)(R:Value->ah->Prop)(s:ah):Prop :=
 ((items.isEmpty||k==1)=true->R (.ref l) s)/\((items.isEmpty||k==1)=false->R (.ref s.heap.objs.size) { s with heap:=s.heap.push { cls:=.type "tuple",data:=.seq ((ar k.toNat items).foldl (·++·) #[]) } })
theorem bg4 {P:aN}{w:World}{A:aX}{E:Value->ah->Prop}{s:ah}{l:Addr}{y:Array Value}{k:Int}{t:Tok}{Q:Value->ah->Prop}(h0:0<=k)(Z:k<=1000000)(hz:y.size*k.toNat<=1000000)(hl:IsTup s.heap l y)
  (h:TmA y k l Q s):wpAny (model P w) A (call (.builtin "tuple.__mul__") [.ref l,.int k t]) Q E s:=by
 refine dz ee hl.typeIs PySem.F.entry_tuple_mul ?_ (PySem.F.args_tuple_mul_2 _ _)
 obtain⟨G,q2⟩:=h
 show wpAny _ _ (asIndex (.int k t) >>= _) _ _ _
 refine ak (aG ?_)
 rw[if_neg (by rw[decide_eq_false (by omega),decide_eq_false (by omega)];decide)]
 show wpAny _ _ (dt (.ref l) >>= _) _ _ _
 refine ak (io hl ?_)
 have Y:(y.size:Int)*k<=1000000:=by
  have:((y.size*k.toNat:Nat):Int)<=1000000:=by omega
  rw[dM,ic h0]at this
  exact this
 cases hb:(y.isEmpty||k==1)with
 | true =>
  rw[if_pos rfl]
  unfold j9
  refine ak (ak (gb hl.typeIs (aG ?_)))
  rw[if_pos (by decide)]
  exact ak (iE (aG ⟨_,rfl,G hb⟩))
 | false =>
  rw[if_neg aR]
  have J:y.isEmpty=false:=by
   rw[eG]at hb;exact hb.1
  have q:=q2 hb
  show wpAny _ _ (if(decide (k<=0)||y.isEmpty)=true then _ else _) _ _ _
  by_cases hk:k<=0
  ·rw[if_pos (by rw[decide_eq_true hk];rfl)]
   have:k.toNat=0:=by omega
   rw[this]at q
   exact ak (bH (aG ⟨_,rfl,q⟩) (by size_fits))
  ·rw[if_neg (by rw[decide_eq_false hk,J];decide)]
   show wpAny _ _ (if(y.size:Int)*k > (2^63 - 1) / 8 then _ else _) _ _ _
   rw[if_neg (by omega)]
   show wpAny _ _ (if fg ((y.size:Int)*k)=true then _ else _) _ _ _
   rw[if_neg (by unfold fg;rw[decide_eq_false (by unfold aL;omega)];decide)]
   refine ak (bH (aG ⟨_,rfl,q⟩) ?_)
   show Array.size _<=aL
   rw[aF0]
   show 0+_<=_
   rw[bq]
   have h3:y.size*k.toNat<=aL:=am hz (by decide)
   exact h3
theorem aK6 {α:Type}:∀ n,at6 n ([]:List α)=[]
 | 0=>rfl
 | n+1=>by simp[at6,aK6 n]
theorem bk7 {α:Type}(l:List α):at6 1 l=l:=by simp[at6]
theorem aN2 {α:Type}(l:List α):∀ n,(at6 n l).length=l.length*n
 | 0=>by simp[at6]
 | n+1=>by simp[at6,aN2 l n,dY];omega
theorem Vals.repT {h:List V}{us:List Value}(r:Vals h us):∀ n,Vals (at6 n h) (at6 n us)
 | 0=>.nil
 | n+1=>r.append (Vals.repT r n)
def ch5 (K:ae):R2:=λ x y H Q=>∃ a xs n,x=.ref a/\y=.int n/\SqT K H a xs/\(0<=n/\n<=1000000/\xs.length*n.toNat<=1000000)/\∀ p H',ag9 H H'->SqT K H' p (at6 n.toNat xs)->Q (.ref p) H'
theorem bH8 {X:Cx}{K:ae}(hK:X.K=K):OpR X (b9 .Mult) (ch5 K):=by
 subst hK
 intro Z s σ H x y v u Q I rx ry h
 obtain⟨a,Y,n,rfl,rfl,ha,⟨h0,h1,hz⟩,q⟩:=h
 cases rx
 obtain⟨t,rfl⟩:=ry
 obtain⟨its,r1,J,a0⟩:=I.tuple ha
 have G:=r1.length
 obtain⟨⟨cls,dd,data,sl⟩,ho,hc,n1,hd⟩:=id J
 simp only at hc hd
 subst hc hd
 refine fh (T := "tuple") (U := "int") (by decide) J.typeIs (λ s'=>gi s' n t) aH4 iD dR aR2 hV.lookup
  (iC dR (gi s n t) hZ (gN _ _) (aE0 n t a default its.toArray n1 dd sl) ⟨ho,⟨rfl,J.typeIs,bg4 h0 h1 (by rw[ay,<-G];exact hz) J ⟨λ hb=>?_,λ hb=>?_⟩⟩⟩)
 ·refine⟨.ref a,H,I,rfl,q a H (ag9.refl H) ?_⟩
  rw[bP]at hb
  rcases hb with hb|hb
  ·have hi:its=[]:=by simpa using hb
   have hx:Y=[]:=r1.nil_iff.mp hi
   rw[hx,aK6];rw[hx]at ha;exact ha
  ·have:n=1:=by simpa using hb
   subst this
   show SqT _ _ _ (at6 1 Y)
   rw[bk7];exact ha
 ·have hp:=I.hok.fresh (ai s.heap.objs.size)
  refine⟨.ref s.heap.objs.size,_,I.laid (t':=s.toks) (o:=.tup (at6 n.toNat Y)) (λ b ob q=>aj _ q) (ai _) ?_,rfl,q _ _ ((ag9.refl H).new hp) (SqT.of zo)⟩
  refine⟨by rw[aN2];exact am hz (by decide),at6 n.toNat its,r1.repT _,?_⟩
  rw[show(at6 n.toNat its).toArray=(ar n.toNat its.toArray).foldl (·++·) #[]by rw[aM7];simp]
  exact⟨_,aP _ rfl,rfl,_,rfl⟩
end L2
end
noncomputable section
namespace L2
open PySem PySem.Spec PyProof.Rows
section
variable {κ:Type} [DecidableEq κ]
noncomputable def aM5 (kvs:List (κ×V))(k:κ):Option V:=(kvs.find? λ kv=>decide (kv.1=k)).map (·.2)
noncomputable def az2 (kvs:List (κ×V))(k:κ)(v:V):List (κ×V) :=
 if(kvs.any λ kv=>decide (kv.1=k))=true then kvs.map (λ kv=>if kv.1=k then(kv.1,v)else kv)else kvs++[(k,v)]
theorem al7 {p:κ×V}{r:List (κ×V)}{k:κ}(e:p.1=k):aM5 (p::r) k=some p.2:=by simp[aM5,cZ,e]
theorem am3 {p:κ×V}{r:List (κ×V)}{k:κ}(e:¬ p.1=k):aM5 (p::r) k=aM5 r k:=by simp[aM5,cZ,e]
theorem av0 (k:κ):∀ h:List (κ×V),(h.any λ y=>decide (y.1=k))=(aM5 h k).isSome
 | []=>rfl
 | p::r=>by
  rw[fM]
  by_cases e:p.1=k
  ·simp only[al7 e,decide_eq_true e,Bool.true_or,fe]
  ·rw[am3 e,decide_eq_false e,kn];exact av0 k r
theorem jI (h:List (κ×V))(k:κ)(v:V):(az2 h k v).length<=h.length+1:=by
 unfold az2
 split
 ·rw[ax];omega
 ·rw[aQ,aU,c5];omega
theorem aY2.isSome_eq {o:Option V}{u:Option Value}(r:aY2 o u):o.isSome=u.isSome:=by
 cases o with
 | none=>cases u with
  | none=>rfl
  | some _=>exact(show False from r).elim
 | some _=>cases u with
  | none=>exact(show False from r).elim
  | some _=>rfl
theorem KV.val {y:List (κ×V)}{vs:List (κ×Value)}(r:KV y vs)(k:κ):aY2 (aM5 y k) (hG vs k):=by
 unfold KV at r
 induction r with
 | nil=>exact True.intro
 | @cons p q ps qs h t ih =>
  obtain⟨G,J⟩:=h
  by_cases e:p.1=k
  ·have e':q.1=k:=G.symm.trans e
   have b:hG (q::qs) k=some q.2:=by simp[hG,cZ,e']
   rw[al7 e,b];exact J
  ·have e':¬ q.1=k:=λ z=>e (G.trans z)
   have b:hG (q::qs) k=hG qs k:=by simp[hG,cZ,e']
   rw[am3 e,b];exact ih
theorem KV.any {y:List (κ×V)}{vs:List (κ×Value)}(r:KV y vs)(k:κ):(y.any λ G=>decide (G.1=k))=vs.any λ G=>decide (G.1=k):=by
 unfold KV at r
 induction r with
 | nil=>rfl
 | cons h t ih=>rw[fM,fM,ih,h.1]
theorem KV.repl {J:List (κ×V)}{vs:List (κ×Value)}(r:KV J vs)(k:κ){y:V}{u:Value}(Z:RelV y u) :
  KV (J.map λ G=>if G.1=k then(G.1,y)else G) (vs.map λ G=>if G.1=k then(G.1,u)else G):=by
 unfold KV at r ⊢
 induction r with
 | nil=>exact .nil
 | @cons p q ps qs h t ih =>
  rw[aJ,aJ]
  refine .cons ?_ ih
  obtain⟨Y,h2⟩:=h
  by_cases e:p.1=k
  ·rw[if_pos e,if_pos (Y.symm.trans e)];exact⟨Y,Z⟩
  ·rw[if_neg e,if_neg (λ z=>e (Y.trans z))];exact⟨Y,h2⟩
theorem KV.put {h:List (κ×V)}{vs:List (κ×Value)}(r:KV h vs)(k:κ){y:V}{u:Value}(G:RelV y u):KV (az2 h k y) (stored vs k u):=by
 unfold az2 stored
 rw[r.any k]
 by_cases e:(vs.any λ J=>decide (J.1=k))=true
 ·rw[if_pos e,if_pos e];exact r.repl k G
 ·rw[if_neg e,if_neg e];exact kK r ⟨rfl,G⟩
theorem KV.length {h:List (κ×V)}{vs:List (κ×Value)}(r:KV h vs):h.length=vs.length:=ie r
end
theorem aP1 {P:aN}{w:World}{k:Key}{u:Value}(r:RelV (kV k) u):(z4 P w).is k u=true:=by
 cases k with
 | inl i=>obtain⟨t,e⟩:=(show ∃ t,u=Value.int i t from r);subst e;exact aI0 P w i t
 | inr x=>obtain⟨t,e⟩:=(show ∃ t,u=Value.str x t from r);subst e;exact aH9 P w x t
theorem aE2 {P:aN}{w:World}:∀ {y:List Key} {us:List Value},Vals (y.map kV) us->ItemsAre (z4 P w) y us
 | [],_,r=>by rw[cq]at r;cases r;exact .nil
 | k::y,_,r=>by
  rw[aJ]at r
  cases r with
  | cons h t=>exact .cons (aP1 h) (aE2 t)
abbrev KT (H:Hp):List (List Key×V)->List (List Key×Addr×Value)->Prop:=fD λ p q=>p.1=q.1/\H q.2.1=some (.tup (p.1.map kV))/\RelV p.2 q.2.2
theorem KT.val {H:Hp}{y:List (List Key×V)}{G:List (List Key×Addr×Value)}(r:KT H y G)(k:List Key):aY2 (aM5 y k) ((atKey G k).map (·.2)):=by
 induction r with
 | nil=>exact True.intro
 | @cons p q ps qs h t ih =>
  obtain⟨J,_,Y⟩:=h
  by_cases e:p.1=k
  ·have e':q.1=k:=J.symm.trans e
   have b:atKey (q::qs) k=some q.2:=by simp[atKey,cZ,e']
   rw[al7 e,b];exact Y
  ·have e':¬ q.1=k:=λ z=>e (J.trans z)
   have b:atKey (q::qs) k=atKey qs k:=by simp[atKey,cZ,e']
   rw[am3 e,b];exact ih
theorem KT.repl {H:Hp}{G:List (List Key×V)}{Z:List (List Key×Addr×Value)}(r:KT H G Z)(k:List Key){y:V}{u:Value}(ry:RelV y u) :
  KT H (G.map λ Y=>if Y.1=k then(Y.1,y)else Y) (Z.map (putAt k u)):=by
 induction r with
 | nil=>exact .nil
 | @cons p q ps qs h t ih =>
  rw[aJ,aJ]
  refine .cons ?_ ih
  obtain⟨J,h2,h3⟩:=h
  unfold putAt
  by_cases e:p.1=k
  ·rw[if_pos e,if_pos (J.symm.trans e)];exact⟨J,h2,ry⟩
  ·rw[if_neg e,if_neg (λ z=>e (J.trans z))];exact⟨J,h2,h3⟩
theorem KT.put {H:Hp}{h:List (List Key×V)}{G:List (List Key×Addr×Value)}(r:KT H h G)(k:List Key){b:Addr}{y:V}{u:Value}(hb:H b=some (.tup (k.map kV)))(J:RelV y u) :
  KT H (az2 h k y) (storedH G k b u):=by
 have e:(h.any λ Y=>decide (Y.1=k))=(atKey G k).isSome:=by
  rw[av0,(r.val k).isSome_eq,fA]
 unfold az2 storedH
 rw[e]
 by_cases q:(atKey G k).isSome=true
 ·rw[if_pos q,if_pos q];exact r.repl k J
 ·rw[if_neg q,if_neg q];exact kK r ⟨rfl,hb,J⟩
theorem KT.keeps {H H':Hp}{h:List (List Key×V)}{y:List (List Key×Addr×Value)}(r:KT H h y)(G:∀ b ys,H b=some (.tup ys)->H' b=some (.tup ys)):KT H' h y :=
 fD.mapP r λ _ _ z=>⟨z.1,G _ _ z.2.1,z.2.2⟩
section
variable {P:aN} {w:World} {H:Hp} {h:Heap} {a:Addr}
theorem bK7 {u:HO}(ok:HOk P w H h)(e:Rd H a u):ad9 P w H h a u:=e.ok ok
theorem aV0 {y:List (Key×V)}(ok:HOk P w H h)(e:Rd H a (.dK y)):y.length<=aL/\(a==dq)=false/\∃ vs,KV y vs/\h.DictOf (z4 P w) a vs :=
 show ad9 P w H h a (.dK y)from bK7 ok e
theorem bO0 {y:List (Key×V)}(ok:HOk P w H h)(e:H a=some (.dK y)):y.length<=aL/\(a==dq)=false/\∃ vs,KV y vs/\h.DictOf (z4 P w) a vs:=aV0 ok (.inl e)
theorem aD7 {y:List Key}(ok:HOk P w H h)(e:H a=some (.tup (y.map kV))):(g6 (z4 P w)).is h y a:=by
 obtain⟨_,its,r,o,J,G,n,h3⟩:=(show ad9 P w H h a (.tup (y.map kV))from ok a _ e)
 exact⟨o,its.toArray,n,J,G,h3,by simpa using aE2 r⟩
theorem bb4 {G:List (List Key×V)}(ok:HOk P w H h)(e:Rd H a (.dT G)):G.length<=aL/\(a==dq)=false /\
  ∃ J,KT H G J/\h.DictOfH (g6 (z4 P w)) a J:=by
 obtain⟨z,y,J,r,o,es,ep,h1,h2,h3,Y,Z⟩:=(show ad9 P w H h a (.dT G)from bK7 ok e)
 refine⟨z,y,J,r,o,es,ep,h1,h2,h3,Y,λ x hx=>?_,Z⟩
 have all:∀ {l:List (List Key×V)} {m:List (List Key×Addr×Value)},KT H l m->∀ x∈m,(g6 (z4 P w)).is h x.1 x.2.1:=by
  intro l m q
  induction q with
  | nil=>intro x hx;exact nomatch hx
  | @cons p q ps qs hq t ih =>
   intro x hx
   rcases aI.mp hx with e|hx
   ·subst e
    exact aD7 ok (by rw[<-hq.1];exact hq.2.1)
   ·exact ih x hx
 exact all r x hx
theorem cb5 {y:List (List Key×V)}(ok:HOk P w H h)(e:H a=some (.dT y)):y.length<=aL/\(a==dq)=false /\
  ∃ G,KT H y G/\h.DictOfH (g6 (z4 P w)) a G:=bb4 ok (.inl e)
end
def bh6 (H:Hp)(a:Addr)(y:V)(r:Option V):Prop :=
 (∃ kvs k,Rd H a (.dK kvs)/\y=kV k/\r=aM5 kvs k)\/∃ kvs k b,Rd H a (.dT kvs)/\y=.ref b/\H b=some (.tup (k.map kV))/\r=aM5 kvs k
def bZ1 (H:Hp)(a:Addr)(y v:V)(H':Hp):Prop :=
 (∃ kvs k,H a=some (.dK kvs)/\y=kV k/\kvs.length<aL/\H'=upd H a (.dK (az2 kvs k v))) \/
 ∃ kvs k b,H a=some (.dT kvs)/\y=.ref b/\H b=some (.tup (k.map kV))/\kvs.length<aL/\H'=upd H a (.dT (az2 kvs k v))
theorem bh6.k {H:Hp}{a:Addr}{h:List (Key×V)}{k:Key}(e:H a=some (.dK h)):bh6 H a (kV k) (aM5 h k):=.inl ⟨h,k,.inl e,rfl,rfl⟩
theorem bZ1.k {H:Hp}{a:Addr}{h:List (Key×V)}{k:Key}{v:V}(e:H a=some (.dK h))(hl:h.length<aL):bZ1 H a (kV k) v (upd H a (.dK (az2 h k v))):=.inl ⟨h,k,e,rfl,hl,rfl⟩
section
variable {X:Cx} {pins:List (Addr×Obj)} {σ:St} {H:Hp} {s:ah} {a:Addr} {y v:V} {u r:Value} {o:Option V} {A:aX} {E:Value->ah->Prop}
theorem Inv.big (I:Inv X pins σ H s):dq<s.heap.objs.size:=by
 have h:bj<s.heap.objs.size:=(I.mod.glob.keeps I.bk).lt
 exact cG (by decide) h
theorem bb8 {Q:Value->ah->Prop}(hu:A.units+1<cLine)(I:Inv X pins σ H s)(g:bh6 H a y (some v))(ry:RelV y u)(h:∀ Y s',Inv X pins σ H s'->RelV v Y->Q Y s') :
  wpAny (model X.prog X.w) A (ga (.ref a) u) Q E s:=by
 rcases g with⟨a1,k,e,Z,l⟩|⟨a1,k,b,e,Z,eb,l⟩
 ·subst Z
  obtain⟨z,hd,vs,J,dd⟩:=aV0 I.hok e
  obtain⟨Y,hw,G⟩:=aY2.some_of (v:=v) (o:=hG vs k) (by rw[l];exact J.val k)
  exact wpAny_getItem_of (aP1 ry) dd.mapOf hw (h Y _ (I.tok _) G)
 ·subst Z
  cases(show u=Value.ref b from ry)
  obtain⟨z,hd,xs,J,dd⟩:=bb4 I.hok e
  obtain⟨Y,hw,G⟩:=aY2.some_of (v:=v) (o:=(atKey xs k).map (·.2)) (by rw[l];exact J.val k)
  obtain⟨p,hp,a0⟩:=bZ.mp hw
  refine wpAny_getItem_heap (dS hu) (aD7 I.hok eb) dd hp ?_
  rw[a0]
  exact h Y _ (I.tok _) G
theorem d_in {Q:Value->ah->Prop}(hu:A.units+1<cLine)(I:Inv X pins σ H s)(g:bh6 H a y o)(Z:RelV y u)(h:∀ s',Inv X pins σ H s'->Q (.bool o.isSome) s') :
  wpAny (model X.prog X.w) A (c8 .In u (.ref a)) Q E s:=by
 rcases g with⟨Y,k,e,J,l⟩|⟨Y,k,b,e,J,eb,l⟩
 ·subst J
  obtain⟨z,hd,vs,G,dd⟩:=aV0 I.hok e
  refine wpAny_in_of (aP1 Z) hd dd.mapOf ?_
  rw[<-(G.val k).isSome_eq,<-l]
  exact h _ (I.tok _)
 ·subst J
  cases(show u=Value.ref b from Z)
  obtain⟨z,hd,xs,G,dd⟩:=bb4 I.hok e
  refine wpAny_in_heap (dS hu) (aD7 I.hok eb) hd dd ?_
  have q:=(G.val k).isSome_eq
  rw[fA]at q
  rw[<-q,<-l]
  exact h _ (I.tok _)
theorem bx8 {Q:Value->ah->Prop}(hu:A.units+1<cLine)(I:Inv X pins σ H s)(g:bh6 H a y o)(Z:RelV y u)(h:∀ s',Inv X pins σ H s'->Q (.bool (!o.isSome)) s') :
  wpAny (model X.prog X.w) A (c8 .NotIn u (.ref a)) Q E s:=by
 rcases g with⟨Y,k,e,J,l⟩|⟨Y,k,b,e,J,eb,l⟩
 ·subst J
  obtain⟨z,hd,vs,G,dd⟩:=aV0 I.hok e
  refine wpAny_notIn_of (aP1 Z) hd dd.mapOf ?_
  rw[<-(G.val k).isSome_eq,<-l]
  exact h _ (I.tok _)
 ·subst J
  cases(show u=Value.ref b from Z)
  obtain⟨z,hd,xs,G,dd⟩:=bb4 I.hok e
  refine wpAny_notIn_heap (dS hu) (aD7 I.hok eb) hd dd ?_
  have q:=(G.val k).isSome_eq
  rw[fA]at q
  rw[<-q,<-l]
  exact h _ (I.tok _)
theorem aG2 {h':Heap}{t':Nat}{ob:HO}(I:Inv X pins σ H s)(mu:Mut (H a))(hs:dZ a s.heap h')(h:∃ q,h'.get? a=some q)(new:ad9 X.prog X.w (upd H a ob) h' a ob) :
  Inv X pins σ (upd H a ob) { s with heap:=h',toks:=t' } :=
 I.write (x:=a) (e:=a) mu (.inl rfl) (λ b q hb z=>(hs.2 b hb).trans z) h new
theorem bt3 {P:aN}{w:World}{H':Hp}{h':Heap}{h:List (Key×V)}{vs:List (Key×Value)}(z:h.length<=aL)(hd:(a==dq)=false)(y:KV h vs)(dd:h'.DictOf (z4 P w) a vs) :
  ad9 P w H' h' a (.dK h):=⟨z,hd,vs,y,dd⟩
theorem bf6 {H':Hp}{Q:Unit->ah->Prop}(hu:A.units+1<cLine)(I:Inv X pins σ H s)(g:bZ1 H a y v H')(ry:RelV y u)(rv:RelV v r)(h:∀ s',Inv X pins σ H' s'->Q () s') :
  wpAny (model X.prog X.w) A (setItem (.ref a) u r) Q E s:=by
 rcases g with⟨G,k,e,Z,l,eH⟩|⟨G,k,b,e,Z,eb,l,eH⟩
 ·subst Z eH
  obtain⟨z,hd,vs,J,dd⟩:=bO0 I.hok e
  have hz:vs.length<=aL:=by rw[<-J.length];exact z
  have hl:(az2 G k v).length<=aL:=by have:=jI G k v;omega
  refine wpAny_setItem_pairs (hsz:=hz) (aP1 ry) dd λ h' Y hs=>h _ ?_
  have he:∃ q,h'.get? a=some q:=let⟨q,_,_,hq,_⟩:=Y;⟨q,hq⟩
  exact aG2 I (by rw[e];exact True.intro) hs he (bt3 hl hd (J.put k rv) Y)
 ·subst Z eH
  cases(show u=Value.ref b from ry)
  obtain⟨z,hd,xs,J,dd⟩:=cb5 I.hok e
  have hz:xs.length<=aL:=by rw[<-ie J];exact z
  have hl:(az2 G k v).length<=aL:=by have:=jI G k v;omega
  refine wpAny_setItem_heap (hsz:=hz) (dS hu) (aD7 I.hok eb) dd λ h' Y hs=>h _ ?_
  obtain⟨q,es,ep,hq,h2,h3,h4,_,h5⟩:=Y
  refine aG2 I (by rw[e];exact True.intro) hs ⟨q,hq⟩ ⟨hl,hd,_,(J.put k eb rv).keeps λ c ys ec=>?_,q,es,ep,hq,h2,h3,h4,h5⟩
  rw[zm (cc0 ec e (λ z=>nomatch z))]
  exact ec
end
section
variable {X:Cx} {pins:List (Addr×Obj)} {σ:St} {H:Hp} {s:ah} {a:Addr} {kvs:List (Key×V)} {k:Key} {u:Value} {A:aX} {E:Value->ah->Prop}
end
theorem aJ0 {X:Cx}{h:List (Addr×Obj)}{σ:St}{H:Hp}{s:ah}{a:Addr}{y:V}{o:Option V}(I:Inv X h σ H s)(g:bh6 H a y o):s.TypeIs (.ref a) "dict":=by
 rcases g with⟨G,k,e,_,_⟩|⟨G,k,b,e,_,_,_⟩
 ·obtain⟨_,_,vs,_,dd⟩:=aV0 I.hok e
  exact dd.typeIs
 ·obtain⟨_,_,J,_,dd⟩:=bb4 I.hok e
  exact dd.typeIs
section
variable {X:Cx} {o i e value:Expr} {pos pos' tpos:Pos} {td ty tv:TE}
end
theorem aO3 {P:aN}{w:World}{H:Hp}(h:Heap)(hb:dq<h.objs.size):ad9 P w H (h.push { cls:=.type "dict",data:=.dict #[] }) h.objs.size (.dK []) :=
 ⟨cS _,beq_eq_false_iff_ne.mpr (bU (aA hb)),[],.nil,Heap.DictOf.new h⟩
def bt4:TE:=λ _ H Q=>∀ p,H p=none->Q (.ref p) (upd H p (.dK []))
section
variable {X:Cx} {pos:Pos}
theorem bi3:PE X (.Dict [] [] pos) bt4:=λ y s σ H Q I h =>
 wpAny_Dict_empty ⟨.ref s.heap.objs.size,_,I.laid (a:=s.heap.objs.size) (o:=.dK []) (t':=s.toks) (λ _ _ q=>aj _ q) (ai _) (aO3 s.heap I.big),rfl,h _ (I.hok.fresh (ai _))⟩
end
noncomputable def bh4:List (TE×TE)->St->Hp->(List (V×V)->Hp->Prop)->Prop
 | [],_,H,Q=>Q [] H
 | (tk,tv)::r,σ,H,Q=>tk σ H λ x H1=>tv σ H1 λ y H2=>bh4 r σ H2 λ ps H3=>Q ((x,y)::ps) H3
abbrev VV:List (V×V)->List (Value×Value)->Prop:=fD λ p q=>RelV p.1 q.1/\RelV p.2 q.2
def PPs (X:Cx)(pos:Pos)(keys:List (Option Expr))(values:List Expr)(trs:List (TE×TE)):Prop :=
 ∀(pins:List (Addr×Obj)) (s:ah) (σ:St) (H:Hp) (Q:List (V×V)->Hp->Prop),Inv X pins σ H s->bh4 trs σ H Q ->
  wpAny (model X.prog X.w) X.A (evalPairs (pairTrees keys values X.env pos)) (λ vs s'=>∃ ps H',Inv X pins σ H' s'/\VV ps vs/\Q ps H') X.xe s
theorem by4 {X:Cx}{pos:Pos}:PPs X pos [] [] []:=λ y s σ H Q I h=>pairTrees_nil_walk ⟨[],H,I,.nil,h⟩
theorem bq2 {X:Cx}{pos:Pos}{k v:Expr}{ks:List (Option Expr)}{vs:List Expr}{tk Z:TE}{J:List (TE×TE)}(hk:PE X k tk)(hv:PE X v Z)(hr:PPs X pos ks vs J) :
  PPs X pos (some k::ks) (v::vs) ((tk,Z)::J):=λ G s σ H Q I h =>
 pairTrees_cons_walk (thn (hk G s σ H _ I h) λ u s1 ⟨x,H1,I1,rx,q1⟩=>thn (hv G s1 σ H1 _ I1 q1) λ w2 s2 ⟨y,H2,I2,ry,q2⟩ =>
  thn (hr G s2 σ H2 _ I2 q2) λ ws s3 ⟨ps,H3,I3,Y,q3⟩=>⟨(x,y)::ps,H3,I3,.cons ⟨rx,ry⟩ Y,q3⟩)
noncomputable def aD5 (kvs more:List (Key×V)):List (Key×V):=more.foldl (λ acc kv=>az2 acc kv.1 kv.2) kvs
theorem KV.merge:∀ {more:List (Key×V)} {G:List (Key×Value)} {y:List (Key×V)} {vs:List (Key×Value)},KV more G->KV y vs->KV (aD5 y more) (merged vs G):=by
 intro more G y vs r
 unfold KV at r
 induction r generalizing y vs with
 | nil=>intro q;exact q
 | @cons p q ps qs h t ih =>
  intro r0
  have e:KV (az2 y p.1 p.2) (stored vs q.1 q.2):=by
   have:=r0.put p.1 h.2
   rw[<-h.1];exact this
  exact ih e
theorem ah5:∀(more h:List (Key×V)),(aD5 h more).length<=h.length+more.length
 | [],h=>by show h.length<=h.length+0;omega
 | p::r,h=>by
  have y:=ah5 r (az2 h p.1 p.2)
  have G:=jI h p.1 p.2
  show(aD5 (az2 h p.1 p.2) r).length<=_
  rw[aU];omega
theorem at2 {P:aN}{w:World}:∀ {y:List (Key×V)} {ws:List (Value×Value)},VV (y.map λ J=>(kV J.1,J.2)) ws->∃ G,Carries (z4 P w) ws G/\KV y G
 | [],_,r=>by rw[cq]at r;cases r;exact⟨[],True.intro,.nil⟩
 | p::y,_,r=>by
  rw[aJ]at r
  cases r with
  | @cons a b as bs h t =>
   obtain⟨G,c,q⟩:=at2 (P:=P) (w:=w) t
   obtain⟨Z,Y⟩:=b
   exact⟨(p.1,Y)::G,⟨aP1 h.1,rfl,c⟩,.cons ⟨rfl,h.2⟩ q⟩
def bL0 (trs:List (TE×TE)):TE:=λ σ H Q=>∀ p,H p=none->bh4 trs σ (upd H p (.dK [])) λ ps H2=>H2 p=some (.dK [])/\∃ kvs:List (Key×V),ps=kvs.map (λ kv=>(kV kv.1,kv.2))/\kvs.length<=15/\Q (.ref p) (upd H2 p (.dK (aD5 [] kvs)))
theorem bD2 {X:Cx}{pos:Pos}{y:List (Option Expr)}{G:List Expr}{a0:List (TE×TE)}(h:PPs X pos y G a0)(J:y.all (·.isSome)=true)(hl:y.length=G.length)(h0:y≠[])
  (a2:y.length<=15):PE X (.Dict y G pos) (bL0 a0):=by
 intro a1 s σ H Q I q
 have hn:=I.hok.fresh (ai s.heap.objs.size)
 have I1:=I.laid (a:=s.heap.objs.size) (o:=.dK []) (h':=s.heap.push { cls:=.type "dict",data:=.dict #[] }) (t':=s.toks) (λ _ _ q=>aj _ q) (ai _) (aO3 s.heap I.big)
 refine wpAny_Dict_walk (knd:=z4 X.prog X.w) J hl h0 a2 (thn (h a1 _ σ _ _ I1 (q _ hn)) λ ws s2 ⟨ps,H2,I2,a3,e,Y,ep,lk,q2⟩=>?_)
 subst ep
 obtain⟨rs,c,rk⟩:=at2 (P:=X.prog) (w:=X.w) a3
 obtain⟨z,hd,a4,r0,dd⟩:=bO0 I2.hok e
 cases r0
 refine⟨rs,c,dd,λ h' Z hs=>⟨.ref s.heap.objs.size,_,?_,rfl,q2⟩⟩
 have hz:(aD5 [] Y).length<=aL:=by
  have h1:=ah5 Y []
  rw[c5]at h1
  rw[fu];omega
 have he:∃ q,h'.get? s.heap.objs.size=some q:=let⟨q,_,_,hq,_⟩:=Z;⟨q,hq⟩
 exact aG2 I2 (by rw[e];exact True.intro) hs he (bt3 hz hd (rk.merge .nil) Z)
section
variable {X:Cx} {pins:List (Addr×Obj)} {σ:St} {H:Hp} {s:ah} {a:Addr} {y d:V} {u r:Value} {o:Option V} {A:aX} {E:Value->ah->Prop}
end
section
variable {X:Cx} {o e f:Expr} {apos cpos:Pos} {td ty tx:TE}
end
end L2
end
noncomputable section
namespace DV
inductive D where
 | non|bl (b:Bool)|int (i:Int)|str (x:List Nat)|tup (l:List D)|ref (n:Nat)|fn (f:String)|clo (f:String) (cs:List D)
noncomputable instance:DecidableEq D:=λ a b=>fX (a=b)
noncomputable instance (x:D):Decidable (x=.non):=match x with
 | .non=>.isTrue rfl
 | .bl _=>.isFalse nofun
 | .int _=>.isFalse nofun
 | .str _=>.isFalse nofun
 | .tup _=>.isFalse nofun
 | .ref _=>.isFalse nofun
 | .fn _=>.isFalse nofun
 | .clo _ _=>.isFalse nofun
inductive O where
 | lst (l:List D)|ro (l:List D)|dic (l:List (D×D))|ins (c:String) (fs:List (String×D))
noncomputable instance:DecidableEq O:=λ a b=>fX (a=b)
noncomputable abbrev Sto:=List O
noncomputable def O.kd:O->Nat
 | .lst _=>0|.ro _=>1|.dic _=>2|.ins _ _=>3
inductive R (α:Type) where
 | ok (a:α) (s:Sto)|exc (e:D) (s:Sto)|bad
noncomputable abbrev M (α:Type):=Sto->R α
noncomputable def R.bind {α β:Type}(r:R α)(f:α->Sto->R β):R β:=match r with
 | .ok a s=>f a s
 | .exc e s=>.exc e s
 | .bad=>.bad
@[simp] theorem R.bind_ok {α β:Type} (a:α) (s:Sto) (f:α->Sto->R β):(R.ok a s).bind f=f a s:=rfl
@[simp] theorem R.bind_bad {α β:Type} (f:α->Sto->R β):(R.bad:R α).bind f=.bad:=rfl
@[simp] theorem R.bind_exc {α β:Type} (e:D) (s:Sto) (f:α->Sto->R β):(R.exc e s:R α).bind f=.exc e s:=rfl
theorem R.bind_inv {α β:Type}{r:R α}{f:α->Sto->R β}{b:β}{t:Sto}(h:r.bind f=.ok b t):∃ a s,r=.ok a s/\f a s=.ok b t:=by
 cases r with
 | ok a s=>exact⟨a,s,rfl,h⟩
 | exc e s=>cases h
 | bad=>cases h
@[simp] theorem R.bind_assoc {α β γ:Type} (r:R α) (f:α->Sto->R β) (g:β->Sto->R γ):(r.bind f).bind g=r.bind λ a s=>(f a s).bind g:=by cases r<;>rfl
mutual
noncomputable def D.bnd (n:Nat):D->Bool
 | .tup l=>D.bndL n l
 | .ref k=>decide (k<n)
 | .clo _ l=>D.bndL n l
 | _=>true
noncomputable def D.bndL (n:Nat):List D->Bool
 | []=>true
 | d::l=>D.bnd n d&&D.bndL n l
end
noncomputable def O.bnd (n:Nat):O->Bool
 | .lst l=>D.bndL n l
 | .ro l=>D.bndL n l
 | .dic l=>D.bndL n (l.map (·.1))&&D.bndL n (l.map (·.2))
 | .ins _ fs=>D.bndL n (fs.map (·.2))
mutual
noncomputable def D.plain:D->Bool
 | .non=>true|.int _=>true|.str _=>true
 | .tup l=>D.plainL l
 | _=>false
noncomputable def D.plainL:List D->Bool
 | []=>true
 | d::l=>D.plain d&&D.plainL l
end
mutual
noncomputable def D.ncl:D->Bool
 | .tup l=>D.nclL l
 | .clo _ _=>false
 | _=>true
noncomputable def D.nclL:List D->Bool
 | []=>true
 | d::l=>D.ncl d&&D.nclL l
end
noncomputable def O.ncl:O->Bool
 | .lst l=>D.nclL l
 | .ro l=>D.nclL l
 | .dic l=>D.nclL (l.map (·.2))
 | _=>false
noncomputable def D.key:D->Bool
 | .int _=>true|.str _=>true|_=>false
noncomputable def LIM:Nat:=1000000
@[irreducible] noncomputable def BIG:Nat:=2^60000
@[irreducible] noncomputable def DIVL:Nat:=2^4096
inductive BOp where
 | add|sub|mul|fdiv|mod|pow|shl|shr|band|bor
 deriving DecidableEq
inductive COp where
 | eq|ne|lt|le|gt|ge|isin|notin
 deriving DecidableEq
inductive Cn where
 | non|bl (b:Bool)|int (i:Int)|str (x:List Nat)
 deriving DecidableEq
noncomputable def Cn.d:Cn->D
 | .non=>.non|.bl b=>.bl b|.int i=>.int i|.str x=>.str x
inductive Bi where
 | len|abs|int|str|min2|max2|max3|min3|isInt|isBool|isStr|isTup|isList|ord
 deriving DecidableEq
inductive Mk where
 | tuple|list|all|any|sum|min|max|sorted|lenset
 deriving DecidableEq
inductive Mt where
 | append|pop|index|count|reverse|clear|bitlen|get1|get2|setdefault|update|split|partition
 deriving DecidableEq
inductive Tg where
 | one (i:Nat)|tup (is:List Nat)
 deriving DecidableEq
mutual
inductive E where
 | var (i:Nat)|cst (c:Cn)|glob (x:String)
 | bin (op:BOp) (a b:E)|neg (a:E)|not (a:E)
 | cmp (op:COp) (a b:E)|chain (o p:COp) (a b c:E)
 | isN (a:E)|notN (a:E)|isB (a:E) (b:Bool)|notB (a:E) (b:Bool)
 | and (a b:E)|or (a b:E)|ite (c a b:E)
 | tup (es:Es)|lst (es:Es)|dic (ks vs:Es)
 | ix (a b:E)|slL (a lo:E)|slU (a hi:E)|slLU (a lo hi:E)|rev (a:E)
 | call (f:String) (as:As)|callC (f:String) (as:As)|callV (i:Nat) (es:Es)
 | bi (b:Bi) (es:Es)|mk (k:Mk) (l:L)|mkD (k:Mk) (l:L) (d:E)
 | meth (m:Mt) (o:E) (es:Es)|ext (o:E) (l:L)|extS (o e:E)|join (o e:E)|mks (k:Mk) (e:E)|mkDs (k:Mk) (e d:E)
inductive Es where
 | nil|cons (e:E) (es:Es)
inductive As where
 | nil|ex (e:E) (as:As)|lam (id:String) (caps:List Nat) (as:As)|fn (f:String) (as:As)
inductive I where
 | seq (e:E)|rng1 (a:E)|rng2 (a b:E)|rng3 (a b:E) (c:Int)|enum (it:I)|zip (a b:I)|items (e:E)
inductive L where
 | comp (tg:Tg) (it:I) (e:E) (caps:List (Option Nat))|compIf (tg:Tg) (it:I) (c e:E) (caps:List (Option Nat))|disp (es:Es)|seq (e:E)
end
mutual
inductive S where
 | asg (tg:Tg) (e:E)|setIx (o i e:E)|aug (i:Nat) (e:E)|ex (e:E)|ret (e:E)|retN
 | ite (c:E) (a b:Ss)|whl (c:E) (b:Ss)|for_ (tg:Tg) (it:I) (b:Ss)|pass|cont|brk|raise|und (i:Nat)
inductive Ss where
 | nil|cons (s:S) (ss:Ss)
end
noncomputable abbrev Env:=List (Option D)
noncomputable def af5 (o:O):M D:=λ s=>.ok (.ref s.length) (s++[o])
noncomputable def pur (d:D):M D:=λ s=>.ok d s
noncomputable def bad {α:Type}:M α:=λ _=>.bad
noncomputable def mulOk (a b:Int):Bool:=decide (a.natAbs<2^64)||decide (b.natAbs<2^64)||(decide (a.natAbs<BIG)&&decide (b.natAbs<BIG))
noncomputable def rep:Nat->List Nat->List Nat
 | 0,_=>[]
 | n+1,a=>a++rep n a
noncomputable def bF6:Nat->List D->List D
 | 0,_=>[]
 | n+1,a=>a++bF6 n a
noncomputable def qN:BOp->D->D->M D
 | .add,.int a,.int b=>pur (.int (a+b))
 | .add,.str a,.str b=>if a.length+b.length<=LIM then pur (.str (a++b))else bad
 | .add,.tup a,.tup b=>if a.length+b.length<=LIM then pur (.tup (a++b))else bad
 | .add,.ref a,.ref b=>λ s=>match s[a]?,s[b]? with
  | some (.lst l),some (.lst m)=>if l.length+m.length<=LIM then af5 (.lst (l++m)) s else .bad
  | _,_=>.bad
 | .sub,.int a,.int b=>pur (.int (a - b))
 | .mul,.int a,.int b=>if mulOk a b then pur (.int (a*b))else bad
 | .mul,.str a,.int n=>if 0<=n/\n<=1000000/\a.length*n.toNat<=LIM then pur (.str (rep n.toNat a))else bad
 | .mul,.tup a,.int n=>if 0<=n/\n<=1000000/\a.length*n.toNat<=LIM then pur (.tup (bF6 n.toNat a))else bad
 | .mul,.ref a,.int n=>λ s=>match s[a]? with
  | some (.lst l)=>if 0<=n/\n<=1000000/\l.length*n.toNat<=LIM then af5 (.lst (bF6 n.toNat l)) s else .bad
  | _=>.bad
 | .fdiv,.int a,.int b=>if 0<b/\b<(DIVL:Int)then pur (.int (a / b))else bad
 | .mod,.int a,.int b=>if 0<b then pur (.int (a % b))else bad
 | .pow,.int a,.int b=>if 0<=b/\b<=1000000/\a.natAbs<2^64 then pur (.int (a^b.toNat))else bad
 | .shl,.int a,.int b=>if 0<=b/\b<=1000000/\a.natAbs<2^64 then pur (.int (a*2^b.toNat))else bad
 | .shr,.int a,.int b=>if 0<=b then pur (.int (a / 2^b.toNat))else bad
 | _,_,_=>bad
noncomputable def kd (s:Sto):D->Nat
 | .non=>0|.bl _=>1|.int _=>1|.str _=>2|.tup _=>3
 | .ref r=>match s[r]? with|some (.lst _)=>4|_=>9
 | _=>9
noncomputable def aH8 (a b:Nat):Bool:=a==9||b==9||a==b
noncomputable def b2i (b:Bool):Int:=if b then 1 else 0
noncomputable def aI4:D->D->Option Bool
 | .non,.non=>some true
 | .bl a,.bl b=>some (a==b)
 | .int a,.int b=>some (a==b)
 | .bl a,.int b=>some (b2i a==b)
 | .int a,.bl b=>some (a==b2i b)
 | .str a,.str b=>some (a==b)
 | _,_=>none
noncomputable def ae6 (s:Sto)(a b:D):Option Bool:=match aI4 a b with
 | some z=>some z
 | none=>if aH8 (kd s a) (kd s b)then none else some false
noncomputable def eqL (f:D->D->Option Bool):List D->List D->Option Bool
 | [],[]=>some true
 | [],_::_=>some false
 | _::_,[]=>some false
 | a::l,b::m=>match f a b,eqL f l m with
  | some x,some y=>some (x&&y)
  | _,_=>none
noncomputable def eqv (s:Sto):Nat->D->D->Option Bool
 | 0,a,b=>ae6 s a b
 | n+1,a,b=>match a,b with
  | .tup l,.tup m=>eqL (eqv s n) l m
  | .ref x,.ref y=>match s[x]?,s[y]? with
   | some (.lst l),some (.lst m)=>if l.length=m.length then eqL (eqv s n) l m else some false
   | _,_=>none
  | a,b=>ae6 s a b
noncomputable def DEEP:Nat:=30
noncomputable def eqM (a b:D):M D:=λ s=>match eqv s DEEP a b with
 | some r=>.ok (.bl r) s
 | none=>.bad
noncomputable def inL (s:Sto)(x:D):List D->Option Bool
 | []=>some false
 | y::l=>match eqv s DEEP y x,inL s x l with
  | some a,some b=>some (a||b)
  | _,_=>none
noncomputable def look (k:D):List (D×D)->Option D
 | []=>none
 | (a,v)::l=>if a=k then some v else look k l
noncomputable def inM (a b:D):M Bool:=λ s=>match b with
 | .tup l=>match inL s a l with|some r=>.ok r s|none=>.bad
 | .ref r=>match s[r]? with
  | some (.lst l)=>match inL s a l with|some r=>.ok r s|none=>.bad
  | some (.dic l)=>if a.key then .ok (look a l).isSome s else .bad
  | _=>.bad
 | .str y=>match a with|.str [c]=>.ok (decide (c∈y)) s|_=>.bad
 | _=>.bad
noncomputable def qz:COp->D->D->M D
 | .eq,a,b=>eqM a b
 | .ne,a,b=>λ s=>match eqv s DEEP a b with|some r=>.ok (.bl (!r)) s|none=>.bad
 | .lt,.int a,.int b=>pur (.bl (decide (a<b)))
 | .le,.int a,.int b=>pur (.bl (decide (a<=b)))
 | .gt,.int a,.int b=>pur (.bl (decide (b<a)))
 | .ge,.int a,.int b=>pur (.bl (decide (b<=a)))
 | .isin,a,b=>λ s=>(inM a b s).bind λ r s=>.ok (.bl r) s
 | .notin,a,b=>λ s=>(inM a b s).bind λ r s=>.ok (.bl (!r)) s
 | _,_,_=>bad
noncomputable def ixn (n:Nat)(i:Int):Option Nat:=if 0<=i then(if i<n then some i.toNat else none)else if -(n:Int)<=i then some (i+n).toNat else none
noncomputable def sbd (n:Nat)(i:Int):Nat:=if 0<=i then min i.toNat n else(i+n).toNat
noncomputable def loB (n:Nat):Option Int->Nat
 | none=>0
 | some i=>sbd n i
noncomputable def hiB (n:Nat):Option Int->Nat
 | none=>n
 | some i=>sbd n i
noncomputable def aT6 {α:Type}(l:List α)(lo hi:Option Int):List α:=(l.drop (loB l.length lo)).take (hiB l.length hi - loB l.length lo)
noncomputable def ixM (a b:D):M D:=λ s=>match a,b with
 | .tup l,.int i=>match(ixn l.length i).bind λ j=>l[j]? with|some d=>.ok d s|none=>.bad
 | .str l,.int i=>match(ixn l.length i).bind λ j=>l[j]? with|some c=>.ok (.str [c]) s|none=>.bad
 | .ref r,b=>match s[r]? with
  | some (.lst l)=>match b with
   | .int i=>match(ixn l.length i).bind λ j=>l[j]? with|some d=>.ok d s|none=>.bad
   | _=>.bad
  | some (.ro l)=>match b with
   | .int i=>match(ixn l.length i).bind λ j=>l[j]? with|some d=>.ok d s|none=>.bad
   | _=>.bad
  | some (.dic l)=>if b.key then match look b l with|some d=>.ok d s|none=>.bad else .bad
  | _=>.bad
 | _,_=>.bad
noncomputable def slM (a:D)(lo hi:Option Int):M D:=λ s=>match a with
 | .tup l=>.ok (.tup (aT6 l lo hi)) s
 | .str l=>.ok (.str (aT6 l lo hi)) s
 | .ref r=>match s[r]? with
  | some (.lst l)=>af5 (.lst (aT6 l lo hi)) s
  | _=>.bad
 | _=>.bad
noncomputable def revM (a:D):M D:=λ s=>match a with
 | .str l=>.ok (.str l.reverse) s
 | _=>.bad
noncomputable def ar4:List D->Option (List Bool)
 | []=>some []
 | .bl b::l=>(ar4 l).map (b::·)
 | _=>none
noncomputable def ja:List D->Option (List Int)
 | []=>some []
 | .int i::l=>(ja l).map (i::·)
 | _=>none
noncomputable def bt7:List D->Option (List (List Nat))
 | []=>some []
 | .str i::l=>(bt7 l).map (i::·)
 | _=>none
noncomputable def bF3 (d:D):M D:=λ s=>match d with
 | .tup l=>.ok (.int l.length) s
 | .str l=>.ok (.int l.length) s
 | .ref r=>match s[r]? with
  | some (.lst l)=>.ok (.int l.length) s
  | some (.ro l)=>.ok (.int l.length) s
  | _=>.bad
 | _=>.bad
noncomputable def isK (k:Nat)(d:D):M D:=λ s=>match d with
 | .non=>.ok (.bl false) s
 | .bl _=>.ok (.bl (k==1||k==2)) s
 | .int _=>.ok (.bl (k==1)) s
 | .str _=>.ok (.bl (k==3)) s
 | .tup _=>.ok (.bl (k==4)) s
 | .ref r=>match s[r]? with
  | some (.lst _)=>.ok (.bl (k==5)) s
  | _=>.bad
 | _=>.bad
noncomputable def bi1 (f:D->M D):List D->M D
 | [d]=>f d
 | _=>bad
noncomputable def bi:Bi->List D->M D
 | .len,l=>bi1 bF3 l
 | .abs,l=>λ s=>match ja l with|some [i]=>.ok (.int (if i<0 then -i else i)) s|_=>.bad
 | .int,l=>λ s=>match ar4 l with|some [b]=>.ok (.int (if b then 1 else 0)) s|_=>.bad
 | .min2,l=>λ s=>match ja l with|some [a,b]=>.ok (.int (if b<a then b else a)) s|_=>.bad
 | .max2,l=>λ s=>match ja l with|some [a,b]=>.ok (.int (if b > a then b else a)) s|_=>.bad
 | .max3,l=>λ s=>match ja l with|some [a,b,c]=>.ok (.int (max (max a b) c)) s|_=>.bad
 | .isInt,l=>bi1 (isK 1) l
 | .isBool,l=>bi1 (isK 2) l
 | .isStr,l=>bi1 (isK 3) l
 | .isTup,l=>bi1 (isK 4) l
 | .isList,l=>bi1 (isK 5) l
 | _,_=>bad
noncomputable def minI:List Int->Option Int
 | []=>none
 | a::l=>some (l.foldl min a)
noncomputable def maxI:List Int->Option Int
 | []=>none
 | a::l=>some (l.foldl max a)
noncomputable def ins (a:Int):List Int->List Int
 | []=>[a]
 | b::l=>if a<=b then a::b::l else b::ins a l
noncomputable def bK2:List Int->List Int
 | []=>[]
 | a::l=>ins a (bK2 l)
noncomputable def fitL (is:List Int):Bool:=is.all (λ i=>decide (-1000000000<=i/\i<=1000000000))&&decide (is.length<=1000000)
noncomputable def mk:Mk->List D->M D
 | .tuple,l=>λ s=>.ok (.tup l) s
 | .list,l=>af5 (.lst l)
 | .all,l=>λ s=>match ar4 l with|some bs=>.ok (.bl (bs.all id)) s|none=>.bad
 | .any,l=>λ s=>match ar4 l with|some bs=>.ok (.bl (bs.any id)) s|none=>.bad
 | .sum,l=>λ s=>match ja l with|some is=>if fitL is then .ok (.int is.sum) s else .bad|none=>.bad
 | .min,l=>λ s=>match(ja l).bind minI with|some m=>.ok (.int m) s|none=>.bad
 | .max,l=>λ s=>match(ja l).bind maxI with|some m=>.ok (.int m) s|none=>.bad
 | .sorted,l=>λ s=>match ja l with|some is=>af5 (.lst ((bK2 is).map D.int)) s|none=>.bad
 | .lenset,l=>bad
noncomputable def mkD (k:Mk)(l:List D)(d:D):M D:=λ s=>match k with
 | .min=>match ja l with|some is=>(match minI is with|some m=>.ok (.int m) s|none=>.ok d s)|none=>.bad
 | .max=>match ja l with|some is=>(match maxI is with|some m=>.ok (.int m) s|none=>.ok d s)|none=>.bad
 | _=>.bad
noncomputable def aT3 (k v:D)(l:List (D×D)):List (D×D):=if(look k l).isSome then l.map (λ p=>if p.1=k then(p.1,v)else p)else l++[(k,v)]
noncomputable def setIx (o i v:D):Sto->R Unit:=λ s=>match o with
 | .ref r=>match s[r]? with
  | some (.lst l)=>match i with
   | .int i=>match ixn l.length i with|some j=>.ok () (s.set r (.lst (l.set j v)))|none=>.bad
   | _=>.bad
  | some (.dic l)=>if i.key&&decide (l.length<LIM)then .ok () (s.set r (.dic (aT3 i v l)))else .bad
  | _=>.bad
 | _=>.bad
noncomputable def idx (s:Sto)(x:D):Nat->List D->Option Nat
 | _,[]=>none
 | n,y::l=>match eqv s DEEP y x with
  | some true=>some n
  | some false=>idx s x (n+1) l
  | none=>none
noncomputable def meth:Mt->D->List D->M D
 | .append,.ref r,[d]=>λ s=>match s[r]? with
  | some (.lst l)=>if l.length<LIM then .ok .non (s.set r (.lst (l++[d])))else .bad
  | _=>.bad
 | .pop,.ref r,[]=>λ s=>match s[r]? with
  | some (.lst l)=>match l.getLast? with|some d=>.ok d (s.set r (.lst l.dropLast))|none=>.bad
  | _=>.bad
 | .reverse,.ref r,[]=>λ s=>match s[r]? with
  | some (.lst l)=>.ok .non (s.set r (.lst l.reverse))
  | _=>.bad
 | .clear,.ref r,[]=>λ s=>match s[r]? with
  | some (.lst l)=>.ok .non (s.set r (.lst []))
  | _=>.bad
 | .index,.ref r,[d]=>λ s=>match s[r]? with
  | some (.lst l)=>match inL s d l,idx s d 0 l with|some true,some n=>.ok (.int n) s|_,_=>.bad
  | _=>.bad
 | _,_,_=>bad
noncomputable def bW5 (o:D)(l:List D):M D:=λ s=>match o with
 | .ref r=>match s[r]? with
  | some (.lst m)=>if m.length+l.length<=LIM then .ok .non (s.set r (.lst (m++l)))else .bad
  | _=>.bad
 | _=>.bad
noncomputable def bG5 (x y:D):M D:=λ s=>match x with
 | .str []=>match y with
  | .ref r=>match s[r]? with
   | some (.lst l)=>match bt7 l with
    | some ss=>if ss.flatten.length<=LIM then .ok (.str ss.flatten) s else .bad
    | none=>.bad
   | _=>.bad
  | _=>.bad
 | _=>.bad
noncomputable def extS (o d:D):M D:=λ s=>match d with
 | .ref k=>match s[k]? with
  | some (.lst l)=>bW5 o l s
  | _=>.bad
 | _=>.bad
structure Fns where
 call:String->List D->M D
 lam:String->List D->List D->M D
 con:String->Option D
noncomputable def bh2 (ρ:Env)(i:Nat):M D:=λ s=>match ρ[i]? with|some (some d)=>.ok d s|_=>.bad
noncomputable def ag4 (ρ:Env):List Nat->Option (List D)
 | []=>some []
 | i::is=>match ρ[i]?,ag4 ρ is with|some (some d),some l=>some (d::l)|_,_=>none
noncomputable def z0 (ρ:Env)(caps:List (Option Nat)):Env:=caps.map λ o=>match o with|none=>none|some j=>(ρ[j]?).join
noncomputable def aJ1 (ρ:Env)(i:Nat)(d:D):Option Env:=if i < ρ.length then some (ρ.set i (some d))else none
noncomputable def ag8 (ρ:Env)(i:Nat):Option Env:=if i < ρ.length then some (ρ.set i none)else none
noncomputable def ap3 (ρ:Env):List Nat->List D->Option Env
 | [],[]=>some ρ
 | i::is,d::l=>(aJ1 ρ i d).bind λ ρ=>ap3 ρ is l
 | _,_=>none
noncomputable def af2 (ρ:Env):Tg->D->Option Env
 | .one i,d=>aJ1 ρ i d
 | .tup is,.tup l=>ap3 ρ is l
 | _,_=>none
structure Sq where
 its:List D
 src:List Nat
noncomputable def an9 (d:D):M Sq:=λ s=>match d with
 | .tup l=>.ok ⟨l,[]⟩ s
 | .str l=>.ok ⟨l.map λ c=>.str [c],[]⟩ s
 | .ref r=>match s[r]? with
  | some (.lst l)=>.ok ⟨l,[r]⟩ s
  | some (.ro l)=>.ok ⟨l,[]⟩ s
  | _=>.bad
 | _=>.bad
noncomputable def aP9 (d:D):M Sq:=λ s=>match d with
 | .tup l=>.ok ⟨l,[]⟩ s
 | .str l=>.ok ⟨l.map λ c=>.str [c],[]⟩ s
 | .ref r=>match s[r]? with
  | some (.lst l)=>.ok ⟨l,[r]⟩ s
  | some (.ro l)=>.ok ⟨l,[]⟩ s
  | _=>.bad
 | _=>.bad
noncomputable def bl4 (d:D):M Sq:=λ s=>match d with
 | .tup l=>.ok ⟨l,[]⟩ s
 | .ref r=>match s[r]? with
  | some (.lst l)=>.ok ⟨l,[r]⟩ s
  | some (.ro l)=>.ok ⟨l,[]⟩ s
  | _=>.bad
 | _=>.bad
noncomputable def ay7 (d:D):Sto->R (List D):=λ s=>match d with
 | .tup l=>.ok l s
 | .str l=>.ok (l.map λ c=>.str [c]) s
 | .ref r=>match s[r]? with
  | some (.lst l)=>.ok l s
  | some (.ro l)=>.ok l s
  | _=>.bad
 | _=>.bad
noncomputable def bJ2 (d:D):Sto->R (List D):=λ s=>match d with
 | .ref r=>match s[r]? with
  | some (.lst l)=>.ok l s
  | _=>.bad
 | _=>.bad
noncomputable def W62:Int:=4611686018427387904
noncomputable def jy (a b:Int):List D:=(ac (b - a).toNat).map λ(k:Nat)=>.int (a+k)
noncomputable def rngC (a b c:Int):List D:=if 0<c then(ac ((b - a+c - 1) / c).toNat).map λ(k:Nat)=>.int (a+c*k)else(ac ((a - b+(-c) - 1) / (-c)).toNat).map λ(k:Nat)=>.int (a+c*k)
noncomputable def bC9 (n:Nat):List D->List D
 | []=>[]
 | d::l=>.tup [.int n,d]::bC9 (n+1) l
noncomputable def cb4:List D->List D->List D
 | a::l,b::m=>.tup [a,b]::cb4 l m
 | _,_=>[]
noncomputable def chk (s0 s:Sto)(src:List Nat):Bool:=src.all λ r=>decide (s[r]?=s0[r]?)
noncomputable def tru {α:Type}(r:R D)(f:Bool->Sto->R α):R α:=r.bind λ d s=>match d with|.bl b=>f b s|_=>.bad
@[simp] theorem zH {α:Type} (b:Bool) (s:Sto) (f:Bool->Sto->R α):tru (.ok (.bl b) s) f=f b s:=rfl
noncomputable def jc (ok:Sto->Bool)(g:D->Env->Sto->R (Option D×Env)):List D->Env->Sto->R (List D)
 | [],_,s=>if ok s then .ok [] s else .bad
 | d::l,ρ,s=>if ok s then(g d ρ s).bind λ p s=>(jc ok g l p.2 s).bind λ r s=>.ok (match p.1 with|some v=>v::r|none=>r) s else .bad
mutual
noncomputable def ev (F:Fns):E->Env->Sto->R D
 | .var i,ρ,s=>bh2 ρ i s
 | .cst c,_,s=>.ok c.d s
 | .glob x,_,s=>match F.con x with|some d=>.ok d s|none=>.bad
 | .bin op a b,ρ,s=>(ev F a ρ s).bind λ x s=>(ev F b ρ s).bind λ y s=>qN op x y s
 | .neg a,ρ,s=>(ev F a ρ s).bind λ x s=>match x with|.int i=>.ok (.int (-i)) s|_=>.bad
 | .not a,ρ,s=>tru (ev F a ρ s) λ b s=>.ok (.bl (!b)) s
 | .cmp op a b,ρ,s=>(ev F a ρ s).bind λ x s=>(ev F b ρ s).bind λ y s=>qz op x y s
 | .chain o p a b c,ρ,s=>(ev F a ρ s).bind λ x s=>(ev F b ρ s).bind λ y s=>tru (qz o x y s) λ k s=>if k then(ev F c ρ s).bind λ z s=>qz p y z s else .ok (.bl false) s
 | .isN a,ρ,s=>(ev F a ρ s).bind λ x s=>.ok (.bl (decide (x=.non))) s
 | .notN a,ρ,s=>(ev F a ρ s).bind λ x s=>.ok (.bl (!decide (x=.non))) s
 | .isB a b,ρ,s=>(ev F a ρ s).bind λ x s=>match x with|.bl c=>.ok (.bl (c==b)) s|_=>.bad
 | .notB a b,ρ,s=>(ev F a ρ s).bind λ x s=>match x with|.bl c=>.ok (.bl (!(c==b))) s|_=>.bad
 | .and a b,ρ,s=>tru (ev F a ρ s) λ c s=>if c then tru (ev F b ρ s) λ c s=>.ok (.bl c) s else .ok (.bl false) s
 | .or a b,ρ,s=>tru (ev F a ρ s) λ c s=>if c then .ok (.bl true) s else tru (ev F b ρ s) λ c s=>.ok (.bl c) s
 | .ite c a b,ρ,s=>tru (ev F c ρ s) λ k s=>if k then ev F a ρ s else ev F b ρ s
 | .tup es,ρ,s=>(evs F es ρ s).bind λ l s=>.ok (.tup l) s
 | .lst es,ρ,s=>(evs F es ρ s).bind λ l s=>af5 (.lst l) s
 | .dic .nil .nil,ρ,s=>af5 (.dic []) s
 | .dic (.cons k .nil) (.cons v .nil),ρ,s=>(ev F k ρ (s++[.dic []])).bind λ kd s1=>(ev F v ρ s1).bind λ vd s2=>if kd.key=true/\s2[s.length]?=some (.dic [])then .ok (.ref s.length) (s2.set s.length (.dic [(kd,vd)]))else .bad
 | .dic _ _,ρ,s=>.bad
 | .ix a b,ρ,s=>(ev F a ρ s).bind λ x s=>(ev F b ρ s).bind λ y s=>ixM x y s
 | .slL a lo,ρ,s=>(ev F a ρ s).bind λ x s=>(ev F lo ρ s).bind λ y s=>match y with|.int i=>slM x (some i) none s|_=>.bad
 | .slU a hi,ρ,s=>(ev F a ρ s).bind λ x s=>(ev F hi ρ s).bind λ y s=>match y with|.int i=>slM x none (some i) s|_=>.bad
 | .slLU a lo hi,ρ,s=>(ev F a ρ s).bind λ x s=>(ev F lo ρ s).bind λ y s=>match y with|.int i=>(ev F hi ρ s).bind (λ z s=>match z with|.int j=>slM x (some i) (some j) s|_=>.bad)|_=>.bad
 | .rev a,ρ,s=>(ev F a ρ s).bind λ x s=>revM x s
 | .call f as,ρ,s=>(aq9 F as ρ s).bind λ l s=>F.call f l s
 | .callC f as,ρ,s=>(aq9 F as ρ s).bind λ l s=>(F.call f l s).bind λ d s'=>if(d.ncl&&s'.all O.ncl)=true then .ok d s' else .bad
 | .callV i es,ρ,s=>(evs F es ρ s).bind λ l s=>match ρ[i]? with
  | some (some (.fn f))=>F.call f l s
  | some (some (.clo id cs))=>F.lam id cs l s
  | _=>.bad
 | .bi b es,ρ,s=>(evs F es ρ s).bind λ l s=>bi b l s
 | .mk k it,ρ,s=>(evL F it ρ s).bind λ q s=>mk k q s
 | .mkD k it d,ρ,s=>(evL F it ρ s).bind λ q s=>(ev F d ρ s).bind λ d s=>mkD k q d s
 | .meth m o es,ρ,s=>(ev F o ρ s).bind λ x s=>(evs F es ρ s).bind λ l s=>meth m x l s
 | .ext o it,ρ,s=>(ev F o ρ s).bind λ x s=>(evL F it ρ s).bind λ q s=>bW5 x q s
 | .extS o e,ρ,s=>(ev F o ρ s).bind λ x s=>(ev F e ρ s).bind λ y s=>extS x y s
 | .join o e,ρ,s=>(ev F o ρ s).bind λ x s=>(ev F e ρ s).bind λ y s=>bG5 x y s
 | .mks k e,ρ,s=>(ev F e ρ s).bind λ x s=>(bJ2 x s).bind λ q s=>mk k q s
 | .mkDs k e d,ρ,s=>(ev F e ρ s).bind λ x s=>(ev F d ρ s).bind λ z s=>(bJ2 x s).bind λ q s=>mkD k q z s
noncomputable def evs (F:Fns):Es->Env->Sto->R (List D)
 | .nil,_,s=>.ok [] s
 | .cons e es,ρ,s=>(ev F e ρ s).bind λ d s=>(evs F es ρ s).bind λ l s=>.ok (d::l) s
noncomputable def aq9 (F:Fns):As->Env->Sto->R (List D)
 | .nil,_,s=>.ok [] s
 | .ex e as,ρ,s=>(ev F e ρ s).bind λ d s=>(aq9 F as ρ s).bind λ l s=>.ok (d::l) s
 | .lam id caps as,ρ,s=>match ag4 ρ caps with
  | some cs=>(aq9 F as ρ s).bind λ l s=>.ok (.clo id cs::l) s
  | none=>.bad
 | .fn f as,ρ,s=>(aq9 F as ρ s).bind λ l s=>.ok (.fn f::l) s
noncomputable def evI (F:Fns):I->Env->Sto->R Sq
 | .seq e,ρ,s=>(ev F e ρ s).bind λ d s=>an9 d s
 | .rng1 a,ρ,s=>(ev F a ρ s).bind λ x s=>match x with|.int i=>if -W62<=i/\i<W62 then .ok ⟨jy 0 i,[]⟩ s else .bad|_=>.bad
 | .rng2 a b,ρ,s=>(ev F a ρ s).bind λ x s=>(ev F b ρ s).bind λ y s=>match x,y with|.int i,.int j=>if(-W62<=i/\i<W62)/\-W62<=j/\j<W62 then .ok ⟨jy i j,[]⟩ s else .bad|_,_=>.bad
 | .rng3 a b c,ρ,s=>(ev F a ρ s).bind λ x s=>(ev F b ρ s).bind λ y s=>match x,y with|.int i,.int j=>if c=2/\(0<=i/\i<1048576)/\0<=j/\j<1048576 then .ok ⟨rngC i j c,[]⟩ s else .bad|_,_=>.bad
 | .enum (.seq e),ρ,s=>(ev F e ρ s).bind λ d s=>(bl4 d s).bind λ q s=>.ok ⟨bC9 0 q.its,q.src⟩ s
 | .zip (.seq a) (.seq b),ρ,s=>(ev F a ρ s).bind λ x s=>(ev F b ρ s).bind λ y s=>(aP9 x s).bind λ p s=>(aP9 y s).bind λ q s=>.ok ⟨cb4 p.its q.its,p.src++q.src⟩ s
 | .enum _,_,_=>.bad
 | .zip _ _,_,_=>.bad
 | .items e,ρ,s=>.bad
noncomputable def evL (F:Fns):L->Env->Sto->R (List D)
 | .comp tg it e caps,ρ,s=>(evI F it ρ s).bind λ q s0=>if q.its.length<=LIM then jc (λ s=>chk s0 s q.src) (λ d ρ s=>match af2 ρ tg d with
   | some ρ=>(ev F e ρ s).bind λ v s=>.ok (some v,ρ) s
   | none=>.bad) q.its (z0 ρ caps) s0 else .bad
 | .compIf tg it c e caps,ρ,s=>(evI F it ρ s).bind λ q s0=>if q.its.length<=LIM then jc (λ s=>chk s0 s q.src) (λ d ρ s=>match af2 ρ tg d with
   | some ρ=>tru (ev F c ρ s) λ k s=>if k then(ev F e ρ s).bind λ v s=>.ok (some v,ρ) s else .ok (none,ρ) s
   | none=>.bad) q.its (z0 ρ caps) s0 else .bad
 | .disp es,ρ,s=>evs F es ρ s
 | .seq e,ρ,s=>(ev F e ρ s).bind λ d s=>ay7 d s
end
inductive Ct where
 | next (ρ:Env)|ret (d:D)|cont (ρ:Env)|brk (ρ:Env)
noncomputable def aN8 (ok:Sto->Bool)(g:D->Env->Sto->R Ct):List D->Env->Sto->R Ct
 | [],ρ,s=>if ok s then .ok (.next ρ) s else .bad
 | d::l,ρ,s=>if ok s then(g d ρ s).bind λ c s=>match c with
   | .next ρ=>aN8 ok g l ρ s
   | .cont ρ=>aN8 ok g l ρ s
   | .brk ρ=>.ok (.next ρ) s
   | .ret d=>.ok (.ret d) s
  else .bad
noncomputable def jL (c:Env->Sto->R D)(g:Env->Sto->R Ct):Nat->Env->Sto->R Ct
 | 0,_,_=>.bad
 | n+1,ρ,s=>tru (c ρ s) λ b s=>if b then(g ρ s).bind λ c' s=>match c' with
   | .next ρ=>jL c g n ρ s
   | .cont ρ=>jL c g n ρ s
   | .brk ρ=>.ok (.next ρ) s
   | .ret d=>.ok (.ret d) s
  else .ok (.next ρ) s
open Classical in
noncomputable def whl (c:Env->Sto->R D)(g:Env->Sto->R Ct)(ρ:Env)(s:Sto):R Ct :=
 if h:∃ n,jL c g n ρ s≠.bad then jL c g h.choose ρ s else .bad
mutual
noncomputable def ex (F:Fns):S->Env->Sto->R Ct
 | .asg tg e,ρ,s=>(ev F e ρ s).bind λ d s=>match af2 ρ tg d with|some ρ=>.ok (.next ρ) s|none=>.bad
 | .setIx o i e,ρ,s=>(ev F e ρ s).bind λ d s=>(ev F o ρ s).bind λ x s=>(ev F i ρ s).bind λ y s=>(setIx x y d s).bind λ _ s=>.ok (.next ρ) s
 | .aug i e,ρ,s=>(bh2 ρ i s).bind λ x s=>(ev F e ρ s).bind λ y s=>match x,y with
  | .int a,.int b=>match aJ1 ρ i (.int (a+b))with|some ρ=>.ok (.next ρ) s|none=>.bad
  | _,_=>.bad
 | .ex e,ρ,s=>(ev F e ρ s).bind λ _ s=>.ok (.next ρ) s
 | .ret e,ρ,s=>(ev F e ρ s).bind λ d s=>.ok (.ret d) s
 | .retN,_,s=>.ok (.ret .non) s
 | .ite c a b,ρ,s=>tru (ev F c ρ s) λ k s=>if k then exs F a ρ s else exs F b ρ s
 | .whl c b,ρ,s=>whl (ev F c) (exs F b) ρ s
 | .for_ tg it b,ρ,s=>(evI F it ρ s).bind λ q s0=>aN8 (λ s=>chk s0 s q.src) (λ d ρ s=>match af2 ρ tg d with
   | some ρ=>exs F b ρ s
   | none=>.bad) q.its ρ s0
 | .pass,ρ,s=>.ok (.next ρ) s
 | .cont,ρ,s=>.ok (.cont ρ) s
 | .brk,ρ,s=>.ok (.brk ρ) s
 | .raise,_,_=>.bad
 | .und i,ρ,s=>match ag8 ρ i with|some ρ=>.ok (.next ρ) s|none=>.bad
noncomputable def exs (F:Fns):Ss->Env->Sto->R Ct
 | .nil,ρ,s=>.ok (.next ρ) s
 | .cons st ss,ρ,s=>(ex F st ρ s).bind λ c s=>match c with|.next ρ=>exs F ss ρ s|c=>.ok c s
end
structure Df where
 name:String
 ps:Nat
 vs:Nat
 body:Ss
structure Lm where
 id:String
 ps:Nat
 cs:Nat
 body:E
structure Pr where
 df:String->Option Df
 lm:String->Option Lm
 con:String->Option D
noncomputable def as3 (st st':Sto):Bool:=(ac st.length).all λ i=>decide (st'[i]?=st[i]?)||(match st'[i]? with|some o=>o.bnd st.length|none=>false)
noncomputable def zT (st:Sto)(d:D)(st':Sto):R D :=
 if as3 st st' then
  match d with
  | .ref r=>if r<st.length then .ok d (st'.take st.length)else match st'[r]? with
   | some o=>if o.bnd st.length then .ok (.ref st.length) (st'.take st.length++[o])else .ok d st'
   | none=>.bad
  | d=>if d.bnd st.length then .ok d (st'.take st.length)else .ok d st'
 else .ok d st'
noncomputable def aa1 (P:Pr):Nat->Fns
 | 0=>⟨λ _ _ _=>.bad,λ _ _ _ _=>.bad,P.con⟩
 | n+1=>⟨λ f l s=>match P.df f with
   | some d=>if l.length=d.ps then(exs (aa1 P n) d.body (l.map some++ar d.vs none) s).bind λ c s'=>match c with
     | .ret v=>zT s v s'
     | .next _=>zT s .non s'
     | _=>.bad else .bad
   | none=>.bad,
  λ id cs l s=>match P.lm id with
   | some d=>if l.length=d.ps/\cs.length=d.cs/\(D.nclL l&&D.nclL cs&&s.all O.ncl)=true then(ev (aa1 P n) d.body (l.map some++cs.map some) s).bind λ v s'=>zT s v s' else .bad
   | none=>.bad,P.con⟩
def KP (s s':Sto):Prop:=∀(i:Nat) (o:O),s[i]?=some o->∃ o',s'[i]?=some o'/\o'.kd=o.kd
theorem KP.refl (s:Sto):KP s s:=λ i o h=>⟨o,h,rfl⟩
theorem KP.trans {a b c:Sto}(h:KP a b)(g:KP b c):KP a c:=λ i o e=>by
 obtain⟨G,e1,y⟩:=h i o e
 obtain⟨Y,e2,J⟩:=g i G e1
 exact⟨Y,e2,J.trans y⟩
theorem KP.app (s t:Sto):KP s (s++t):=λ i o e=>⟨o,by rw[aw (ab.mp e).1];exact e,rfl⟩
theorem KP.set {s:Sto}{r:Nat}{o y:O}(h:s[r]?=some y)(k:o.kd=y.kd):KP s (s.set r o):=λ i u e=>by
 by_cases z:r=i
 ·subst z
  rw[h]at e;cases e
  exact⟨o,aS (ab.mp h).1,k⟩
 ·exact⟨u,by rw[aY z];exact e,rfl⟩
def KR {α:Type}(s:Sto)(r:R α):Prop:=∀ a s',r=.ok a s'->KP s s'
theorem KR.bad {α:Type}{s:Sto}:KR s (.bad:R α):=λ _ _ h=>by cases h
theorem KR.ok {α:Type}{s:Sto}{a:α}:KR s (.ok a s):=λ _ _ h=>by cases h;exact KP.refl _
theorem KR.bind {α β:Type}{s:Sto}{r:R α}{f:α->Sto->R β}(h:KR s r)(g:∀ a s1,KR s1 (f a s1)):KR s (r.bind f):=λ b s' e=>by
 obtain⟨a,s1,e1,e2⟩:=R.bind_inv e
 exact(h a s1 e1).trans (g a s1 b s' e2)
theorem KR.tru {α:Type}{s:Sto}{r:R D}{f:Bool->Sto->R α}(h:KR s r)(g:∀ a s1,KR s1 (f a s1)):KR s (tru r f):=KR.bind h λ a s1=>by
 cases a with
 | bl b=>exact g b s1
 | _=>exact KR.bad
theorem KR.if {α:Type}{s:Sto}{c:Prop}[Decidable c]{a b:R α}(h:KR s a)(g:KR s b):KR s (if c then a else b):=by split;exact h;exact g
theorem KR.al {s:Sto}{o:O}:KR s (af5 o s):=λ _ _ h=>by cases h;exact KP.app _ _
theorem KR.pu {s:Sto}{d:D}:KR s (pur d s):=λ _ _ h=>by cases h;exact KP.refl _
theorem KR.bd {s:Sto}:KR s ((DV.bad:M D) s):=λ _ _ h=>by cases h
theorem KR.im {s:Sto}{c:Prop}{_:Decidable c}{d:D}:KR s ((if c then pur d else DV.bad:M D) s):=by split;exact KR.pu;exact KR.bd
theorem KR.ia {s:Sto}{c:Prop}{_:Decidable c}{o:O}:KR s (if c then af5 o s else .bad):=KR.if KR.al KR.bd
theorem bk4 (op:BOp)(x y:D)(s:Sto):KR s (qN op x y s):=by
 cases op with
 | add=>cases x with
  | int a=>cases y with
   | int b=>exact KR.pu
   | _=>exact KR.bd
  | str a=>cases y with
   | str b=>exact KR.im
   | _=>exact KR.bd
  | tup a=>cases y with
   | tup b=>exact KR.im
   | _=>exact KR.bd
  | ref a=>cases y with
   | ref b =>
    show KR s (match s[a]?,s[b]? with|some (.lst l),some (.lst m)=>if l.length+m.length<=LIM then af5 (.lst (l++m)) s else .bad|_,_=>.bad)
    split
    ·exact KR.ia
    ·exact KR.bd
   | _=>exact KR.bd
  | _=>exact KR.bd
 | sub=>cases x with
  | int a=>cases y with
   | int b=>exact KR.pu
   | _=>exact KR.bd
  | _=>exact KR.bd
 | mul=>cases x with
  | int a=>cases y with
   | int b=>exact KR.im
   | _=>exact KR.bd
  | str a=>cases y with
   | int b=>exact KR.im
   | _=>exact KR.bd
  | tup a=>cases y with
   | int b=>exact KR.im
   | _=>exact KR.bd
  | ref a=>cases y with
   | int n =>
    show KR s (match s[a]? with|some (.lst l)=>if 0<=n/\n<=1000000/\l.length*n.toNat<=LIM then af5 (.lst (bF6 n.toNat l)) s else .bad|_=>.bad)
    split
    ·exact KR.ia
    ·exact KR.bd
   | _=>exact KR.bd
  | _=>exact KR.bd
 | fdiv=>cases x with
  | int a=>cases y with
   | int b=>exact KR.im
   | _=>exact KR.bd
  | _=>exact KR.bd
 | mod=>cases x with
  | int a=>cases y with
   | int b=>exact KR.im
   | _=>exact KR.bd
  | _=>exact KR.bd
 | pow=>cases x with
  | int a=>cases y with
   | int b=>exact KR.im
   | _=>exact KR.bd
  | _=>exact KR.bd
 | shl=>cases x with
  | int a=>cases y with
   | int b=>exact KR.im
   | _=>exact KR.bd
  | _=>exact KR.bd
 | shr=>cases x with
  | int a=>cases y with
   | int b=>exact KR.im
   | _=>exact KR.bd
  | _=>exact KR.bd
 | _=>exact KR.bd
theorem aZ2 (op:COp)(x y:D)(s:Sto):KR s (qz op x y s):=by
 have G:∀ a b:D,KR s (inM a b s):=λ a b=>by
  intro r s' h
  unfold inM at h
  split at h
  ·split at h<;>cases h;exact KP.refl _
  ·split at h
   ·split at h<;>cases h;exact KP.refl _
   ·split at h<;>cases h;exact KP.refl _
   ·cases h
  ·split at h<;>cases h;exact KP.refl _
  ·cases h
 cases op with
 | isin=>exact KR.bind (G x y) λ _ _=>KR.ok
 | notin=>exact KR.bind (G x y) λ _ _=>KR.ok
 | eq=>intro a s' h;change eqM x y s=_ at h;unfold eqM at h;split at h<;>cases h;exact KP.refl _
 | ne =>
  intro a s' h
  change(match eqv s DEEP x y with|some r=>R.ok (D.bl (!r)) s|none=>.bad)=_ at h
  split at h<;>cases h;exact KP.refl _
 | _ =>
  intro a s' h
  cases x with
  | int i=>(cases y with
   | int j=>cases h;exact KP.refl _
   | _=>cases h)
  | _=>cases h
theorem cb1 (x y:D)(s:Sto):KR s (ixM x y s):=by
 intro a s' h
 unfold ixM at h
 repeat' split at h
 all_goals first|(cases h;exact KP.refl _;done)|(cases h;done)
theorem bx6 (x:D)(y G:Option Int)(s:Sto):KR s (slM x y G s):=by
 intro a s' h
 unfold slM at h
 repeat' split at h
 all_goals first|(cases h;exact KP.refl _;done)|(cases h;exact KP.app _ _;done)|(cases h;done)
theorem bu5 (x:D)(s:Sto):KR s (ay7 x s):=by
 intro a s' h
 unfold ay7 at h
 repeat' split at h
 all_goals first|(cases h;exact KP.refl _;done)|(cases h;done)
theorem aU9 (x:D)(s:Sto):KR s (bJ2 x s):=by
 intro a s' h
 unfold bJ2 at h
 repeat' split at h
 all_goals first|(cases h;exact KP.refl _;done)|(cases h;done)
theorem bA9 (x:D)(s:Sto):KR s (an9 x s):=by
 intro a s' h
 unfold an9 at h
 repeat' split at h
 all_goals first|(cases h;exact KP.refl _;done)|(cases h;done)
theorem aN3 (x:D)(s:Sto):KR s (aP9 x s):=by
 intro a s' h
 unfold aP9 at h
 repeat' split at h
 all_goals first|(cases h;exact KP.refl _;done)|(cases h;done)
theorem bq1 (x:D)(s:Sto):KR s (bl4 x s):=by
 intro a s' h
 unfold bl4 at h
 repeat' split at h
 all_goals first|(cases h;exact KP.refl _;done)|(cases h;done)
theorem bA7 (x y:D)(s:Sto):KR s (bG5 x y s):=by
 intro a s' h
 unfold bG5 at h
 repeat' split at h
 all_goals first|(cases h;exact KP.refl _;done)|(cases h;done)
theorem cc5 (b:Bi)(l:List D)(s:Sto):KR s (bi b l s):=by
 have y:∀ f:D->M D,(∀ d,KR s (f d s))->KR s (bi1 f l s):=λ f J=>by
  cases l with
  | nil=>exact KR.bad
  | cons d t=>(cases t with
   | nil=>exact J d
   | cons _ _=>exact KR.bad)
 have G:∀ k d,KR s (isK k d s):=λ k d=>by
  intro a s' h
  unfold isK at h
  repeat' split at h
  all_goals first|(cases h;exact KP.refl _;done)|(cases h;done)
 have Y:∀ d,KR s (bF3 d s):=λ d=>by
  intro a s' h
  unfold bF3 at h
  repeat' split at h
  all_goals first|(cases h;exact KP.refl _;done)|(cases h;done)
 cases b with
 | len=>exact y _ Y
 | isInt=>exact y _ (G 1)
 | isBool=>exact y _ (G 2)
 | isStr=>exact y _ (G 3)
 | isTup=>exact y _ (G 4)
 | isList=>exact y _ (G 5)
 | _ =>
  intro a s' h
  unfold bi at h
  first|(cases h;done)|(simp only at h;split at h<;>first|(cases h;exact KP.refl _;done)|(cases h;done))
theorem bM1 (k:Mk)(l:List D)(s:Sto):KR s (mk k l s):=by
 cases k with
 | tuple=>exact KR.ok
 | list=>exact KR.al
 | lenset=>exact KR.bad
 | _ =>
  intro a s' h
  unfold mk at h
  simp only at h
  repeat' split at h
  all_goals first|(cases h;exact KP.refl _;done)|(cases h;exact KP.app _ _;done)|(cases h;done)
theorem bt5 (k:Mk)(l:List D)(d:D)(s:Sto):KR s (mkD k l d s):=by
 intro a s' h
 unfold mkD at h
 repeat' split at h
 all_goals first|(cases h;exact KP.refl _;done)|(cases h;done)
theorem bD4 (m:Mt)(o:D)(l:List D)(s:Sto):KR s (meth m o l s):=by
 intro a s' h
 unfold meth at h
 repeat' split at h
 all_goals first|(cases h;done)|(cases h;exact KP.refl _;done)|(rename_i e _;cases h;exact KP.set e rfl;done)|(rename_i e _ _ _;cases h;exact KP.set e rfl;done)|(rename_i e;cases h;exact KP.set e rfl;done)|(rename_i e _ _;cases h;exact KP.set e rfl;done)
theorem bd7 (o:D)(l:List D)(s:Sto):KR s (bW5 o l s):=by
 intro a s' h
 unfold bW5 at h
 repeat' split at h
 all_goals first|(cases h;done)|(rename_i e _;cases h;exact KP.set e rfl;done)
theorem bp9 (o i v:D)(s:Sto):KR s (setIx o i v s):=by
 intro a s' h
 unfold setIx at h
 cases o with
 | ref r =>
  simp only at h
  cases e:s[r]? with
  | none=>rw[e]at h;cases h
  | some ob =>
   rw[e]at h
   cases ob with
   | lst l =>
    cases i with
    | int k=>simp only at h;split at h<;>cases h;exact KP.set e rfl
    | _=>cases h
   | dic l=>simp only at h;split at h<;>cases h;exact KP.set e rfl
   | _=>cases h
 | _=>cases h
structure FK (F:Fns):Prop where
 call:∀ f l s,KR s (F.call f l s)
 lam:∀ id cs l s,KR s (F.lam id cs l s)
theorem aw3 {ok:Sto->Bool}{g:D->Env->Sto->R (Option D×Env)}(h:∀ d ρ s,KR s (g d ρ s)):∀(l:List D) (ρ:Env) (s:Sto),KR s (jc ok g l ρ s)
 | [],ρ,s=>KR.if KR.ok KR.bad
 | d::l,ρ,s=>KR.if (KR.bind (h d ρ s) λ p s1=>KR.bind (aw3 h l p.2 s1) λ r s2=>KR.ok) KR.bad
section
variable {F:Fns} (hF:FK F)
theorem bb2 (ρ:Env)(i:Nat)(s:Sto):KR s (bh2 ρ i s):=by
 intro a s' h
 unfold bh2 at h
 split at h<;>cases h;exact KP.refl _
include hF
mutual
theorem zu:∀(e:E) (ρ:Env) (s:Sto),KR s (ev F e ρ s)
 | .var i,ρ,s=>bb2 ρ i s
 | .cst c,ρ,s=>KR.ok
 | .glob x,ρ,s=>by
  intro a s' h
  change(match F.con x with|some d=>R.ok d s|none=>.bad)=_ at h
  split at h<;>cases h;exact KP.refl _
 | .bin op a b,ρ,s=>KR.bind (zu a ρ s) λ x s=>KR.bind (zu b ρ s) λ y s=>bk4 op x y s
 | .neg a,ρ,s=>KR.bind (zu a ρ s) λ x s=>by
  cases x with
  | int i=>exact KR.ok
  | _=>exact KR.bad
 | .not a,ρ,s=>KR.tru (zu a ρ s) λ b s=>KR.ok
 | .cmp op a b,ρ,s=>KR.bind (zu a ρ s) λ x s=>KR.bind (zu b ρ s) λ y s=>aZ2 op x y s
 | .chain o p a b c,ρ,s=>KR.bind (zu a ρ s) λ x s=>KR.bind (zu b ρ s) λ y s=>KR.tru (aZ2 o x y s) λ k s=>KR.if (KR.bind (zu c ρ s) λ z s=>aZ2 p y z s) KR.ok
 | .isN a,ρ,s=>KR.bind (zu a ρ s) λ x s=>KR.ok
 | .notN a,ρ,s=>KR.bind (zu a ρ s) λ x s=>KR.ok
 | .isB a b,ρ,s=>KR.bind (zu a ρ s) λ x s=>by
  cases x with
  | bl i=>exact KR.ok
  | _=>exact KR.bad
 | .notB a b,ρ,s=>KR.bind (zu a ρ s) λ x s=>by
  cases x with
  | bl i=>exact KR.ok
  | _=>exact KR.bad
 | .and a b,ρ,s=>KR.tru (zu a ρ s) λ c s=>KR.if (KR.tru (zu b ρ s) λ c s=>KR.ok) KR.ok
 | .or a b,ρ,s=>KR.tru (zu a ρ s) λ c s=>KR.if KR.ok (KR.tru (zu b ρ s) λ c s=>KR.ok)
 | .ite c a b,ρ,s=>KR.tru (zu c ρ s) λ k s=>KR.if (zu a ρ s) (zu b ρ s)
 | .tup es,ρ,s=>KR.bind (aj3 es ρ s) λ l s=>KR.ok
 | .lst es,ρ,s=>KR.bind (aj3 es ρ s) λ l s=>KR.al
 | .dic .nil .nil,ρ,s=>KR.al
 | .dic (.cons k .nil) (.cons v .nil),ρ,s=>by
  intro a s' h
  obtain⟨kd,s1,e1,h⟩:=R.bind_inv (show(ev F k ρ (s++[.dic []])).bind _=_ from h)
  obtain⟨G,s2,e2,h⟩:=R.bind_inv h
  split at h
  case isFalse=>cases h
  rename_i hc
  cases h
  exact((KP.app _ _).trans ((zu k ρ _ _ _ e1).trans (zu v ρ _ _ _ e2))).trans (KP.set hc.2 rfl)
 | .dic .nil (.cons _ _),ρ,s=>KR.bad
 | .dic (.cons _ .nil) .nil,ρ,s=>KR.bad
 | .dic (.cons _ .nil) (.cons _ (.cons _ _)),ρ,s=>KR.bad
 | .dic (.cons _ (.cons _ _)) _,ρ,s=>KR.bad
 | .ix a b,ρ,s=>KR.bind (zu a ρ s) λ x s=>KR.bind (zu b ρ s) λ y s=>cb1 x y s
 | .slL a lo,ρ,s=>KR.bind (zu a ρ s) λ x s=>KR.bind (zu lo ρ s) λ y s=>by
  cases y with
  | int i=>exact bx6 _ _ _ _
  | _=>exact KR.bad
 | .slU a hi,ρ,s=>KR.bind (zu a ρ s) λ x s=>KR.bind (zu hi ρ s) λ y s=>by
  cases y with
  | int i=>exact bx6 _ _ _ _
  | _=>exact KR.bad
 | .slLU a lo hi,ρ,s=>KR.bind (zu a ρ s) λ x s=>KR.bind (zu lo ρ s) λ y s=>by
  cases y with
  | int i =>
   refine KR.bind (zu hi ρ s) λ z s=>?_
   cases z with
   | int j=>exact bx6 _ _ _ _
   | _=>exact KR.bad
  | _=>exact KR.bad
 | .rev a,ρ,s=>KR.bind (zu a ρ s) λ x s=>by
  cases x with
  | str l=>exact KR.ok
  | _=>exact KR.bad
 | .call f as,ρ,s=>KR.bind (ap8 as ρ s) λ l s=>hF.call f l s
 | .callC f as,ρ,s=>KR.bind (ap8 as ρ s) λ l s=>KR.bind (hF.call f l s) λ d s'=>KR.if KR.ok KR.bad
 | .callV i es,ρ,s=>KR.bind (aj3 es ρ s) λ l s=>by
  intro a s' h
  split at h
  ·exact hF.call _ _ _ _ _ h
  ·exact hF.lam _ _ _ _ _ _ h
  ·cases h
 | .bi b es,ρ,s=>KR.bind (aj3 es ρ s) λ l s=>cc5 b l s
 | .mk k it,ρ,s=>KR.bind (bc9 it ρ s) λ q s=>bM1 k q s
 | .mkD k it d,ρ,s=>KR.bind (bc9 it ρ s) λ q s=>KR.bind (zu d ρ s) λ d s=>bt5 k q d s
 | .meth m o es,ρ,s=>KR.bind (zu o ρ s) λ x s=>KR.bind (aj3 es ρ s) λ l s=>bD4 m x l s
 | .ext o it,ρ,s=>KR.bind (zu o ρ s) λ x s=>KR.bind (bc9 it ρ s) λ q s=>bd7 x q s
 | .extS o e,ρ,s=>KR.bind (zu o ρ s) λ x s=>KR.bind (zu e ρ s) λ y s=>by
  intro a s' h
  unfold extS at h
  repeat' split at h
  all_goals first|(cases h;done)|exact bd7 _ _ _ _ _ h
 | .join o e,ρ,s=>KR.bind (zu o ρ s) λ x s=>KR.bind (zu e ρ s) λ y s=>bA7 x y s
 | .mks k e,ρ,s=>KR.bind (zu e ρ s) λ x s=>KR.bind (aU9 x s) λ q s=>bM1 k q s
 | .mkDs k e d,ρ,s=>KR.bind (zu e ρ s) λ x s=>KR.bind (zu d ρ s) λ z s=>KR.bind (aU9 x s) λ q s=>bt5 k q z s
theorem aj3:∀(es:Es) (ρ:Env) (s:Sto),KR s (evs F es ρ s)
 | .nil,ρ,s=>KR.ok
 | .cons e es,ρ,s=>KR.bind (zu e ρ s) λ d s=>KR.bind (aj3 es ρ s) λ l s=>KR.ok
theorem ap8:∀(y:As) (ρ:Env) (s:Sto),KR s (aq9 F y ρ s)
 | .nil,ρ,s=>KR.ok
 | .ex e y,ρ,s=>KR.bind (zu e ρ s) λ d s=>KR.bind (ap8 y ρ s) λ l s=>KR.ok
 | .lam id caps y,ρ,s=>by
  intro a s' h
  change(match ag4 ρ caps with|some cs=>(aq9 F y ρ s).bind λ l s=>R.ok (D.clo id cs::l) s|none=>.bad)=_ at h
  split at h
  ·exact KR.bind (ap8 y ρ s) (λ l s=>KR.ok) _ _ h
  ·cases h
 | .fn f y,ρ,s=>KR.bind (ap8 y ρ s) λ l s=>KR.ok
theorem aZ1:∀(h:I) (ρ:Env) (s:Sto),KR s (evI F h ρ s)
 | .seq e,ρ,s=>KR.bind (zu e ρ s) λ d s=>bA9 d s
 | .rng1 a,ρ,s=>KR.bind (zu a ρ s) λ x s=>by
  cases x with
  | int i=>exact KR.if KR.ok KR.bad
  | _=>exact KR.bad
 | .rng2 a b,ρ,s=>KR.bind (zu a ρ s) λ x s=>KR.bind (zu b ρ s) λ y s=>by
  cases x with
  | int i=>(cases y with
   | int j=>exact KR.if KR.ok KR.bad
   | _=>exact KR.bad)
  | _=>exact KR.bad
 | .rng3 a b c,ρ,s=>KR.bind (zu a ρ s) λ x s=>KR.bind (zu b ρ s) λ y s=>by
  cases x with
  | int i=>(cases y with
   | int j=>exact KR.if KR.ok KR.bad
   | _=>exact KR.bad)
  | _=>exact KR.bad
 | .enum (.seq e),ρ,s=>KR.bind (zu e ρ s) λ d s=>KR.bind (bq1 d s) λ q s=>KR.ok
 | .zip (.seq a) (.seq b),ρ,s=>KR.bind (zu a ρ s) λ x s=>KR.bind (zu b ρ s) λ y s=>KR.bind (aN3 x s) λ p s=>KR.bind (aN3 y s) λ q s=>KR.ok
 | .enum (.rng1 _),ρ,s=>KR.bad
 | .enum (.rng2 _ _),ρ,s=>KR.bad
 | .enum (.rng3 _ _ _),ρ,s=>KR.bad
 | .enum (.enum _),ρ,s=>KR.bad
 | .enum (.zip _ _),ρ,s=>KR.bad
 | .enum (.items _),ρ,s=>KR.bad
 | .zip (.rng1 _) _,ρ,s=>KR.bad
 | .zip (.rng2 _ _) _,ρ,s=>KR.bad
 | .zip (.rng3 _ _ _) _,ρ,s=>KR.bad
 | .zip (.enum _) _,ρ,s=>KR.bad
 | .zip (.zip _ _) _,ρ,s=>KR.bad
 | .zip (.items _) _,ρ,s=>KR.bad
 | .zip (.seq _) (.rng1 _),ρ,s=>KR.bad
 | .zip (.seq _) (.rng2 _ _),ρ,s=>KR.bad
 | .zip (.seq _) (.rng3 _ _ _),ρ,s=>KR.bad
 | .zip (.seq _) (.enum _),ρ,s=>KR.bad
 | .zip (.seq _) (.zip _ _),ρ,s=>KR.bad
 | .zip (.seq _) (.items _),ρ,s=>KR.bad
 | .items e,ρ,s=>KR.bad
theorem bc9:∀(y:L) (ρ:Env) (s:Sto),KR s (evL F y ρ s)
 | .comp tg y e caps,ρ,s=>KR.bind (aZ1 y ρ s) λ q s0=>KR.if (aw3 (λ d ρ s=>by
   intro a s' h
   split at h
   ·exact KR.bind (zu e _ s) (λ v s=>KR.ok) _ _ h
   ·cases h) _ _ _) KR.bad
 | .compIf tg y c e caps,ρ,s=>KR.bind (aZ1 y ρ s) λ q s0=>KR.if (aw3 (λ d ρ s=>by
   intro a s' h
   split at h
   ·exact KR.tru (zu c _ s) (λ k s=>KR.if (KR.bind (zu e _ s) λ v s=>KR.ok) KR.ok) _ _ h
   ·cases h) _ _ _) KR.bad
 | .disp es,ρ,s=>aj3 es ρ s
 | .seq e,ρ,s=>KR.bind (zu e ρ s) λ d s=>bu5 d s
end
theorem aI8 {ok:Sto->Bool}{g:D->Env->Sto->R Ct}(h:∀ d ρ s,KR s (g d ρ s)):∀(l:List D) (ρ:Env) (s:Sto),KR s (aN8 ok g l ρ s)
 | [],ρ,s=>KR.if KR.ok KR.bad
 | d::l,ρ,s=>KR.if (KR.bind (h d ρ s) λ c s=>by
   cases c with
   | next ρ=>exact aI8 h l ρ s
   | cont ρ=>exact aI8 h l ρ s
   | brk ρ=>exact KR.ok
   | ret d=>exact KR.ok) KR.bad
theorem aH7 {c:Env->Sto->R D}{g:Env->Sto->R Ct}(hc:∀ ρ s,KR s (c ρ s))(h:∀ ρ s,KR s (g ρ s)):∀(n:Nat) (ρ:Env) (s:Sto),KR s (jL c g n ρ s)
 | 0,ρ,s=>KR.bad
 | n+1,ρ,s=>KR.tru (hc ρ s) λ b s=>KR.if (KR.bind (h ρ s) λ y s=>by
   cases y with
   | next ρ=>exact aH7 hc h n ρ s
   | cont ρ=>exact aH7 hc h n ρ s
   | brk ρ=>exact KR.ok
   | ret d=>exact KR.ok) KR.ok
mutual
theorem cd9:∀(st:S) (ρ:Env) (s:Sto),KR s (ex F st ρ s)
 | .asg tg e,ρ,s=>KR.bind (zu hF e ρ s) λ d s=>by
  intro a s' h
  split at h<;>cases h;exact KP.refl _
 | .setIx o i e,ρ,s=>KR.bind (zu hF e ρ s) λ d s=>KR.bind (zu hF o ρ s) λ x s=>KR.bind (zu hF i ρ s) λ y s=>KR.bind (bp9 x y d s) λ _ s=>KR.ok
 | .aug i e,ρ,s=>KR.bind (bb2 ρ i s) λ x s=>KR.bind (zu hF e ρ s) λ y s=>by
  intro a s' h
  repeat' split at h
  all_goals first|(cases h;exact KP.refl _;done)|(cases h;done)
 | .ex e,ρ,s=>KR.bind (zu hF e ρ s) λ d s=>KR.ok
 | .ret e,ρ,s=>KR.bind (zu hF e ρ s) λ d s=>KR.ok
 | .retN,ρ,s=>KR.ok
 | .ite c a b,ρ,s=>KR.tru (zu hF c ρ s) λ k s=>KR.if (at5 a ρ s) (at5 b ρ s)
 | .whl c b,ρ,s=>by
  intro r s' h
  change whl (ev F c) (exs F b) ρ s=_ at h
  unfold whl at h
  split at h
  ·exact aH7 hF (λ ρ s=>zu hF c ρ s) (λ ρ s=>at5 b ρ s) _ ρ s _ _ h
  ·cases h
 | .for_ tg it b,ρ,s=>KR.bind (aZ1 hF it ρ s) λ q s0=>aI8 hF (λ d ρ s=>by
   intro a s' h
   split at h
   ·exact at5 b _ _ _ _ h
   ·cases h) _ _ _
 | .pass,ρ,s=>KR.ok
 | .cont,ρ,s=>KR.ok
 | .brk,ρ,s=>KR.ok
 | .raise,ρ,s=>KR.bad
 | .und i,ρ,s=>by
  intro a s' h
  change(match ag8 ρ i with|some ρ=>R.ok (Ct.next ρ) s|none=>.bad)=_ at h
  split at h<;>cases h;exact KP.refl _
theorem at5:∀(h:Ss) (ρ:Env) (s:Sto),KR s (exs F h ρ s)
 | .nil,ρ,s=>KR.ok
 | .cons st h,ρ,s=>KR.bind (cd9 st ρ s) λ c s=>by
  cases c with
  | next ρ=>exact at5 h ρ s
  | _=>exact KR.ok
end
end
theorem ax2 {s st:Sto}{d:D}(h:KP s st):KR s (zT s d st):=by
 have tk:∀ t,KP s (st.take s.length++t):=λ t i o e=>by
  obtain⟨Y,e',k⟩:=h i o e
  have J:=(ab.mp e).1
  have G:=(ab.mp e').1
  refine⟨Y,?_,k⟩
  rw[aw (by rw[bG];omega),iI,if_pos J];exact e'
 have y:KP s (st.take s.length):=by have:=tk [];rwa [bD]at this
 intro a s' e
 unfold zT at e
 repeat' split at e
 all_goals first|(cases e;exact y;done)|(cases e;exact tk _;done)|(cases e;exact h;done)|(cases e;done)
theorem al2 (P:Pr):∀ n,FK (aa1 P n)
 | 0=>⟨λ _ _ _=>KR.bad,λ _ _ _ _=>KR.bad⟩
 | n+1=>by
  refine⟨λ f l s=>?_,λ id cs l s=>?_⟩
  ·intro a s' h
   unfold aa1 at h
   simp only at h
   split at h
   case h_2=>cases h
   split at h
   case isFalse=>cases h
   obtain⟨c,s1,e1,h⟩:=R.bind_inv h
   have y:=at5 (al2 P n) _ _ _ _ _ e1
   cases c with
   | ret v=>exact ax2 y _ _ h
   | next ρ=>exact ax2 y _ _ h
   | _=>cases h
  ·intro a s' h
   unfold aa1 at h
   simp only at h
   split at h
   case h_2=>cases h
   split at h
   case isFalse=>cases h
   obtain⟨v,s1,e1,h⟩:=R.bind_inv h
   exact ax2 (zu (al2 P n) _ _ _ _ _ e1) _ _ h
end DV
end
open DV renaming Sto->kO,D->kP,Env->kR,R->kS,ev->kU,eqv->kX,LIM->kY,aa1->kZ,tru->k6,DEEP->k7,eqL->k8,rep->k9,kd->la,Pr->lb,ae6->lc,af2->lf,Es->lh,O->li,Fns->lj,evs->ln,ag4->lp,aT3->lq,look->lr,Bi->ls,Tg->lu,Ct->lv,sbd->lw,chk->lx,ja->ly,af5->lz,inL->lA,ixn->lB,aT6->lC,As->lE,minI->lF,aH8->lG,loB->lH,ar4->lI,aJ1->lJ,aq9->lK,M->lL,E->lM,Sq->lN,z0->lO,mk->lP,Lm->lQ,Df->lR,hiB->lS,slM->lT,ap3->lU,meth->lV,jy->lW,jc->lX,Mk->lY,Mt->lZ,Ss->l6,aI4->l7,COp->l8,pur->l9,inM->ma,bi1->mf,aN8->mn,bi->mq,BOp->mr,bF6->mw,isK->my,W62->mD,S->mF,evI->mG,exs->mH,ag8->mJ,as3->mK
open DV.D renaming bndL->kQ,bnd->kT,nclL->lD,ncl->mz
open DV.O renaming bnd->kW,ncl->mB
noncomputable section
namespace L2
theorem fb {α:Type}{d:α}{s:kO}{p:Prop}(h:(DV.R.bad:kS α)=.ok d s):p:=nomatch h
open PySem PySem.Spec PyProof.Rows
structure LamI where
 qual:Str
 params:a9
 body:Expr
 scope:Scope
 ps:List Str
 fr:List Str
 nm:Option (Str×Pos)
def CloAt (H:Hp)(f:Addr)(J:LamI)(cap:List V)(clos:List (Str×Addr)):Prop:=match J.nm with
 | none=>aA0 H f J.qual J.params J.body J.scope J.fr cap clos
 | some p=>aq3 H f p.1 J.qual J.params [.Return (some J.body) p.2] J.scope J.fr cap clos
def ah2 (H:Hp)(f:Addr)(J:LamI)(clos:List (Str×Addr)):Prop:=match J.nm with
 | none=>∃ pm c' ctv,H f=some (aw4 f (bS "<lambda>" J.qual J.params J.body J.scope clos pm (.ref c') ctv))/\H c'=some (qJ c' J.qual)
 | some p=>∃ doc pm c' ctv,H f=some (aw4 f (cu p.1 J.qual J.params [.Return (some J.body) p.2] J.scope clos .none .none doc pm none (.ref c') ctv))/\H c'=some (qJ c' J.qual)
structure Gm where
 K:ae
 fa:String->Option Addr
 lg:String->LamI->Prop
 T:List (Addr×Str)
variable (Γ:Gm)
mutual
noncomputable def RV (φ:Nat->Addr)(H:Hp):kP->V->Prop
 | .non,v=>v=.non
 | .bl b,v=>v=.bl b
 | .int i,v=>v=.int i
 | .str x,v=>v=.str ⟨x.toArray⟩/\x.length<=kY
 | .tup l,v=>∃ a xs,v=.ref a/\SqT Γ.K H a xs/\RVL φ H l xs
 | .ref n,v=>v=.ref (φ n)
 | .fn f,v=>∃ a,Γ.fa f=some a/\v=.ref a
 | .clo id cs,v=>∃ f cap J clos,v=.ref f/\Γ.lg id J/\CloAt H f J cap clos/\cap.length=J.fr.length/\RVL φ H cs cap
noncomputable def RVL (φ:Nat->Addr)(H:Hp):List kP->List V->Prop
 | [],xs=>xs=[]
 | d::l,xs=>∃ x r,xs=x::r/\RV φ H d x/\RVL φ H l r
end
noncomputable def bZ2:HO->Bool
 | .tup _=>true
 | .frz _ _=>true
 | .ext _=>true
 | _=>false
def Kp (H H':Hp):Prop:=∀ b o,H b=some o->bZ2 o=true->H' b=some o
theorem Kp.refl (H:Hp):Kp H H:=λ _ _ h _=>h
theorem Kp.trans {H y H2:Hp}(a:Kp H y)(b:Kp y H2):Kp H H2:=λ c o h f=>b c o (a c o h f) f
theorem Kp.new {H y:Hp}{p:Addr}{o:HO}(a:Kp H y)(h:y p=none):Kp H (upd y p o):=λ c u e f=>by
 have e1:=a c u e f
 rw[zm (zJ e1 h)];exact e1
theorem Kp.put {H y:Hp}{p:Addr}{o u:HO}(a:Kp H y)(h:y p=some u)(G:bZ2 u=false):Kp H (upd y p o):=λ c v e f=>by
 have e1:=a c v e f
 rw[zm (λ z=>by subst z;rw[h]at e1;cases e1;rw[G]at f;cases f)];exact e1
theorem Kp.sqT {K:ae}{H H':Hp}{a:Addr}{y:List V}(e:Kp H H')(h:SqT K H a y):SqT K H' a y:=by
 rcases h with(h|⟨o,h⟩)|h
 ·exact .inl (.inl (e _ _ h rfl))
 ·exact .inl (.inr ⟨o,e _ _ h rfl⟩)
 ·exact .inr h
theorem aA0.kp {H H':Hp}{f:Addr}{qual:Str}{params:a9}{body:Expr}{scope:Scope}{fr:List Str}{cap:List V}{y:List (Str×Addr)}(h:aA0 H f qual params body scope fr cap y)(e:Kp H H'):aA0 H' f qual params body scope fr cap y:=by
 obtain⟨pm,Z,G,h1,h2,h3,J,Y,h6⟩:=h
 refine⟨pm,Z,G,e _ _ h1 rfl,e _ _ h2 rfl,λ x c q=>?_,J,Y,λ i x v a b=>?_⟩
 ·obtain⟨o,v,z,d⟩:=h3 x c q
  exact⟨o,v,e _ _ z rfl,d⟩
 ·obtain⟨c,o,u,z1,z2,z3⟩:=h6 i x v a b
  exact⟨c,o,u,z1,e _ _ z2 rfl,z3⟩
theorem aq3.kp {H H':Hp}{f:Addr}{name qual:Str}{params:a9}{body:List Stmt}{scope:Scope}{fr:List Str}{cap:List V}{y:List (Str×Addr)}(h:aq3 H f name qual params body scope fr cap y)(e:Kp H H'):aq3 H' f name qual params body scope fr cap y:=by
 obtain⟨G,pm,c',J,h1,h2,h3,Y,Z,h6⟩:=h
 refine⟨G,pm,c',J,e _ _ h1 rfl,e _ _ h2 rfl,λ x c q=>?_,Y,Z,λ i x v a b=>?_⟩
 ·obtain⟨o,v,z,d⟩:=h3 x c q
  exact⟨o,v,e _ _ z rfl,d⟩
 ·obtain⟨c,o,u,z1,z2,z3⟩:=h6 i x v a b
  exact⟨c,o,u,z1,e _ _ z2 rfl,z3⟩
theorem CloAt.kp {H H':Hp}{f:Addr}{J:LamI}{cap:List V}{y:List (Str×Addr)}(h:CloAt H f J cap y)(e:Kp H H'):CloAt H' f J cap y:=by
 unfold CloAt at h ⊢
 cases q:J.nm with
 | none=>rw[q]at h;exact aA0.kp h e
 | some p=>rw[q]at h;exact aq3.kp h e
theorem ah2.kp {H H':Hp}{f:Addr}{J:LamI}{y:List (Str×Addr)}(h:ah2 H f J y)(e:Kp H H'):ah2 H' f J y:=by
 unfold ah2 at h ⊢
 cases q:J.nm with
 | none =>
  rw[q]at h
  obtain⟨pm,c',G,h1,Z⟩:=h
  exact⟨pm,c',G,e _ _ h1 rfl,e _ _ Z rfl⟩
 | some p =>
  rw[q]at h
  obtain⟨Y,pm,c',G,h1,Z⟩:=h
  exact⟨Y,pm,c',G,e _ _ h1 rfl,e _ _ Z rfl⟩
theorem CloAt.fn {K:ae}{H:Hp}{f:Addr}{J:LamI}{cap:List V}{y:List (Str×Addr)}(h:CloAt H f J cap y):bv9 K H f:=by
 unfold CloAt at h
 cases q:J.nm with
 | none=>rw[q]at h;obtain⟨pm,Z,G,Y,_⟩:=h;exact .inl ⟨_,Y⟩
 | some p=>rw[q]at h;exact aq3.fn h
structure Gw (φ:Nat->Addr)(n:Nat)(H:Hp)(φ':Nat->Addr)(H':Hp):Prop where
 map:∀ i,i<n->φ' i=φ i
 kp:Kp H H'
variable {Γ:Gm}
mutual
theorem RV.monoW {φ φ':Nat->Addr}{n:Nat}{H H':Hp}(g:Gw φ n H φ' H'):∀(d:kP) (v:V),d.bnd n=true->RV Γ φ H d v->RV Γ φ' H' d v
 | .non,_,_,h=>by unfold RV at h ⊢;exact h
 | .bl _,_,_,h=>by unfold RV at h ⊢;exact h
 | .int _,_,_,h=>by unfold RV at h ⊢;exact h
 | .str _,_,_,h=>by unfold RV at h ⊢;exact h
 | .tup l,_,b,h=>by
  unfold RV at h ⊢
  unfold kT at b
  obtain⟨a,G,e,q,r⟩:=h
  exact⟨a,G,e,g.kp.sqT q,RVL.monoW g l G b r⟩
 | .ref k,_,b,h=>by
  unfold RV at h ⊢
  unfold kT at b
  rw[g.map k (of_decide_eq_true b)];exact h
 | .fn _,_,_,h=>by unfold RV at h ⊢;exact h
 | .clo id cs,_,b,h=>by
  unfold RV at h ⊢
  unfold kT at b
  obtain⟨f,cap,J,y,e,h1,Z,h3,Y⟩:=h
  exact⟨f,cap,J,y,e,h1,Z.kp g.kp,h3,RVL.monoW g cs cap b Y⟩
theorem RVL.monoW {φ φ':Nat->Addr}{n:Nat}{H H':Hp}(g:Gw φ n H φ' H'):∀(l:List kP) (y:List V),kQ n l=true->RVL Γ φ H l y->RVL Γ φ' H' l y
 | [],_,_,h=>by unfold RVL at h ⊢;exact h
 | d::l,_,b,h=>by
  unfold RVL at h ⊢
  unfold kQ at b
  rw[au]at b
  obtain⟨x,r,e,q,t⟩:=h
  exact⟨x,r,e,RV.monoW g d x b.1 q,RVL.monoW g l r b.2 t⟩
end
mutual
theorem zE {n m:Nat}(h:n<=m):∀ d:kP,d.bnd n=true->d.bnd m=true
 | .non,_=>rfl
 | .bl _,_=>rfl
 | .int _,_=>rfl
 | .str _,_=>rfl
 | .tup l,b=>by unfold kT at b ⊢;exact ab2 h l b
 | .ref k,b=>by unfold kT at b ⊢;exact decide_eq_true (aq (of_decide_eq_true b) h)
 | .fn _,_=>rfl
 | .clo _ l,b=>by unfold kT at b ⊢;exact ab2 h l b
theorem ab2 {n m:Nat}(h:n<=m):∀ l:List kP,kQ n l=true->kQ m l=true
 | [],_=>rfl
 | d::l,b=>by
  unfold kQ at b ⊢
  rw[au]at b ⊢
  exact⟨zE h d b.1,ab2 h l b.2⟩
end
theorem ab6 {n:Nat}:∀ {l:List kP},kQ n l=true↔∀ d∈l,d.bnd n=true
 | []=>by unfold kQ;simp
 | d::l=>by
  unfold kQ
  rw[au,ab6 (l:=l)]
  simp
theorem qo {n:Nat}{l m:List kP}(h:kQ n l=true)(h':kQ n m=true):kQ n (l++m)=true :=
 ab6.mpr λ d hd=>(bV.mp hd).elim (ab6.mp h d) (ab6.mp h' d)
theorem aO8 {n:Nat}{l m:List kP}(h:kQ n l=true)(s:∀ d∈m,d∈l):kQ n m=true:=ab6.mpr λ d hd=>ab6.mp h d (s d hd)
theorem al6 {n:Nat}{l:List kP}{i:Nat}{d:kP}(h:kQ n l=true)(e:l[i]?=some d):d.bnd n=true:=ab6.mp h d (aW e)
section
variable {φ:Nat->Addr} {H:Hp}
theorem RVL.nil:RVL Γ φ H [] []:=by unfold RVL;rfl
theorem RVL.cons {d:kP}{l:List kP}{x:V}{h:List V}(a:RV Γ φ H d x)(b:RVL Γ φ H l h):RVL Γ φ H (d::l) (x::h):=by unfold RVL;exact⟨x,h,rfl,a,b⟩
theorem RVL.unnil {y:List V}(h:RVL Γ φ H [] y):y=[]:=by unfold RVL at h;exact h
theorem RVL.uncons {d:kP}{l:List kP}{y:List V}(h:RVL Γ φ H (d::l) y):∃ x r,y=x::r/\RV Γ φ H d x/\RVL Γ φ H l r:=by unfold RVL at h;exact h
theorem RVL.length:∀ {l:List kP} {y:List V},RVL Γ φ H l y->y.length=l.length
 | [],_,h=>by rw[h.unnil];rfl
 | d::l,_,h=>by
  obtain⟨x,r,rfl,_,t⟩:=h.uncons
  rw[aU,aU,RVL.length t]
theorem RVL.get:∀ {l:List kP} {G:List V} {i:Nat} {d:kP},RVL Γ φ H l G->l[i]?=some d->∃ x,G[i]?=some x/\RV Γ φ H d x
 | [],_,_,_,_,e=>by simp at e
 | d::l,_,0,d',h,e=>by
  obtain⟨x,r,rfl,q,t⟩:=h.uncons
  have e':d=d':=by simpa using e
  subst e'
  exact⟨x,rfl,q⟩
 | d::l,_,i+1,_,h,e=>by
  obtain⟨x,r,rfl,q,t⟩:=h.uncons
  obtain⟨y,e1,e2⟩:=RVL.get (i:=i) t (by simpa using e)
  exact⟨y,by simpa using e1,e2⟩
theorem RVL.append:∀ {l m:List kP} {y ys:List V},RVL Γ φ H l y->RVL Γ φ H m ys->RVL Γ φ H (l++m) (y++ys)
 | [],_,_,_,h,h'=>by rw[h.unnil];exact h'
 | d::l,_,_,_,h,h'=>by
  obtain⟨x,r,rfl,q,t⟩:=h.uncons
  exact .cons q (RVL.append t h')
theorem RVL.drop:∀ {l:List kP} {y:List V} (n:Nat),RVL Γ φ H l y->RVL Γ φ H (l.drop n) (y.drop n)
 | _,_,0,h=>h
 | [],_,n+1,h=>by rw[h.unnil];exact .nil
 | d::l,_,n+1,h=>by
  obtain⟨x,r,rfl,q,t⟩:=h.uncons
  exact RVL.drop n t
theorem RVL.take:∀ {l:List kP} {y:List V} (n:Nat),RVL Γ φ H l y->RVL Γ φ H (l.take n) (y.take n)
 | _,_,0,h=>.nil
 | [],_,n+1,h=>by rw[h.unnil];exact .nil
 | d::l,_,n+1,h=>by
  obtain⟨x,r,rfl,q,t⟩:=h.uncons
  exact .cons q (RVL.take n t)
theorem RVL.set:∀ {l:List kP} {y:List V} {d:kP} {x:V} (i:Nat),RVL Γ φ H l y->RV Γ φ H d x->RVL Γ φ H (l.set i d) (y.set i x)
 | [],_,_,_,_,h,_=>by rw[h.unnil];exact .nil
 | d::l,_,_,_,0,h,q=>by
  obtain⟨x,r,rfl,_,t⟩:=h.uncons
  exact .cons q t
 | d::l,_,_,_,i+1,h,q=>by
  obtain⟨x,r,rfl,G,t⟩:=h.uncons
  exact .cons G (RVL.set i t q)
theorem RVL.reverse:∀ {l:List kP} {y:List V},RVL Γ φ H l y->RVL Γ φ H l.reverse y.reverse
 | [],_,h=>by rw[h.unnil];exact .nil
 | d::l,_,h=>by
  obtain⟨x,r,rfl,q,t⟩:=h.uncons
  rw[d6,d6]
  exact(RVL.reverse t).append (.cons q .nil)
theorem RV.intE {i:Int}{v:V}(h:RV Γ φ H (.int i) v):v=.int i:=by unfold RV at h;exact h
theorem RV.blE {i:Bool}{v:V}(h:RV Γ φ H (.bl i) v):v=.bl i:=by unfold RV at h;exact h
theorem RV.nonE {v:V}(h:RV Γ φ H .non v):v=.non:=by unfold RV at h;exact h
theorem RV.strE {x:List Nat}{v:V}(h:RV Γ φ H (.str x) v):v=.str ⟨x.toArray⟩:=by unfold RV at h;exact h.1
theorem RV.strL {x:List Nat}{v:V}(h:RV Γ φ H (.str x) v):x.length<=kY:=by unfold RV at h;exact h.2
theorem RV.tupE {l:List kP}{v:V}(h:RV Γ φ H (.tup l) v):∃ a y,v=.ref a/\SqT Γ.K H a y/\RVL Γ φ H l y:=by unfold RV at h;exact h
theorem RV.refE {n:Nat}{v:V}(h:RV Γ φ H (.ref n) v):v=.ref (φ n):=by unfold RV at h;exact h
theorem RV.intI {i:Int}:RV Γ φ H (.int i) (.int i):=by unfold RV;rfl
theorem RV.blI {i:Bool}:RV Γ φ H (.bl i) (.bl i):=by unfold RV;rfl
theorem RV.nonI:RV Γ φ H .non .non:=by unfold RV;rfl
theorem RV.strI {x:List Nat}(h:x.length<=kY):RV Γ φ H (.str x) (.str ⟨x.toArray⟩):=by unfold RV;exact⟨rfl,h⟩
theorem RV.tupI {l:List kP}{a:Addr}{y:List V}(h:SqT Γ.K H a y)(q:RVL Γ φ H l y):RV Γ φ H (.tup l) (.ref a):=by unfold RV;exact⟨a,y,rfl,h,q⟩
theorem RV.refI {n:Nat}:RV Γ φ H (.ref n) (.ref (φ n)):=by unfold RV;rfl
end
def SqF (K:ae)(H:Hp)(a:Addr)(xs:List V):Prop:=SqL K H a xs/\∀ H',Kp H H'->SqL K H' a xs
noncomputable def az0:kP->Option Key
 | .int i=>some (.inl i)
 | .str x=>some (.inr ⟨x.toArray⟩)
 | _=>none
noncomputable def RVD (Γ:Gm)(φ:Nat->Addr)(H:Hp):List (kP×kP)->List (Key×V)->Prop
 | [],kvs=>kvs=[]
 | (d,e)::l,kvs=>∃ k v r,kvs=(k,v)::r/\az0 d=some k/\RV Γ φ H e v/\RVD Γ φ H l r
variable (Γ)
noncomputable def RO (φ:Nat->Addr)(H:Hp)(a:Addr):li->Prop
 | .lst l=>∃ xs,H a=some (.lst xs)/\RVL Γ φ H l xs
 | .ro l=>∃ xs,SqF Γ.K H a xs/\RVL Γ φ H l xs
 | .dic l=>∃ kvs,H a=some (.dK kvs)/\RVD Γ φ H l kvs
 | .ins _ _=>False
noncomputable abbrev okd:li->Nat:=DV.O.kd
noncomputable def isMut:li->Bool
 | .ro _=>false
 | _=>true
structure Rp (φ:Nat->Addr)(H:Hp)(s:kO):Prop where
 inj:∀(i j:Nat) (o o':li),s[i]?=some o->s[j]?=some o'->isMut o=true->isMut o'=true->φ i=φ j->i=j
 obj:∀(i:Nat) (o:li),s[i]?=some o->RO Γ φ H (φ i) o
 wf:∀(i:Nat) (o:li),s[i]?=some o->o.bnd s.length=true
 tab:TabsH Γ.T H
structure RE (φ:Nat->Addr)(H:Hp)(n:Nat)(ρ:kR)(σ:St):Prop where
 len:ρ.length=σ.length
 val:∀(i:Nat) (d:kP),ρ[i]?=some (some d)->d.bnd n=true/\∃ v,σ[i]?=some (some v)/\RV Γ φ H d v
structure Gr (φ:Nat->Addr)(s:kO)(H:Hp)(φ':Nat->Addr)(s':kO)(H':Hp):Prop where
 w:Gw φ s.length H φ' H'
 le:s.length<=s'.length
 new:∀ i:Nat,s.length<=i->i<s'.length->H (φ' i)=none
 kd:∀(i:Nat) (o o':li),s[i]?=some o->s'[i]?=some o'->okd o'=okd o
 st:∀ b,H b≠none->H' b≠none
 fr:∀ b o,H b=some o->(∀ ps,o≠.tbl ps)->(∀(i:Nat) (ob:li),s[i]?=some ob->isMut ob=true->φ i≠b)->H' b=some o
variable {Γ}
theorem bH5 {o y:li}(h:okd y=okd o)(m:isMut y=true):isMut o=true:=by
 cases o with
 | ro _=>cases y with
  | ro _=>cases m
  | _=>cases h
 | _=>rfl
theorem Gr.mu {φ φ':Nat->Addr}{s s':kO}{H H':Hp}(g:Gr φ s H φ' s' H')(i:Nat)(o h:li)(e:s[i]?=some o)(e':s'[i]?=some h)(m:isMut h=true):isMut o=true:=bH5 (g.kd i o h e e') m
theorem Gr.refl (φ:Nat->Addr)(s:kO)(H:Hp):Gr φ s H φ s H:=⟨⟨λ _ _=>rfl,Kp.refl H⟩,ai _,λ i G y=>absurd y (by omega),λ i o J e e'=>by rw[e]at e';cases e';rfl,λ _ h=>h,λ _ _ h _ _=>h⟩
theorem Gr.trans {φ φ1 φ2:Nat->Addr}{s s1 s2:kO}{H Z H2:Hp}(a:Gr φ s H φ1 s1 Z)(b:Gr φ1 s1 Z φ2 s2 H2)(_h:s.length<=s1.length):Gr φ s H φ2 s2 H2:=by
 refine⟨⟨λ i y=>(b.w.map i (aq y a.le)).trans (a.w.map i y),a.w.kp.trans b.w.kp⟩,am a.le b.le,λ i h1 h2=>?_,λ i o o' e e'=>?_,λ c h=>b.st c (a.st c h),λ c o h nt ne=>?_⟩
 ·by_cases y:i<s1.length
  ·rw[b.w.map i y];exact a.new i h1 y
  ·have e:=b.new i (by omega) h2
   cases q:H (φ2 i)with
   | none=>rfl
   | some o=>exact absurd e (a.st _ (by rw[q];simp))
 ·have hl:i<s1.length:=aq (ab.mp e).1 a.le
  obtain⟨J,e1⟩:∃ J,s1[i]?=some J:=⟨s1[i],ag hl⟩
  exact(b.kd i J o' e1 e').trans (a.kd i o J e e1)
 ·refine b.fr c o (a.fr c o h nt ne) nt λ i ob e m z=>?_
  by_cases y:i<s.length
  ·obtain⟨G,Y⟩:∃ G,s[i]?=some G:=⟨s[i],ag y⟩
   exact ne i G Y (a.mu i G ob Y e m) (by rw[<-a.w.map i y];exact z)
  ·have:=a.new i (by omega) (ab.mp e).1
   rw[z,h]at this;cases this
theorem RV.mono {φ φ':Nat->Addr}{s s':kO}{H H':Hp}(g:Gr φ s H φ' s' H')(d:kP)(v:V)(b:d.bnd s.length=true)(h:RV Γ φ H d v):RV Γ φ' H' d v:=RV.monoW g.w d v b h
theorem RVL.mono {φ φ':Nat->Addr}{s s':kO}{H H':Hp}(g:Gr φ s H φ' s' H')(d:List kP)(v:List V)(b:kQ s.length d=true)(h:RVL Γ φ H d v):RVL Γ φ' H' d v:=RVL.monoW g.w d v b h
theorem RE.mono {φ φ':Nat->Addr}{s s':kO}{H H':Hp}{ρ:kR}{σ:St}(h:RE Γ φ H s.length ρ σ)(g:Gr φ s H φ' s' H')(hn:s.length<=s'.length):RE Γ φ' H' s'.length ρ σ :=
 ⟨h.len,λ i d e=>by
  obtain⟨b,v,e1,e2⟩:=h.val i d e
  exact⟨zE hn d b,v,e1,RV.mono g d v b e2⟩⟩
def af8 (Γ:Gm)(φ:Nat->Addr)(s:kO)(H:Hp)(d:kP)(s':kO)(Q:VK):Prop :=
 ∀ v φ' H',Gr φ s H φ' s' H'->s.length<=s'.length->d.bnd s'.length=true->RV Γ φ' H' d v->Rp Γ φ' H' s'->Q v H'
theorem af8.trans {φ φ1:Nat->Addr}{s s1 s':kO}{H y:Hp}{d:kP}{Q:VK}(h:af8 Γ φ s H d s' Q)(g:Gr φ s H φ1 s1 y)(l:s.length<=s1.length):af8 Γ φ1 s1 y d s' Q :=
 λ v φ' H' g' G b r p=>h v φ' H' (g.trans g' l) (am l G) b r p
theorem af8.here {φ:Nat->Addr}{s:kO}{H:Hp}{d:kP}{Q:VK}{v:V}(h:af8 Γ φ s H d s Q)(p:Rp Γ φ H s)(b:d.bnd s.length=true)(r:RV Γ φ H d v):Q v H :=
 h v φ H (Gr.refl φ s H) (ai _) b r p
theorem RVD.monoW {φ φ':Nat->Addr}{n:Nat}{H H':Hp}(g:Gw φ n H φ' H'):∀(l:List (kP×kP)) (y:List (Key×V)),kQ n (l.map (·.2))=true->RVD Γ φ H l y->RVD Γ φ' H' l y
 | [],_,_,h=>h
 | (d,e)::l,_,b,h=>by
  obtain⟨k,v,r,e1,e2,J,G⟩:=h
  rw[aJ]at b
  unfold kQ at b
  rw[au]at b
  exact⟨k,v,r,e1,e2,RV.monoW g e v b.1 J,RVD.monoW g l r b.2 G⟩
theorem RO.mono {φ φ':Nat->Addr}{n:Nat}{H H':Hp}{a:Addr}{o:li}(h:RO Γ φ H a o)(g:Gw φ n H φ' H')(b:o.bnd n=true)(hl:isMut o=true->∀ u,H a=some u->H' a=some u):RO Γ φ' H' a o:=by
 cases o with
 | lst l =>
  unfold kW at b
  obtain⟨y,e,r⟩:=h
  exact⟨y,hl rfl _ e,RVL.monoW g l y b r⟩
 | ro l =>
  unfold kW at b
  obtain⟨y,e,r⟩:=h
  exact⟨y,⟨e.2 _ g.kp,λ H2 k=>e.2 _ (g.kp.trans k)⟩,RVL.monoW g l y b r⟩
 | dic l =>
  unfold kW at b
  rw[au]at b
  obtain⟨G,e,r⟩:=h
  exact⟨G,hl rfl _ e,RVD.monoW g l G b.2 r⟩
 | ins _ _=>exact h.elim
theorem RO.there {φ:Nat->Addr}{H:Hp}{a:Addr}{o:li}(h:RO Γ φ H a o)(m:isMut o=true):∃ u,H a=some u/\bZ2 u=false/\∀ ps,u≠.tbl ps:=by
 cases o with
 | lst l=>obtain⟨y,e,_⟩:=h;exact⟨_,e,rfl,by nofun⟩
 | ro l=>cases m
 | dic l=>obtain⟨y,e,_⟩:=h;exact⟨_,e,rfl,by nofun⟩
 | ins _ _=>exact h.elim
theorem Rp.addr {φ:Nat->Addr}{H:Hp}{s:kO}(p:Rp Γ φ H s){i:Nat}{l:List kP}(e:s[i]?=some (.lst l)):∃ h,H (φ i)=some (.lst h)/\RVL Γ φ H l h:=p.obj i _ e
theorem qG {n m:Nat}(h:n<=m)(o:li)(b:o.bnd n=true):o.bnd m=true:=by
 cases o with
 | lst l=>unfold kW at b ⊢;exact ab2 h l b
 | ro l=>unfold kW at b ⊢;exact ab2 h l b
 | dic l =>
  unfold kW at b ⊢
  rw[au]at b ⊢
  exact⟨ab2 h _ b.1,ab2 h _ b.2⟩
 | ins c l=>unfold kW at b ⊢;exact ab2 h _ b
theorem TabsH.keepF {T:List (Addr×Str)}{H H':Hp}(h:TabsH T H)(k:∀ b o,(bZ2 o=true\/∃ ps,o=.tbl ps)->H b=some o->H' b=some o):TabsH T H':=λ y hy=>by
 obtain⟨ps,e,t,c⟩:=h y hy
 refine⟨ps,k _ _ (.inr ⟨_,rfl⟩) e,t,λ pos G q=>?_⟩
 obtain⟨J,e1,e2⟩:=c pos G q
 exact⟨J,e1,k _ _ (.inl rfl) e2⟩
theorem Rp.new {φ:Nat->Addr}{H:Hp}{s:kO}{p:Addr}{u:HO}{o:li}(r:Rp Γ φ H s)(J:H p=none)(hb:o.bnd s.length=true)
  (ho:∀ φ' H',Gw φ s.length H φ' H'->H' p=some u->RO Γ φ' H' p o):Gr φ s H (λ i=>if i=s.length then p else φ i) (s++[o]) (upd H p u)/\Rp Γ (λ i=>if i=s.length then p else φ i) (upd H p u) (s++[o]):=by
 have g:Gw φ s.length H (λ i=>if i=s.length then p else φ i) (upd H p u):=⟨λ i y=>if_neg (aA y),(Kp.refl H).new J⟩
 have key:∀ i G,(s++[o])[i]?=some G->(i<s.length/\s[i]?=some G)\/(i=s.length/\G=o):=λ i G e=>by
  rcases fB i s.length with h|h|h
  ·rw[aw h]at e;exact .inl ⟨h,e⟩
  ·subst h;simp at e;exact .inr ⟨rfl,e.symm⟩
  ·rw[aZ (by simp;omega)]at e;cases e
 refine⟨⟨g,by simp,λ i h1 h2=>?_,λ i o1 o2 e1 e2=>?_,λ b hb=>?_,λ b ob hb _ _=>by rw[zm (zJ hb J)];exact hb⟩,λ i j oi oj Z ej mi mj e=>?_,λ i G e=>?_,λ i G e=>?_,r.tab.new J⟩
 ·rw[aQ,dh]at h2
  rw[if_pos (by omega)];exact J
 ·rcases key i o2 e2 with⟨_,e⟩|⟨y,_⟩
  ·rw[e1]at e;cases e;rfl
  ·have:=(ab.mp e1).1;omega
 ·unfold upd;split
  ·simp
  ·exact hb
 ·rcases key i oi Z with⟨y,Z⟩|⟨y,rfl⟩<;>rcases key j oj ej with⟨hj,ej⟩|⟨hj,ej'⟩
  ·rw[if_neg (aA y),if_neg (aA hj)]at e
   exact r.inj i j oi oj Z ej mi mj e
  ·rw[if_neg (aA y),if_pos hj]at e
   obtain⟨u,Y,_,_⟩:=(r.obj i oi Z).there mi
   rw[e,J]at Y;cases Y
  ·rw[if_neg (aA hj),if_pos y]at e
   obtain⟨u,Y,_,_⟩:=(r.obj j oj ej).there mj
   rw[<-e,J]at Y;cases Y
  ·rw[y,hj]
 ·rcases key i G e with⟨y,e⟩|⟨y,rfl⟩
  ·show RO Γ _ _ (if i=s.length then p else φ i) G
   rw[if_neg (aA y)]
   exact(r.obj i G e).mono g (r.wf i G e) λ _ v hv=>by rw[zm (zJ hv J)];exact hv
  ·show RO Γ _ _ (if i=s.length then p else φ i) G
   rw[if_pos y]
   exact ho _ _ g zo
 ·rw[aQ,dh]
  rcases key i G e with⟨y,e⟩|⟨y,rfl⟩
  ·exact qG (du _) _ (r.wf i G e)
  ·exact qG (du _) _ hb
theorem Rp.set {φ:Nat->Addr}{H:Hp}{s:kO}{k:Nat}{u:HO}{o G:li}(r:Rp Γ φ H s)(hk:s[k]?=some G)(Z:isMut G=true)(hb:o.bnd s.length=true)
  (ho:∀ H',Gw φ s.length H φ H'->H' (φ k)=some u->RO Γ φ H' (φ k) o) (a1:okd o=okd G:=by rfl):Gr φ s H φ (s.set k o) (upd H (φ k) u)/\Rp Γ φ (upd H (φ k) u) (s.set k o):=by
 obtain⟨v0,Y,f0,a2⟩:=(r.obj k G hk).there Z
 have a0:k<s.length:=(ab.mp hk).1
 have g:Gw φ s.length H φ (upd H (φ k) u):=⟨λ _ _=>rfl,(Kp.refl H).put Y f0⟩
 have key:∀ i y,(s.set k o)[i]?=some y->(i≠k/\s[i]?=some y)\/(i=k/\y=o):=λ i y e=>by
  by_cases h:i=k
  ·subst h;rw[aS a0]at e;exact .inr ⟨rfl,(av e).symm⟩
  ·rw[aY (bU h)]at e;exact .inl ⟨h,e⟩
 have mm:∀ i y,(s.set k o)[i]?=some y->isMut y=true->∃ J,s[i]?=some J/\isMut J=true:=λ i y e m=>by
  rcases key i y e with⟨_,e⟩|⟨h,_⟩
  ·exact⟨y,e,m⟩
  ·exact⟨G,by rw[h];exact hk,Z⟩
 refine⟨⟨g,by simp,λ i h1 h2=>by rw[bw]at h2;omega,λ i o1 o2 e1 e2=>?_,λ b hb=>?_,λ b ob hb nt ne=>by rw[zm (bU (ne k G hk Z))];exact hb⟩,λ i j oi oj ei ej mi mj e=>?_,λ i y e=>?_,λ i y e=>?_,r.tab.keepF λ b v hv q=>?_⟩
 ·rcases key i o2 e2 with⟨_,e⟩|⟨h,rfl⟩
  ·rw[e1]at e;cases e;rfl
  ·subst h;rw[hk]at e1;cases e1;exact a1
 ·unfold upd;split
  ·simp
  ·exact hb
 ·obtain⟨o1,e1,m1⟩:=mm i oi ei mi
  obtain⟨o2,e2,m2⟩:=mm j oj ej mj
  exact r.inj i j o1 o2 e1 e2 m1 m2 e
 ·rcases key i y e with⟨h,e⟩|⟨h,rfl⟩
  ·refine(r.obj i y e).mono g (r.wf i y e) λ m v hv=>?_
   rw[zm λ z=>h (r.inj i k y G e hk m Z z)];exact hv
  ·subst h
   exact ho _ g zo
 ·rw[bw]
  rcases key i y e with⟨_,e⟩|⟨_,rfl⟩
  ·exact r.wf i y e
  ·exact hb
 ·rw[zm λ z=>by
   subst z;rw[Y]at q;cases q
   rcases hv with h|⟨ps,h⟩
   ·rw[f0]at h;cases h
   ·exact a2 _ h]
  exact q
theorem Rp.same {φ:Nat->Addr}{H H':Hp}{s:kO}(r:Rp Γ φ H s)(e:ag9 H H'):Gr φ s H φ s H'/\Rp Γ φ H' s:=by
 have g:Gw φ s.length H φ H':=⟨λ _ _=>rfl,λ b o h _=>e b o h⟩
 exact⟨⟨g,ai _,λ i J G=>absurd G (by omega),λ i o Y e e'=>by rw[e]at e';cases e';rfl,λ b hb=>by
  cases q:H b with
  | none=>exact absurd q hb
  | some o=>rw[e b o q];simp,λ b o h _ _=>e b o h⟩,r.inj,λ i o h=>(r.obj i o h).mono g (r.wf i o h) λ _ u y=>e _ u y,r.wf,r.tab.same e⟩
section
variable {φ:Nat->Addr} {H:Hp} {s:kO} {Q:VK}
theorem af8.alloc {l:List kP}{y:List V}(h:af8 Γ φ s H (.ref s.length) (s++[.lst l]) Q)(r:Rp Γ φ H s)(hl:RVL Γ φ H l y)(hb:kQ s.length l=true){p:Addr}(G:H p=none):Q (.ref p) (upd H p (.lst y)):=by
 obtain⟨g,J⟩:=r.new (o:=.lst l) (u:=.lst y) G hb λ φ' H' g e=>⟨y,e,RVL.monoW g l y hb hl⟩
 have:=h (.ref p) _ _ g (by simp) (by unfold kT;simp) (by unfold RV;simp) J
 exact this
theorem af8.tup {l:List kP}{y:List V}(h:af8 Γ φ s H (.tup l) s Q)(r:Rp Γ φ H s)(hl:RVL Γ φ H l y)(hb:kQ s.length l=true){p:Addr}(G:H p=none):Q (.ref p) (upd H p (.tup y)):=by
 obtain⟨g,J⟩:=r.same (H':=upd H p (.tup y)) ((ag9.refl H).new G)
 exact h _ _ _ g (ai _) (by unfold kT;exact hb) (RV.tupI (SqT.of zo) (RVL.mono g l y hb hl)) J
theorem af8.put {k:Nat}{l l0:List kP}{y:List V}{d:kP}{v:V}(h:af8 Γ φ s H d (s.set k (.lst l)) Q)(r:Rp Γ φ H s)(hk:s[k]?=some (.lst l0))(hl:RVL Γ φ H l y)(hb:kQ s.length l=true)
  (hd:d.bnd s.length=true) (hv:RV Γ φ H d v):Q v (upd H (φ k) (.lst y)):=by
 obtain⟨g,G⟩:=r.set (o:=.lst l) (u:=.lst y) hk rfl hb λ H' g e=>⟨y,e,RVL.monoW g l y hb hl⟩
 exact h _ _ _ g (by simp) (by rw[bw];exact hd) (RV.mono g d v hd hv) G
end
variable {Γ:Gm}
theorem aC6 {a b:kP}{k:Key}(ha:az0 a=some k)(hb:az0 b=some k):a=b:=by
 cases a with
 | int i =>
  cases ha
  cases b with
  | int j=>cases hb;rfl
  | str y=>cases hb
  | _=>cases hb
 | str x =>
  cases ha
  cases b with
  | int j=>cases hb
  | str y =>
   have h:=av hb
   injection h with h
   injection h with h
   have G:y=x:=by simpa using h
   rw[G]
  | _=>cases hb
 | _=>cases ha
theorem am2 {d:kP}(h:d.key=true):∃ k,az0 d=some k:=by
 cases d with
 | int i=>exact⟨_,rfl⟩
 | str x=>exact⟨_,rfl⟩
 | _=>cases h
theorem aL9 {φ:Nat->Addr}{H:Hp}{d:kP}{k:Key}{v:V}(h:az0 d=some k)(r:RV Γ φ H d v):v=kV k:=by
 cases d with
 | int i=>cases h;exact r.intE
 | str x=>cases h;exact r.strE
 | _=>cases h
theorem RVD.val {φ:Nat->Addr}{H:Hp}{d:kP}{k:Key}(hk:az0 d=some k):∀ {l:List (kP×kP)} {y:List (Key×V)},RVD Γ φ H l y->(lr d l=none/\aM5 y k=none)\/∃ e v,lr d l=some e/\aM5 y k=some v/\RV Γ φ H e v/\e∈l.map (·.2)
 | [],y,h=>by
  have h:y=[]:=h
  subst h
  exact .inl ⟨rfl,rfl⟩
 | (a,e)::l,y,h=>by
  obtain⟨G,v,r,rfl,e2,e3,e4⟩:=h
  by_cases z:a=d
  ·subst z
   rw[hk]at e2;cases e2
   exact .inr ⟨e,v,by unfold lr;rw[if_pos rfl],al7 rfl,e3,by simp⟩
  ·have Z:¬ G=k:=λ q=>z (aC6 e2 (by rw[q];exact hk))
   have Y:lr d ((a,e)::l)=lr d l:=by
    conv=>lhs;unfold lr
    rw[if_neg z]
   rw[Y,am3 (show ¬(G,v).1=k from Z)]
   rcases RVD.val hk e4 with q|⟨e',v',J,q2,q3,q4⟩
   ·exact .inl q
   ·exact .inr ⟨e',v',J,q2,q3,by simp at q4 ⊢;exact .inr q4⟩
theorem RVD.repl {φ:Nat->Addr}{H:Hp}{d e:kP}{k:Key}{v:V}(hk:az0 d=some k)(hv:RV Γ φ H e v):∀ {l:List (kP×kP)} {y:List (Key×V)},RVD Γ φ H l y->RVD Γ φ H (l.map λ p=>if p.1=d then(p.1,e)else p) (y.map λ G=>if G.1=k then(G.1,v)else G)
 | [],y,h=>by
  have h:y=[]:=h
  subst h;exact(rfl:([]:List (Key×V))=[])
 | (a,e0)::l,y,h=>by
  obtain⟨Y,v0,r,rfl,e2,e3,J⟩:=h
  rw[aJ,aJ]
  by_cases z:a=d
  ·subst z
   rw[hk]at e2;cases e2
   rw[if_pos rfl,if_pos rfl]
   exact⟨k,v,_,rfl,hk,hv,RVD.repl hk hv J⟩
  ·have Z:¬ Y=k:=λ q=>z (aC6 e2 (by rw[q];exact hk))
   rw[if_neg z,if_neg Z]
   exact⟨Y,v0,_,rfl,e2,e3,RVD.repl hk hv J⟩
theorem RVD.snoc {φ:Nat->Addr}{H:Hp}{d e:kP}{k:Key}{v:V}(hk:az0 d=some k)(hv:RV Γ φ H e v):∀ {l:List (kP×kP)} {y:List (Key×V)},RVD Γ φ H l y->RVD Γ φ H (l++[(d,e)]) (y++[(k,v)])
 | [],y,h=>by
  have h:y=[]:=h
  subst h;exact⟨k,v,[],rfl,hk,hv,rfl⟩
 | (a,e0)::l,y,h=>by
  obtain⟨J,v0,r,rfl,e2,Y,G⟩:=h
  exact⟨J,v0,_,rfl,e2,Y,RVD.snoc hk hv G⟩
theorem RVD.put {φ:Nat->Addr}{H:Hp}{d e:kP}{k:Key}{v:V}{l:List (kP×kP)}{y:List (Key×V)}(hk:az0 d=some k)(hv:RV Γ φ H e v)(h:RVD Γ φ H l y):RVD Γ φ H (lq d e l) (az2 y k v):=by
 unfold lq az2
 rw[av0]
 rcases h.val hk with⟨G,q2⟩|⟨e',v',G,q2,_⟩
 ·rw[G,q2];exact h.snoc hk hv
 ·rw[G,q2];exact h.repl hk hv
theorem RVD.length {φ:Nat->Addr}{H:Hp}:∀ {l:List (kP×kP)} {y:List (Key×V)},RVD Γ φ H l y->y.length=l.length
 | [],y,h=>by
  have h:y=[]:=h
  subst h;rfl
 | (a,e)::l,y,h=>by
  obtain⟨J,v,r,rfl,e2,Y,G⟩:=h
  rw[aU,aU,RVD.length G]
theorem bl3 {n:Nat}{d e:kP}{l:List (kP×kP)}(h:(DV.O.dic l).bnd n=true)(hd:d.bnd n=true)(J:e.bnd n=true):(DV.O.dic (lq d e l)).bnd n=true:=by
 unfold kW at h ⊢
 rw[au]at h ⊢
 obtain⟨Z,Y⟩:=h
 have g1:=ab6.mp Z
 have G:=ab6.mp Y
 unfold lq
 refine⟨ab6.mpr λ x hx=>?_,ab6.mpr λ x hx=>?_⟩
 ·obtain⟨p,y,rfl⟩:=aB.mp hx
  split at y
  ·obtain⟨q,hq,rfl⟩:=aB.mp y
   split
   ·exact g1 _ (bo (f:=(·.1)) hq)
   ·exact g1 _ (bo (f:=(·.1)) hq)
  ·rcases bV.mp y with q|q
   ·exact g1 _ (bo (f:=(·.1)) q)
   ·rw[bJ.mp q];exact hd
 ·obtain⟨p,y,rfl⟩:=aB.mp hx
  split at y
  ·obtain⟨q,hq,rfl⟩:=aB.mp y
   split
   ·exact J
   ·exact G _ (bo (f:=(·.2)) hq)
  ·rcases bV.mp y with q|q
   ·exact G _ (bo (f:=(·.2)) q)
   ·rw[bJ.mp q];exact J
theorem al4 {f:kP->kP->Option Bool}{a b:kP}{l m:List kP}{z:Bool}(h:k8 f (a::l) (b::m)=some z):∃ x y,f a b=some x/\k8 f l m=some y/\z=(x&&y):=by
 unfold k8 at h
 cases e1:f a b with
 | none=>rw[e1]at h;cases h
 | some x =>
  cases e2:k8 f l m with
  | none=>rw[e1,e2]at h;cases h
  | some y=>rw[e1,e2]at h;exact⟨x,y,rfl,rfl,(av h).symm⟩
theorem be1 {f:kP->kP->Option Bool}:∀ {l m:List kP} {z:Bool},k8 f l m=some z->∃ e:Nat->Bool,(∀ j d d',l[j]?=some d->m[j]?=some d'->f d d'=some (e j))/\((l.length==m.length)&&(ac (min l.length m.length)).all e)=z
 | [],[],z,h=>by
  unfold k8 at h
  cases h
  exact⟨λ _=>true,λ j d d' h=>by simp at h,by simp⟩
 | [],b::m,z,h=>by
  unfold k8 at h
  cases h
  exact⟨λ _=>true,λ j d d' h=>by simp at h,by simp⟩
 | a::l,[],z,h=>by
  unfold k8 at h
  cases h
  exact⟨λ _=>true,λ j d d' Y J=>by simp at J,by simp⟩
 | a::l,b::m,z,h=>by
  obtain⟨x,y,e1,e2,Z⟩:=al4 h
  obtain⟨e,Y,J⟩:=be1 e2
  refine⟨λ j=>match j with|0=>x|j+1=>e j,λ j d d' g1 G=>?_,?_⟩
  ·cases j with
   | zero=>simp at g1 G;subst g1;subst G;exact e1
   | succ j=>exact Y j d d' (by simpa using g1) (by simpa using G)
  ·rw[aU,aU,show min (l.length+1) (m.length+1)=min l.length m.length+1 by omega,gq,cK,List.all_map,Z,<-J]
   have:((l.length+1==m.length+1)=(l.length==m.length)):=by
    by_cases q:l.length=m.length
    ·simp[q]
    ·have:¬ l.length+1=m.length+1:=by omega
     simp[q]
   rw[this]
   show((l.length==m.length)&&(x&&(ac _).all e))=_
   cases x<;>cases(l.length==m.length)<;>simp
section
variable {X:Cx} {pins:List (Addr×Obj)} {σ:St} {H:Hp} {sh:ah} {φ:Nat->Addr} {s:kO}
theorem ao2 (I:Inv X pins σ H sh){a:Addr}{y ys:List V}(h:H a=some (.lst y))(h':SqT X.K H a ys):False:=by
 rcases h' with(z|⟨o,z⟩)|⟨o,its,n,hk,_⟩
 ·rw[h]at z;cases z
 ·rw[h]at z;cases z
 ·have:=(I.bs a o (I.mod.kin a o hk)).2
  rw[h]at this;cases this
theorem rv_two (I:Inv X pins σ H sh)(hK:X.K=Γ.K)(R:Rp Γ φ H s){a b:kP}{x:V}(Y:RV Γ φ H a x)(y:RV Γ φ H b x)(n1:la s a≠9)(G:la s b≠9):a=b\/∃ l m p Z,a=.tup l/\b=.tup m/\x=.ref p/\RVL Γ φ H l Z/\RVL Γ φ H m Z:=by
 have J:∀ {r:Nat},la s (.ref r)≠9->∃ l,s[r]?=some (.lst l):=λ {r} h=>by
  have h:(match s[r]? with|some (DV.O.lst l)=>4|_=>9:Nat)≠9:=h
  cases hs:s[r]? with
  | none=>rw[hs]at h;exact absurd rfl h
  | some o =>
   rw[hs]at h
   cases o with
   | lst l=>exact⟨l,rfl⟩
   | _=>exact absurd rfl h
 cases a with
 | non=>have e:=Y.nonE;subst e;cases b with
  | non=>exact .inl rfl
  | bl _=>cases y.blE
  | int _=>cases y.intE
  | str _=>cases y.strE
  | tup _=>obtain⟨_,_,e,_⟩:=y.tupE;cases e
  | ref _=>cases y.refE
  | fn _=>exact absurd rfl G
  | clo _ _=>exact absurd rfl G
 | bl p=>have e:=Y.blE;subst e;cases b with
  | non=>cases y.nonE
  | bl _=>cases y.blE;exact .inl rfl
  | int _=>cases y.intE
  | str _=>cases y.strE
  | tup _=>obtain⟨_,_,e,_⟩:=y.tupE;cases e
  | ref _=>cases y.refE
  | fn _=>exact absurd rfl G
  | clo _ _=>exact absurd rfl G
 | int p=>have e:=Y.intE;subst e;cases b with
  | non=>cases y.nonE
  | bl _=>cases y.blE
  | int _=>cases y.intE;exact .inl rfl
  | str _=>cases y.strE
  | tup _=>obtain⟨_,_,e,_⟩:=y.tupE;cases e
  | ref _=>cases y.refE
  | fn _=>exact absurd rfl G
  | clo _ _=>exact absurd rfl G
 | str p=>have e:=Y.strE;subst e;cases b with
  | non=>cases y.nonE
  | bl _=>cases y.blE
  | int _=>cases y.intE
  | str q =>
   have e':p.toArray=q.toArray:=Str.mk.inj (V.str.inj y.strE)
   have a0:p=q:=by simpa using congrArg iM e'
   subst a0;exact .inl rfl
  | tup _=>obtain⟨_,_,e,_⟩:=y.tupE;cases e
  | ref _=>cases y.refE
  | fn _=>exact absurd rfl G
  | clo _ _=>exact absurd rfl G
 | tup l =>
  obtain⟨p,Z,e,q1,d1⟩:=Y.tupE;subst e;cases b with
  | non=>cases y.nonE
  | bl _=>cases y.blE
  | int _=>cases y.intE
  | str _=>cases y.strE
  | tup m =>
   obtain⟨p',ys,e,q2,d2⟩:=y.tupE
   cases e
   rw[<-hK]at q1 q2
   rw[I.tuple_inj q2 q1]at d2
   exact .inr ⟨l,m,p,Z,rfl,rfl,rfl,d1,d2⟩
  | ref r =>
   cases y.refE
   obtain⟨m,hm⟩:=J G
   obtain⟨ys,hy,_⟩:=R.addr hm
   rw[<-hK]at q1
   exact(ao2 I hy q1).elim
  | fn _=>exact absurd rfl G
  | clo _ _=>exact absurd rfl G
 | ref r =>
  have e:=Y.refE;subst e
  obtain⟨l,hl⟩:=J n1
  obtain⟨Z,hx,_⟩:=R.addr hl
  cases b with
  | non=>cases y.nonE
  | bl _=>cases y.blE
  | int _=>cases y.intE
  | str _=>cases y.strE
  | tup m =>
   obtain⟨p',ys,e,q2,d2⟩:=y.tupE
   cases e
   rw[<-hK]at q2
   exact(ao2 I hx q2).elim
  | ref r' =>
   obtain⟨m,hm⟩:=J G
   have e:φ r=φ r':=V.ref.inj y.refE
   rw[R.inj r r' _ _ hl hm rfl rfl e]
   exact .inl rfl
  | fn _=>exact absurd rfl G
  | clo _ _=>exact absurd rfl G
 | fn _=>exact absurd rfl n1
 | clo _ _=>exact absurd rfl n1
theorem jx {a b:kP}{z:Bool}(h:lc s a b=some z):l7 a b=some z\/(l7 a b=none/\lG (la s a) (la s b)=false/\z=false):=by
 unfold lc at h
 cases e:l7 a b with
 | some w=>rw[e]at h;exact .inl h
 | none =>
  rw[e]at h
  cases q:lG (la s a) (la s b)with
  | true=>rw[q]at h;cases h
  | false=>rw[q]at h;exact .inr ⟨rfl,rfl,(av h).symm⟩
theorem bn3 {a b:kP}{z:Bool}(h:l7 a b=some z):la s a≠9/\la s b≠9:=by
 cases a<;>cases b<;>first|(cases h;done)|(constructor<;>(intro z;cases z))
theorem ai2 {a b:kP}{z:Bool}(h:lc s a b=some z):la s a≠9/\la s b≠9:=by
 rcases jx h with h|⟨_,h,_⟩
 ·exact bn3 h
 ·unfold lG at h
  simp only[eG,beq_eq_false_iff_ne]at h
  exact⟨h.1.1,h.1.2⟩
theorem aG4 {a:kP}{z:Bool}(h:lc s a a=some z):z=true:=by
 rcases jx h with h|⟨_,h,_⟩
 ·cases a<;>cases h<;>first|rfl|exact beq_self_eq_true _
 ·unfold lG at h;simp at h
theorem aO1 (I:Inv X pins σ H sh)(hK:X.K=Γ.K)(R:Rp Γ φ H s):∀(n:Nat) (a b:kP) (x:V) (z:Bool),kX s n a b=some z->RV Γ φ H a x->RV Γ φ H b x->z=true:=by
 have Y:∀(a b:kP) (x:V) (z:Bool),lc s a b=some z->RV Γ φ H a x->RV Γ φ H b x->z=true:=by
  intro a b x z h y G
  rcases rv_two I hK R y G (ai2 h).1 (ai2 h).2 with e|⟨l,m,_,_,rfl,rfl,_⟩
  ·subst e;exact aG4 h
  ·rcases jx h with h|⟨_,h,_⟩
   ·cases h
   ·unfold lG at h;simp[la]at h
 intro n
 induction n with
 | zero=>intro a b x z h;unfold kX at h;exact Y a b x z h
 | succ n ih =>
  have a1:∀(l m:List kP) (J:List V) (z:Bool),k8 (kX s n) l m=some z->RVL Γ φ H l J->RVL Γ φ H m J->z=true:=by
   intro l
   induction l with
   | nil =>
    intro m J z h y G
    cases m with
    | nil=>unfold k8 at h;exact(av h).symm
    | cons b m=>obtain⟨x,r,e,_⟩:=G.uncons;rw[y.unnil]at e;cases e
   | cons a l ihl =>
    intro m J z h y G
    cases m with
    | nil=>obtain⟨x,r,e,_⟩:=y.uncons;rw[G.unnil]at e;cases e
    | cons b m =>
     obtain⟨p,q,e1,e2,ez⟩:=al4 h
     obtain⟨v,r,rfl,g1,g2⟩:=y.uncons
     obtain⟨v',r',e,g3,g4⟩:=G.uncons
     cases e
     rw[ez,ih a b v p e1 g1 g3,ihl m r q e2 g2 g4];rfl
  intro a b x z h y G
  unfold kX at h
  split at h
  ·rename_i l m
   obtain⟨a,J,rfl,q1,d1⟩:=y.tupE
   obtain⟨b,ys,e,q2,Z⟩:=G.tupE
   cases e
   rw[<-hK]at q1 q2
   rw[I.tuple_inj q2 q1]at Z
   exact a1 l m J z h d1 Z
  ·rename_i p q
   split at h
   ·rename_i l m hl hm
    obtain⟨J,e1,d1⟩:=R.addr hl
    obtain⟨ys,e2,Z⟩:=R.addr hm
    have e:=y.refE.symm.trans G.refE
    have e':φ p=φ q:=V.ref.inj e
    rw[e',e2]at e1
    have e3:ys=J:=by injection (av e1)
    subst e3
    split at h
    ·exact a1 l m ys z h d1 Z
    ·rename_i a0;exact absurd (d1.length.symm.trans Z.length) a0
   ·cases h
  ·exact Y a b x z h y G
end
variable {Γ:Gm}
inductive Vw (sh:ah):Nat->Value->Prop where
 | non:Vw sh 0 .none
 | bl (b:Bool):Vw sh 1 (.bool b)
 | int (i:Int) (t:Tok):Vw sh 1 (.int i t)
 | str (x:Str) (t:Tok):Vw sh 2 (.str x t)
 | tup {l:Addr} {items:Array Value} (h:sh.heap.IsTuple l items):Vw sh 3 (.ref l)
 | lst {l:Addr} {items:Array Value} (h:sh.heap.IsList l items):Vw sh 4 (.ref l)
theorem Vw.eq {A:aX}{sh:ah}{k J:Nat}{u v:Value}(a:Vw sh k u)(b:Vw sh J v)(G:k≠J)(y:A.units<cLine):gr A sh u v false:=by
 cases a with
 | non=>cases b with
  | non=>exact absurd rfl G
  | bl b=>exact SeqAt.EqAt.none_bool b
  | int i t=>exact SeqAt.EqAt.none_int i t
  | str x t=>exact SeqAt.EqAt.none_str x t
  | tup h=>exact SeqAt.EqAt.none_tuple h y
  | lst h=>exact SeqAt.EqAt.none_list h y
 | bl a=>cases b with
  | non=>exact SeqAt.EqAt.bool_none a
  | bl b=>exact absurd rfl G
  | int i t=>exact absurd rfl G
  | str x t=>exact SeqAt.EqAt.bool_str a x t
  | tup h=>exact SeqAt.EqAt.bool_tuple a h y
  | lst h=>exact SeqAt.EqAt.bool_list a h y
 | int a q=>cases b with
  | non=>exact SeqAt.EqAt.int_none a q
  | bl b=>exact absurd rfl G
  | int i t=>exact absurd rfl G
  | str x t=>exact ir a q x t
  | tup h=>exact SeqAt.EqAt.int_tuple a q h y
  | lst h=>exact SeqAt.EqAt.int_list a q h y
 | str a q=>cases b with
  | non=>exact SeqAt.EqAt.str_none a q
  | bl b=>exact SeqAt.EqAt.str_bool a q b
  | int i t=>exact iu a q i t
  | str x t=>exact absurd rfl G
  | tup h=>exact SeqAt.EqAt.str_tuple a q h y
  | lst h=>exact SeqAt.EqAt.str_list a q h y
 | tup g=>cases b with
  | non=>exact SeqAt.EqAt.tuple_none g y
  | bl b=>exact SeqAt.EqAt.tuple_bool b g y
  | int i t=>exact SeqAt.EqAt.tuple_int i t g y
  | str x t=>exact SeqAt.EqAt.tuple_str x t g y
  | tup h=>exact absurd rfl G
  | lst h=>exact SeqAt.EqAt.tuple_list g h y
 | lst g=>cases b with
  | non=>exact SeqAt.EqAt.list_none g y
  | bl b=>exact SeqAt.EqAt.list_bool b g y
  | int i t=>exact SeqAt.EqAt.list_int i t g y
  | str x t=>exact SeqAt.EqAt.list_str x t g y
  | tup h=>exact SeqAt.EqAt.list_tuple g h y
  | lst h=>exact absurd rfl G
theorem Vw.rc {A:aX}{sh:ah}{k J:Nat}{u v:Value}(a:Vw sh k u)(b:Vw sh J v)(G:k≠J)(y:A.units<cLine):kN A sh u v false:=by
 cases a with
 | non=>cases b with
  | non=>exact absurd rfl G
  | bl b=>exact SeqAt.RcAt.none_bool b
  | int i t=>exact SeqAt.RcAt.none_int i t
  | str x t=>exact SeqAt.RcAt.none_str x t
  | tup h=>exact SeqAt.RcAt.none_tuple h y
  | lst h=>exact SeqAt.RcAt.none_list h y
 | bl a=>cases b with
  | non=>exact SeqAt.RcAt.bool_none a
  | bl b=>exact absurd rfl G
  | int i t=>exact absurd rfl G
  | str x t=>exact SeqAt.RcAt.bool_str a x t
  | tup h=>exact SeqAt.RcAt.bool_tuple a h y
  | lst h=>exact SeqAt.RcAt.bool_list a h y
 | int a q=>cases b with
  | non=>exact SeqAt.RcAt.int_none a q
  | bl b=>exact absurd rfl G
  | int i t=>exact absurd rfl G
  | str x t=>exact SeqAt.RcAt.int_str a q x t
  | tup h=>exact SeqAt.RcAt.int_tuple a q h y
  | lst h=>exact SeqAt.RcAt.int_list a q h y
 | str a q=>cases b with
  | non=>exact SeqAt.RcAt.str_none a q
  | bl b=>exact SeqAt.RcAt.str_bool a q b
  | int i t=>exact SeqAt.RcAt.str_int a q i t
  | str x t=>exact absurd rfl G
  | tup h=>exact SeqAt.RcAt.str_tuple a q h y
  | lst h=>exact SeqAt.RcAt.str_list a q h y
 | tup g=>cases b with
  | non=>exact SeqAt.RcAt.tuple_none g y
  | bl b=>exact SeqAt.RcAt.tuple_bool b g y
  | int i t=>exact SeqAt.RcAt.tuple_int i t g y
  | str x t=>exact SeqAt.RcAt.tuple_str x t g y
  | tup h=>exact absurd rfl G
  | lst h=>exact SeqAt.RcAt.tuple_list g h y
 | lst g=>cases b with
  | non=>exact SeqAt.RcAt.list_none g y
  | bl b=>exact SeqAt.RcAt.list_bool b g y
  | int i t=>exact SeqAt.RcAt.list_int i t g y
  | str x t=>exact SeqAt.RcAt.list_str x t g y
  | tup h=>exact SeqAt.RcAt.list_tuple g h y
  | lst h=>exact absurd rfl G
theorem Vw.ne {A:aX}{sh:ah}{k J:Nat}{u v:Value}(a:Vw sh k u)(b:Vw sh J v)(G:k≠J)(y:A.units<cLine):kz A sh u v true:=by
 cases a with
 | non=>cases b with
  | non=>exact absurd rfl G
  | bl b=>exact SeqAt.RcNeAt.none_bool b
  | int i t=>exact SeqAt.RcNeAt.none_int i t
  | str x t=>exact SeqAt.RcNeAt.none_str x t
  | tup h=>exact SeqAt.RcNeAt.none_tuple h y
  | lst h=>exact SeqAt.RcNeAt.none_list h y
 | bl a=>cases b with
  | non=>exact SeqAt.RcNeAt.bool_none a
  | bl b=>exact absurd rfl G
  | int i t=>exact absurd rfl G
  | str x t=>exact SeqAt.RcNeAt.bool_str a x t
  | tup h=>exact SeqAt.RcNeAt.bool_tuple a h y
  | lst h=>exact SeqAt.RcNeAt.bool_list a h y
 | int a q=>cases b with
  | non=>exact SeqAt.RcNeAt.int_none a q
  | bl b=>exact absurd rfl G
  | int i t=>exact absurd rfl G
  | str x t=>exact SeqAt.RcNeAt.int_str a q x t
  | tup h=>exact SeqAt.RcNeAt.int_tuple a q h y
  | lst h=>exact SeqAt.RcNeAt.int_list a q h y
 | str a q=>cases b with
  | non=>exact SeqAt.RcNeAt.str_none a q
  | bl b=>exact SeqAt.RcNeAt.str_bool a q b
  | int i t=>exact SeqAt.RcNeAt.str_int a q i t
  | str x t=>exact absurd rfl G
  | tup h=>exact SeqAt.RcNeAt.str_tuple a q h y
  | lst h=>exact SeqAt.RcNeAt.str_list a q h y
 | tup g=>cases b with
  | non=>exact SeqAt.RcNeAt.tuple_none g y
  | bl b=>exact SeqAt.RcNeAt.tuple_bool b g y
  | int i t=>exact SeqAt.RcNeAt.tuple_int i t g y
  | str x t=>exact SeqAt.RcNeAt.tuple_str x t g y
  | tup h=>exact absurd rfl G
  | lst h=>exact SeqAt.RcNeAt.tuple_list g h y
 | lst g=>cases b with
  | non=>exact SeqAt.RcNeAt.list_none g y
  | bl b=>exact SeqAt.RcNeAt.list_bool b g y
  | int i t=>exact SeqAt.RcNeAt.list_int i t g y
  | str x t=>exact SeqAt.RcNeAt.list_str x t g y
  | tup h=>exact SeqAt.RcNeAt.list_tuple g h y
  | lst h=>exact absurd rfl G
theorem bP5 (a b:List Nat):((⟨a.toArray⟩:Str)==⟨b.toArray⟩)=(a==b):=by
 by_cases e:a=b
 ·subst e;simp
 ·have:(⟨a.toArray⟩:Str)≠⟨b.toArray⟩:=λ q=>e (by simpa using congrArg (λ z=>z.cps.toList) q)
  rw[beq_eq_false_iff_ne.mpr this,beq_eq_false_iff_ne.mpr e]
structure Cmp (A:aX)(sh:ah)(u v:Value)(z:Bool):Prop where
 rc:kN A sh u v z
 ne:kz A sh u v (!z)
section
variable {X:Cx} {pins:List (Addr×Obj)} {σ:St} {H:Hp} {sh:ah} {φ:Nat->Addr} {s:kO}
theorem bV9 (I:Inv X pins σ H sh)(J:X.K=Γ.K)(R:Rp Γ φ H s){d:kP}{x:V}{u:Value}(h:RV Γ φ H d x)(r:RelV x u)(hk:la s d≠9):Vw sh (la s d) u:=by
 cases d with
 | non=>have e:=h.nonE;subst e;cases r;exact .non
 | bl b=>have e:=h.blE;subst e;cases r;exact .bl b
 | int i=>have e:=h.intE;subst e;obtain⟨t,rfl⟩:=r;exact .int i t
 | str y=>have e:=h.strE;subst e;obtain⟨t,rfl⟩:=r;exact .str _ t
 | tup l =>
  obtain⟨a,G,e,q,_⟩:=h.tupE
  subst e;cases r
  rw[<-J]at q
  obtain⟨its,_,t,_⟩:=I.tuple q
  exact .tup t
 | ref n =>
  have e:=h.refE;subst e;cases r
  have hk:(match s[n]? with|some (DV.O.lst l)=>4|_=>9:Nat)≠9:=hk
  show Vw sh (match s[n]? with|some (DV.O.lst l)=>4|_=>9:Nat) _
  cases hs:s[n]? with
  | none=>rw[hs]at hk;exact absurd rfl hk
  | some o =>
   rw[hs]at hk
   cases o with
   | lst l =>
    obtain⟨G,e,_⟩:=R.addr hs
    obtain⟨its,_,t,_⟩:=I.list (SqL.of e)
    exact .lst t.isList
   | _=>exact absurd rfl hk
 | fn _=>exact absurd rfl hk
 | clo _ _=>exact absurd rfl hk
theorem aA1 (I:Inv X pins σ H sh)(hK:X.K=Γ.K)(R:Rp Γ φ H s){a b:kP}{x y:V}{u v:Value}{A:aX}{z:Bool}(h:lc s a b=some z)(Y:RV Γ φ H a x)(J:RV Γ φ H b y)(r1:RelV x u)(G:RelV y v)(hu:A.units<cLine) :
  gr A sh u v z/\Cmp A sh u v z:=by
 rcases jx h with h|⟨_,hn,hz⟩
 ·cases a<;>cases b<;>try cases h
  ·cases Y.nonE;cases J.nonE;cases r1;cases G
   exact⟨gC _,SeqAt.RcAt.none_none,SeqAt.RcNeAt.none_none⟩
  ·cases Y.blE;cases J.blE;cases r1;cases G
   exact⟨SeqAt.EqAt.bool_bool _ _,SeqAt.RcAt.bool_bool _ _,SeqAt.RcNeAt.bool_bool _ _⟩
  ·cases Y.blE;cases J.intE;cases r1;obtain⟨t',rfl⟩:=G
   exact⟨SeqAt.EqAt.bool_int _ _ _,SeqAt.RcAt.bool_int _ _ _,SeqAt.RcNeAt.bool_int _ _ _⟩
  ·cases Y.intE;cases J.blE;obtain⟨t,rfl⟩:=r1;cases G
   exact⟨SeqAt.EqAt.int_bool _ _ _,SeqAt.RcAt.int_bool _ _ _,SeqAt.RcNeAt.int_bool _ _ _⟩
  ·cases Y.intE;cases J.intE;obtain⟨t,rfl⟩:=r1;obtain⟨t',rfl⟩:=G
   exact⟨SeqAt.EqAt.int_int _ _ _ _,SeqAt.RcAt.int_int _ _ _ _,SeqAt.RcNeAt.int_int _ _ _ _⟩
  ·cases Y.strE;cases J.strE;obtain⟨t,rfl⟩:=r1;obtain⟨t',rfl⟩:=G
   rw[<-bP5]
   exact⟨SeqAt.EqAt.str_str _ _ _ _,SeqAt.RcAt.str_str _ _ _ _,SeqAt.RcNeAt.str_str _ _ _ _⟩
 ·subst hz
  unfold lG at hn
  simp only[eG,beq_eq_false_iff_ne]at hn
  have Z:=bV9 I hK R Y r1 hn.1.1
  have w2:=bV9 I hK R J G hn.1.2
  exact⟨Z.eq w2 hn.2 hu,Z.rc w2 hn.2 hu,Z.ne w2 hn.2 hu⟩
theorem bc4 (I:Inv X pins σ H sh)(hK:X.K=Γ.K)(R:Rp Γ φ H s):∀(n:Nat) (a b:kP) (x y:V) (u v:Value) (A:aX) (z:Bool),kX s n a b=some z->RV Γ φ H a x->RV Γ φ H b y->RelV x u->RelV y v->Room n A ->
  gr A sh u v z/\Cmp A sh u v z:=by
 intro n
 induction n with
 | zero=>intro a b x y u v A z h h1 h2 r1 r2 J;unfold kX at h;exact aA1 I hK R h h1 h2 r1 r2 J.units0
 | succ n ih =>
  have G:∀ {l m:List kP} {xs ys:List V} {its its':List Value} {A:aX} {e:Nat->Bool},RVL Γ φ H l xs->RVL Γ φ H m ys->Vals xs its->Vals ys its'->Room n A->(∀ j d d',l[j]?=some d->m[j]?=some d'->kX s n d d'=some (e j)) ->
    ∀ j (h1:j<its.toArray.size) (h2:j<its'.toArray.size),gr A sh its.toArray[j] its'.toArray[j] (e j):=by
   intro l m xs ys its its' A e d1 d2 v1 v2 J he j h1 h2
   have l1:=v1.length
   have l2:=v2.length
   have e1:=d1.length
   have e2:=d2.length
   have a2:j<its.length:=by simpa using h1
   have a3:j<its'.length:=by simpa using h2
   have hj:j<l.length:=by omega
   have a1:j<m.length:=by omega
   obtain⟨x,ex,dx⟩:=d1.get (ag hj)
   obtain⟨y,ey,dy⟩:=d2.get (ag a1)
   obtain⟨u,eu,ru⟩:=v1.get ex
   obtain⟨w,ew,a4⟩:=v2.get ey
   have g1:its.toArray[j]=u:=by
    have:=ag a2
    rw[eu]at this
    simpa using(av this).symm
   have g2:its'.toArray[j]=w:=by
    have:=ag a3
    rw[ew]at this
    simpa using(av this).symm
   rw[g1,g2]
   exact(ih _ _ x y u w A (e j) (he j _ _ (ag hj) (ag a1)) dx dy ru a4 J).1
  intro a b x y u v A z h h1 h2 r1 r2 J
  have hz:=h
  unfold kX at h
  split at h
  ·rename_i l m
   obtain⟨p,xs,ex,q1,d1⟩:=id h1.tupE
   obtain⟨q,ys,ey,q2,d2⟩:=id h2.tupE
   subst ex;subst ey
   cases r1;cases r2
   rw[<-hK]at q1 q2
   obtain⟨its,v1,t1,_⟩:=I.tuple q1
   obtain⟨its',v2,t2,_⟩:=I.tuple q2
   obtain⟨e,he,Y⟩:=be1 h
   have l1:=v1.length
   have l2:=v2.length
   have e1:=d1.length
   have e2:=d2.length
   have sz:((ac (min its.toArray.size its'.toArray.size)).all e&&its.toArray.size==its'.toArray.size)=z:=by
    rw[<-Y,Bool.and_comm,show its.toArray.size=l.length by simp;omega,show its'.toArray.size=m.length by simp;omega]
   have key:=SeqAt.RcAt.tuples (A:=A) (s:=sh) (e:=e) t1 t2 J.units0 (G d1 d2 v1 v2 J.in1 he)
   have Z:=SeqAt.RcNeAt.tuples (A:=A) (s:=sh) (e:=e) t1 t2 J.units0 (G d1 d2 v1 v2 J.in1 he)
   rw[sz]at key Z
   refine⟨?_,key,Z⟩
   by_cases hab:p=q
   ·subst hab
    rw[aO1 I hK R _ _ _ _ _ hz h1 h2]
    exact gC _
   ·exact iJ hab key
  ·rename_i p q
   split at h
   ·rename_i l m hl hm
    obtain⟨xs,e1,d1⟩:=R.addr hl
    obtain⟨ys,e2,d2⟩:=R.addr hm
    have ex:=h1.refE
    have ey:=h2.refE
    subst ex;subst ey
    cases r1;cases r2
    obtain⟨its,v1,t1,_⟩:=I.list (SqL.of e1)
    obtain⟨its',v2,t2,_⟩:=I.list (SqL.of e2)
    have l1:=v1.length
    have l2:=v2.length
    have c1:=d1.length
    have c2:=d2.length
    have fin:Cmp A sh (.ref (φ p)) (.ref (φ q)) z:=by
     split at h
     ·rename_i a0
      obtain⟨e,he,Y⟩:=be1 h
      have sz:(ac its.toArray.size).all e=z:=by
       rw[<-Y,show its.toArray.size=l.length by simp;omega,a0]
       simp
      have key:=SeqAt.RcAt.lists (A:=A) (s:=sh) (e:=e) t1.isList t2.isList (by simp;omega) J.units0 (G d1 d2 v1 v2 J.in1 he)
      have Z:=SeqAt.RcNeAt.lists (A:=A) (s:=sh) (e:=e) t1.isList t2.isList (by simp;omega) J.units0 (G d1 d2 v1 v2 J.in1 he)
      rw[sz]at key Z
      exact⟨key,Z⟩
     ·rename_i a0
      cases h
      have hs:(its.toArray.size != its'.toArray.size)=true:=by simp;omega
      exact⟨SeqAt.RcAt.lists_lengths t1.isList t2.isList hs J.units0,SeqAt.RcNeAt.lists_lengths t1.isList t2.isList hs J.units0⟩
    refine⟨?_,fin⟩
    by_cases hab:φ p=φ q
    ·rw[aO1 I hK R _ _ _ _ _ hz RV.refI (by rw[hab];exact RV.refI),hab]
     exact gC _
    ·exact iJ hab fin.rc
   ·cases h
  ·exact aA1 I hK R h h1 h2 r1 r2 J.units0
end
variable {Γ:Gm} {X:Cx}
noncomputable def cc3:mr->Operator
 | .add=>.Add|.sub=>.Sub|.mul=>.Mult|.fdiv=>.FloorDiv|.mod=>.Mod|.pow=>.Pow|.shl=>.LShift|.shr=>.RShift|.band=>.BitAnd|.bor=>.BitOr
noncomputable def bC7:l8->CmpOp
 | .eq=>.Eq|.ne=>.NotEq|.lt=>.Lt|.le=>.LtE|.gt=>.Gt|.ge=>.GtE|.isin=>.In|.notin=>.NotIn
def rOp (Γ:Gm)(f:kP->kP->kO->kS kP):R2:=λ x y H Q=>∃ φ s a b d s',Rp Γ φ H s/\RV Γ φ H a x/\RV Γ φ H b y/\a.bnd s.length=true/\b.bnd s.length=true/\f a b s=.ok d s'/\af8 Γ φ s H d s' Q
theorem qw {d e:kP}{s t:kO}(h:l9 d s=.ok e t):d=e/\s=t:=by
 unfold l9 at h
 cases h
 exact⟨rfl,rfl⟩
theorem qI {o:li}{e:kP}{s t:kO}(h:lz o s=.ok e t):e=.ref s.length/\t=s++[o]:=by
 unfold lz at h
 cases h
 exact⟨rfl,rfl⟩
theorem bB9 (a b:List Nat):(⟨a.toArray⟩:Str)++⟨b.toArray⟩=⟨(a++b).toArray⟩:=by
 show Str.append _ _=_
 unfold Str.append
 simp
theorem qV:kY<=aL:=by rw[fu];decide
theorem bI1:OpR X (b9 .Mult) (rI (λ i j=>DV.mulOk i j=true) λ i j=>.int (i*j)):=opI λ i j _ _ _ _ _ hc q=>mul_int q (by
 unfold DV.mulOk at hc
 simp only[bP,au,decide_eq_true_eq]at hc
 rcases hc with(h|h)|⟨y,G⟩
 ·exact bY8.ok (.inl (by omega))
 ·exact bY8.ok (.inr (by omega))
 ·unfold DV.BIG at y G
  exact IntMulOk.of_le (m:=60000) (n:=60000) (intBits_le_iff.mpr y) (intBits_le_iff.mpr G) (by decide))
theorem aJ3 (l:List Nat):∀(n:Nat) (h:Array Nat),(ar n l.toArray).foldl (·++·) h=h++(k9 n l).toArray
 | 0,h=>by simp[k9]
 | n+1,h=>by
  rw[bM,cj,aJ3 l n]
  simp[k9,iw]
theorem bI2 (l:List Nat):k9 1 l=l:=by simp[k9]
theorem bc5:∀ n,k9 n []=[]
 | 0=>rfl
 | n+1=>by simp[k9,bc5 n]
theorem rep_len (l:List Nat):∀ n,(k9 n l).length=l.length*n
 | 0=>by simp[k9]
 | n+1=>by simp[k9,rep_len l n,dY];omega
theorem bw2:OpR X (b9 .Mult) (λ x y H Q=>∃(l:List Nat) (n:Int),x=.str ⟨l.toArray⟩/\y=.int n/\(0<=n/\n<=1000000/\l.length*n.toNat<=kY)/\Q (.str ⟨(k9 n.toNat l).toArray⟩) H):=by
 intro Y s σ H x y v u Q I rx ry h
 obtain⟨l,n,rfl,rfl,⟨h0,h1,h2⟩,q⟩:=h
 obtain⟨t,rfl⟩:=rx
 obtain⟨t',rfl⟩:=ry
 have G:(⟨l.toArray⟩:Str).length=l.length:=by show l.toArray.size=_;simp
 have hL:=qV
 have a0:=an1
 refine SB.mul ⟨?_,λ hn _=>?_,λ hn _=>?_⟩ λ t2 k=>?_
 ·rw[decide_eq_false (by omega),decide_eq_false (by omega)];rfl
 ·rw[G]
  have J:1<=n:=by omega
  intro Z
  have h3:(l.length:Int)*n<=1000000:=by
   have:((l.length*n.toNat:Nat):Int)<=(kY:Nat):=Int.ofNat_le.mpr h2
   rw[dM,ic h0]at this
   have e:((kY:Nat):Int)=1000000:=by unfold kY;rfl
   omega
  have h4:(l.length:Int)<=1000000:=by
   have:(l.length:Int)*1<=(l.length:Int)*n:=cT J (by omega)
   omega
  have h5:(1000000:Int)<=(2^63 - 1) / n:=by
   rw[Int.le_ediv_iff_mul_le (by omega)]
   have:(1000000:Int)*n<=1000000*1000000:=cT h1 (by omega)
   omega
  omega
 ·rw[G]
  unfold kj
  exact decide_eq_false (by omega)
 ·have e:Txt.mul ⟨l.toArray⟩ n=⟨(k9 n.toNat l).toArray⟩:=by
   unfold Txt.mul
   split
   ·have:n.toNat=0:=by omega
    rw[this];rfl
   ·split
    ·rename_i hc
     rw[bP]at hc
     rcases hc with hc|hc
     ·have:n=1:=by simpa using hc
      subst this
      show(⟨l.toArray⟩:Str)=⟨(k9 1 l).toArray⟩
      rw[bI2]
     ·have:l=[]:=by
       have:=eq_of_beq hc
       rw[G]at this
       exact cO.mp this
      subst this
      rw[bc5]
    ·show(⟨(ar n.toNat l.toArray).foldl (·++·) #[]⟩:Str)=_
     rw[aJ3];simp
  rw[e]
  exact⟨.str _,H,I.tok _,⟨_,rfl⟩,q⟩
theorem ao7 {n:Nat}{l:List kP}(h:kQ n l=true):∀ k,kQ n (mw k l)=true
 | 0=>rfl
 | k+1=>qo h (ao7 h k)
theorem RVL.repD {φ:Nat->Addr}{H:Hp}{l:List kP}{y:List V}(h:RVL Γ φ H l y):∀ k,RVL Γ φ H (mw k l) (at6 k y)
 | 0=>RVL.nil
 | k+1=>h.append (RVL.repD h k)
theorem aE3 {α:Type}(h:List α):∀ k,at6 k h=(ar k h).flatten
 | 0=>rfl
 | k+1=>by rw[bM,dk,<-aE3 h k];rfl
theorem bR7 (hK:X.K=Γ.K)(op:mr):OpR X (b9 (cc3 op)) (rOp Γ (DV.qN op)):=by
 intro J s σ H x y v u Q I Z ry h
 obtain⟨φ,st,a,b,d,a0,R,ha,hb,na,nb,G,q⟩:=h
 cases op with
 | add =>
  cases a with
  | int a =>
   cases b with
   | int b =>
    change(l9 _) st=_ at G
    obtain⟨rfl,rfl⟩:=qw G
    have ex:=ha.intE;have Y:=hb.intE;subst ex;subst Y
    exact bS6 J s σ H _ _ v u Q I Z ry ⟨_,_,rfl,rfl,q.here R rfl RV.intI⟩
   | _=>exact fb G
  | str a =>
   cases b with
   | str b =>
    change(if _ then _ else _:lL kP) st=_ at G
    split at G
    ·rename_i hl
     obtain⟨rfl,rfl⟩:=qw G
     have ex:=ha.strE;have Y:=hb.strE;subst ex;subst Y
     refine aT1 J s σ H _ _ v u Q I Z ry ⟨_,_,rfl,rfl,?_,?_⟩
     ·show a.toArray.size+b.toArray.size<=_
      simp only[ay]
      exact am hl qV
     ·rw[bB9];exact q.here R rfl (RV.strI (by rw[aQ];exact hl))
    ·exact fb G
   | _=>exact fb G
  | tup a =>
   cases b with
   | tup b =>
    change(if _ then _ else _:lL kP) st=_ at G
    split at G
    ·rename_i hl
     obtain⟨rfl,rfl⟩:=qw G
     obtain⟨p,xs,rfl,h1,d1⟩:=ha.tupE
     obtain⟨p',ys,rfl,h2,d2⟩:=hb.tupE
     refine bE5 hK J s σ H _ _ v u Q I Z ry ⟨p,p',xs,ys,rfl,rfl,h1,h2,?_,λ t H' e ht=>?_⟩
     ·rw[d1.length,d2.length];exact am hl qV
     ·obtain⟨g,r'⟩:=R.same e
      unfold kT at na nb
      exact q _ _ _ g (ai _) (by unfold kT;exact qo na nb) (RV.tupI ht ((RVL.mono g _ _ na d1).append (RVL.mono g _ _ nb d2))) r'
    ·exact fb G
   | _=>exact fb G
  | ref a =>
   cases b with
   | ref b =>
    change(match st[a]?,st[b]? with|some (DV.O.lst l),some (DV.O.lst m)=>if l.length+m.length<=kY then lz (.lst (l++m)) st else .bad|_,_=>.bad:kS kP)=_ at G
    split at G
    ·rename_i l m h1 h2
     split at G
     ·rename_i hl
      obtain⟨rfl,rfl⟩:=qI G
      obtain⟨xs,e1,d1⟩:=R.addr h1
      obtain⟨ys,e2,d2⟩:=R.addr h2
      have ex:=ha.refE;have Y:=hb.refE;subst ex;subst Y
      have b1:=R.wf _ _ h1
      have b2:=R.wf _ _ h2
      unfold kW at b1 b2
      refine bS8 J s σ H _ _ v u Q I Z ry ⟨φ a,φ b,xs,ys,rfl,rfl,e1,e2,?_,λ p hp=>?_⟩
      ·rw[d1.length,d2.length];exact am hl qV
      ·exact q.alloc R (d1.append d2) (qo b1 b2) hp
     ·exact fb G
    ·exact fb G
   | _=>exact fb G
  | _=>exact fb G
 | sub =>
  cases a with
  | int a =>
   cases b with
   | int b =>
    change(l9 _) st=_ at G
    obtain⟨rfl,rfl⟩:=qw G
    have ex:=ha.intE;have Y:=hb.intE;subst ex;subst Y
    exact bO8 J s σ H _ _ v u Q I Z ry ⟨_,_,rfl,rfl,q.here R rfl RV.intI⟩
   | _=>exact fb G
  | _=>exact fb G
 | mul =>
  cases a with
  | int a =>
   cases b with
   | int b =>
    change(if _ then _ else _:lL kP) st=_ at G
    split at G
    ·rename_i hc
     obtain⟨rfl,rfl⟩:=qw G
     have ex:=ha.intE;have Y:=hb.intE;subst ex;subst Y
     exact bI1 J s σ H _ _ v u Q I Z ry ⟨_,_,rfl,rfl,hc,q.here R rfl RV.intI⟩
    ·exact fb G
   | _=>exact fb G
  | str a =>
   cases b with
   | int b =>
    change(if _ then _ else _:lL kP) st=_ at G
    split at G
    ·rename_i hc
     obtain⟨rfl,rfl⟩:=qw G
     have ex:=ha.strE;have Y:=hb.intE;subst ex;subst Y
     exact bw2 J s σ H _ _ v u Q I Z ry ⟨_,_,rfl,rfl,hc,q.here R rfl (RV.strI (by rw[rep_len];exact hc.2.2))⟩
    ·exact fb G
   | _=>exact fb G
  | tup a =>
   cases b with
   | int b =>
    change(if _ then _ else _:lL kP) st=_ at G
    split at G
    ·rename_i hc
     obtain⟨rfl,rfl⟩:=qw G
     obtain⟨p,xs,rfl,h1,d1⟩:=ha.tupE
     have Y:=hb.intE;subst Y
     refine bH8 hK J s σ H _ _ v u Q I Z ry ⟨p,xs,_,rfl,rfl,h1,⟨hc.1,hc.2.1,by rw[d1.length];exact hc.2.2⟩,λ t H' e ht=>?_⟩
     obtain⟨g,r'⟩:=R.same e
     unfold kT at na
     exact q _ _ _ g (ai _) (by unfold kT;exact ao7 na _) (RV.tupI ht (RVL.repD (RVL.mono g _ _ na d1) _)) r'
    ·exact fb G
   | _=>exact fb G
  | ref a =>
   cases b with
   | int b =>
    change(match st[a]? with|some (DV.O.lst l)=>if 0<=b/\b<=1000000/\l.length*b.toNat<=kY then lz (.lst (mw b.toNat l)) st else .bad|_=>.bad:kS kP)=_ at G
    split at G
    ·rename_i l h1
     split at G
     ·rename_i hc
      obtain⟨rfl,rfl⟩:=qI G
      obtain⟨xs,e1,d1⟩:=R.addr h1
      have ex:=ha.refE;have Y:=hb.intE;subst ex;subst Y
      have b1:=R.wf _ _ h1
      unfold kW at b1
      refine bK3 J s σ H _ _ v u Q I Z ry ⟨φ a,b,xs,rfl,rfl,e1,by omega,by omega,?_,λ p hp=>?_⟩
      ·rw[d1.length];exact am hc.2.2 qV
      ·rw[<-aE3];exact q.alloc R (RVL.repD d1 _) (ao7 b1 _) hp
     ·exact fb G
    ·exact fb G
   | _=>exact fb G
  | _=>exact fb G
 | fdiv =>
  cases a with
  | int a =>
   cases b with
   | int b =>
    change(if _ then _ else _:lL kP) st=_ at G
    split at G
    ·rename_i hc
     obtain⟨rfl,rfl⟩:=qw G
     have ex:=ha.intE;have Y:=hb.intE;subst ex;subst Y
     refine bo9 J s σ H _ _ v u Q I Z ry ⟨_,_,rfl,rfl,⟨hc.1,?_⟩,q.here R rfl RV.intI⟩
     have:=hc.2
     unfold DV.DIVL at this
     simpa using this
    ·exact fb G
   | _=>exact fb G
  | _=>exact fb G
 | mod =>
  cases a with
  | int a =>
   cases b with
   | int b =>
    change(if _ then _ else _:lL kP) st=_ at G
    split at G
    ·rename_i hc
     obtain⟨rfl,rfl⟩:=qw G
     have ex:=ha.intE;have Y:=hb.intE;subst ex;subst Y
     exact bM8 J s σ H _ _ v u Q I Z ry ⟨_,_,rfl,rfl,hc,q.here R rfl RV.intI⟩
    ·exact fb G
   | _=>exact fb G
  | _=>exact fb G
 | pow =>
  cases a with
  | int a =>
   cases b with
   | int b =>
    change(if _ then _ else _:lL kP) st=_ at G
    split at G
    ·rename_i hc
     obtain⟨rfl,rfl⟩:=qw G
     have ex:=ha.intE;have Y:=hb.intE;subst ex;subst Y
     exact bN0 J s σ H _ _ v u Q I Z ry ⟨_,_,rfl,rfl,hc,q.here R rfl RV.intI⟩
    ·exact fb G
   | _=>exact fb G
  | _=>exact fb G
 | shl =>
  cases a with
  | int a =>
   cases b with
   | int b =>
    change(if _ then _ else _:lL kP) st=_ at G
    split at G
    ·rename_i hc
     obtain⟨rfl,rfl⟩:=qw G
     have ex:=ha.intE;have Y:=hb.intE;subst ex;subst Y
     exact bP8 J s σ H _ _ v u Q I Z ry ⟨_,_,rfl,rfl,hc,q.here R rfl RV.intI⟩
    ·exact fb G
   | _=>exact fb G
  | _=>exact fb G
 | shr =>
  cases a with
  | int a =>
   cases b with
   | int b =>
    change(if _ then _ else _:lL kP) st=_ at G
    split at G
    ·rename_i hc
     obtain⟨rfl,rfl⟩:=qw G
     have ex:=ha.intE;have Y:=hb.intE;subst ex;subst Y
     exact bN1 J s σ H _ _ v u Q I Z ry ⟨_,_,rfl,rfl,hc,q.here R rfl RV.intI⟩
    ·exact fb G
   | _=>exact fb G
  | _=>exact fb G
 | band=>exact fb G
 | bor=>exact fb G
variable {Γ:Gm} {X:Cx} {pins:List (Addr×Obj)} {σ:St} {H:Hp} {sh:ah} {φ:Nat->Addr} {s:kO}
theorem aJ9 {n:Nat}{a b:kP}{z:Bool}(h:kX s n a b=some z):la s a≠9:=by
 cases n with
 | zero=>unfold kX at h;exact(ai2 h).1
 | succ n =>
  unfold kX at h
  split at h
  ·simp[la]
  ·split at h
   ·rename_i y _;simp[la,y]
   ·cases h
  ·exact(ai2 h).1
theorem aW6 (I:Inv X pins σ H sh)(Y:X.K=Γ.K)(R:Rp Γ φ H s):∀(n:Nat) (a b c:kP) (x:V) (p q:Bool),RV Γ φ H a x->RV Γ φ H b x->kX s n a c=some p->kX s n b c=some q->p=q:=by
 intro n
 induction n with
 | zero =>
  intro a b c x p q y h e1 e2
  rcases rv_two I Y R y h (aJ9 e1) (aJ9 e2)with e|⟨l,m,_,_,rfl,rfl,_⟩
  ·subst e;rw[e1]at e2;exact av e2
  ·unfold kX at e1 e2
   have:lc s (.tup l) c=lc s (.tup m) c:=by unfold lc;cases c<;>rfl
   rw[this,e2]at e1;exact(av e1).symm
 | succ n ih =>
  have J:∀(l m k:List kP) (G:List V) (p q:Bool),RVL Γ φ H l G->RVL Γ φ H m G->k8 (kX s n) l k=some p->k8 (kX s n) m k=some q->p=q:=by
   intro l
   induction l with
   | nil =>
    intro m k G p q y h e1 e2
    have:=y.unnil;subst this
    have hm:m=[]:=by have:=h.length;exact cO.mp this.symm
    subst hm
    rw[e1]at e2;exact av e2
   | cons a l ihl =>
    intro m k G p q y h e1 e2
    obtain⟨x,r,rfl,g1,g2⟩:=y.uncons
    cases m with
    | nil=>have:=h.unnil;cases this
    | cons b m =>
     obtain⟨x',r',e,g3,g4⟩:=h.uncons
     cases e
     cases k with
     | nil=>unfold k8 at e1 e2;rw[<-av e1,<-av e2]
     | cons c k =>
      obtain⟨p1,p2,a1,a2,a3⟩:=al4 e1
      obtain⟨q1,q2,Z,b2,b3⟩:=al4 e2
      rw[a3,b3,ih a b c x p1 q1 g1 g3 a1 Z,ihl m k r p2 q2 g2 g4 a2 b2]
  intro a b c x p q y h e1 e2
  rcases rv_two I Y R y h (aJ9 e1) (aJ9 e2)with e|⟨l,m,_,G,rfl,rfl,_,d1,d2⟩
  ·subst e;rw[e1]at e2;exact av e2
  ·cases c with
   | tup k=>unfold kX at e1 e2;exact J l m k G p q d1 d2 e1 e2
   | _ =>
    unfold kX at e1 e2
    simp only at e1 e2
    have e3:lc s (.tup l)=lc s (.tup m):=by funext c;unfold lc;cases c<;>rfl
    rw[e3]at e1
    exact av (e1.symm.trans e2)
theorem bs8 {x:kP}:∀ {l:List kP} {z:Bool},lA s x l=some z->∃ e:Nat->Bool,(∀ j d,l[j]?=some d->kX s k7 d x=some (e j))/\(z=true↔∃ j,j<l.length/\e j=true)
 | [],z,h=>by
  unfold lA at h
  cases h
  exact⟨λ _=>true,λ j d h=>by simp at h,by simp⟩
 | y::l,z,h=>by
  unfold lA at h
  cases e1:kX s k7 y x with
  | none=>rw[e1]at h;cases h
  | some a =>
   cases e2:lA s x l with
   | none=>rw[e1,e2]at h;cases h
   | some b =>
    rw[e1,e2]at h
    obtain⟨e,J,G⟩:=bs8 e2
    refine⟨λ j=>match j with|0=>a|j+1=>e j,λ j d g=>?_,?_⟩
    ·cases j with
     | zero=>simp at g;subst g;exact e1
     | succ j=>exact J j d (by simpa using g)
    ·have hz:(a||b)=z:=av h
     rw[<-hz,bP,G]
     constructor
     ·rintro(q|⟨j,hj,q⟩)
      ·exact⟨0,by simp,q⟩
      ·exact⟨j+1,by simpa using hj,q⟩
     ·rintro⟨j,hj,q⟩
      cases j with
      | zero=>exact .inl q
      | succ j=>exact .inr ⟨j,by simpa using hj,q⟩
theorem bt2 (I:Inv X pins σ H sh)(hK:X.K=Γ.K)(R:Rp Γ φ H s){x:kP}{xv:V}{xu:Value}(hx:RV Γ φ H x xv)(rx:RelV xv xu){l:List kP}{ys:List V}{its:List Value}(hl:RVL Γ φ H l ys)(hv:Vals ys its){z:Bool}(h:lA s x l=some z){A:aX}(hr:Room k7 A) :
  ∃ e:Value->Bool,(∀ y,y∈its.toArray->gr A sh y xu (e y))/\its.toArray.any e=z:=by
 obtain⟨e,h1,h2⟩:=bs8 h
 have len:its.length=l.length:=by rw[<-hv.length];exact hl.length
 have G:∀ j u,its[j]?=some u->∃ d y,l[j]?=some d/\ys[j]?=some y/\RV Γ φ H d y/\RelV y u:=λ j u g=>by
  have hj:j<l.length:=by rw[<-len];exact(ab.mp g).1
  obtain⟨y,g1,g2⟩:=hl.get (ag hj)
  obtain⟨u',J,Y⟩:=hv.get g1
  rw[g]at J;cases J
  exact⟨_,y,ag hj,g1,g2,Y⟩
 classical
 let f:Value->Bool:=λ u=>decide (∃ j,its[j]?=some u/\e j=true)
 have hf:∀ j u,its[j]?=some u->f u=e j:=λ j u g=>by
  obtain⟨d,y,g1,g2,J,Y⟩:=G j u g
  cases q:e j with
  | true=>exact decide_eq_true ⟨j,g,q⟩
  | false =>
   refine decide_eq_false λ⟨k,g',q'⟩=>?_
   obtain⟨d',y',k1,k2,k3,k4⟩:=G k u g'
   have ey:y'=y:=k4.inj Y
   subst ey
   have:=aW6 I hK R _ d d' x _ _ _ J k3 (h1 j d g1) (h1 k d' k1)
   rw[q,q']at this;cases this
 refine⟨f,λ u hu=>?_,?_⟩
 ·obtain⟨j,hj,g⟩:=cF.mp (by simpa using hu:u∈its)
  have g':its[j]?=some u:=by rw[ag hj,g]
  obtain⟨d,y,g1,g2,J,Y⟩:=G j u g'
  rw[hf j u g']
  exact(bc4 I hK R _ d x y xv u xu A _ (h1 j d g1) J hx Y rx hr).1
 ·have e1:its.toArray.any f=true↔z=true:=by
   rw[h2,List.any_toArray,i6]
   constructor
   ·rintro⟨u,hu,q⟩
    obtain⟨j,hj,g⟩:=cF.mp hu
    have g':its[j]?=some u:=by rw[ag hj,g]
    exact⟨j,by omega,by rw[<-hf j u g'];exact q⟩
   ·rintro⟨j,hj,q⟩
    have Z:j<its.length:=by omega
    exact⟨its[j],i9 Z,by rw[hf j _ (ag Z)];exact q⟩
  cases z<;>cases q:its.toArray.any f
  ·rfl
  ·have:=e1.mp q;cases this
  ·rw[q]at e1;have:=e1.mpr rfl;cases this
  ·rfl
variable {Γ:Gm} {X:Cx}
theorem aa0 {α β:Type}{r:kS α}{f:α->kO->kS β}{b:β}{t:kO}(h:r.bind f=.ok b t):∃ a s,r=.ok a s/\f a s=.ok b t:=DV.R.bind_inv h
theorem bu0 (hK:X.K=Γ.K)(hr:Room (k7+1) X.A)(neg:Bool){G:List (Addr×Obj)}{sh:ah}{σ:St}{H:Hp}{x y:V}{v u:Value}{φ:Nat->Addr}{st Y:kO}{a b:kP}{z:Bool}
  (I:Inv X G σ H sh) (rx:RelV x v) (ry:RelV y u) (R:Rp Γ φ H st) (ha:RV Γ φ H a x) (hb:RV Γ φ H b y) (h:ma a b st=.ok z Y) :
  Y=st/\∀ Q:Value->ah->Prop,(∀ a0,Inv X G σ H a0->Q (.bool (if neg then !z else z)) a0)->wpAny (model X.prog X.w) X.A (c8 (if neg then .NotIn else .In) v u) Q X.xe sh:=by
 unfold ma at h
 cases b with
 | tup l =>
  simp only at h
  cases e:lA st a l with
  | none=>rw[e]at h;cases h
  | some w =>
   rw[e]at h
   cases h
   obtain⟨p,ys,rfl,q,d⟩:=hb.tupE
   cases ry
   rw[<-hK]at q
   obtain⟨its,rv,t,_⟩:=I.tuple q
   obtain⟨f,J,h2⟩:=bt2 I hK R ha rx d rv e (A:=X.A.in1) hr.in1
   refine⟨rfl,λ Q hq=>?_⟩
   cases neg with
   | false=>exact SeqAt.in_tupleAt f t J (by rw[h2];exact hq _ I)
   | true=>exact SeqAt.notIn_tupleAt f t J (by rw[h2];exact hq _ I)
 | str y0 =>
  simp only at h
  split at h
  case h_2=>exact fb h
  rename_i c
  cases h
  refine⟨rfl,λ Q hq=>?_⟩
  have e1:=ha.strE
  have e2:=hb.strE
  subst e1 e2
  obtain⟨t1,rfl⟩:=rx
  obtain⟨t2,rfl⟩:=ry
  have a1:=kt (⟨y0.toArray⟩:Str) c
  cases neg with
  | false=>exact in_str (by rw[show(⟨[c].toArray⟩:Str)=⟨#[c]⟩from rfl,a1];simpa using hq _ I)
  | true=>exact notIn_str (by rw[show(⟨[c].toArray⟩:Str)=⟨#[c]⟩from rfl,a1];simpa using hq _ I)
 | ref r =>
  simp only at h
  cases hs:st[r]? with
  | none=>rw[hs]at h;cases h
  | some o =>
   rw[hs]at h
   cases o with
   | lst l =>
    simp only at h
    cases e:lA st a l with
    | none=>rw[e]at h;cases h
    | some w =>
     rw[e]at h
     cases h
     obtain⟨ys,e1,d⟩:=R.addr hs
     have ey:=hb.refE;subst ey
     cases ry
     obtain⟨its,rv,t,_⟩:=I.list (SqL.of e1)
     obtain⟨f,J,h2⟩:=bt2 I hK R ha rx d rv e (A:=X.A.in1) hr.in1
     refine⟨rfl,λ Q hq=>?_⟩
     cases neg with
     | false=>exact SeqAt.in_listAt f t.isList J (by rw[h2];exact hq _ I)
     | true=>exact SeqAt.notIn_listAt f t.isList J (by rw[h2];exact hq _ I)
   | dic l =>
    simp only at h
    split at h
    case isFalse=>exact fb h
    rename_i Z
    cases h
    obtain⟨k,hk⟩:=am2 Z
    obtain⟨a2,e1,d⟩:=R.obj r _ hs
    have ey:=hb.refE;subst ey
    cases ry
    have ex:=aL9 hk ha;subst ex
    have ez:(lr a l).isSome=(aM5 a2 k).isSome:=by
     rcases d.val hk with⟨q1,q2⟩|⟨_,_,q1,q2,_⟩<;>rw[q1,q2]<;>rfl
    refine⟨rfl,λ Q hq=>?_⟩
    rw[ez]at hq
    cases neg with
    | false=>exact d_in (bj1 hr) I (bh6.k e1) rx hq
    | true=>exact bx8 (bj1 hr) I (bh6.k e1) rx hq
   | ro l=>exact fb h
   | ins c l=>exact fb h
 | _=>exact fb h
theorem av9 {op:l8}{a b d:kP}{st y:kO}(ho:op=.lt\/op=.le\/op=.gt\/op=.ge)(h:DV.qz op a b st=.ok d y):∃ i j,a=.int i/\b=.int j:=by
 rcases ho with rfl|rfl|rfl|rfl <;>
 (cases a with
 | int i =>
  (cases b with
  | int j=>exact⟨i,j,rfl,rfl⟩
  | _=>cases h)
 | _=>cases h)
theorem bO4 (hK:X.K=Γ.K)(hr:Room (k7+1) X.A)(op:l8):OpR X (c8 (bC7 op)) (rOp Γ (DV.qz op)):=by
 intro J s σ H x y v u Q I Z ry h
 obtain⟨φ,st,a,b,d,Y,R,ha,hb,na,nb,G,q⟩:=h
 cases op with
 | eq =>
  have G:DV.eqM a b st=.ok d Y:=G
  unfold DV.eqM at G
  cases e:kX st k7 a b with
  | none=>rw[e]at G;cases G
  | some z =>
   rw[e]at G;cases G
   exact(bc4 I hK R _ a b x y v u X.A z e ha hb Z ry (hr.mono (by omega))).2.rc X.prog X.w X.xe _ ⟨.bl z,H,I,rfl,q.here R rfl RV.blI⟩
 | ne =>
  have G:(match kX st k7 a b with|some r=>.ok (.bl (!r)) st|none=>.bad:kS kP)=.ok d Y:=G
  cases e:kX st k7 a b with
  | none=>rw[e]at G;cases G
  | some z =>
   rw[e]at G;cases G
   exact(bc4 I hK R _ a b x y v u X.A z e ha hb Z ry (hr.mono (by omega))).2.ne X.prog X.w X.xe _ ⟨.bl (!z),H,I,rfl,q.here R rfl RV.blI⟩
 | lt =>
  obtain⟨i,j,rfl,rfl⟩:=av9 (.inl rfl) G
  cases G
  have ex:=ha.intE;have ey:=hb.intE;subst ex;subst ey
  exact cb7 J s σ H _ _ v u Q I Z ry ⟨_,_,rfl,rfl,q.here R rfl RV.blI⟩
 | le =>
  obtain⟨i,j,rfl,rfl⟩:=av9 (.inr (.inl rfl)) G
  cases G
  have ex:=ha.intE;have ey:=hb.intE;subst ex;subst ey
  exact cg0 J s σ H _ _ v u Q I Z ry ⟨_,_,rfl,rfl,q.here R rfl RV.blI⟩
 | gt =>
  obtain⟨i,j,rfl,rfl⟩:=av9 (.inr (.inr (.inl rfl))) G
  cases G
  have ex:=ha.intE;have ey:=hb.intE;subst ex;subst ey
  exact cf8 J s σ H _ _ v u Q I Z ry ⟨_,_,rfl,rfl,q.here R rfl RV.blI⟩
 | ge =>
  obtain⟨i,j,rfl,rfl⟩:=av9 (.inr (.inr (.inr rfl))) G
  cases G
  have ex:=ha.intE;have ey:=hb.intE;subst ex;subst ey
  exact cg9 J s σ H _ _ v u Q I Z ry ⟨_,_,rfl,rfl,q.here R rfl RV.blI⟩
 | isin =>
  have G:(ma a b st).bind (λ r s=>.ok (.bl r) s)=.ok d Y:=G
  obtain⟨z,s1,e1,e2⟩:=aa0 G
  obtain⟨rfl,w⟩:=bu0 hK hr false I Z ry R ha hb e1
  cases e2
  exact w _ λ s' I'=>⟨.bl z,H,I',rfl,q.here R rfl RV.blI⟩
 | notin =>
  have G:(ma a b st).bind (λ r s=>.ok (.bl (!r)) s)=.ok d Y:=G
  obtain⟨z,s1,e1,e2⟩:=aa0 G
  obtain⟨rfl,w⟩:=bu0 hK hr true I Z ry R ha hb e1
  cases e2
  exact w _ λ s' I'=>⟨.bl (!z),H,I',rfl,q.here R rfl RV.blI⟩
theorem aV6 {φ:Nat->Addr}{H:Hp}{l:List kP}{y:List V}{i:Int}{d:kP}(h:RVL Γ φ H l y)(e:((lB l.length i).bind λ j=>l[j]?)=some d):∃ v,atI y i=some v/\RV Γ φ H d v:=by
 cases hj:lB l.length i with
 | none=>rw[hj]at e;cases e
 | some j =>
  rw[hj]at e
  obtain⟨v,e1,e2⟩:=h.get (show l[j]?=some d from e)
  refine⟨v,?_,e2⟩
  unfold atI
  have:ixN y.length i=some j:=by rw[h.length];exact hj
  rw[this];exact e1
theorem aI3 {l:List kP}{i:Int}{d:kP}(e:((lB l.length i).bind λ j=>l[j]?)=some d):d∈l:=by
 cases hj:lB l.length i with
 | none=>rw[hj]at e;cases e
 | some j=>rw[hj]at e;exact aW (show l[j]?=some d from e)
theorem ch2 (hK:X.K=Γ.K)(hu:X.A.units+1<cLine):IxR X (rOp Γ DV.ixM):=by
 intro Y J Z s σ H x y v u Q I rx ry h hs
 obtain⟨φ,st,a,b,d,a2,R,ha,hb,na,nb,G,q⟩:=h
 unfold DV.ixM at G
 cases a with
 | tup l =>
  cases b with
  | int i =>
   simp only at G
   split at G
   ·rename_i d' e
    cases G
    obtain⟨p,xs,rfl,h1,d1⟩:=ha.tupE
    have ey:=hb.intE;subst ey
    obtain⟨w,e1,e2⟩:=aV6 d1 e
    unfold kT at na
    exact bB2 hK Y J Z s σ H _ _ v u Q I rx ry ⟨p,xs,i,w,rfl,rfl,h1,e1,q.here R (ab6.mp na _ (aI3 e)) e2⟩ hs
   ·exact fb G
  | _=>exact fb G
 | str l =>
  cases b with
  | int i =>
   simp only at G
   split at G
   ·rename_i c e
    cases G
    have hl:=ha.strL
    have ex:=ha.strE;have ey:=hb.intE;subst ex;subst ey
    exact ix_str Y J Z s σ H _ _ v u Q I rx ry ⟨⟨l.toArray⟩,i,c,rfl,rfl,by show l.toArray.size<=_;rw[ay];exact am hl qV,e,q.here R rfl (RV.strI (by simp;decide))⟩ hs
   ·exact fb G
  | _=>exact fb G
 | ref r =>
  have ex:=ha.refE;subst ex
  simp only at G
  cases hsr:st[r]? with
  | none=>rw[hsr]at G;cases G
  | some o =>
   rw[hsr]at G
   cases o with
   | lst l =>
    cases b with
    | int i =>
     simp only at G
     split at G
     ·rename_i d' e
      cases G
      have ey:=hb.intE;subst ey
      obtain⟨xs,e1,d1⟩:=R.addr hsr
      obtain⟨w,e2,e3⟩:=aV6 d1 e
      have wf:=R.wf _ _ hsr
      unfold kW at wf
      exact aM4 hK Y J Z s σ H _ _ v u Q I rx ry ⟨φ r,xs,i,w,rfl,rfl,SqL.of e1,e2,q.here R (ab6.mp wf _ (aI3 e)) e3⟩ hs
     ·exact fb G
    | _=>exact fb G
   | ro l =>
    cases b with
    | int i =>
     simp only at G
     split at G
     ·rename_i d' e
      cases G
      have ey:=hb.intE;subst ey
      obtain⟨xs,e1,d1⟩:=R.obj _ _ hsr
      obtain⟨w,e2,e3⟩:=aV6 d1 e
      have wf:=R.wf _ _ hsr
      unfold kW at wf
      exact aM4 hK Y J Z s σ H _ _ v u Q I rx ry ⟨φ r,xs,i,w,rfl,rfl,e1.1,e2,q.here R (ab6.mp wf _ (aI3 e)) e3⟩ hs
     ·exact fb G
    | _=>exact fb G
   | dic l =>
    simp only at G
    split at G
    case isFalse=>exact fb G
    rename_i a0
    obtain⟨k,hk⟩:=am2 a0
    obtain⟨a3,e1,d1⟩:=R.obj r _ hsr
    have ey:=aL9 hk hb;subst ey
    cases rx
    rcases d1.val hk with⟨q1,_⟩|⟨e,v',q1,q2,q3,q4⟩
    ·rw[q1]at G;cases G
    ·rw[q1]at G
     cases G
     have wf:=R.wf _ _ hsr
     unfold kW at wf
     rw[au]at wf
     have g:bh6 H (φ r) (kV k) (some v'):=by rw[<-q2];exact bh6.k e1
     exact tail_any (aJ0 I g) PySem.F.slot_dict_getitem.lookup (bb8 hu I g ry λ w' s' I' a1=>⟨v',H,I',a1,q.here R (ab6.mp wf.2 _ q4) q3⟩) hs
   | ins c l=>cases b<;>cases G
 | _=>cases b<;>cases G
theorem bf0 (n d:Nat)(i:Int):HT.sIx n d (some i)=lw n i:=by
 show(if i<0 then(i+(n:Int)).toNat else min i.toNat n)=_
 unfold lw
 by_cases h:i<0
 ·rw[if_pos h,if_neg (by omega)]
 ·rw[if_neg h,if_pos (by omega)]
theorem br7 {φ:Nat->Addr}{H:Hp}{l:List kP}{G:List V}(h:RVL Γ φ H l G)(y J:Option Int):RVL Γ φ H (lC l y J) (bc2 G y J):=by
 unfold lC bc2
 have e1:HT.sIx G.length 0 y=lH l.length y:=by
  cases y with
  | none=>rfl
  | some i=>rw[bf0,h.length];rfl
 have e2:HT.sIx G.length G.length J=lS l.length J:=by
  cases J with
  | none=>exact h.length
  | some i=>rw[bf0,h.length];rfl
 rw[e1,e2]
 exact(h.drop _).take _
theorem aN5 {α:Type}{l:List α}{h y:Option Int}:∀ d∈lC l h y,d∈l:=λ d hd=>List.mem_of_mem_drop (List.mem_of_mem_take hd)
theorem bk5 {α:Type}(l:List α)(h y:Option Int):(lC l h y).length<=l.length:=by
 unfold lC
 rw[bG,fU]
 omega
theorem ca7 (y G:Option Int)(n:Nat):bC y G 1 n=(ac (lS n G - lH n y)).map (lH n y+·):=by
 rw[<-sliceRange_one]
 unfold bC
 have cl:∀ i:Int,max 0 (min (if i<0 then i+(n:Int)else i) (n:Int))=((lw n i:Nat):Int):=λ i=>by
  unfold lw
  by_cases h:i<0
  ·rw[if_pos h,if_neg (by omega)];omega
  ·rw[if_neg h,if_pos (by omega)];omega
 simp only[show((1:Int) > 0)=True by simp,if_true]
 cases y<;>cases G<;>simp only[cl,lH,lS]<;>rfl
theorem aO5 {l:List Nat}:∀(a k:Nat),a+k<=l.length->((ac k).map (a+·)).filterMap (λ x=>l.toArray[x]?)=(l.drop a).take k
 | a,0,_=>by simp
 | a,k+1,h=>by
  rw[bL,bE,List.filterMap_append,aO5 a k (by omega)]
  have hk:a+k<l.length:=by omega
  rw[List.take_add_one,List.getElem?_drop]
  simp[hk]
theorem aZ7 (l:List Nat)(h y:Option Int):eM ⟨l.toArray⟩ h y=⟨(lC l h y).toArray⟩:=by
 unfold eM
 have hn:(⟨l.toArray⟩:Str).length=l.length:=by show l.toArray.size=_;simp
 rw[hn,ca7]
 have hb:lS l.length y<=l.length:=by
  cases y with
  | none=>exact ai _
  | some i=>show lw l.length i<=_;unfold lw;split<;>omega
 have ha:lH l.length h<=l.length:=by
  cases h with
  | none=>exact cS _
  | some i=>show lw l.length i<=_;unfold lw;split<;>omega
 unfold lC
 generalize lS l.length y=b at *
 generalize lH l.length h=a at *
 by_cases hc:((1:Int)==1&&((ac (b - a)).map (a+·)).length==l.length)=true
 ·rw[if_pos hc]
  have:b - a=l.length:=by simpa using hc
  have h0:a=0\/l.length=0:=by omega
  rcases h0 with h0|h0
  ·subst h0
   rw[this];simp
  ·have:l=[]:=cO.mp h0
   subst this;simp
 ·rw[if_neg hc]
  by_cases hab:a<=b
  ·have e:=aO5 (l:=l) a (b - a) (by omega)
   show(⟨(gQ (λ x=>l.toArray[x]?) _).toArray⟩:Str)=_
   rw[e]
  ·rw[show b - a=0 by omega];simp
def rSl (Γ:Gm):V->Option Int->Option Int->Hp->VK->Prop:=λ x lo hi H Q=>∃ φ s a d s',Rp Γ φ H s/\RV Γ φ H a x/\a.bnd s.length=true/\lT a lo hi s=.ok d s'/\af8 Γ φ s H d s' Q
theorem cf7 (hK:X.K=Γ.K):SlR X (rSl Γ):=by
 intro y s σ H x v vl vu J Y sl Q I rx hs Z pu h
 obtain⟨φ,st,a,d,a0,R,ha,na,G,q⟩:=h
 unfold lT at G
 cases a with
 | tup l =>
  cases G
  obtain⟨p,xs,rfl,h1,d1⟩:=ha.tupE
  unfold kT at na
  refine bF9 hK y s σ H _ v vl vu J Y sl Q I rx hs Z pu ⟨p,xs,rfl,h1,λ t H' e ht=>?_⟩
  obtain⟨g,r'⟩:=R.same e
  exact q _ _ _ g (ai _) (by unfold kT;exact aO8 na aN5) (RV.tupI ht (br7 (RVL.mono g _ _ na d1) J Y)) r'
 | str l =>
  cases G
  have hl:=ha.strL
  have ex:=ha.strE;subst ex
  refine bX2 y s σ H _ v vl vu J Y sl Q I rx hs Z pu ⟨_,rfl,by show l.toArray.size<=_;rw[ay];exact am hl qV,?_⟩
  rw[aZ7]
  exact q.here R rfl (RV.strI (am (bk5 l J Y) hl))
 | ref r =>
  have ex:=ha.refE;subst ex
  simp only at G
  cases hsr:st[r]? with
  | none=>rw[hsr]at G;cases G
  | some o =>
   rw[hsr]at G
   cases o with
   | lst l =>
    obtain⟨rfl,rfl⟩:=qI G
    obtain⟨xs,e1,d1⟩:=R.addr hsr
    have wf:=R.wf _ _ hsr
    unfold kW at wf
    exact bp7 hK y s σ H _ v vl vu J Y sl Q I rx hs Z pu ⟨φ r,xs,rfl,SqL.of e1,λ p hp=>q.alloc R (br7 d1 J Y) (aO8 wf aN5) hp⟩
   | _=>exact fb G
 | _=>exact fb G
variable {Γ:Gm} {X:Cx}
def rCl (Γ:Gm)(f:List kP->kO->kS kP):List V->Hp->VK->Prop:=λ xs H Q=>∃ φ s l d s',Rp Γ φ H s/\RVL Γ φ H l xs/\kQ s.length l=true/\f l s=.ok d s'/\af8 Γ φ s H d s' Q
theorem RVL.one {φ:Nat->Addr}{H:Hp}{d:kP}{y:List V}(h:RVL Γ φ H [d] y):∃ x,y=[x]/\RV Γ φ H d x:=by
 obtain⟨x,r,rfl,J,G⟩:=h.uncons
 rw[G.unnil];exact⟨x,rfl,J⟩
theorem bv1 (a b c:Int):mx3 a b c=max (max a b) c:=by unfold mx3 mx;split<;>split<;>omega
noncomputable def biN:ls->Option (String×Nat)
 | .len=>some ("len",1)|.abs=>some ("abs",1)|.min2=>some ("min",2)|.max2=>some ("max",2)|.max3=>some ("max",3)|_=>none
theorem qk:∀ {l:List kP} {is:List Int},ly l=some is->l=is.map DV.D.int
 | [],is,h=>by unfold ly at h;cases h;rfl
 | d::l,is,h=>by
  cases d with
  | int i =>
   have h:(ly l).map (i::·)=some is:=h
   cases e:ly l with
   | none=>rw[e]at h;cases h
   | some m=>rw[e]at h;cases h;rw[qk e];rfl
  | _=>cases h
theorem ap5:∀ {l:List kP} {is:List Bool},lI l=some is->l=is.map DV.D.bl
 | [],is,h=>by unfold lI at h;cases h;rfl
 | d::l,is,h=>by
  cases d with
  | bl i =>
   have h:(lI l).map (i::·)=some is:=h
   cases e:lI l with
   | none=>rw[e]at h;cases h
   | some m=>rw[e]at h;cases h;rw[ap5 e];rfl
  | _=>cases h
theorem RVL.ints {φ:Nat->Addr}{H:Hp}:∀ {is:List Int} {y:List V},RVL Γ φ H (is.map DV.D.int) y->y=is.map V.int
 | [],_,h=>h.unnil
 | i::is,_,h=>by
  obtain⟨x,r,rfl,J,G⟩:=RVL.uncons h
  rw[J.intE,RVL.ints G];rfl
theorem RVL.bls {φ:Nat->Addr}{H:Hp}:∀ {is:List Bool} {y:List V},RVL Γ φ H (is.map DV.D.bl) y->y=is.map V.bl
 | [],_,h=>h.unnil
 | i::is,_,h=>by
  obtain⟨x,r,rfl,J,G⟩:=RVL.uncons h
  rw[J.blE,RVL.bls G];rfl
theorem ba9 {f:kP->lL kP}{l:List kP}{s s':kO}{d:kP}(h:mf f l s=.ok d s'):∃ a,l=[a]/\f a s=.ok d s':=by
 match l,h with
 | [a],h=>exact⟨a,rfl,h⟩
 | [],h=>exact fb h
 | _::_::_,h=>exact fb h
theorem bf5 (Z:X.K=Γ.K)(hc:X.calm=true){b:ls}{nm:String}{k:Nat}(hn:biN b=some (nm,k)):ae2 X (.builtin nm) (rCl Γ (mq b)):=by
 intro y s σ H xs us Q I r h
 obtain⟨φ,st,l,d,Y,R,hl,nl,G,q⟩:=h
 cases b with
 | len =>
  cases hn
  have G:mf DV.bF3 l st=.ok d Y:=G
  obtain⟨a,rfl,J⟩:=ba9 G
  clear G
  obtain⟨x,rfl,hx⟩:=hl.one
  unfold DV.bF3 at J
  cases a with
  | tup l =>
   cases J
   obtain⟨p,ys,rfl,h1,d1⟩:=hx.tupE
   refine ao0 Z y s σ H _ us Q I r ⟨p,ys,rfl,.inr h1,?_⟩
   rw[d1.length];exact q.here R rfl RV.intI
  | str l =>
   cases J
   have hL:=hx.strL
   have e:=hx.strE;subst e
   refine aB6 y s σ H _ us Q I r ⟨_,rfl,by show l.toArray.size<=_;rw[ay];exact am hL qV,?_⟩
   show Q (.int ((l.toArray.size:Nat):Int)) H
   rw[ay]
   exact q.here R rfl RV.intI
  | ref n =>
   have e:=hx.refE;subst e
   simp only at J
   cases hs:st[n]? with
   | none=>rw[hs]at J;cases J
   | some o =>
    rw[hs]at J
    cases o with
    | lst l =>
     cases J
     obtain⟨ys,e1,d1⟩:=R.addr hs
     refine ao0 Z y s σ H _ us Q I r ⟨φ n,ys,rfl,.inl (SqL.of e1),?_⟩
     rw[d1.length];exact q.here R rfl RV.intI
    | ro l =>
     cases J
     obtain⟨ys,e1,d1⟩:=R.obj _ _ hs
     refine ao0 Z y s σ H _ us Q I r ⟨φ n,ys,rfl,.inl e1.1,?_⟩
     rw[d1.length];exact q.here R rfl RV.intI
    | dic l=>exact fb J
    | ins c l=>exact fb J
  | _=>exact fb J
 | abs =>
  cases hn
  have G:(match ly l with|some [i]=>.ok (.int (if i<0 then -i else i)) st|_=>.bad:kS kP)=.ok d Y:=G
  split at G
  ·rename_i i e
   cases G
   have:=qk e;subst this
   have:=RVL.ints hl;subst this
   exact bn2 y s σ H _ us Q I r ⟨i,rfl,q.here R rfl RV.intI⟩
  ·exact fb G
 | min2 =>
  cases hn
  have G:(match ly l with|some [a,b]=>.ok (.int (if b<a then b else a)) st|_=>.bad:kS kP)=.ok d Y:=G
  split at G
  ·rename_i a b e
   cases G
   have:=qk e;subst this
   have:=RVL.ints hl;subst this
   exact be9 hc y s σ H _ us Q I r ⟨_,_,rfl,q.here R rfl RV.intI⟩
  ·exact fb G
 | max2 =>
  cases hn
  have G:(match ly l with|some [a,b]=>.ok (.int (if b > a then b else a)) st|_=>.bad:kS kP)=.ok d Y:=G
  split at G
  ·rename_i a b e
   cases G
   have:=qk e;subst this
   have:=RVL.ints hl;subst this
   exact aZ5 hc y s σ H _ us Q I r ⟨_,_,rfl,q.here R rfl RV.intI⟩
  ·exact fb G
 | max3 =>
  cases hn
  have G:(match ly l with|some [a,b,c]=>.ok (.int (max (max a b) c)) st|_=>.bad:kS kP)=.ok d Y:=G
  split at G
  ·rename_i a b c e
   cases G
   have:=qk e;subst this
   have:=RVL.ints hl;subst this
   refine bb7 hc y s σ H _ us Q I r ⟨_,_,_,rfl,?_⟩
   rw[bv1]
   exact q.here R rfl RV.intI
  ·exact fb G
 | _=>cases hn
theorem bJ9:ae2 X (.type "int") (rCl Γ (mq .int)):=by
 intro G s σ H Y us Q I r h
 obtain⟨φ,st,l,d,J,R,hl,Z,y,q⟩:=h
 have y:(match lI l with|some [b]=>.ok (.int (if b then 1 else 0)) st|_=>.bad:kS kP)=.ok d J:=y
 split at y
 ·rename_i b e
  cases y
  have:=ap5 e;subst this
  have:=RVL.bls hl;subst this
  exact bd5 G s σ H _ us Q I r (.inr ⟨b,rfl,q.here R rfl RV.intI⟩)
 ·exact fb y
noncomputable def ar7:Nat->String
 | 1 => "int" | 2 => "bool" | 3 => "str" | 4 => "tuple" | _ => "list"
theorem bA0 {K:ae}(k:Nat)(hk:1<=k/\k<=5):cz K (.type "NoneType") (.type (ar7 k))=some false/\cz K (.type "bool") (.type (ar7 k))=some (k==1||k==2) /\
  cz K (.type "int") (.type (ar7 k))=some (k==1)/\cz K (.type "str") (.type (ar7 k))=some (k==3)/\cz K (.type "tuple") (.type (ar7 k))=some (k==4)/\cz K (.type "list") (.type (ar7 k))=some (k==5):=by
 obtain⟨G,y⟩:=hk
 rcases(by omega:k=1\/k=2\/k=3\/k=4\/k=5)with h|h|h|h|h<;>subst h<;>refine⟨?_,?_,?_,?_,?_,?_⟩<;>with_unfolding_all rfl
theorem aQ6 {y:List (Addr×Obj)}{σ:St}{H:Hp}{s:ah}{A:aX}{E:Value->ah->Prop}{Q:Value->ah->Prop}{c:Value}{b:Bool}{a:Addr}{J:List V}(I:Inv X y σ H s)(G:SqT X.K H a J)(e:cz X.K (.type "tuple") c=some b)
  (h:∀ tk,Q (.bool b) { s with toks:=tk }):wpAny (model X.prog X.w) A (call (.builtin "isinstance") [.ref a,c]) Q E s:=by
 obtain⟨its,_,⟨o,g1,Y,_⟩,_⟩:=I.tuple G
 exact bK iz I.kIn ⟨o,g1,Y⟩ e (λ z=>nomatch z) h
theorem bQ9 (hK:X.K=Γ.K){k:Nat}(hk:1<=k/\k<=5):ae2 X (.builtin "isinstance") (λ Z H Q=>∃ x,Z=[x,.ty (ar7 k)]/\rCl Γ (mf (my k)) [x] H Q):=by
 intro a0 s σ H Z us Q I r h
 obtain⟨x,rfl,φ,st,l,d,G,R,hl,nl,J,q⟩:=h
 obtain⟨a,rfl,y⟩:=ba9 J
 clear J
 obtain⟨u,w',rfl,r1,r2⟩:=bA3 r
 cases r2
 obtain⟨x',e',hx⟩:=hl.one
 cases e'
 obtain⟨k0,k1,k2,k3,k4,k5⟩:=bA0 (K:=X.K) k hk
 unfold my at y
 cases a with
 | non=>cases y;have e:=hx.nonE;subst e;exact jp I r1 .non k0 λ tk=>⟨.bl _,H,I.tok _,rfl,q.here R rfl RV.blI⟩
 | bl b=>cases y;have e:=hx.blE;subst e;exact jp I r1 (.bl b) k1 λ tk=>⟨.bl _,H,I.tok _,rfl,q.here R rfl RV.blI⟩
 | int b=>cases y;have e:=hx.intE;subst e;exact jp I r1 (.int b) k2 λ tk=>⟨.bl _,H,I.tok _,rfl,q.here R rfl RV.blI⟩
 | str b=>cases y;have e:=hx.strE;subst e;exact jp I r1 (.str _) k3 λ tk=>⟨.bl _,H,I.tok _,rfl,q.here R rfl RV.blI⟩
 | tup l =>
  cases y
  obtain⟨p,ys,rfl,Y,d1⟩:=hx.tupE
  cases r1
  rw[<-hK]at Y
  exact aQ6 I Y k4 λ tk=>⟨.bl _,H,I.tok _,rfl,q.here R rfl RV.blI⟩
 | ref n =>
  have e:=hx.refE;subst e
  have y:(match st[n]? with|some (.lst _)=>.ok (.bl (k==5)) st|_=>.bad:kS kP)=.ok d G:=y
  cases hs:st[n]? with
  | none=>rw[hs]at y;cases y
  | some o =>
   rw[hs]at y
   cases o with
   | lst l =>
    cases y
    obtain⟨ys,e1,d1⟩:=R.addr hs
    exact jp I r1 (.lst e1) k5 λ tk=>⟨.bl _,H,I.tok _,rfl,q.here R rfl RV.blI⟩
   | _=>exact fb y
 | _=>exact fb y
variable {X:Cx}
theorem bG9 {bs:List Bool}{its:List Value}(r:Vals (bs.map V.bl) its){i:Nat}{v:Value}(h:its[i]?=some v):∃ z,bs[i]?=some z/\v=Value.bool z:=by
 induction bs generalizing its i with
 | nil=>rw[cq]at r;cases r;simp at h
 | cons b bs ih =>
  rw[aJ]at r
  cases r with
  | cons r1 r2 =>
   cases i with
   | zero =>
    cases r1
    have:_=v:=av h
    exact⟨b,rfl,this.symm⟩
   | succ i=>exact ih r2 h
theorem bc1 {bs:List Bool}:(ac bs.length).all (λ i=>bs.getD i false)=bs.all id:=by
 rw[dN,aO,aO]
 constructor
 ·intro h b hb
  obtain⟨i,y,e⟩:=cF.mp hb
  have:=h i (bA.mpr y)
  rw[aE,ag y]at this
  rw[<-e];exact this
 ·intro h i y
  have y:=bA.mp y
  rw[aE,ag y]
  exact h _ (i9 y)
theorem ba4 {K:ae}(hc:X.calm=true)(hK:X.K=K):ae2 X (.builtin "all") (λ Y H Q=>∃(a:Addr) (bs:List Bool),Y=[.ref a]/\SqL K H a (bs.map V.bl)/\Q (.bl (bs.all id)) H):=by
 subst hK
 intro Z s σ H Y us Q I r h
 obtain⟨a,bs,rfl,hS,q⟩:=h
 obtain⟨u,rfl,ru⟩:=ak7 r
 cases ru
 obtain⟨its,rv,G,hz⟩:=I.list hS
 have hl:=rv.length
 rw[ax]at hl
 refine call_all_walk (di G.isList ?_)
 have J:a<s.heap.objs.size:=by obtain⟨o,_,e,_⟩:=G;exact aD e
 have W:=j6 (prog:=X.prog) (w:=X.w) (A:=X.A.in1) (I.ok.hd hc) s.heap.objs.size a (aA J) its.toArray
 refine⟨_,_,_,_,_,_,λ i=>bs.getD i false,rfl,W,⟨⟨_,aP _ rfl,rfl,rfl⟩,?_⟩,λ i v s' Q' E' y hQ=>?_,λ h' tk k=>?_⟩
 ·obtain⟨o,e,r⟩:=G.isList
  exact⟨o,aj _ e,r⟩
 ·obtain⟨z,e1,e2⟩:=bG9 rv (i:=i) (v:=v) (by have y:its.toArray[i]?=some v:=y;rw[cB]at y;exact y)
  subst e2
  refine bW ?_
  have:bs.getD i false=z:=by rw[aE,e1];rfl
  rw[<-this];exact hQ
 ·have es:its.toArray.size=bs.length:=by rw[ay];omega
  rw[es,bc1]
  refine⟨.bl (bs.all id),H,I.kept (h':=h') (t':=tk) λ b o q=>k b o ?_ (aj _ q),rfl,q⟩
  intro z
  have z':b=s.heap.objs.size:=by simpa using z
  exact absurd (aD q) (by rw[z'];exact bu _)
noncomputable def sgV (x:List Nat):List V:=x.map λ c=>.str ⟨#[c]⟩
theorem bH4 {vs:List V}{y:List Value}(hl:vs.length=y.length)(h:∀(i:Nat) (x:V) (u:Value),vs[i]?=some x->y[i]?=some u->RelV x u):Vals vs y:=by
 induction vs generalizing y with
 | nil=>cases y with
  | nil=>exact .nil
  | cons _ _=>cases hl
 | cons v vs ih=>cases y with
  | nil=>cases hl
  | cons a y=>exact .cons (h 0 v a rfl rfl) (ih (by simpa using hl) λ i x u e1 e2=>h (i+1) x u e1 e2)
theorem at7 {x:List Nat}{y:Array Value}(h:ItemsOf (SignAt ⟨x.toArray⟩) y x.length):Vals (sgV x) y.toList:=by
 have hl:(sgV x).length=y.toList.length:=by unfold sgV;rw[ax];simpa using h.1.symm
 refine bH4 hl λ i v u e1 e2=>?_
 obtain⟨c,t,G,J⟩:=h.2 i u (by rw[<-Array.getElem?_toList];exact e2)
 unfold sgV at e1
 rw[ao]at e1
 have G:x[i]?=some c:=by simpa using G
 rw[G]at e1
 cases e1
 exact⟨t,J⟩
theorem aI6 (hc:X.calm=true):ae2 X (.type "tuple") (λ Z H Q=>∃ x:List Nat,Z=[.str ⟨x.toArray⟩]/\x.length<=kY/\∀ l,H l=none->Q (.ref l) (upd H l (.tup (sgV x)))):=by
 intro y s σ H Z us Q I r h
 obtain⟨x,rfl,hl,q⟩:=h
 obtain⟨u,rfl,rx⟩:=ak7 r
 obtain⟨t,rfl⟩:=rx
 have hz:(sgV x).length<=aL:=by unfold sgV;rw[ax];exact am hl qV
 refine call_tuple_str (I.ok.hd hc) _ t (λ h' tk G kp J=>?_) (by show x.toArray.size<=_;rw[ay];exact am hl qV)
 have J:ItemsOf (SignAt ⟨x.toArray⟩) G x.length:=by simpa using J
 have rv:=at7 J
 have Y:Inv X y σ H { s with heap:=h',toks:=tk }:=I.kept (t':=tk) kp
 have I2:Inv X y σ (upd H h'.objs.size (.tup (sgV x))) { s with heap:=h'.push { cls:=.type "tuple",data:=.seq G },toks:=tk } :=
  Y.laid (t':=tk) (λ b o e=>aj _ e) (ai _) (show ad9 X.prog X.w _ _ _ (.tup (sgV x))from⟨hz,G.toList,rv,i3 _ _⟩)
 exact⟨.ref h'.objs.size,_,I2,rfl,q _ (Y.hok.fresh (ai _))⟩
theorem aQ0 (hc:X.calm=true):ae2 X (.type "list") (λ J H Q=>∃ x:List Nat,J=[.str ⟨x.toArray⟩]/\x.length<=kY/\∀ l,H l=none->Q (.ref l) (upd H l (.lst (sgV x)))):=by
 intro Y s σ H J us Q I r h
 obtain⟨x,rfl,hl,q⟩:=h
 obtain⟨u,rfl,rx⟩:=ak7 r
 obtain⟨t,rfl⟩:=rx
 have hz:(sgV x).length<=aL:=by unfold sgV;rw[ax];exact am hl qV
 refine call_list_str (I.ok.hd hc) _ t (λ h' tk y Z kp e G=>?_) (by show x.toArray.size<=_;rw[ay];exact am hl qV)
 have G:ItemsOf (SignAt ⟨x.toArray⟩) y x.length:=by simpa using G
 have rv:=at7 G
 exact⟨.ref s.heap.objs.size,_,I.laid (t':=tk) kp (ai _) (show ad9 X.prog X.w _ h' _ (.lst (sgV x))from⟨hz,y.toList,Z,rv,e⟩),rfl,q _ (I.hok.fresh (ai _))⟩
section
variable {Γ:Gm} {φ φ':Nat->Addr} {H H' H1 H2 H3:Hp} {clos:List (Str×Addr)} {s s':kO}
theorem qA (hc:Cells clos H){a:Addr}{u:HO}(e:H a=some u)(h:∀ o,u≠.frz o (.own a)):isC clos a≠true:=λ z=>by
 obtain⟨o,v,q,_⟩:=hc.at z
 rw[e]at q;cases q;exact h o rfl
theorem SqT.dropC {K:ae}{a:Addr}{y:List V}(hc:Cells clos H)(h:SqT K H a y):SqT K (ac7 clos H) a y:=by
 rcases h with(h|⟨o,h⟩)|h
 ·exact .inl (.inl (by rw[ac7.ne (qA hc h (λ _ z=>by cases z))];exact h))
 ·exact .inl (.inr ⟨o,by rw[ac7.ne (qA hc h (λ _ z=>by cases z))];exact h⟩)
 ·exact .inr h
theorem SqL.dropC {K:ae}{a:Addr}{y:List V}(hc:Cells clos H)(h:SqL K H a y):SqL K (ac7 clos H) a y:=by
 rcases h with(h|⟨o,h⟩)|h
 ·exact .inl (.inl (by rw[ac7.ne (qA hc h (λ _ z=>by cases z))];exact h))
 ·exact .inl (.inr ⟨o,by rw[ac7.ne (qA hc h (λ _ z=>by cases z))];exact h⟩)
 ·exact .inr h
theorem SqF.dropC {K:ae}{a:Addr}{y:List V}(hc:Cells clos H)(h:SqF K H a y):SqF K (ac7 clos H) a y:=by
 refine⟨SqL.dropC hc h.1,λ H2 k=>?_⟩
 have hk:Kp H (λ b=>if isC clos b=true then H b else H2 b):=λ b o e f=>by
  by_cases z:isC clos b=true
  ·show(if isC clos b=true then H b else H2 b)=_;rw[if_pos z];exact e
  ·show(if isC clos b=true then H b else H2 b)=_
   rw[if_neg z]
   exact k b o (by rw[ac7.ne z];exact e) f
 have q:=h.2 _ hk
 have at_:∀ u,(if isC clos a=true then H a else H2 a)=some u->(∀ o,u≠.frz o (.own a))->H2 a=some u:=λ u e G=>by
  by_cases z:isC clos a=true
  ·rw[if_pos z]at e
   exact absurd z (qA hc e G)
  ·rw[if_neg z]at e;exact e
 rcases q with(q|⟨o,q⟩)|q
 ·exact .inl (.inl (at_ _ q (λ _ z=>by cases z)))
 ·exact .inl (.inr ⟨o,at_ _ q (λ _ z=>by cases z)⟩)
 ·exact .inr q
mutual
theorem RV.dropC (hc:Cells clos H):∀(d:kP) (v:V),d.ncl=true->RV Γ φ H d v->RV Γ φ (ac7 clos H) d v
 | .non,_,_,h=>by unfold RV at h ⊢;exact h
 | .bl _,_,_,h=>by unfold RV at h ⊢;exact h
 | .int _,_,_,h=>by unfold RV at h ⊢;exact h
 | .str _,_,_,h=>by unfold RV at h ⊢;exact h
 | .tup l,_,n,h=>by
  unfold RV at h ⊢
  unfold mz at n
  obtain⟨a,y,e,q,r⟩:=h
  exact⟨a,y,e,SqT.dropC hc q,RVL.dropC hc l y n r⟩
 | .ref k,_,_,h=>by unfold RV at h ⊢;exact h
 | .fn _,_,_,h=>by unfold RV at h ⊢;exact h
 | .clo id cs,_,n,h=>by unfold mz at n;cases n
theorem RVL.dropC (hc:Cells clos H):∀(l:List kP) (y:List V),lD l=true->RVL Γ φ H l y->RVL Γ φ (ac7 clos H) l y
 | [],_,_,h=>by unfold RVL at h ⊢;exact h
 | d::l,_,n,h=>by
  unfold lD at n
  rw[au]at n
  obtain⟨x,r,e,J,G⟩:=h.uncons
  subst e
  exact .cons (RV.dropC hc d x n.1 J) (RVL.dropC hc l r n.2 G)
end
theorem RVD.dropC (hc:Cells clos H):∀(l:List (kP×kP)) (y:List (Key×V)),lD (l.map (·.2))=true->RVD Γ φ H l y->RVD Γ φ (ac7 clos H) l y
 | [],_,_,h=>h
 | (d,e)::l,_,n,h=>by
  obtain⟨k,v,r,e1,e2,J,G⟩:=h
  rw[aJ]at n
  unfold lD at n
  rw[au]at n
  exact⟨k,v,r,e1,e2,RV.dropC hc e v n.1 J,RVD.dropC hc l r n.2 G⟩
theorem RO.dropC {a:Addr}{o:li}(hc:Cells clos H)(h:RO Γ φ H a o)(n:o.ncl=true):RO Γ φ (ac7 clos H) a o:=by
 cases o with
 | lst l =>
  obtain⟨y,e,r⟩:=h
  exact⟨y,by rw[ac7.ne (qA hc e (λ _ z=>by cases z))];exact e,RVL.dropC hc l y n r⟩
 | ro l =>
  obtain⟨y,e,r⟩:=h
  exact⟨y,SqF.dropC hc e,RVL.dropC hc l y n r⟩
 | dic l =>
  obtain⟨y,e,r⟩:=h
  exact⟨y,by rw[ac7.ne (qA hc e (λ _ z=>by cases z))];exact e,RVD.dropC hc l y n r⟩
 | ins _ _=>exact h.elim
theorem TabsH.dropC {T:List (Addr×Str)}(hc:Cells clos H)(h:TabsH T H):TabsH T (ac7 clos H):=λ y hy=>by
 obtain⟨ps,e,t,c⟩:=h y hy
 refine⟨ps,by rw[ac7.ne (qA hc e (λ _ z=>by cases z))];exact e,t,λ pos G q=>?_⟩
 obtain⟨J,e1,e2⟩:=c pos G q
 exact⟨J,e1,by rw[ac7.ne (qA hc e2 (λ _ z=>by unfold qJ at z;cases z))];exact e2⟩
theorem Rp.dropC (hc:Cells clos H)(r:Rp Γ φ H s)(n:s.all mB=true):Rp Γ φ (ac7 clos H) s :=
 ⟨r.inj,λ i o e=>RO.dropC hc (r.obj i o e) (aO.mp n o (aW e)),r.wf,TabsH.dropC hc r.tab⟩
theorem Gr.caught {N:List Str}{kd:Str->Option bO}{σ:St}(h:Caught clos N kd σ H1 H2)(g:Gr φ s H2 φ' s' H3):Gr φ s H1 φ' s' (ac7 clos H3):=by
 have y:∀ b o,H1 b=some o->isC clos b≠true:=λ b o e z=>by rw[h.free b z]at e;cases e
 have up:∀ b o,H1 b=some o->H2 b=some o:=λ b o e=>by rw[h.ne b (y b o e)];exact e
 refine⟨⟨g.w.map,λ b o e f=>?_⟩,g.le,λ i Y J=>?_,g.kd,λ b e=>?_,λ b o e G Z=>?_⟩
 ·rw[ac7.ne (y b o e)];exact g.w.kp b o (up b o e) f
 ·have:=g.new i Y J
  by_cases z:isC clos (φ' i)=true
  ·exact h.free _ z
  ·rw[<-h.ne _ z];exact this
 ·cases q:H1 b with
  | none=>exact absurd q e
  | some o =>
   rw[ac7.ne (y b o q)]
   exact g.st b (by rw[up b o q];simp)
 ·rw[ac7.ne (y b o e)];exact g.fr b o (up b o e) G Z
theorem bf4 (h:∀ b,isC clos b=true->H' b=none):ag9 H' (Put clos H H'):=λ b o e=>by
 rw[Put.ne (λ z=>by rw[h b z]at e;cases e)];exact e
theorem Gr.put (hc:Cells clos H)(y:∀ b,isC clos b=true->H' b=none)(hK:∀ b o,Γ.K.lookup b=some o->H b=none)(R':Rp Γ φ' H' s')(g:Gr φ s (ac7 clos H) φ' s' H'):Gr φ s H φ' s' (Put clos H H'):=by
 refine⟨⟨g.w.map,λ b o e f=>?_⟩,g.le,λ i h1 Y=>?_,g.kd,λ b e=>?_,λ b o e nt no=>?_⟩
 ·by_cases z:isC clos b=true
  ·rw[Put.cell z];exact e
  ·rw[Put.ne z];exact g.w.kp b o (by rw[ac7.ne z];exact e) f
 ·have hd:=g.new i h1 Y
  by_cases z:isC clos (φ' i)=true
  ·have G:=y _ z
   obtain⟨o,Z⟩:∃ o,s'[i]?=some o:=⟨s'[i],ag Y⟩
   have h:=R'.obj i o Z
   cases o with
   | lst l=>obtain⟨J,e,_⟩:=h;rw[G]at e;cases e
   | ro l =>
    obtain⟨J,e,_⟩:=h
    rcases e.1 with(e|⟨_,e⟩)|⟨ob,its,n,e,_⟩
    ·rw[G]at e;cases e
    ·rw[G]at e;cases e
    ·exact hK _ _ e
   | dic l=>obtain⟨J,e,_⟩:=h;rw[G]at e;cases e
   | ins _ _=>exact h.elim
  ·rw[ac7.ne z]at hd;exact hd
 ·by_cases z:isC clos b=true
  ·rw[Put.cell z];exact e
  ·rw[Put.ne z];exact g.st b (by rw[ac7.ne z];exact e)
 ·by_cases z:isC clos b=true
  ·rw[Put.cell z];exact e
  ·rw[Put.ne z];exact g.fr b o (by rw[ac7.ne z];exact e) nt no
theorem bi7 {T:List (Addr×Str)}{cells:List (Str×Addr)}{P:Addr}{q:Str}{params:a9}{body:Expr}{scope:Scope}{pos:Pos}{σ:St}{H:Hp}{Q:VK}(hT:TabsH T H)(nd:(T.map (·.1)).Nodup)(hm:(P,q)∈T)
  (go:∀(f:Addr) (H':Hp),bf1 H H'->(∀ b,H b≠none->H' b≠none)->TabsH T H'->H f=none->(∃ pm J Y,H' f=some (aw4 f (bS "<lambda>" q params body scope (af6 cells scope.names []) pm (.ref J) Y))/\H' J=some (qJ J q))->Q (.ref f) H') :
  tLam cells P q params body scope pos σ H Q:=by
 obtain⟨ps,hP,ht,hc⟩:=hT _ hm
 refine⟨ps,hP,ht,λ hn J f pm Y n1 n2 ne=>?_,λ cv e=>?_⟩
 ·have cP:J≠P:=λ z=>by rw[z,hP]at n1;cases n1
  have fP:f≠P:=λ z=>by rw[z,hP]at n2;cases n2
  have Z:∀ b,b≠P->H b≠none->∀ o1 o2 o3,upd (upd (upd H P o1) J o2) f o3 b=H b:=λ b z1 z2 o1 o2 o3=>by
   rw[zm λ z=>by subst z;exact z2 n2,zm λ z=>by subst z;exact z2 n1,zm z1]
  refine go f _ (λ b o d e=>?_) (λ b hb=>?_) (λ y hy=>?_) n2 ⟨pm,J,Y,zo,by rw[zm ne,zo]⟩
  ·rw[Z b (λ z=>by subst z;rw[hP]at e;cases e;exact d _ rfl) (by rw[e];simp)];exact e
  ·by_cases z:b=P
   ·subst z;rw[zm (bU fP),zm (bU cP),zo];simp
   ·rw[Z b z hb];exact hb
  ·by_cases z:y.1=P
   ·have ey:y=(P,q):=by
     have:∀(l:List (Addr×Str)),(l.map (·.1)).Nodup->y∈l->(P,q)∈l->y=(P,q):=by
      intro l
      induction l with
      | nil=>intro _ h;simp at h
      | cons a l ih =>
       intro hn h1 h2
       rw[aJ,cX]at hn
       rcases aI.mp h1 with e1|h1<;>rcases aI.mp h2 with e2|h2
       ·rw[e1,e2]
       ·exact absurd (by rw[<-e1,z];exact bo (f:=(·.1)) h2) hn.1
       ·exact absurd (by rw[<-e2,<-z];exact bo (f:=(·.1)) h1) hn.1
       ·exact ih hn.2 h1 h2
     exact this T nd hy hm
    subst ey
    refine⟨_,by rw[zm (bU fP),zm (bU cP),zo],?_,λ G cv e=>?_⟩
    ·rw[dF];exact TriplesOk_snoc _ _ _ _ ht
    ·rw[dF]at e
     rcases codeAmong_add _ ht e with e'|e'
     ·obtain⟨c2,e1,e2⟩:=hc G cv e'
      exact⟨c2,e1,by rw[Z c2 (λ z=>by subst z;rw[hP]at e2;unfold qJ at e2;cases e2) (by rw[e2];simp)];exact e2⟩
     ·exact⟨J,e',by rw[zm ne,zo]⟩
   ·obtain⟨qs,e1,e2,e3⟩:=hT y hy
    refine⟨qs,by rw[Z y.1 z (by rw[e1];simp)];exact e1,e2,λ G cv e=>?_⟩
    obtain⟨c2,e4,e5⟩:=e3 G cv e
    exact⟨c2,e4,by rw[Z c2 (λ z=>by subst z;rw[hP]at e5;unfold qJ at e5;cases e5) (by rw[e5];simp)];exact e5⟩
 ·obtain⟨J,e1,e2⟩:=hc pos cv e
  refine⟨J,e1,λ f pm Y n=>go f _ (.of ((ag9.refl H).new n)) (λ b hb=>by
   by_cases z:b=f
   ·subst z;rw[zo];simp
   ·rw[zm z];exact hb) (hT.new n) n ⟨pm,J,Y,zo,?_⟩⟩
  rw[zm (zJ e2 n)];exact e2
theorem bE4 {P:aN}{w:World}{K:ae}{mg:Str->Option Value}{base:Heap}{k:Nat}{f:Addr}{N ps fr:List Str}{name qual:Str}{params:a9}{body:List Stmt}{scope:Scope}{h:List (Str×Addr)}{cap:List V}{sp:Sp}
  (S:LamScope N ps fr scope) (len:∀ vs H Q E,sp vs H Q E->vs.length=ps.length) (a5:cap.length=fr.length)
  (Z:∀(Y pm:Value) (c':Addr) (a1:Value) (us:List Value),us.length=ps.length->eC (cu name qual params body scope h .none .none Y pm none (.ref c') a1) ⟨us,[]⟩=pure (ps.zip us))
  (a0:∀(A:aX) (outer:List Env) (s:ah) (H:Hp) (cd:Value) (vs:List V) (Q:VK),Room k (A.deeper (cW qual scope s.heap.objs.size f cd (aM (s.heap.objs.size+1) scope.names h)))->aq3 H f name qual params body scope fr cap h->(∀ b o,K.lookup b=some o->H b=none)->sp vs H Q E0 ->
   ∃ t,PSs (aG5 P w K mg base N qual scope f cd h A outer s H) body t/\t { nx:=λ _ H'=>(∀ b,isC h b=true->H' b=none)->Q .non (Put h H H'),rt:=λ v H'=>(∀ b,isC h b=true->H' b=none)->Q v (Put h H H') } (vs.map some++cap.map some) (ac7 h H)) :
  ClOk P w K mg base (k+1) (λ H=>aq3 H f name qual params body scope fr cap h) f sp:=by
 refine⟨λ A outer s H us vs Q hr G hR r a2=>?_⟩
 have hl:=len _ _ _ _ a2
 obtain⟨Y,pm,c',a1,h1,h2,h3,h4,h5,h6⟩:=id hR
 have a4:s.heap.NoLimit:=G.mod.nolimit.keeps λ b o e=>(G.bs b o e).1
 refine gG hr.depth (av5 G.hok h1) rfl S.co S.gen rfl (aD2 G.hok h2) ?_
 rw[Z Y pm c' a1 us (by rw[<-r.length];exact hl)]
 refine aG (at4 S.kind (λ y hy=>?_) λ env he s1 x=>?_)
 ·rcases S.par y.1 (dJ (show(y.1,y.2)∈ps.zip us from hy)).1 with q|q
  ·exact .inl q
  ·exact .inr ⟨q,qp q⟩
 ·subst he
  refine⟨a4.keeps x.toInCall.keep,codeAny_func ?_⟩
  obtain⟨t,ht,hq⟩:=a0 A outer s H (.ref c') vs Q (hr.deeper _) hR (λ b o e=>(G.bs b o (G.mod.kin b o e)).2) a2
  have I:=aX0 S hr.hd G hl a5 r h3 h4 h5 h6 x
  refine ci (ht [] s1 _ _ _ I hq) (λ fl s' hs=>?_) λ e s' hs=>hs.elim
  have fin:∀ {σ':St} {H':Hp} {v:V} {u:Value},Inv (aG5 P w K mg base N qual scope f (.ref c') h A outer s H) [] σ' H' s'->RelV v u->((∀ b,isC h b=true->H' b=none)->Q v (Put h H H'))->CE outer P w H s Q u s':=λ {σ' H' v u} J rv q=>by
   obtain⟨un,a6⟩:=aZ3 G.hok h3 G.frf J.base J.hok
   have a3:∀ b,isC h b=true->H' b=none:=λ b y=>by
    obtain⟨o,v,z,_⟩:=h3.at y
    exact(show Un (frs outer) [] (ac7 h H) H' s.heap s'.heap from J.base).free b o (G.hok b _ z).1 (ac7.cell y) (by simp)
   exact⟨v,_,J.os,J.bare,un,a6,rv,q a3⟩
  cases fl with
  | ret u =>
   obtain⟨v,σ',H',J,rv,q⟩:=hs
   exact fin J rv q
  | next =>
   obtain⟨σ',H',J,q⟩:=hs
   exact fin (v:=V.non) (u:=Value.none) J rfl q
  | brk =>
   obtain⟨_,_,_,q⟩:=hs
   exact bF q
  | cont =>
   obtain⟨_,_,_,q⟩:=hs
   exact bF q
theorem bG6 {P:aN}{w:World}{K:ae}{mg:Str->Option Value}{base:Heap}{k:Nat}{f:Addr}{N ps fr:List Str}{qual:Str}{params:a9}{body:Expr}{scope:Scope}{h:List (Str×Addr)}{cap:List V}{sp:Sp}
  (S:LamScope N ps fr scope) (len:∀ vs H Q E,sp vs H Q E->vs.length=ps.length) (a4:cap.length=fr.length)
  (Y:∀(pm:Value) (c':Addr) (a0:Value) (us:List Value),us.length=ps.length->eC (bS "<lambda>" qual params body scope h pm (.ref c') a0) ⟨us,[]⟩=pure (ps.zip us))
  (Z:∀(A:aX) (outer:List Env) (s:ah) (H:Hp) (cd:Value) (vs:List V) (Q:VK),Room k (A.deeper (cW qual scope s.heap.objs.size f cd (aM (s.heap.objs.size+1) scope.names h)))->aA0 H f qual params body scope fr cap h->(∀ b o,K.lookup b=some o->H b=none)->sp vs H Q E0 ->
   ∃ t,PE (aG5 P w K mg base N qual scope f cd h A outer s H) body t/\t (vs.map some++cap.map some) (ac7 h H) λ v H'=>(∀ b,isC h b=true->H' b=none)->Q v (Put h H H')) :
  ClOk P w K mg base (k+1) (λ H=>aA0 H f qual params body scope fr cap h) f sp:=by
 refine⟨λ A outer s H us vs Q hr G hR r a1=>?_⟩
 have hl:=len _ _ _ _ a1
 obtain⟨pm,c',a0,h1,h2,h3,h4,h5,h6⟩:=id hR
 have a3:s.heap.NoLimit:=G.mod.nolimit.keeps λ b o e=>(G.bs b o e).1
 refine PySem.W.kla_callFunE hr.depth (av5 G.hok h1) rfl S.co S.gen rfl (aD2 G.hok h2) ?_
 rw[Y pm c' a0 us (by rw[<-r.length];exact hl)]
 refine aG (at4 S.kind (λ y hy=>?_) λ env he s1 x=>?_)
 ·rcases S.par y.1 (dJ (show(y.1,y.2)∈ps.zip us from hy)).1 with q|q
  ·exact .inl q
  ·exact .inr ⟨q,qp q⟩
 ·subst he
  refine⟨a3.keeps x.toInCall.keep,PySem.W.kla_codeExpr ?_⟩
  obtain⟨t,ht,hq⟩:=Z A outer s H (.ref c') vs Q (hr.deeper _) hR (λ b o e=>(G.bs b o (G.mod.kin b o e)).2) a1
  have I:=aX0 S hr.hd G hl a4 r h3 h4 h5 h6 x
  refine ci (ht [] s1 _ _ _ I hq) (λ u s' hs=>?_) λ e s' hs=>hs.elim
  obtain⟨v,H',J,rv,q⟩:=hs
  obtain⟨un,a5⟩:=aZ3 G.hok h3 G.frf J.base J.hok
  have a2:∀ b,isC h b=true->H' b=none:=λ b y=>by
   obtain⟨o,v,z,_⟩:=h3.at y
   exact(show Un (frs outer) [] (ac7 h H) H' s.heap s'.heap from J.base).free b o (G.hok b _ z).1 (ac7.cell y) (by simp)
  exact⟨v,_,J.os,J.bare,un,a5,rv,q a2⟩
theorem Rp.sameT {φ:Nat->Addr}{H H':Hp}{s:kO}(r:Rp Γ φ H s)(e:bf1 H H')(st:∀ b,H b≠none->H' b≠none)(tb:TabsH Γ.T H'):Gr φ s H φ s H'/\Rp Γ φ H' s:=by
 have kp:Kp H H':=λ b o h f=>e b o (λ ps z=>by subst z;cases f) h
 have Z:Gw φ s.length H φ H':=⟨λ _ _=>rfl,kp⟩
 refine⟨⟨Z,ai _,λ i h1 h2=>absurd h2 (by omega),λ i o o' e e'=>by rw[e]at e';cases e';rfl,st,λ b o h J _=>e b o J h⟩,r.inj,λ i o G=>?_,r.wf,tb⟩
 exact(r.obj i o G).mono Z (r.wf i o G) λ m u Y=>by
  obtain⟨u',y,_,J⟩:=(r.obj i o G).there m
  rw[Y]at y;cases y
  exact e _ _ J Y
theorem Cells.kp {H H':Hp}(h:Cells clos H)(k:Kp H H'):Cells clos H':=λ x c e=>by
 obtain⟨o,v,q,d⟩:=h x c e
 exact⟨o,v,k _ _ q rfl,d⟩
noncomputable def PVp (Γ : Gm) (cells : List (Str × Addr)) (N : List Str) (σ : St) (φ : Nat -> Addr) (H : Hp) (d : DV.D) (v : V) : Prop := RV Γ φ H d v \/ ∃ id cs, d = .clo id cs /\ ∃ f J, v = .ref f /\ Γ.lg id J /\ ah2 H f J (af6 cells J.scope.names []) /\
      cs.length = J.fr.length /\ (∀ x, J.scope.names.lookup x = some .free -> ∃ c, cells.lookup x = some c) /\
      ∃ cap, RVL Γ φ H cs cap /\ ∀(i : Nat) (x : Str) (v : V), J.fr[i]? = some x -> cap[i]? = some v -> J.scope.names.lookup x = some .free /\ ∃ j : Nat, N[j]? = some x /\ σ[j]? = some (some v)
inductive PVL (Γ:Gm)(cells:List (Str×Addr))(N:List Str)(σ:St)(φ:Nat->Addr)(H:Hp):List kP->List V->Prop where
 | nil:PVL Γ cells N σ φ H [] []
 | cons {d v l vs} (a:PVp Γ cells N σ φ H d v) (b:PVL Γ cells N σ φ H l vs):PVL Γ cells N σ φ H (d::l) (v::vs)
theorem PVp.mono {cells:List (Str×Addr)}{N:List Str}{σ:St}{φ φ':Nat->Addr}{s s':kO}{H H':Hp}(g:Gr φ s H φ' s' H'){d:kP}{v:V}(b:d.bnd s.length=true)(h:PVp Γ cells N σ φ H d v):PVp Γ cells N σ φ' H' d v:=by
 rcases h with h|⟨id,cs,rfl,h⟩
 ·exact .inl (RV.mono g _ _ b h)
 ·obtain⟨f,J,e,Y,h2,y,G,cap,Z,h7⟩:=h
  unfold kT at b
  exact .inr ⟨id,cs,rfl,f,J,e,Y,h2.kp g.w.kp,y,G,cap,RVL.mono g cs cap b Z,h7⟩
theorem PVp.caught {cells:List (Str×Addr)}{N:List Str}{kd:Str->Option bO}{σ:St}{φ:Nat->Addr}{n:Nat}{Z H2:Hp}(ca:Caught cells N kd σ Z H2)(a0:∀ x c,cells.lookup x=some c->kd x=some .cell\/kd x=some .free){d:kP}{v:V}(b:d.bnd n=true)(h:PVp Γ cells N σ φ Z d v):RV Γ φ H2 d v:=by
 have gw:Gw φ n Z φ H2:=⟨λ _ _=>rfl,λ b o e _=>ca.same b o e⟩
 rcases h with h|⟨id,cs,rfl,h⟩
 ·exact RV.monoW gw _ _ b h
 ·obtain⟨f,J,e,h1,G,h4,Y,cap,h6,h7⟩:=h
  unfold kT at b
  unfold RV
  have y:∀(i:Nat) (x:Str) (v:V),J.fr[i]?=some x->cap[i]?=some v->J.scope.names.lookup x=some .free/\(kd x=some .cell\/kd x=some .free)/\∃ j:Nat,N[j]?=some x/\σ[j]?=some (some v):=λ i x v e1 e2=>by
   obtain⟨q1,q2⟩:=h7 i x v e1 e2
   obtain⟨c,q3⟩:=Y x q1
   exact⟨q1,a0 x c q3,q2⟩
  have a1:CloAt H2 f J cap (af6 cells J.scope.names []):=by
   unfold CloAt
   unfold ah2 at G
   cases q:J.nm with
   | none=>rw[q]at G;exact bj6 ca G Y y
   | some p=>rw[q]at G;exact bk8 ca G Y y
  exact⟨f,cap,J,_,e,h1,a1,by rw[h6.length,h4],RVL.monoW gw cs cap b h6⟩
theorem PVL.caught {cells:List (Str×Addr)}{N:List Str}{kd:Str->Option bO}{σ:St}{φ:Nat->Addr}{n:Nat}{G H2:Hp}(J:Caught cells N kd σ G H2)(y:∀ x c,cells.lookup x=some c->kd x=some .cell\/kd x=some .free){l:List kP}{vs:List V}(h:PVL Γ cells N σ φ G l vs)(b:kQ n l=true):RVL Γ φ H2 l vs:=by
 induction h with
 | nil=>exact .nil
 | cons a _ ih =>
  unfold kQ at b
  rw[au]at b
  exact .cons (a.caught J y b.1) (ih b.2)
end
variable {Γ:Gm} {X:Cx}
def TEv (Γ:Gm)(m:kR->kO->kS kP):TE:=λ σ H Q=>∃ φ ρ s d s',RE Γ φ H s.length ρ σ/\Rp Γ φ H s/\m ρ s=.ok d s'/\af8 Γ φ s H d s' Q
def bP1 (Γ:Gm)(φ:Nat->Addr)(s:kO)(H:Hp)(l:List kP)(s':kO)(Q:List V->Hp->Prop):Prop :=
 ∀ vs φ' H',Gr φ s H φ' s' H'->s.length<=s'.length->kQ s'.length l=true->RVL Γ φ' H' l vs->Rp Γ φ' H' s'->Q vs H'
def TAv (Γ:Gm)(m:kR->kO->kS (List kP)):TA:=λ σ H Q=>∃ φ ρ s l s',RE Γ φ H s.length ρ σ/\Rp Γ φ H s/\m ρ s=.ok l s'/\bP1 Γ φ s H l s' Q
def aJ6 (Γ:Gm)(φ:Nat->Addr)(s:kO)(H:Hp)(b:Bool)(s':kO)(Q:Bool->Hp->Prop):Prop :=
 ∀ φ' H',Gr φ s H φ' s' H'->s.length<=s'.length->Rp Γ φ' H' s'->Q b H'
def TTv (Γ:Gm)(m:kR->kO->kS kP):TT:=λ σ H Q=>∃ φ ρ s b s',RE Γ φ H s.length ρ σ/\Rp Γ φ H s/\m ρ s=.ok (.bl b) s'/\aJ6 Γ φ s H b s' Q
theorem PE.imp {e:Expr}{t t':TE}(h:PE X e t)(i:∀ σ H Q,t' σ H Q->t σ H Q):PE X e t':=λ y s σ H Q I q=>h y s σ H Q I (i σ H Q q)
theorem PT.imp {e:Expr}{t t':TT}(h:PT X e t)(i:∀ σ H Q,t' σ H Q->t σ H Q):PT X e t':=λ y s σ H Q I q=>h y s σ H Q I (i σ H Q q)
theorem PA.imp {e:List Expr}{t t':TA}(h:PA X e t)(i:∀ σ H Q,t' σ H Q->t σ H Q):PA X e t':=λ pos y s σ H Q I q=>h pos y s σ H Q I (i σ H Q q)
theorem aJ6.trans {φ φ1:Nat->Addr}{s s1 s':kO}{H y:Hp}{b:Bool}{Q:Bool->Hp->Prop}(h:aJ6 Γ φ s H b s' Q)(g:Gr φ s H φ1 s1 y)(l:s.length<=s1.length):aJ6 Γ φ1 s1 y b s' Q :=
 λ φ' H' g' G p=>h φ' H' (g.trans g' l) (am l G) p
theorem bP4 (i:Nat){σ:St}{H:Hp}{Q:VK}(h:TEv Γ (λ ρ s=>DV.bh2 ρ i s) σ H Q):bs1 i σ H Q:=by
 obtain⟨φ,ρ,s,d,s',E,R,y,q⟩:=h
 simp only[DV.bh2]at y
 split at y
 ·rename_i d' e
  cases y
  obtain⟨b,v,e1,e2⟩:=E.val i _ e
  exact⟨v,e1,q.here R b e2⟩
 ·exact fb y
theorem aB8 {c:kP}{v:V}(hb:∀ n,c.bnd n=true)(hv:∀ φ H,RV Γ φ H c v){σ:St}{H:Hp}{Q:VK}(h:TEv Γ (λ ρ s=>.ok c s) σ H Q):tC v σ H Q:=by
 obtain⟨φ,ρ,s,d,s',E,R,y,q⟩:=h
 cases y
 exact q.here R (hb _) (hv _ _)
theorem bo5 {m1 Y:kR->kO->kS kP}{f:kP->kP->kO->kS kP}{σ:St}{H:Hp}{Q:VK}(h:TEv Γ (λ ρ s=>(m1 ρ s).bind λ x s=>(Y ρ s).bind λ y s=>f x y s) σ H Q):tOp (rOp Γ f) (TEv Γ m1) (TEv Γ Y) σ H Q:=by
 obtain⟨φ,ρ,s,d,s',E,R,G,q⟩:=h
 obtain⟨x,s1,e1,G⟩:=aa0 G
 obtain⟨y,s2,e2,G⟩:=aa0 G
 refine⟨φ,ρ,s,x,s1,E,R,e1,λ v1 φ1 H1 g1 l1 J r1 R1=>?_⟩
 refine⟨φ1,ρ,s1,y,s2,E.mono g1 l1,R1,e2,λ v2 φ2 H2 g2 Z b2 r2 R2=>?_⟩
 exact⟨φ2,s2,x,y,d,s',R2,RV.mono g2 x v1 J r1,r2,zE Z x J,b2,G,q.trans (g1.trans g2 l1) (am l1 Z)⟩
theorem cc6 {m:kR->kO->kS kP}{f:kP->kO->kS kP}{r:V->Hp->VK->Prop}{σ:St}{H:Hp}{Q:VK}(h:TEv Γ (λ ρ s=>(m ρ s).bind λ x s=>f x s) σ H Q)
  (Z:∀ φ s x d s' v H',Rp Γ φ H' s->RV Γ φ H' x v->x.bnd s.length=true->f x s=.ok d s'->af8 Γ φ s H' d s' Q->r v H' Q):tUn r (TEv Γ m) σ H Q:=by
 obtain⟨φ,ρ,s,d,s',E,R,y,q⟩:=h
 obtain⟨x,s1,e1,y⟩:=aa0 y
 exact⟨φ,ρ,s,x,s1,E,R,e1,λ Y φ1 J g1 l1 G r1 R1=>Z φ1 s1 x d s' Y J R1 r1 G y (q.trans g1 l1)⟩
theorem qd {α:Type}{r:kS kP}{f:Bool->kO->kS α}{a:α}{t:kO}(h:k6 r f=.ok a t):∃ b s,r=.ok (.bl b) s/\f b s=.ok a t:=by
 unfold k6 at h
 obtain⟨d,s,e,h⟩:=aa0 h
 cases d with
 | bl b=>exact⟨b,s,e,h⟩
 | _=>exact fb h
theorem aO0 {m:kR->kO->kS kP}{σ:St}{H:Hp}{Q:Bool->Hp->Prop}(h:TTv Γ m σ H Q):tB (TEv Γ m) σ H Q:=by
 obtain⟨φ,ρ,s,b,s',E,R,G,q⟩:=h
 refine⟨φ,ρ,s,.bl b,s',E,R,G,λ v φ' H' g l J r y=>?_⟩
 exact⟨b,r.blE,q φ' H' g l y⟩
theorem bB8 {m:kR->kO->kS kP}{σ:St}{H:Hp}{Q:Bool->Hp->Prop}(h:TTv Γ m σ H Q):bP6 (TEv Γ m) σ H Q:=aO0 h
theorem bV1 {m:kR->kO->kS kP}{σ:St}{H:Hp}{Q:Bool->Hp->Prop}(h:TTv Γ (λ ρ s=>k6 (m ρ s) λ b s=>.ok (.bl (!b)) s) σ H Q):tNot (TTv Γ m) σ H Q:=by
 obtain⟨φ,ρ,s,b,s',E,R,y,q⟩:=h
 obtain⟨c,s1,e1,y⟩:=qd y
 cases y
 exact⟨φ,ρ,s,c,_,E,R,e1,q⟩
theorem bs6 {G J:kR->kO->kS kP}{σ:St}{H:Hp}{Q:Bool->Hp->Prop}(h:TTv Γ (λ ρ s=>k6 (G ρ s) λ c s=>if c then k6 (J ρ s) λ c s=>.ok (.bl c) s else .ok (.bl false) s) σ H Q):tAnd (TTv Γ G) (TTv Γ J) σ H Q:=by
 obtain⟨φ,ρ,s,b,s',E,R,y,q⟩:=h
 obtain⟨c,s1,e1,y⟩:=qd y
 refine⟨φ,ρ,s,c,s1,E,R,e1,λ φ1 Y g1 l1 R1=>?_⟩
 cases c with
 | true =>
  rw[if_pos rfl]at y ⊢
  obtain⟨Z,s2,e2,y⟩:=qd y
  cases y
  exact⟨φ1,ρ,s1,_,_,E.mono g1 l1,R1,e2,q.trans g1 l1⟩
 | false =>
  rw[if_neg aR]at y ⊢
  cases y
  exact q φ1 Y g1 l1 R1
theorem bX9 {G J:kR->kO->kS kP}{σ:St}{H:Hp}{Q:Bool->Hp->Prop}(h:TTv Γ (λ ρ s=>k6 (G ρ s) λ c s=>if c then .ok (.bl true) s else k6 (J ρ s) λ c s=>.ok (.bl c) s) σ H Q):tOr (TTv Γ G) (TTv Γ J) σ H Q:=by
 obtain⟨φ,ρ,s,b,s',E,R,y,q⟩:=h
 obtain⟨c,s1,e1,y⟩:=qd y
 refine⟨φ,ρ,s,c,s1,E,R,e1,λ φ1 Y g1 l1 R1=>?_⟩
 cases c with
 | true =>
  rw[if_pos rfl]at y ⊢
  cases y
  exact q φ1 Y g1 l1 R1
 | false =>
  rw[if_neg aR]at y ⊢
  obtain⟨Z,s2,e2,y⟩:=qd y
  cases y
  exact⟨φ1,ρ,s1,_,_,E.mono g1 l1,R1,e2,q.trans g1 l1⟩
theorem bX5 {m:kR->kO->kS kP}{σ:St}{H:Hp}{Q:VK}(h:TEv Γ (λ ρ s=>k6 (m ρ s) λ b s=>.ok (.bl (!b)) s) σ H Q):bO6 (TEv Γ m) σ H Q:=by
 obtain⟨φ,ρ,s,d,s',E,R,y,q⟩:=h
 obtain⟨c,s1,e1,y⟩:=qd y
 cases y
 exact⟨φ,ρ,s,.bl c,_,E,R,e1,λ v φ1 G g l b r R1=>⟨c,r.blE,q _ φ1 G g l rfl RV.blI R1⟩⟩
theorem bt8 {G J:kR->kO->kS kP}{σ:St}{H:Hp}{Q:VK}(h:TEv Γ (λ ρ s=>k6 (G ρ s) λ c s=>if c then k6 (J ρ s) λ c s=>.ok (.bl c) s else .ok (.bl false) s) σ H Q):bQ8 (TEv Γ G) (TEv Γ J) σ H Q:=by
 obtain⟨φ,ρ,s,d,s',E,R,y,q⟩:=h
 obtain⟨c,s1,e1,y⟩:=qd y
 refine⟨φ,ρ,s,.bl c,s1,E,R,e1,λ v φ1 Y g1 l1 Z r1 R1=>⟨c,r1.blE,?_⟩⟩
 cases c with
 | true =>
  rw[if_pos rfl]at y ⊢
  obtain⟨c,s2,e2,y⟩:=qd y
  cases y
  exact⟨φ1,ρ,s1,.bl c,_,E.mono g1 l1,R1,e2,q.trans g1 l1⟩
 | false =>
  rw[if_neg aR]at y ⊢
  cases y
  exact q _ φ1 Y g1 l1 rfl RV.blI R1
theorem bK4 {G J:kR->kO->kS kP}{σ:St}{H:Hp}{Q:VK}(h:TEv Γ (λ ρ s=>k6 (G ρ s) λ c s=>if c then .ok (.bl true) s else k6 (J ρ s) λ c s=>.ok (.bl c) s) σ H Q):tOrV (TEv Γ G) (TEv Γ J) σ H Q:=by
 obtain⟨φ,ρ,s,d,s',E,R,y,q⟩:=h
 obtain⟨c,s1,e1,y⟩:=qd y
 refine⟨φ,ρ,s,.bl c,s1,E,R,e1,λ v φ1 Y g1 l1 Z r1 R1=>⟨c,r1.blE,?_⟩⟩
 cases c with
 | true =>
  rw[if_pos rfl]at y ⊢
  cases y
  exact q _ φ1 Y g1 l1 rfl RV.blI R1
 | false =>
  rw[if_neg aR]at y ⊢
  obtain⟨c,s2,e2,y⟩:=qd y
  cases y
  exact⟨φ1,ρ,s1,.bl c,_,E.mono g1 l1,R1,e2,q.trans g1 l1⟩
theorem bX8 {mc G J:kR->kO->kS kP}{σ:St}{H:Hp}{Q:VK}(h:TEv Γ (λ ρ s=>k6 (mc ρ s) λ k s=>if k then G ρ s else J ρ s) σ H Q):tIf (TTv Γ mc) (TEv Γ G) (TEv Γ J) σ H Q:=by
 obtain⟨φ,ρ,s,d,s',E,R,y,q⟩:=h
 obtain⟨c,s1,e1,y⟩:=qd y
 refine⟨φ,ρ,s,c,s1,E,R,e1,λ φ1 Y g1 l1 R1=>?_⟩
 cases c with
 | true =>
  rw[if_pos rfl]at y ⊢
  exact⟨φ1,ρ,s1,d,s',E.mono g1 l1,R1,y,q.trans g1 l1⟩
 | false =>
  rw[if_neg aR]at y ⊢
  exact⟨φ1,ρ,s1,d,s',E.mono g1 l1,R1,y,q.trans g1 l1⟩
theorem aK1 {σ:St}{H:Hp}{Q:List V->Hp->Prop}(h:TAv Γ (λ ρ s=>.ok [] s) σ H Q):bp4 σ H Q:=by
 obtain⟨φ,ρ,s,d,s',E,R,y,q⟩:=h
 cases y
 exact q [] φ H (Gr.refl _ _ _) (ai _) rfl .nil R
theorem bH7 {m:kR->kO->kS kP}{Y:kR->kO->kS (List kP)}{σ:St}{H:Hp}{Q:List V->Hp->Prop}(h:TAv Γ (λ ρ s=>(m ρ s).bind λ d s=>(Y ρ s).bind λ l s=>.ok (d::l) s) σ H Q):aw9 (TEv Γ m) (TAv Γ Y) σ H Q:=by
 obtain⟨φ,ρ,s,l,s',E,R,G,q⟩:=h
 obtain⟨x,s1,e1,G⟩:=aa0 G
 obtain⟨y,s2,e2,G⟩:=aa0 G
 cases G
 refine⟨φ,ρ,s,x,s1,E,R,e1,λ v1 φ1 H1 g1 l1 J r1 R1=>?_⟩
 refine⟨φ1,ρ,s1,y,_,E.mono g1 l1,R1,e2,λ v2 φ2 H2 g2 Z b2 r2 R2=>?_⟩
 refine q (v1::v2) φ2 H2 (g1.trans g2 l1) (am l1 Z) ?_ (.cons (RV.mono g2 x v1 J r1) r2) R2
 unfold kQ
 rw[zE Z x J,b2];rfl
theorem aI5 {G:kR->kO->kS (List kP)}{f:List kP->kO->kS kP}{σ:St}{H:Hp}{Q:VK}(h:TEv Γ (λ ρ s=>(G ρ s).bind λ l s=>f l s) σ H Q):tCB (rCl Γ f) (TAv Γ G) σ H Q:=by
 obtain⟨φ,ρ,s,d,s',E,R,y,q⟩:=h
 obtain⟨l,s1,e1,y⟩:=aa0 y
 exact⟨φ,ρ,s,l,s1,E,R,e1,λ vs φ1 Y g1 l1 J r1 R1=>⟨φ1,s1,l,d,s',R1,r1,J,y,q.trans g1 l1⟩⟩
theorem cb2 {m:kR->kO->kS kP}{ml mh:kR->kO->kS kP}{σ:St}{H:Hp}{Q:VK} :
  (TEv Γ (λ ρ s=>(m ρ s).bind λ x s=>(ml ρ s).bind λ y s=>match y with|.int i=>lT x (some i) none s|_=>.bad) σ H Q->tSl (rSl Γ) (TEv Γ m) (aZ4 (TEv Γ ml)) aG3 σ H Q) /\
  (TEv Γ (λ ρ s=>(m ρ s).bind λ x s=>(mh ρ s).bind λ y s=>match y with|.int i=>lT x none (some i) s|_=>.bad) σ H Q->tSl (rSl Γ) (TEv Γ m) aG3 (aZ4 (TEv Γ mh)) σ H Q) /\
  (TEv Γ (λ ρ s=>(m ρ s).bind λ x s=>(ml ρ s).bind λ y s=>match y with|.int i=>(mh ρ s).bind (λ z s=>match z with|.int j=>lT x (some i) (some j) s|_=>.bad)|_=>.bad) σ H Q->tSl (rSl Γ) (TEv Γ m) (aZ4 (TEv Γ ml)) (aZ4 (TEv Γ mh)) σ H Q):=by
 refine⟨λ h=>?_,λ h=>?_,λ h=>?_⟩
 ·obtain⟨φ,ρ,s,d,s',E,R,G,q⟩:=h
  obtain⟨x,s1,e1,G⟩:=aa0 G
  obtain⟨y,s2,e2,G⟩:=aa0 G
  refine⟨φ,ρ,s,x,s1,E,R,e1,λ v1 φ1 H1 g1 l1 Z r1 R1=>?_⟩
  refine⟨φ1,ρ,s1,y,s2,E.mono g1 l1,R1,e2,λ v2 φ2 H2 Y J b2 r2 R2=>?_⟩
  cases y with
  | int i=>exact⟨i,r2.intE,φ2,s2,x,d,s',R2,RV.mono Y x v1 Z r1,zE J x Z,G,q.trans (g1.trans Y l1) (am l1 J)⟩
  | _=>exact fb G
 ·obtain⟨φ,ρ,s,d,s',E,R,G,q⟩:=h
  obtain⟨x,s1,e1,G⟩:=aa0 G
  obtain⟨y,s2,e2,G⟩:=aa0 G
  refine⟨φ,ρ,s,x,s1,E,R,e1,λ v1 φ1 H1 g1 l1 Z r1 R1=>?_⟩
  refine⟨φ1,ρ,s1,y,s2,E.mono g1 l1,R1,e2,λ v2 φ2 H2 Y J b2 r2 R2=>?_⟩
  cases y with
  | int i=>exact⟨i,r2.intE,φ2,s2,x,d,s',R2,RV.mono Y x v1 Z r1,zE J x Z,G,q.trans (g1.trans Y l1) (am l1 J)⟩
  | _=>exact fb G
 ·obtain⟨φ,ρ,s,d,s',E,R,G,q⟩:=h
  obtain⟨x,s1,e1,G⟩:=aa0 G
  obtain⟨y,s2,e2,G⟩:=aa0 G
  refine⟨φ,ρ,s,x,s1,E,R,e1,λ v1 φ1 H1 g1 l1 Z r1 R1=>?_⟩
  refine⟨φ1,ρ,s1,y,s2,E.mono g1 l1,R1,e2,λ v2 φ2 H2 Y J b2 r2 R2=>?_⟩
  cases y with
  | int i =>
   obtain⟨z,s3,e3,G⟩:=aa0 G
   refine⟨i,r2.intE,φ2,ρ,s2,z,s3,E.mono (g1.trans Y l1) (am l1 J),R2,e3,λ v3 φ3 H3 g3 l3 b3 r3 R3=>?_⟩
   cases z with
   | int j=>exact⟨j,r3.intE,φ3,s3,x,d,s',R3,RV.mono (Y.trans g3 J) x v1 Z r1,zE (am J l3) x Z,G,q.trans ((g1.trans Y l1).trans g3 (am l1 J)) (am (am l1 J) l3)⟩
   | _=>exact fb G
  | _=>exact fb G
variable {Γ:Gm} {X:Cx}
def as7 (Γ:Gm)(J:It)(φ0:Nat->Addr)(H0:Hp)(s0:kO)(q:lN):Prop :=
 ∀ φ H s,Gr φ0 s0 H0 φ s H->s0.length<=s.length->Rp Γ φ H s->lx s0 s q.src=true->∀ i:Nat,
  (i<q.its.length->J.go i H/\∀ x H',J.yld i H x H'->ag9 H H'/\∀ d,q.its[i]?=some d->RV Γ φ H' d x)/\(q.its.length<=i->J.stop i H)
def TIv (Γ:Gm)(m:kR->kO->kS lN):TI:=λ σ H R=>∃ φ ρ s q s',RE Γ φ H s.length ρ σ/\Rp Γ φ H s/\m ρ s=.ok q s' /\
 ∀ J φ' H',Gr φ s H φ' s' H'->s.length<=s'.length->kQ s'.length q.its=true->Rp Γ φ' H' s'->as7 Γ J φ' H' s' q->R J H'
theorem PI.imp {tg e:Expr}{t t':TI}(h:PI X tg e t)(i:∀ σ H R,t' σ H R->t σ H R):PI X tg e t':=λ y s σ H R I q=>h y s σ H R I (i σ H R q)
theorem PI.or {tg e:Expr}{t t':TI}(h:PI X tg e t)(h':PI X tg e t'):PI X tg e (λ σ H R=>t σ H R\/t' σ H R):=λ y s σ H R I q=>q.elim (h y s σ H R I) (h' y s σ H R I)
theorem bl5 {φ0:Nat->Addr}{H0:Hp}{s0:kO}{a:Addr}{J:List V}{l:List kP}(h:SqT Γ.K H0 a J)(hl:RVL Γ φ0 H0 l J)(hb:kQ s0.length l=true):as7 Γ (Itt Γ.K a) φ0 H0 s0 ⟨l,[]⟩:=by
 intro φ H s g _ R _ i
 have h':=g.w.kp.sqT h
 have G:=RVL.mono g l J hb hl
 refine⟨λ hlt=>⟨⟨J,J[i]'(by rw[G.length];exact hlt),h',ag _⟩,λ x H' y=>?_⟩,λ Y=>⟨J,h',by rw[G.length];exact Y⟩⟩
 obtain⟨e,y⟩:=y
 subst e
 refine⟨ag9.refl _,λ d hd=>?_⟩
 obtain⟨v,e1,e2⟩:=G.get hd
 rw[y J h']at e1;cases e1
 exact e2
theorem bv7 {φ0:Nat->Addr}{H0:Hp}{s0:kO}{a:Addr}{J:List V}{l:List kP}(h:SqF Γ.K H0 a J)(hl:RVL Γ φ0 H0 l J)(hb:kQ s0.length l=true):as7 Γ (Itl Γ.K a) φ0 H0 s0 ⟨l,[]⟩:=by
 intro φ H s g _ R _ i
 have h':=h.2 _ g.w.kp
 have G:=RVL.mono g l J hb hl
 refine⟨λ hlt=>⟨⟨J,J[i]'(by rw[G.length];exact hlt),h',ag _⟩,λ x H' y=>?_⟩,λ Y=>⟨J,h',by rw[G.length];exact Y⟩⟩
 obtain⟨e,y⟩:=y
 subst e
 refine⟨ag9.refl _,λ d hd=>?_⟩
 obtain⟨v,e1,e2⟩:=G.get hd
 rw[y J h']at e1;cases e1
 exact e2
theorem bl9 {φ0:Nat->Addr}{H0:Hp}{s0:kO}{r:Nat}{l:List kP}(hr:s0[r]?=some (.lst l)):as7 Γ (Itl Γ.K (φ0 r)) φ0 H0 s0 ⟨l,[r]⟩:=by
 intro φ H s g _ R Y i
 have J:r<s0.length:=(ab.mp hr).1
 have hs:s[r]?=some (.lst l):=by
  unfold lx at Y
  simp only[cK,eV,cL,decide_eq_true_eq]at Y
  rw[Y];exact hr
 obtain⟨G,e,h⟩:=R.addr hs
 rw[g.w.map r J]at e
 have h':SqL Γ.K H (φ0 r) G:=SqL.of e
 refine⟨λ hlt=>⟨⟨G,G[i]'(by rw[h.length];exact hlt),h',ag _⟩,λ x H' y=>?_⟩,λ Z=>⟨G,h',by rw[h.length];exact Z⟩⟩
 obtain⟨e,y⟩:=y
 subst e
 refine⟨ag9.refl _,λ d hd=>?_⟩
 obtain⟨v,e1,e2⟩:=h.get hd
 rw[y G h']at e1;cases e1
 exact e2
theorem bm7 {φ0:Nat->Addr}{H0:Hp}{s0:kO}{l:List Nat}:as7 Γ (Its ⟨l.toArray⟩) φ0 H0 s0 ⟨l.map λ c=>.str [c],[]⟩:=by
 intro φ H s g _ R _ i
 have hsz:(⟨l.toArray⟩:Str).cps.size=l.length:=by simp
 refine⟨λ hlt=>?_,λ h=>?_⟩
 ·simp only[ax]at hlt
  refine⟨show i<(⟨l.toArray⟩:Str).cps.size by rw[hsz];exact hlt,λ x H' y=>?_⟩
  obtain⟨e,c,hc,rfl⟩:=y
  subst e
  refine⟨ag9.refl _,λ d hd=>?_⟩
  have G:l[i]?=some c:=by simpa using hc
  rw[ao,G]at hd
  cases hd
  exact RV.strI (by simp;decide)
 ·simp only[ax]at h
  show(⟨l.toArray⟩:Str).cps.size<=i
  rw[hsz];exact h
theorem bj4 {φ0:Nat->Addr}{H0:Hp}{s0:kO}{a b:Int}:as7 Γ (Itr a (b - a).toNat) φ0 H0 s0 ⟨lW a b,[]⟩:=by
 intro φ H s g _ R _ i
 have hn:(lW a b).length=(b - a).toNat:=by simp[lW]
 refine⟨λ hlt=>⟨show i<(b - a).toNat by rw[<-hn];exact hlt,λ x H' y=>?_⟩,λ h=>show(b - a).toNat<=i by rw[<-hn];exact h⟩
 obtain⟨e,rfl⟩:=y
 subst e
 refine⟨ag9.refl _,λ d hd=>?_⟩
 simp only[lW]at hd hlt
 rw[ao,aV (by simpa using hlt)]at hd
 cases hd
 exact RV.intI
theorem bz7 {m:kR->kO->kS kP}{σ:St}{H:Hp}{R:It->Hp->Prop}(h:TIv Γ (λ ρ s=>(m ρ s).bind λ x s=>match x with|.int i=>if -mD<=i/\i<mD then .ok ⟨lW 0 i,[]⟩ s else .bad|_=>.bad) σ H R) :
  bL1 (aw9 (TEv Γ m) bp4) σ H R:=by
 obtain⟨φ,ρ,s,q,s',E,P,y,k⟩:=h
 obtain⟨x,s1,e1,y⟩:=aa0 y
 refine⟨φ,ρ,s,x,s1,E,P,e1,λ v φ1 J g l b r Y=>?_⟩
 cases x with
 | int i =>
  simp only at y
  split at y
  ·rename_i G
   cases y
   have hw:mD=2^62:=by decide
   rw[hw]at G
   refine⟨i,by rw[r.intE],G.1,G.2,k _ φ1 J g l ?_ Y ?_⟩
   ·refine ab6.mpr λ d hd=>?_
    simp only[lW,aB]at hd
    obtain⟨_,_,rfl⟩:=hd
    rfl
   ·have:=bj4 (Γ:=Γ) (φ0:=φ1) (H0:=J) (s0:=s') (a:=0) (b:=i)
    rwa [kA]at this
  ·exact fb y
 | _=>exact fb y
theorem bN8 {m:kR->kO->kS kP}{σ:St}{H:Hp}{R:It->Hp->Prop}(h:TIv Γ (λ ρ s=>(m ρ s).bind λ d s=>DV.an9 d s) σ H R) :
  cb9 Γ.K (TEv Γ m) σ H R\/bB1 Γ.K (TEv Γ m) σ H R\/iStr (TEv Γ m) σ H R:=by
 obtain⟨φ,ρ,s,q,s',E,P,y,k⟩:=h
 obtain⟨x,s1,e1,y⟩:=aa0 y
 unfold DV.an9 at y
 cases x with
 | tup l =>
  cases y
  refine .inl ⟨φ,ρ,s,_,_,E,P,e1,λ v φ1 J g l b r G=>?_⟩
  obtain⟨a,Z,rfl,h1,d1⟩:=r.tupE
  unfold kT at b
  exact⟨a,rfl,⟨Z,h1⟩,k _ φ1 J g l b G (bl5 h1 d1 b)⟩
 | str l =>
  cases y
  refine .inr (.inr ⟨φ,ρ,s,_,_,E,P,e1,λ v φ1 J g Y b r G=>?_⟩)
  refine⟨_,r.strE,k _ φ1 J g Y ?_ G bm7⟩
  refine ab6.mpr λ d hd=>?_
  simp only[aB]at hd
  obtain⟨_,_,rfl⟩:=hd
  rfl
 | ref r =>
  simp only at y
  cases hs:s1[r]? with
  | none=>rw[hs]at y;cases y
  | some o =>
   rw[hs]at y
   cases o with
   | lst l =>
    cases y
    refine .inr (.inl ⟨φ,ρ,s,_,_,E,P,e1,λ v φ1 J g Y b rr G=>?_⟩)
    have e:=rr.refE;subst e
    obtain⟨Z,e2,d1⟩:=G.addr hs
    have wf:=G.wf _ _ hs
    unfold kW at wf
    exact⟨φ1 r,rfl,⟨Z,SqL.of e2⟩,k _ φ1 J g Y wf G (bl9 hs)⟩
   | ro l =>
    cases y
    refine .inr (.inl ⟨φ,ρ,s,_,_,E,P,e1,λ v φ1 J g Y b rr G=>?_⟩)
    have e:=rr.refE;subst e
    obtain⟨Z,e2,d1⟩:=G.obj _ _ hs
    have wf:=G.wf _ _ hs
    unfold kW at wf
    exact⟨φ1 r,rfl,⟨Z,e2.1⟩,k _ φ1 J g Y wf G (bv7 e2 d1 wf)⟩
   | dic l=>exact fb y
   | ins c l=>exact fb y
 | _=>exact fb y
variable {Γ:Gm} {X:Cx}
noncomputable def bY9:List Nat->TGs
 | []=>gNil
 | i::is=>bV4 (az7 i) (bY9 is)
noncomputable def gOf (K:ae):lu->TG
 | .one i=>az7 i
 | .tup is=>cb0 K is.length (bY9 is)
theorem bs4 {φ:Nat->Addr}{H:Hp}{n:Nat}{ρ ρ':kR}{σ:St}{i:Nat}{d:kP}{v:V}(E:RE Γ φ H n ρ σ)(r:RV Γ φ H d v)(b:d.bnd n=true)(h:lJ ρ i d=some ρ'):RE Γ φ H n ρ' (σ.set i (some v)):=by
 unfold lJ at h
 split at h
 ·rename_i y
  cases h
  refine⟨by rw[bw,bw];exact E.len,λ j e hj=>?_⟩
  by_cases hij:j=i
  ·subst hij
   rw[aS y]at hj
   cases hj
   exact⟨b,v,by rw[aS (by rw[<-E.len];exact y)],r⟩
  ·rw[aY (bU hij)]at hj
   obtain⟨J,w,G,h3⟩:=E.val j e hj
   exact⟨J,w,by rw[aY (bU hij)];exact G,h3⟩
 ·cases h
theorem bS5 {φ:Nat->Addr}{H:Hp}{n:Nat}{Q:St->Hp->Prop}:∀(is:List Nat) (l:List kP) (y:List V) (ρ ρ':kR) (σ:St),RE Γ φ H n ρ σ->RVL Γ φ H l y->kQ n l=true->lU ρ is l=some ρ'->(∀ σ',RE Γ φ H n ρ' σ'->Q σ' H)->bY9 is y σ H Q
 | [],[],y,ρ,ρ',σ,E,r,_,h,k=>by
  cases h
  exact⟨r.unnil,k σ E⟩
 | [],d::l,_,_,_,_,_,_,_,h,_=>by cases h
 | i::is,[],_,_,_,_,_,_,_,h,_=>by cases h
 | i::is,d::l,y,ρ,ρ',σ,E,r,b,h,k=>by
  have h:(lJ ρ i d).bind (λ ρ=>lU ρ is l)=some ρ':=h
  obtain⟨x,G,rfl,Y,J⟩:=r.uncons
  unfold kQ at b
  rw[au]at b
  cases e:lJ ρ i d with
  | none=>rw[e]at h;cases h
  | some ρ1 =>
   rw[e]at h
   exact⟨x,G,rfl,bS5 is l G ρ1 ρ' _ (bs4 E Y b.1 e) J b.2 h k⟩
theorem bb1 {l:List kP}:∀ {is:List Nat} {ρ ρ':kR},lU ρ is l=some ρ'->is.length=l.length:=by
 induction l with
 | nil=>intro is ρ ρ' h;cases is with
  | nil=>rfl
  | cons i is=>cases h
 | cons d l ih=>intro is ρ ρ' h;cases is with
  | nil=>cases h
  | cons i is =>
   have h:(lJ ρ i d).bind (λ ρ=>lU ρ is l)=some ρ':=h
   cases e:lJ ρ i d with
   | none=>rw[e]at h;cases h
   | some ρ1=>rw[e]at h;rw[aU,aU,ih h]
theorem bF7 {φ:Nat->Addr}{H:Hp}{n:Nat}{Q:St->Hp->Prop}{tg:lu}{d:kP}{v:V}{ρ ρ':kR}{σ:St}(E:RE Γ φ H n ρ σ)(r:RV Γ φ H d v)(b:d.bnd n=true)(h:lf ρ tg d=some ρ')(k:∀ σ',RE Γ φ H n ρ' σ'->Q σ' H):gOf Γ.K tg v σ H Q:=by
 cases tg with
 | one i=>exact k _ (bs4 E r b h)
 | tup is =>
  cases d with
  | tup l =>
   have h:lU ρ is l=some ρ':=h
   obtain⟨a,y,rfl,G,d1⟩:=r.tupE
   unfold kT at b
   exact⟨a,y,rfl,G,by rw[d1.length,bb1 h],bS5 is l y ρ ρ' σ E d1 b h k⟩
  | _=>cases h
def Off (φ:Nat->Addr)(s:kO)(b:Addr):Prop:=∀(i:Nat) (ob:li),s[i]?=some ob->isMut ob=true->φ i≠b
theorem Off.mono {φ φ':Nat->Addr}{s s':kO}{H H':Hp}{b:Addr}{o:HO}(h:Off φ s b)(g:Gr φ s H φ' s' H')(hb:H b=some o):Off φ' s' b:=λ i ob e m z=>by
 by_cases G:i<s.length
 ·obtain⟨y,J⟩:∃ y,s[i]?=some y:=⟨s[i],ag G⟩
  exact h i y J (g.mu i y ob J e m) (by rw[<-g.w.map i G];exact z)
 ·have:=g.new i (by omega) (ab.mp e).1
  rw[z,hb]at this;cases this
theorem Off.new {φ:Nat->Addr}{s:kO}{H:Hp}{b:Addr}(r:Rp Γ φ H s)(h:H b=none):Off φ s b:=λ i ob e m z=>by
 obtain⟨u,y,_⟩:=(r.obj i ob e).there m
 rw[z,h]at y;cases y
theorem Rp.foreign {φ:Nat->Addr}{s:kO}{H:Hp}{b:Addr}{ys h:List V}(r:Rp Γ φ H s)(hb:H b=some (.lst ys))(ho:Off φ s b):Rp Γ φ (upd H b (.lst h)) s:=by
 have g:Gw φ s.length H φ (upd H b (.lst h)):=⟨λ _ _=>rfl,(Kp.refl H).put hb rfl⟩
 exact⟨r.inj,λ i o e=>(r.obj i o e).mono g (r.wf i o e) λ m u y=>by rw[zm (ho i o e m)];exact y,r.wf,r.tab.put hb⟩
theorem Gr.foreign {φ φ':Nat->Addr}{s s':kO}{H H':Hp}{b:Addr}{ys y:List V}(g:Gr φ s H φ' s' H')(h0:H b=none)(hb:H' b=some (.lst ys)):Gr φ s H φ' s' (upd H' b (.lst y)):=by
 have ne:∀ c o,H c=some o->c≠b:=λ c o e=>zJ e h0
 refine⟨⟨g.w.map,λ c o e f=>?_⟩,g.le,g.new,g.kd,λ c hc=>?_,λ c o e h G=>?_⟩
 ·rw[zm (ne c o e)];exact g.w.kp c o e f
 ·unfold upd;split
  ·simp
  ·exact g.st c hc
 ·rw[zm (ne c o e)];exact g.fr c o e h G
def bN3 (Γ:Gm)(φ:Nat->Addr)(s:kO)(H:Hp)(l:List kP)(s':kO)(Q:VK):Prop :=
 ∀ p ys φ' H',Gr φ s H φ' s' H'->s.length<=s'.length->kQ s'.length l=true->H' p=some (.lst ys)->H p=none->Off φ' s' p->RVL Γ φ' H' l ys->Rp Γ φ' H' s'->Q (.ref p) H'
def TFv (Γ:Gm)(m:kR->kO->kS (List kP)):TE:=λ σ H Q=>∃ φ ρ s l s',RE Γ φ H s.length ρ σ/\Rp Γ φ H s/\m ρ s=.ok l s'/\bN3 Γ φ s H l s' Q
theorem aW9 {m:kR->kO->kS (List kP)}{σ:St}{H:Hp}{Q:VK}(h:TEv Γ (λ ρ s=>(m ρ s).bind λ l s=>lz (.lst l) s) σ H Q):TFv Γ m σ H Q:=by
 obtain⟨φ,ρ,s,d,s',E,R,hm,q⟩:=h
 obtain⟨l,s1,e1,hm⟩:=aa0 hm
 obtain⟨rfl,rfl⟩:=qI hm
 refine⟨φ,ρ,s,l,s1,E,R,e1,λ p ys φ' H' g hl hb hp h0 ho r Y=>?_⟩
 have gw:Gw φ' s1.length H' (λ i=>if i=s1.length then p else φ' i) H':=⟨λ i y=>if_neg (aA y),Kp.refl _⟩
 have key:∀(i:Nat) (J:li),(s1++[DV.O.lst l])[i]?=some J->(i<s1.length/\s1[i]?=some J)\/(i=s1.length/\J=.lst l):=λ i J e=>by
  rcases fB i s1.length with h|h|h
  ·rw[aw h]at e;exact .inl ⟨h,e⟩
  ·subst h;simp at e;exact .inr ⟨rfl,e.symm⟩
  ·rw[aZ (by simp;omega)]at e;cases e
 have G:Gr φ s H (λ i=>if i=s1.length then p else φ' i) (s1++[.lst l]) H':=by
  refine⟨⟨λ i y=>by show(if i=s1.length then p else φ' i)=_;rw[if_neg (by omega)];exact g.w.map i y,g.w.kp⟩,by simp;omega,λ i h1 h2=>?_,λ i o J e e'=>?_,g.st,g.fr⟩
  ·by_cases y:i=s1.length
   ·show H (if i=s1.length then p else φ' i)=none
    rw[if_pos y];exact h0
   ·show H (if i=s1.length then p else φ' i)=none
    rw[if_neg y];exact g.new i h1 (by simp at h2;omega)
  ·rcases key i J e' with⟨_,e2⟩|⟨y,_⟩
   ·exact g.kd i o J e e2
   ·have:=(ab.mp e).1;omega
 have P:Rp Γ (λ i=>if i=s1.length then p else φ' i) H' (s1++[.lst l]):=by
  refine⟨λ i j oi oj Z ej mi mj e=>?_,λ i o e=>?_,λ i o e=>?_,Y.tab⟩
  ·rcases key i oi Z with⟨y,Z⟩|⟨y,_⟩<;>rcases key j oj ej with⟨hj,ej⟩|⟨hj,_⟩
   ·rw[if_neg (aA y),if_neg (aA hj)]at e
    exact Y.inj i j oi oj Z ej mi mj e
   ·rw[if_neg (aA y),if_pos hj]at e
    exact absurd e (ho i oi Z mi)
   ·rw[if_neg (aA hj),if_pos y]at e
    exact absurd e.symm (ho j oj ej mj)
   ·rw[y,hj]
  ·rcases key i o e with⟨y,e⟩|⟨y,rfl⟩
   ·show RO Γ _ _ (if i=s1.length then p else φ' i) o
    rw[if_neg (aA y)]
    exact(Y.obj i o e).mono gw (Y.wf i o e) λ _ u hu=>hu
   ·show RO Γ _ _ (if i=s1.length then p else φ' i) _
    rw[if_pos y]
    exact⟨ys,hp,RVL.monoW gw l ys hb r⟩
  ·rw[aQ,dh]
   rcases key i o e with⟨_,e⟩|⟨_,rfl⟩
   ·exact qG (du _) _ (Y.wf i o e)
   ·exact qG (du _) _ (by unfold kW;exact hb)
 exact q (.ref p) _ H' G (by simp;omega) (by unfold kT;simp) (by unfold RV;simp) P
theorem bQ6 {φ:Nat->Addr}{H:Hp}{n:Nat}{ρ:kR}{σ:St}(E:RE Γ φ H n ρ σ)(h:List (Option Nat)):RE Γ φ H n (lO ρ h) (aD4 h σ):=by
 refine⟨by unfold lO aD4;simp,λ i d e=>?_⟩
 unfold lO at e
 rw[ao]at e
 cases q:h[i]? with
 | none=>rw[q]at e;cases e
 | some o =>
  rw[q]at e
  cases o with
  | none=>cases e
  | some j =>
   have e':(ρ[j]?).join=some d:=av e
   have ej:ρ[j]?=some (some d):=by
    cases q2:ρ[j]? with
    | none=>rw[q2]at e';cases e'
    | some o2=>rw[q2]at e';exact congrArg some e'
   obtain⟨b,v,G,y⟩:=E.val j d ej
   refine⟨b,v,?_,y⟩
   unfold aD4
   rw[ao,q]
   show some ((σ[j]?).join)=_
   rw[G];rfl
theorem bf2 {mI:kR->kO->kS lN}{mc me:kR->kO->kS kP}{tg:lu}{Y:List (Option Nat)}{σ:St}{H:Hp}{Q:VK}
  (h:TFv Γ (λ ρ s=>(mI ρ s).bind λ q s0=>if q.its.length<=kY then lX (λ s=>lx s0 s q.src) (λ d ρ s=>match lf ρ tg d with
   | some ρ=>k6 (mc ρ s) λ k s=>if k then(me ρ s).bind λ v s=>.ok (some v,ρ) s else .ok (none,ρ) s
   | none=>.bad) q.its (lO ρ Y) s0 else .bad) σ H Q):tComp Y (TIv Γ mI) (gOf Γ.K tg) (TTv Γ mc) (TEv Γ me) σ H Q:=by
 obtain⟨φ,ρ,s,l,s',E,R,hm,k⟩:=h
 obtain⟨q,s0,e1,hm⟩:=aa0 hm
 split at hm
 case isFalse=>exact fb hm
 rename_i b6
 refine⟨φ,ρ,s,q,s0,E,R,e1,λ J φ1 H1 g1 l1 b1 R1 wk D hD=>?_⟩
 have h0:H D=none:=by
  cases e:H D with
  | none=>rfl
  | some o=>exact absurd hD (g1.st D (by rw[e];simp))
 refine⟨λ i m σ' H'=>∃ φ' ρ' t y ys rest,Gr φ1 s0 H1 φ' t H'/\Rp Γ φ' H' t/\RE Γ φ' H' t.length ρ' σ'/\H' D=some (.lst ys)/\Off φ' t D/\RVL Γ φ' H' y ys/\kQ t.length y=true/\y.length<=i/\i<=q.its.length/\m=q.its.length - i /\
  lX (λ s=>lx s0 s q.src) (λ d ρ s=>match lf ρ tg d with
   | some ρ=>k6 (mc ρ s) λ k s=>if k then(me ρ s).bind λ v s=>.ok (some v,ρ) s else .ok (none,ρ) s
   | none=>.bad) (q.its.drop i) ρ' t=.ok rest s'/\l=y++rest,⟨q.its.length,?_⟩,?_⟩
 ·obtain⟨g2,R2⟩:=R1.same (H':=upd H1 D (.lst [])) ((ag9.refl H1).new hD)
  exact⟨φ1,lO ρ Y,s0,[],[],l,g2,R2,bQ6 ((E.mono g1 l1).mono g2 (ai _)) Y,zo,Off.new R1 hD,.nil,rfl,ai _,cS _,by simp,by rw[gS];exact hm,rfl⟩
 ·rintro i m σ' H' ⟨φ',ρ',t,y,ys,rest,g,R',E',hy,a3,ra,ba,c0,hil,rfl,hc,hl⟩
  have G:=g.le
  rcases kB i q.its.length with hlt|hge
  ·have hd:q.its[i]?=some q.its[i]:=ag hlt
   rw[fi hlt]at hc
   unfold lX at hc
   split at hc
   case isFalse=>exact fb hc
   rename_i a4
   obtain⟨b3,b4⟩:=(wk φ' H' t g G R' a4 i).1 hlt
   refine .inr ⟨b3,_,λ σ2 H2 n=>⟨q.its.length - (i+1),by omega,n⟩,λ x H2 b2=>?_⟩
   obtain⟨sm,rv⟩:=b4 x H2 b2
   obtain⟨g2,R2⟩:=R'.same sm
   have rd:=rv _ hd
   have bd:(q.its[i]).bnd t.length=true:=zE G _ (al6 b1 hd)
   obtain⟨p,t3,hs,hc⟩:=aa0 hc
   obtain⟨r2,t4,a5,hc⟩:=aa0 hc
   cases hb:lf ρ' tg q.its[i]with
   | none=>rw[hb]at hs;cases hs
   | some ρ3 =>
    rw[hb]at hs
    refine bF7 (E'.mono g2 (ai _)) rd bd hb λ σ3 E3=>?_
    obtain⟨c,t1,ec,hs⟩:=qd hs
    refine⟨φ',ρ3,t,c,t1,E3,R2,ec,λ φ2 H4 g4 l4 R4=>?_⟩
    have a6:H2 D=some (.lst ys):=sm _ _ hy
    have a2:H4 D=some (.lst ys):=g4.fr D _ a6 (by nofun) a3
    have Z:Off φ2 t1 D:=a3.mono g4 a6
    have G4:=(g.trans g2 G).trans g4 G
    cases c with
    | true =>
     rw[if_pos rfl]at hs
     refine iteT ?_
     obtain⟨v,t2,ev,hs⟩:=aa0 hs
     cases hs
     refine⟨φ2,ρ3,t1,v,t3,E3.mono g4 l4,R4,ev,λ w φ3 H5 g5 l5 b5 r5 R5=>?_⟩
     have a0:H5 D=some (.lst ys):=g5.fr D _ a2 (by nofun) Z
     have a1:Off φ3 t3 D:=Z.mono g5 a2
     refine⟨ys,a0,?_,?_⟩
     ·rw[ra.length]
      have:=qV
      omega
     ·have gw:Gw φ3 t3.length H5 φ3 (upd H5 D (.lst (ys++[w]))):=⟨λ _ _=>rfl,(Kp.refl H5).put a0 rfl⟩
      have G5:=G4.trans g5 (am G l4)
      have GG:=g2.trans (g4.trans g5 l4) (ai _)
      have b0:RVL Γ φ3 H5 y ys:=RVL.mono GG _ _ ba ra
      have bb:kQ t3.length (y++[v])=true:=qo (ab2 GG.le _ ba) (by unfold kQ;rw[b5];rfl)
      refine⟨φ3,ρ3,t3,y++[v],ys++[w],r2,G5.foreign hD a0,R5.foreign a0 a1,?_,zo,a1,RVL.monoW gw _ _ bb (b0.append (.cons r5 .nil)),bb,by simp;omega,hlt,rfl,?_,?_⟩
      ·have E5:=(E3.mono g4 l4).mono g5 l5
       exact⟨E5.len,λ j e hj=>by
        obtain⟨h1,z,h2,h3⟩:=E5.val j e hj
        exact⟨h1,z,h2,RV.monoW gw _ _ h1 h3⟩⟩
      ·cases hc;exact a5
      ·cases hc;rw[hl];simp
    | false =>
     rw[if_neg aR]at hs
     refine iteF ?_
     cases hs
     have GG:=g2.trans g4 (ai _)
     exact⟨φ2,ρ3,t3,y,ys,r2,G4,R4,E3.mono g4 l4,a2,Z,RVL.mono GG _ _ ba ra,ab2 l4 _ ba,by omega,hlt,rfl,by cases hc;exact a5,by cases hc;exact hl⟩
  ·have hi:i=q.its.length:=by omega
   rw[gu hge]at hc
   unfold lX at hc
   split at hc
   case isFalse=>exact fb hc
   rename_i a4
   cases hc
   refine .inl ⟨(wk φ' H' s' g G R' a4 i).2 hge,?_⟩
   rw[bD]at hl
   subst hl
   exact k D ys φ' H' (g1.trans g l1) (am l1 G) ba hy h0 a3 ra R'
variable {Γ:Gm} {X:Cx}
noncomputable def EndC (Γ:Gm)(φ:Nat->Addr)(H:Hp)(n:Nat)(D:Ends):lv->Prop
 | .next ρ=>∀ σ,RE Γ φ H n ρ σ->D.nx σ H
 | .ret d=>∀ v,d.bnd n=true->RV Γ φ H d v->D.rt v H
 | .cont ρ=>∀ σ,RE Γ φ H n ρ σ->D.ct σ H
 | .brk ρ=>∀ σ,RE Γ φ H n ρ σ->D.bk σ H
def ao9 (Γ:Gm)(φ:Nat->Addr)(s:kO)(H:Hp)(c:lv)(s':kO)(D:Ends):Prop :=
 ∀ φ' H',Gr φ s H φ' s' H'->s.length<=s'.length->Rp Γ φ' H' s'->EndC Γ φ' H' s'.length D c
def TSv (Γ:Gm)(m:kR->kO->kS lv):TS:=λ D σ H=>∃ φ ρ s c s',RE Γ φ H s.length ρ σ/\Rp Γ φ H s/\m ρ s=.ok c s'/\ao9 Γ φ s H c s' D
theorem PS.imp {e:Stmt}{t t':TS}(h:PS X e t)(i:∀ D σ H,t' D σ H->t D σ H):PS X e t':=λ y s σ H Q I q=>h y s σ H Q I (i Q σ H q)
theorem PSs.imp {e:List Stmt}{t t':TS}(h:PSs X e t)(i:∀ D σ H,t' D σ H->t D σ H):PSs X e t':=λ y s σ H Q I q=>h y s σ H Q I (i Q σ H q)
theorem ao9.trans {φ φ1:Nat->Addr}{s s1 s':kO}{H y:Hp}{c:lv}{D:Ends}(h:ao9 Γ φ s H c s' D)(g:Gr φ s H φ1 s1 y)(l:s.length<=s1.length):ao9 Γ φ1 s1 y c s' D :=
 λ φ' H' g' G p=>h φ' H' (g.trans g' l) (am l G) p
theorem ao9.here {φ:Nat->Addr}{s:kO}{H:Hp}{c:lv}{D:Ends}(h:ao9 Γ φ s H c s D)(p:Rp Γ φ H s):EndC Γ φ H s.length D c:=h φ H (Gr.refl φ s H) (ai _) p
variable {D:Ends} {σ:St} {H:Hp}
theorem by5 {m:kR->kO->kS lv}(y:∀ ρ s,m ρ s=.ok (.next ρ) s)(h:TSv Γ m D σ H):bM6 D σ H:=by
 obtain⟨φ,ρ,s,c,s',E,R,e,q⟩:=h
 rw[y]at e;cases e
 exact q.here R σ E
theorem bY0 {m:kR->kO->kS kP}(h:TSv Γ (λ ρ s=>(m ρ s).bind λ d s=>.ok (.ret d) s) D σ H):tRet (TEv Γ m) D σ H:=by
 obtain⟨φ,ρ,s,c,s',E,R,e,q⟩:=h
 obtain⟨x,s1,e1,e⟩:=aa0 e
 cases e
 exact⟨φ,ρ,s,x,_,E,R,e1,λ v φ1 G g1 l1 y r1 R1=>q φ1 G g1 l1 R1 v y r1⟩
theorem bI8 {m:kR->kO->kS kP}(h:TSv Γ (λ ρ s=>(m ρ s).bind λ _ s=>.ok (.next ρ) s) D σ H):bK8 (TEv Γ m) D σ H:=by
 obtain⟨φ,ρ,s,c,s',E,R,e,q⟩:=h
 obtain⟨x,s1,e1,e⟩:=aa0 e
 cases e
 exact⟨φ,ρ,s,x,_,E,R,e1,λ v φ1 y g1 l1 G r1 R1=>q φ1 y g1 l1 R1 σ (E.mono g1 l1)⟩
theorem aU1 {m:kR->kO->kS kP}{tg:lu}(h:TSv Γ (λ ρ s=>(m ρ s).bind λ d s=>match lf ρ tg d with|some ρ=>.ok (.next ρ) s|none=>.bad) D σ H):bi2 (TEv Γ m) (gOf Γ.K tg) D σ H:=by
 obtain⟨φ,ρ,s,c,s',E,R,e,q⟩:=h
 obtain⟨x,s1,e1,e⟩:=aa0 e
 refine⟨φ,ρ,s,x,s1,E,R,e1,λ v φ1 J g1 l1 y r1 R1=>?_⟩
 cases hb:lf ρ tg x with
 | none=>rw[hb]at e;cases e
 | some ρ1 =>
  rw[hb]at e
  cases e
  exact bF7 (E.mono g1 l1) r1 y hb λ σ' G=>q φ1 J g1 l1 R1 σ' G
theorem bp3 {m:kR->kO->kS (List kP)}(h:TSv Γ (λ ρ s=>((m ρ s).bind λ l s=>lz (.lst l) s).bind λ d s=>match lf ρ tg d with|some ρ=>.ok (.next ρ) s|none=>.bad) D σ H):bi2 (TFv Γ m) (gOf Γ.K tg) D σ H :=
 aW9 (aU1 h)
def bL4 (Γ:Gm):bZ8:=λ o i v H Q=>∃ φ s x y d s',Rp Γ φ H s/\RV Γ φ H x o/\RV Γ φ H y i/\RV Γ φ H d v/\x.bnd s.length=true/\y.bnd s.length=true/\d.bnd s.length=true/\DV.setIx x y d s=.ok () s' /\
 ∀ φ' H',Gr φ s H φ' s' H'->s.length<=s'.length->Rp Γ φ' H' s'->Q H'
theorem bq4 {me mo mi:kR->kO->kS kP}(h:TSv Γ (λ ρ s=>(me ρ s).bind λ d s=>(mo ρ s).bind λ x s=>(mi ρ s).bind λ y s=>(DV.setIx x y d s).bind λ _ s=>.ok (.next ρ) s) D σ H) :
  bi2 (TEv Γ me) (gSub (TEv Γ mo) (TEv Γ mi) (bL4 Γ)) D σ H:=by
 obtain⟨φ,ρ,s,c,s',E,R,e,q⟩:=h
 obtain⟨d,s1,e1,e⟩:=aa0 e
 obtain⟨x,s2,e2,e⟩:=aa0 e
 obtain⟨y,s3,e3,e⟩:=aa0 e
 obtain⟨u,s4,e4,e⟩:=aa0 e
 cases e
 refine⟨φ,ρ,s,d,s1,E,R,e1,λ v1 φ1 H1 g1 l1 Z r1 R1=>?_⟩
 refine⟨φ1,ρ,s1,x,s2,E.mono g1 l1,R1,e2,λ v2 φ2 H2 g2 J b2 r2 R2=>?_⟩
 have G2:=g1.trans g2 l1
 have L2:=am l1 J
 refine⟨φ2,ρ,s2,y,s3,E.mono G2 L2,R2,e3,λ v3 φ3 H3 Y G b3 r3 R3=>?_⟩
 refine⟨φ3,s3,x,y,d,_,R3,RV.mono Y x v2 b2 r2,r3,RV.mono (g2.trans Y J) d v1 Z r1,zE G x b2,b3,zE (am J G) d Z,e4,λ φ4 H4 g4 l4 R4=>?_⟩
 have G3:=G2.trans Y L2
 have L3:=am L2 G
 exact q φ4 H4 (G3.trans g4 L3) (am L3 l4) R4 σ (E.mono (G3.trans g4 L3) (am L3 l4))
theorem bU4 (hu:X.A.units+1<cLine):cc4 X (bL4 Γ):=by
 intro J sh σ H o i v ov iv u Q I ro ri rv h
 obtain⟨φ,s,x,y,d,s',R,rx,ry,rd,bx,a1,bd,G,q⟩:=h
 cases x with
 | ref r =>
  have G:(match s[r]? with
   | some (.lst l)=>(match y with
    | .int i=>(match lB l.length i with|some j=>DV.R.ok () (s.set r (.lst (l.set j d)))|none=>.bad)
    | _=>.bad)
   | some (.dic l)=>if y.key&&decide (l.length<kY)then .ok () (s.set r (.dic (lq y d l)))else .bad
   | _=>.bad)=.ok () s':=G
  cases e:s[r]? with
  | none=>rw[e]at G;cases G
  | some ob =>
   rw[e]at G
   cases ob with
   | lst l =>
    cases y with
    | int k =>
     have G:(match lB l.length k with|some j=>DV.R.ok () (s.set r (.lst (l.set j d)))|none=>.bad)=.ok () s':=G
     cases ej:lB l.length k with
     | none=>rw[ej]at G;cases G
     | some j =>
      rw[ej]at G
      cases G
      obtain⟨xs,h1,Y⟩:=R.addr e
      have hb:kQ s.length (l.set j d)=true:=ab6.mpr λ z hz=>by
       rcases fj hz with h|h
       ·exact ab6.mp (by have:=R.wf r _ e;unfold kW at this;exact this) z h
       ·subst h;exact bd
      refine bp5 J sh σ H o i v ov iv u Q I ro ri rv ⟨φ r,xs,k,j,rx.refE,ry.intE,h1,?_,?_⟩
      ·rw[Y.length];exact ej
      ·obtain⟨g,R'⟩:=R.set (o:=.lst (l.set j d)) (u:=.lst (xs.set j v)) e rfl hb λ H' g e=>⟨_,e,RVL.monoW g _ _ hb (Y.set j rd)⟩
       exact q _ _ g (by simp) R'
    | _=>exact fb G
   | dic l =>
    have G:(if y.key&&decide (l.length<kY)then DV.R.ok () (s.set r (.dic (lq y d l)))else .bad)=.ok () s':=G
    split at G
    case isFalse=>exact fb G
    rename_i hc
    cases G
    rw[au]at hc
    obtain⟨k,hk⟩:=am2 hc.1
    have hlt:=of_decide_eq_true hc.2
    obtain⟨a0,h1,Y⟩:=R.obj r _ e
    have ex:=rx.refE;subst ex
    cases ro
    have ey:=aL9 hk ry;subst ey
    have hb:(DV.O.dic (lq y d l)).bnd s.length=true:=bl3 (R.wf r _ e) a1 bd
    have Z:kQ s.length ((lq y d l).map (·.2))=true:=by
     unfold kW at hb
     rw[au]at hb
     exact hb.2
    obtain⟨g,R'⟩:=R.set (o:=.dic (lq y d l)) (u:=.dK (az2 a0 k v)) e rfl hb λ H' g e=>⟨_,e,RVD.monoW g _ _ Z (Y.put hk rd)⟩
    exact bf6 hu I (bZ1.k h1 (by rw[Y.length];exact aq hlt qV)) ri rv λ s4 I4=>⟨_,I4,q _ _ g (by simp) R'⟩
   | _=>exact fb G
 | _=>exact fb G
theorem cg6 {mc:kR->kO->kS kP}{G J:kR->kO->kS lv}(h:TSv Γ (λ ρ s=>k6 (mc ρ s) λ k s=>if k then G ρ s else J ρ s) D σ H):tIfS (TTv Γ mc) (TSv Γ G) (TSv Γ J) D σ H:=by
 obtain⟨φ,ρ,s,d,s',E,R,y,q⟩:=h
 obtain⟨c,s1,e1,y⟩:=qd y
 refine⟨φ,ρ,s,c,s1,E,R,e1,λ φ1 Y g1 l1 R1=>?_⟩
 cases c with
 | true =>
  rw[if_pos rfl]at y ⊢
  exact⟨φ1,ρ,s1,d,s',E.mono g1 l1,R1,y,q.trans g1 l1⟩
 | false =>
  rw[if_neg aR]at y ⊢
  exact⟨φ1,ρ,s1,d,s',E.mono g1 l1,R1,y,q.trans g1 l1⟩
theorem bX4 {J Y:kR->kO->kS lv}(h:TSv Γ (λ ρ s=>(J ρ s).bind λ c s=>match c with|.next ρ=>Y ρ s|c=>.ok c s) D σ H):tSeq (TSv Γ J) (TSv Γ Y) D σ H:=by
 obtain⟨φ,ρ,s,c,s',E,R,y,q⟩:=h
 obtain⟨Z,s1,e1,y⟩:=aa0 y
 refine⟨φ,ρ,s,Z,s1,E,R,e1,λ φ1 G g1 l1 R1=>?_⟩
 cases Z with
 | next ρ1=>exact λ σ1 E1=>⟨φ1,ρ1,s1,c,s',E1,R1,y,q.trans g1 l1⟩
 | ret d=>cases y;exact q φ1 G g1 l1 R1
 | cont ρ=>cases y;exact q φ1 G g1 l1 R1
 | brk ρ=>cases y;exact q φ1 G g1 l1 R1
theorem bq0 {mc:kR->kO->kS kP}{Y:kR->kO->kS lv}(h:TSv Γ (DV.whl mc Y) D σ H):bu4 (TTv Γ mc) (TSv Γ Y) D σ H:=by
 obtain⟨φ,ρ,s,c,s',E,R,y,q⟩:=h
 unfold DV.whl at y
 split at y
 case isFalse=>exact fb y
 rename_i hn
 generalize hn.choose=n at y
 refine⟨λ n σ H=>∃ φ ρ s,RE Γ φ H s.length ρ σ/\Rp Γ φ H s/\DV.jL mc Y n ρ s=.ok c s'/\ao9 Γ φ s H c s' D,⟨n,φ,ρ,s,E,R,y,q⟩,?_⟩
 clear E R y q hn
 rintro n σ H ⟨φ,ρ,s,E,R,y,q⟩
 cases n with
 | zero=>exact fb y
 | succ n =>
  unfold DV.jL at y
  obtain⟨b,s1,e1,y⟩:=qd y
  refine⟨φ,ρ,s,b,s1,E,R,e1,λ φ1 H1 g1 l1 R1=>?_⟩
  cases b with
  | false =>
   rw[if_neg aR]at y ⊢
   cases y
   exact q φ1 H1 g1 l1 R1 σ (E.mono g1 l1)
  | true =>
   rw[if_pos rfl]at y ⊢
   obtain⟨Z,s2,e2,y⟩:=aa0 y
   refine⟨_,λ σ' H' w=>⟨n,dB n,w⟩,φ1,ρ,s1,Z,s2,E.mono g1 l1,R1,e2,λ φ2 H2 g2 l2 R2=>?_⟩
   have G:=g1.trans g2 l1
   have L:=am l1 l2
   cases Z with
   | next ρ1=>exact λ σ1 J=>⟨φ2,ρ1,s2,J,R2,y,q.trans G L⟩
   | cont ρ1=>exact λ σ1 J=>⟨φ2,ρ1,s2,J,R2,y,q.trans G L⟩
   | ret d=>cases y;exact q φ2 H2 G L R2
   | brk ρ=>cases y;exact q φ2 H2 G L R2
theorem bY1 {mI : DV.Env -> DV.Sto -> DV.R DV.Sq} {mb : DV.Env -> DV.Sto -> DV.R DV.Ct} {tg : DV.Tg} (h : TSv Γ (λ ρ s => (mI ρ s).bind λ q s0 => DV.aN8 (λ s => DV.chk s0 s q.src) (λ d ρ s => match DV.af2 ρ tg d with
      | some ρ => mb ρ s
      | none => .bad) q.its ρ s0) D σ H) : tFor (TIv Γ mI) (gOf Γ.K tg) (TSv Γ mb) D σ H := by
  obtain⟨φ, ρ, s, c, s', E, R, hm, k⟩ := h
  obtain⟨q, s0, e1, hm⟩ := aa0 hm
  refine⟨φ, ρ, s, q, s0, E, R, e1, λ J φ1 H1 g1 l1 b1 R1 wk => ?_⟩
  refine⟨λ i m σ' H' => ∃ φ' ρ' t, Gr φ1 s0 H1 φ' t H' /\ Rp Γ φ' H' t /\ RE Γ φ' H' t.length ρ' σ' /\ i <= q.its.length /\ m = q.its.length - i /\
    mn (λ s => lx s0 s q.src) (λ d ρ s => match lf ρ tg d with
      | some ρ => mb ρ s
      | none => .bad) (q.its.drop i) ρ' t = .ok c s', ⟨q.its.length, ?_⟩, ?_⟩
  · exact⟨φ1, ρ, s0, Gr.refl _ _ _, R1, E.mono g1 l1, cS _, by simp, by rw[gS]; exact hm⟩
  · rintro i m σ' H' ⟨φ', ρ', t, g, R', E', hil, rfl, hc⟩
    have hle := g.le
    rcases kB i q.its.length with hlt|hge
    · have hd : q.its[i]? = some q.its[i] := ag hlt
      rw[fi hlt]at hc
      unfold mn at hc
      split at hc
      case isFalse => exact fb hc
      rename_i hck
      obtain⟨hgo, hy2⟩ := (wk φ' H' t g hle R' hck i).1 hlt
      refine .inr ⟨hgo, _, λ σ2 H2 n => ⟨q.its.length - (i + 1), by omega, n⟩, λ x H2 hyl => ?_⟩
      obtain⟨sm, rv⟩ := hy2 x H2 hyl
      obtain⟨g2, R2⟩ := R'.same sm
      have rd := rv _ hd
      have bd : (q.its[i]).bnd t.length = true := zE hle _ (al6 b1 hd)
      obtain⟨c1, t3, hs, hc⟩ := aa0 hc
      cases hb : lf ρ' tg q.its[i]with
      | none => rw[hb]at hs; cases hs
      | some ρ3 =>
        rw[hb]at hs
        refine bF7 (E'.mono g2 (ai _)) rd bd hb λ σ3 E3 => ?_
        refine⟨φ', ρ3, t, c1, t3, E3, R2, hs, λ φ2 H4 g4 l4 R4 => ?_⟩
        have G4 := (g.trans g2 hle).trans g4 hle
        have L4 := am hle l4
        have GG := g1.trans G4 l1
        cases c1 with
        | next ρ1 => exact λ σ1 E1 => ⟨φ2, ρ1, t3, G4, R4, E1, hlt, rfl, hc⟩
        | cont ρ1 => exact λ σ1 E1 => ⟨φ2, ρ1, t3, G4, R4, E1, hlt, rfl, hc⟩
        | ret d => cases hc; exact k φ2 H4 GG (am l1 L4) R4
        | brk ρ => cases hc; exact k φ2 H4 GG (am l1 L4) R4
    · rw[gu hge]at hc
      unfold mn at hc
      split at hc
      case isFalse => exact fb hc
      rename_i hck
      cases hc
      exact .inl ⟨(wk φ' H' s' g hle R' hck i).2 hge, k φ' H' (g1.trans g l1) (am l1 hle) R' σ' E'⟩
structure Ck where
 N:List Str
 sc:Scope
 lk:String->List Nat->Expr->Bool
noncomputable abbrev ck0 (N:List Str)(sc:Scope):Ck:=⟨N,sc,λ _ _ _=>false⟩
noncomputable def Ck.vis (c:Ck)(x:Str):Bool:=match c.sc.names.lookup x with|some .local=>true|some .cell=>true|some .free=>true|_=>false
noncomputable def Ck.loc (c:Ck)(x:Str):Bool:=match c.sc.names.lookup x with|some .local=>true|some .cell=>true|_=>false
noncomputable def Ck.gl (c:Ck)(x:Str):Bool:=(match c.sc.names.lookup x with|some .globalImplicit=>true|_=>false)&&!(x==("__debug__":Str))&&!decide (x=("__name__":Str))
noncomputable def Ck.var (c:Ck)(i:Nat)(x:Str):Bool:=decide (c.N[i]?=some x)&&c.vis x&&!(x==("__debug__":Str))&&!(x==("__classdict__":Str))
noncomputable def shp:Expr->Bool
 | .Starred ..=>false
 | .Set ..=>false
 | .SetComp ..=>false
 | .DictComp ..=>false
 | .GeneratorExp ..=>false
 | .Slice ..=>false
 | .NamedExpr ..=>false
 | _=>true
noncomputable def aA2:Expr->Bool
 | .ListComp ..=>false
 | .SetComp ..=>false
 | .DictComp ..=>false
 | _=>true
noncomputable def bn8:Expr->Bool
 | .Tuple ..=>false
 | _=>true
noncomputable def ch1:Expr->Bool
 | .Call _ [] [] _=>false
 | _=>true
noncomputable def mC:DV.Cn->Const->Bool
 | .non,.none=>true
 | .bl b,.bool c=>b==c
 | .int i,.int j=>decide (i=j)
 | .str x,.str y=>decide (y=⟨x.toArray⟩)&&decide (x.length<=1000)
 | _,_=>false
noncomputable def ca0 (ck:Ck):List Nat->List Expr->Bool
 | [],[]=>true
 | i::is,.Name x _::es=>decide (ck.N[i]?=some x)&&ck.loc x&&ca0 ck is es
 | _,_=>false
noncomputable def mTg (ck:Ck):lu->Expr->Bool
 | .one i,.Name x _=>decide (ck.N[i]?=some x)&&ck.loc x
 | .tup is,.Tuple es _ _=>ca0 ck is es
 | _,_=>false
noncomputable def tgN:Expr->List Str
 | .Name x _=>[x]
 | .Tuple es _ _=>es.filterMap λ e=>match e with|.Name x _=>some x|_=>none
 | _=>[]
noncomputable def ckC (ck:Ck)(tgt:Expr)(caps:List (Option Nat))(scope:Scope):Ck:=⟨tgN tgt++(caps.filterMap id).map λ j=>ck.N.getD j "",scope,λ _ _ _=>false⟩
noncomputable def aR6 (ck:Ck)(tg:lu)(tgt iter:Expr)(caps:List (Option Nat))(scope:Scope):Bool :=
 qv (ckC ck tgt caps scope).N caps scope ck.N ck.sc&&decide ((ckC ck tgt caps scope).N.Nodup)&&mTg (ckC ck tgt caps scope) tg tgt&&shp iter
noncomputable def biT:ls->Option Str
 | .len=>some "len" | .abs=>some "abs" | .min2=>some "min" | .max2=>some "max" | .max3=>some "max" | .int=>some "int" | _=>none
noncomputable def biK:ls->Option (Nat×Str)
 | .isInt=>some (1, "int")|.isBool=>some (2, "bool")|.isStr=>some (3, "str")|.isTup=>some (4, "tuple")|.isList=>some (5, "list")|_=>none
noncomputable def mkT:lY->Option Str
 | .tuple=>some "tuple" | .list=>some "list" | _=>none
noncomputable def mkF:lY->Option Str
 | .all=>some "all" | .min=>some "min" | _=>none
noncomputable def mtT:lZ->Option (Str×Nat)
 | .append=>some ("append",1)|_=>none
noncomputable def bo0:lE->Bool
 | .nil=>false
 | .ex _ as=>bo0 as
 | .lam _ _ _=>true
 | .fn _ as=>bo0 as
noncomputable def ca1 (ck:Ck)(b:ls)(x:Str)(xs:List Expr)(m1 m2:Bool):Bool:=match biK b with
 | some p=>(match xs with|[_,.Name y _]=>decide (x=("isinstance":Str))&&ck.gl x&&decide (y=p.2)&&ck.gl y&&m2|_=>false)
 | none=>(match xs with|_::_=>decide (biT b=some x)&&ck.gl x&&m1|[]=>false)
mutual
noncomputable def mE (ck:Ck):lM->Expr->Bool
 | .var i,E=>match E with|.Name x _=>ck.var i x|_=>false
 | .cst c,E=>match E with|.Constant v _ _=>mC c v|_=>false
 | .glob g,E=>match E with|.Name x _=>decide (x=(g:Str))&&ck.gl x|_=>false
 | .bin op a b,E=>match E with|.BinOp l o r _=>decide (o=cc3 op)&&mE ck a l&&mE ck b r|_=>false
 | .neg a,E=>match E with|.UnaryOp .USub l _=>mE ck a l|_=>false
 | .not a,E=>match E with|.UnaryOp .Not l _=>mE ck a l|_=>false
 | .cmp op a b,E=>match E with|.Compare l [o] [r] _=>decide (o=bC7 op)&&mE ck a l&&mE ck b r|_=>false
 | .chain _ _ _ _ _,_=>false
 | .isN a,E=>match E with|.Compare l [.Is] [.Constant .none _ _] _=>mE ck a l|_=>false
 | .notN a,E=>match E with|.Compare l [.IsNot] [.Constant .none _ _] _=>mE ck a l|_=>false
 | .isB _ _,_=>false
 | .notB _ _,_=>false
 | .and a b,E=>match E with
  | .BoolOp .And [l,r] _=>mE ck a l&&mE ck b r
  | .BoolOp .And (l::m::r::es) p=>mE ck a l&&mE ck b (.BoolOp .And (m::r::es) p)
  | _=>false
 | .or a b,E=>match E with
  | .BoolOp .Or [l,r] _=>mE ck a l&&mE ck b r
  | .BoolOp .Or (l::m::r::es) p=>mE ck a l&&mE ck b (.BoolOp .Or (m::r::es) p)
  | _=>false
 | .ite c a b,E=>match E with|.IfExp t l r _=>mE ck c t&&mE ck a l&&mE ck b r|_=>false
 | .tup es,E=>match E with|.Tuple xs _ _=>mEs ck es xs&&decide (xs.length<=1000)|_=>false
 | .lst es,E=>match E with|.List xs _=>mEs ck es xs&&decide (xs.length<=1000)|_=>false
 | .dic ks vs,E=>match E with|.Dict a b _=>(match a,b with|[],[]=>mEs ck ks []&&mEs ck vs []|[some x],[y]=>mEs ck ks [x]&&mEs ck vs [y]|_,_=>false)|_=>false
 | .slL _ _,_=>false
 | .slU a hi,E=>match E with|.Subscript o (.Slice none (some h) none _) _=>mE ck a o&&mE ck hi h|_=>false
 | .slLU _ _ _,_=>false
 | .rev _,_=>false
 | .ix a b,E=>match E with|.Subscript o i _=>mE ck a o&&mE ck b i|_=>false
 | .call f as,E=>match E with|.Call (.Name x _) xs [] _=>decide (x=(f:Str))&&ck.gl x&&mAs ck as xs|_=>false
 | .callC f as,E=>match E with|.Call (.Name x _) (y::ys) [] _=>decide (x=(f:Str))&&ck.gl x&&bo0 as&&bJ4 ck as (y::ys)|_=>false
 | .callV i es,E=>match E with|.Call (.Name x _) (y::ys) [] _=>ck.var i x&&mEs ck es (y::ys)|_=>false
 | .bi b es,E=>match E with|.Call (.Name x _) xs [] _=>ca1 ck b x xs (mEs ck es xs) (mEs ck es (xs.take 1))|_=>false
 | .mk k l,E=>match E with
  | .Call (.Name x _) [a] [] _=>ck.gl x&&shp a&&((decide (mkT k=some x)&&mL ck 2 l a)||(decide (mkF k=some x)&&mL ck 1 l a))
  | .ListComp e gs sc p=>decide (k=.list)&&mL ck 0 l (.ListComp e gs sc p)
  | _=>false
 | .mkD k l d,E=>match E with
  | .Call (.Name x _) [a] [⟨some y,de,_⟩] _=>decide (k=.min)&&decide (x=("min":Str))&&decide (y=("default":Str))&&ck.gl x&&shp a&&mL ck 1 l a&&mE ck d de
  | _=>false
 | .meth m o es,E=>match E with
  | .Call (.Attribute ob x ap) xs [] cp=>decide (mtT m=some (x,xs.length))&&ch1 ob&&(ap.endLine==cp.line)&&mE ck o ob&&mEs ck es xs
  | _=>false
 | .ext _ _,_=>false
 | .extS _ _,_=>false
 | .mks _ _,_=>false
 | .mkDs _ _ _,_=>false
 | .join _ _,_=>false
noncomputable def mEs (ck:Ck):lh->List Expr->Bool
 | .nil,xs=>match xs with|[]=>true|_=>false
 | .cons e es,xs=>match xs with|x::xs=>mE ck e x&&shp x&&mEs ck es xs|_=>false
noncomputable def mAs (ck:Ck):lE->List Expr->Bool
 | .nil,xs=>match xs with|[]=>true|_=>false
 | .ex e es,xs=>match xs with|x::xs=>mE ck e x&&shp x&&mAs ck es xs|_=>false
 | .lam _ _ _,_=>false
 | .fn _ _,_=>false
noncomputable def bJ4 (ck:Ck):lE->List Expr->Bool
 | .nil,xs=>match xs with|[]=>true|_=>false
 | .ex e es,xs=>match xs with|x::xs=>mE ck e x&&shp x&&bJ4 ck es xs|_=>false
 | .lam id caps es,xs=>match xs with|x::xs=>ck.lk id caps x&&shp x&&bJ4 ck es xs|_=>false
 | .fn _ _,_=>false
noncomputable def mI (ck:Ck)(tgt:Expr):DV.I->Expr->Bool
 | .rng1 a,E=>match E with|.Call (.Name x _) [l] [] _=>decide (x=("range":Str))&&ck.gl x&&mE ck a l&&shp l|_=>false
 | .rng2 _ _,_=>false
 | .seq e,x=>mE ck e x&&shp x
 | .rng3 _ _ _,_=>false
 | .enum (.seq _),_=>false
 | .zip (.seq _) (.seq _),_=>false
 | .enum _,_=>false
 | .zip _ _,_=>false
 | .items _,_=>false
noncomputable def mL (ck:Ck)(k:Nat):DV.L->Expr->Bool
 | .comp tg it e caps,E=>match E with|.ListComp elt [⟨tgt,iter,[],z⟩] scope _=>decide (z=0)&&aR6 ck tg tgt iter caps scope&&mI ck tgt it iter&&mE (ckC ck tgt caps scope) e elt|_=>false
 | .compIf tg it c e caps,E=>match E with|.ListComp elt [⟨tgt,iter,[i],z⟩] scope _=>decide (z=0)&&aR6 ck tg tgt iter caps scope&&mI ck tgt it iter&&mE (ckC ck tgt caps scope) c i&&mE (ckC ck tgt caps scope) e elt|_=>false
 | .disp es,E=>match E with|.List xs _=>decide (1<=k)&&mEs ck es xs&&decide (xs.length<=1000)|_=>false
 | .seq e,x=>decide (k=2)&&mE ck e x
end
theorem ff {p:Prop}(h:false=true):p:=Bool.noConfusion h
noncomputable def bH1:a9->Bool
 | ⟨[], args, none, [], [], none, []⟩ => args.all λ y => y.annotation.isNone
 | _=>false
noncomputable def nst1:List Stmt->Option (Str×a9×Expr×Pos×Scope×Pos×List Stmt)
 | .FunctionDef nm params [.Return (some b) rp] [] none [] scope none nm' pos::xs=>if nm'=nm then some (nm,params,b,rp,scope,pos,xs)else none
 | _=>none
noncomputable def nst2 (nm:Str):List Stmt->Option (Str×Pos×Expr×Pos×Pos×Pos)
 | [.Return (some (.Call (.Name g gp) [a,.Name x p2] [] cp)) rp2]=>if x=nm then some (g,gp,a,p2,cp,rp2)else none
 | _=>none
noncomputable def ce2:mF->l6->Option (Nat×String×lM×String×List Nat)
 | .und i,.cons (.ret (.callC g (.ex e (.lam id caps .nil)))) .nil=>some (i,g,e,id,caps)
 | _,_=>none
noncomputable def bL6 (ck:Ck)(s:mF)(ss:l6)(S:List Stmt):Bool :=
 (ce2 s ss).any λ d=>(nst1 S).any λ q=>(nst2 q.1 q.2.2.2.2.2.2).any λ r =>
  decide (ck.N[d.1]?=some q.1)&&ck.loc q.1&&ck.var d.1 q.1&&ck.lk d.2.2.2.1 d.2.2.2.2 (.NamedExpr (.Name q.1 q.2.2.2.1) (.Lambda q.2.1 q.2.2.1 q.2.2.2.2.1 q.2.2.2.2.2.1) q.2.2.2.2.2.1)&&decide (r.1=(d.2.1:Str))&&ck.gl r.1&&mE ck d.2.2.1 r.2.2.1&&shp r.2.2.1&&bH1 q.2.1
mutual
noncomputable def mS (ck:Ck):mF->Stmt->Bool
 | .asg tg e,S=>match S with
  | .Assign [t] v _=>mTg ck tg t&&mE ck e v&&(match tg with|.one _=>true|.tup _=>bn8 v&&aA2 v)
  | _=>false
 | .setIx o i e,S=>match S with|.Assign [.Subscript ob ix _] v _=>mE ck o ob&&mE ck i ix&&mE ck e v&&aA2 v&&bn8 v|_=>false
 | .aug _ _,_=>false
 | .ex e,S=>match S with|.Expr v _=>mE ck e v&&aA2 v|_=>false
 | .ret e,S=>match S with|.Return (some v) _=>mE ck e v|_=>false
 | .retN,_=>false
 | .ite c a b,S=>match S with|.If t l r _=>mE ck c t&&mSs ck a l&&mSs ck b r|_=>false
 | .whl c b,S=>match S with|.While t l [] _=>mE ck c t&&mSs ck b l|_=>false
 | .for_ tg it b,S=>match S with|.For tgt iter l [] _=>mTg ck tg tgt&&mI ck tgt it iter&&mSs ck b l|_=>false
 | .pass,_=>false
 | .cont,_=>false
 | .brk,_=>false
 | .raise,_=>true
 | .und _,_=>false
noncomputable def mSs (ck:Ck):l6->List Stmt->Bool
 | .nil,xs=>match xs with|[]=>true|_=>false
 | .cons s ss,xs=>match xs with|x::xs=>bL6 ck s ss (x::xs)||(mS ck s x&&mSs ck ss xs)|_=>false
end
theorem aM1 {y:Ck}{e:lM}{E:Expr}(h:mE y e E=true):shp E=true:=by
 cases E<;>first|rfl|(exfalso;cases e<;>exact ff h)
theorem bL3 {G:Ck}{y:Expr}{e:DV.I}{E:Expr}(h:mI G y e E=true):shp E=true:=by
 cases e with
 | seq e=>have h:(mE G e E&&shp E)=true:=h;rw[au]at h;exact h.2
 | enum a=>cases E<;>first|rfl|(exfalso;cases a<;>exact ff h)
 | zip a b=>cases E<;>first|rfl|(exfalso;cases a<;>first|exact ff h|(cases b<;>exact ff h))
 | _=>cases E<;>first|rfl|exact ff h
theorem zt {e:Expr}{es:List Expr}{env:Env}(h:shp e=true):bn (e::es) env=(false,eval e env)::bn es env:=by
 cases e<;>first|rfl|cases h
theorem zW {env:Env}{pos:Pos}:∀ {es:List Expr},(∀ e∈es,shp e=true)->(d4 pos (bn es env)).any (·.1)=false/\(d4 pos (bn es env)).all (λ x=>!x.1)=true
 | [],_=>⟨rfl,rfl⟩
 | e::es,h=>by
  have G:=zt (es:=es) (env:=env) (h e (aH ..))
  obtain⟨y,h3⟩:=zW (env:=env) (pos:=pos) (es:=es) λ x hx=>h x (az _ hx)
  rw[G]
  unfold d4 at y h3 ⊢
  simp only[aJ,fM,cK,y,h3]
  exact⟨rfl,rfl⟩
theorem aG1 {e:Expr}{env:Env}(h:shp e=true)(x:Value):dj e env x=pure x:=by
 cases e<;>first|rfl|cases h
theorem aB0 {e:Expr}{op:CmpOp}(h:shp e=true):c9 op e=false:=by
 cases e<;>first|rfl|cases h
theorem ay0 {e:Expr}{t:Option Expr}{l:Nat}{env:Env}(h:aA2 e=true):eX e t l env=pure false:=by
 cases e<;>first|rfl|cases h
theorem aW2 {e:Expr}{f:Str}{env:Env}(h:ch1 e=true):fI e f env (eval e env)=eval e env:=by
 cases e with
 | Call g a k p =>
  cases g with
  | Name x p' =>
   cases a with
   | nil=>cases k with
    | nil=>cases h
    | cons _ _=>rfl
   | cons _ _=>rfl
  | _=>rfl
 | _=>rfl
theorem aT4 {es:List Expr}{k:Nat}{p:Pos}{e:Expr}{env:Env}(h:bn8 e=true):ij [.Tuple es k p] e env=pure none:=by
 cases e<;>first|rfl|cases h
theorem aQ9 {o i:Expr}{p:Pos}{e:Expr}{env:Env}(h:bn8 e=true):ij [.Subscript o i p] e env=pure none:=by
 cases e<;>first|rfl|cases h
theorem aR0 {e:Expr}(h:shp e=true):aY4 e:=by
 intro o i
 cases e<;>first|rfl|cases h
def spV (Γ:Gm)(c:List kP->kO->kS kP):Sp:=λ vs H Q _=>rCl Γ c vs H Q
noncomputable def bNames:List Str:=["len", "abs", "min", "max", "int", "isinstance", "bool", "str", "tuple", "list", "range", "sum", "all", "any", "sorted", "zip", "enumerate", "ord"]
def spL (Γ:Gm)(c:List kP->List kP->kO->kS kP)(cap:List V):Sp:=λ vs H Q _=>∃ φ s cs l d s',Rp Γ φ H s/\RVL Γ φ H l vs/\RVL Γ φ H cs cap/\kQ s.length l=true/\kQ s.length cs=true/\c cs l s=.ok d s'/\af8 Γ φ s H d s' Q
noncomputable def LamI.own (J:LamI):Str:=match J.nm with|none => "<lambda>" | some p=>p.1
noncomputable def lamText (J:LamI)(params:a9)(body:Expr)(scope:Scope)(pos:Pos):Expr:=match J.nm with
 | none=>.Lambda params body scope pos
 | some p=>.NamedExpr (.Name p.1 p.2) (.Lambda params body scope pos) pos
structure LamHere (Γ:Gm)(X:Cx)(N:List Str)(id:String)(caps:List Nat)(params:a9)(body:Expr)(scope:Scope)(c P:Addr)(J:LamI):Prop where
 code:X.env.code=.ref c
 hd:bT X.base c P
 bm:BM X.mg X.base
 ck:lamCheck scope X.env.scope=true
 df:j7 params X.env=([],[])
 lg:Γ.lg id J
 q:J.qual=X.env.qual++J.own
 p:J.params=params
 b:J.body=body
 s:J.scope=scope
 len:J.fr.length=caps.length
 at_:∀(i j:Nat) (x:Str),caps[i]?=some j->J.fr[i]?=some x->N[j]?=some x
 fr:∀ x∈J.fr,scope.names.lookup x=some .free
 cl:∀ x,scope.names.lookup x=some .free->∃ c,X.env.cells.lookup x=some c
 tab:(P,J.qual)∈Γ.T
 nd:(Γ.T.map (·.1)).Nodup
 fn:∀ x,X.fn x=true
 kd:∀ x c,X.env.cells.lookup x=some c->X.env.kindOf x=some .cell\/X.env.kindOf x=some .free
structure CG (Γ:Gm)(F:lj)(n:Nat)(X:Cx)(ck:Ck):Prop where
 K:X.K=Γ.K
 N:X.N=ck.N
 nd:ck.N.Nodup
 xe:X.xe=λ _ _=>False
 calm:X.calm=true
 deep:k7+1<=n
 room:Room n X.A
 sc:∀ x k,ck.sc.names.lookup x=some k->X.env.scope.names.lookup x=some k\/(k=.free/\X.env.scope.names.lookup x=some .cell)
 fn:∀ x,ck.sc.names.lookup x=some .cell->X.fn x=true
 bi:∀ x∈bNames,X.mg x=none
 call:∀ f:String,(∀ l s,F.call f l s=.bad)\/∃ a fd ps,FnOk X.prog X.w X.K X.mg X.base CX0 n a fd ps (spV Γ (F.call f))/\X.mg (f:Str)=some (.ref a)/\cf X.K (.ref a)=true/\Binds X.K fd ps []
 con:∀ x d,F.con x=some d->∃ v u,X.mg (x:Str)=some u/\RelV v u/\(∀ m,d.bnd m=true)/\∀ φ H,RV Γ φ H d v
 lam:∀ id caps E,ck.lk id caps E=true->∃ c P params body scope pos J,E=lamText J params body scope pos/\LamHere Γ X ck.N id caps params body scope c P J
 cl:∀(id:String) (J:LamI) (f:Addr) (cap:List V) (clos:List (Str×Addr)),Γ.lg id J->cap.length=J.fr.length->ClOk X.prog X.w X.K X.mg X.base n (λ H=>CloAt H f J cap clos) f (spL Γ (F.lam id) cap)
 fa:∀(f:String) (a:Addr),Γ.fa f=some a->X.mg (f:Str)=some (.ref a)/\∃ oc od fd sl,X.K.lookup a=some ⟨oc,od,.func fd,sl⟩
 fk:DV.FK F
section
variable {Γ:Gm} {F:lj} {n:Nat} {X:Cx} {ck:Ck}
theorem CG.vis (G:CG Γ F n X ck){x:Str}(h:ck.vis x=true):Vis X.env.scope x:=by
 unfold Ck.vis at h
 split at h
 ·rename_i e;rcases G.sc _ _ e with z|⟨z,_⟩
  ·exact .inl z
  ·cases z
 ·rename_i e;rcases G.sc _ _ e with z|⟨z,_⟩
  ·exact .inr (.inl z)
  ·cases z
 ·rename_i e;rcases G.sc _ _ e with z|⟨_,z⟩
  ·exact .inr (.inr z)
  ·exact .inr (.inl z)
 ·cases h
theorem CG.loc (G:CG Γ F n X ck){x:Str}(h:ck.loc x=true):Loc X.env.scope x/\(X.fn x=true\/X.env.scope.names.lookup x=some .local):=by
 unfold Ck.loc at h
 split at h
 ·rename_i e;rcases G.sc _ _ e with z|⟨z,_⟩
  ·exact⟨.inl z,.inr z⟩
  ·cases z
 ·rename_i e;rcases G.sc _ _ e with z|⟨z,_⟩
  ·exact⟨.inr z,.inl (G.fn _ e)⟩
  ·cases z
 ·cases h
theorem CG.gl (G:CG Γ F n X ck){x:Str}(h:ck.gl x=true):Gl X x/\(x==("__debug__":Str))=false/\x ≠ "__name__":=by
 unfold Ck.gl at h
 simp only[au,fC]at h
 obtain⟨⟨y,J⟩,h3⟩:=h
 refine⟨?_,J,of_decide_eq_false h3⟩
 split at y
 ·rename_i e;rcases G.sc _ _ e with z|⟨z,_⟩
  ·exact z
  ·cases z
 ·cases y
theorem bq6 (G:CG Γ F n X ck):∀ {is:List Nat} {es:List Expr},ca0 ck is es=true->PGs X es (bY9 is)/\(cy es X.env).length=is.length/\(cy es X.env).findIdx? (·.1)=none
 | [],[],_=>⟨bB0,rfl,rfl⟩
 | [],_::_,h=>by cases h
 | i::is,[],h=>by cases h
 | i::is,e::es,h=>by
  cases e with
  | Name x p =>
   unfold ca0 at h
   simp only[au,decide_eq_true_eq]at h
   obtain⟨⟨J,y⟩,h3⟩:=h
   obtain⟨l1,Y⟩:=G.loc y
   obtain⟨a,b,c⟩:=bq6 G h3
   have hs:cy (.Name x p::es) X.env=(false,f7 (.Name x p) X.env)::cy es X.env:=rfl
   refine⟨bk2 (aX9 (by rw[G.N];exact G.nd) (by rw[G.N];exact J) l1 Y) a (by rw[hs];rfl),by rw[hs,aU,aU,b],?_⟩
   rw[hs,List.findIdx?_cons]
   simp[c]
  | _=>cases h
theorem bz6 (G:CG Γ F n X ck){tg:lu}{e:Expr}(h:mTg ck tg e=true):PG X e (gOf Γ.K tg):=by
 unfold mTg at h
 split at h
 ·simp only[au,decide_eq_true_eq]at h
  obtain⟨l1,y⟩:=G.loc h.2
  exact aX9 (by rw[G.N];exact G.nd) (by rw[G.N];exact h.1) l1 y
 ·obtain⟨a,b,c⟩:=bq6 G h
  exact bF1 G.K G.calm a b c
 ·cases h
theorem CG.comp (G:CG Γ F n X ck){tg:lu}{Y iter:Expr}{J:List (Option Nat)}{scope:Scope}(h:aR6 ck tg Y iter J scope=true) :
  qv (ckC ck Y J scope).N J scope X.N X.env.scope=true/\shp iter=true /\
  ∀(C:Addr) (cells:List (Str×Addr)) (s:ah) (H:Hp) (ex:List Addr),CG Γ F n (zZ X (ckC ck Y J scope).N scope C cells s H ex) (ckC ck Y J scope)/\PG (zZ X (ckC ck Y J scope).N scope C cells s H ex) Y (gOf Γ.K tg):=by
 unfold aR6 at h
 simp only[au,decide_eq_true_eq]at h
 obtain⟨⟨⟨Z,h2⟩,h3⟩,h4⟩:=h
 refine⟨?_,h4,λ C cells s H ex=>?_⟩
 ·rw[G.N]
  unfold qv at Z ⊢
  simp only[au]at Z ⊢
  obtain⟨⟨⟨⟨⟨a1,a2⟩,a3⟩,a4⟩,a5⟩,a6⟩:=Z
  refine⟨⟨⟨⟨⟨a1,?_⟩,a3⟩,a4⟩,a5⟩,a6⟩
  rw[aO]at a2 ⊢
  intro y hy
  have:=a2 y hy
  rw[bP]at this ⊢
  rcases this with q|q
  ·exact .inl q
  ·right
   rw[bP]at q ⊢
   rcases q with q|q
   ·rcases G.sc _ _ (eq_of_beq q)with z|⟨z,_⟩
    ·left;rw[z];exact beq_self_eq_true _
    ·cases z
   ·rcases G.sc _ _ (eq_of_beq q)with z|⟨_,z⟩
    ·right;rw[z];exact beq_self_eq_true _
    ·left;rw[z];exact beq_self_eq_true _
 ·have G':CG Γ F n (zZ X (ckC ck Y J scope).N scope C cells s H ex) (ckC ck Y J scope):=by
   refine⟨G.K,rfl,h2,rfl,G.calm,G.deep,G.room,λ x k e=>?_,λ x e=>?_,G.bi,G.call,G.con,λ _ _ _ h=>(by cases h),G.cl,G.fa,G.fk⟩
   ·have q:=qZ (env:=X.env) e
    have q':(eB scope X.env).names.lookup x=some (if(k==NameKind.free&&X.env.scope.kind==.function&&X.env.kindOf x==some .cell)then NameKind.cell else k):=q
    show(eB scope X.env).names.lookup x=some k\/_
    rw[q']
    split
    ·rename_i hc
     simp only[au]at hc
     exact .inr ⟨eq_of_beq hc.1.1,rfl⟩
    ·exact .inl rfl
   ·show(scope.names.lookup x==some .cell)=true
    rw[show scope.names.lookup x=some .cell from e];rfl
  exact⟨G',bz6 G' h3⟩
end
section
variable {Γ:Gm} {F:lj} {n:Nat} {X:Cx} {ck:Ck} {σ:St} {H:Hp} {Q:VK}
theorem TEv.eq {m m':kR->kO->kS kP}(e:∀ ρ s,m ρ s=m' ρ s)(q:TEv Γ m σ H Q):TEv Γ m' σ H Q:=by
 have:m=m':=funext λ ρ=>funext λ s=>e ρ s
 subst this;exact q
theorem TTv.eq {m m':kR->kO->kS kP}{Q:Bool->Hp->Prop}(e:∀ ρ s,m ρ s=m' ρ s)(q:TTv Γ m σ H Q):TTv Γ m' σ H Q:=by
 have:m=m':=funext λ ρ=>funext λ s=>e ρ s
 subst this;exact q
theorem TAv.eq {m m':kR->kO->kS (List kP)}{Q:List V->Hp->Prop}(e:∀ ρ s,m ρ s=m' ρ s)(q:TAv Γ m σ H Q):TAv Γ m' σ H Q:=by
 have:m=m':=funext λ ρ=>funext λ s=>e ρ s
 subst this;exact q
theorem TFv.eq {m m':kR->kO->kS (List kP)}(e:∀ ρ s,m ρ s=m' ρ s)(q:TFv Γ m σ H Q):TFv Γ m' σ H Q:=by
 have:m=m':=funext λ ρ=>funext λ s=>e ρ s
 subst this;exact q
theorem TIv.eq {m m':kR->kO->kS lN}{R:It->Hp->Prop}(e:∀ ρ s,m ρ s=m' ρ s)(q:TIv Γ m σ H R):TIv Γ m' σ H R:=by
 have:m=m':=funext λ ρ=>funext λ s=>e ρ s
 subst this;exact q
theorem TSv.eq {m m':kR->kO->kS lv}{D:Ends}(e:∀ ρ s,m ρ s=m' ρ s)(q:TSv Γ m D σ H):TSv Γ m' D σ H:=by
 have:m=m':=funext λ ρ=>funext λ s=>e ρ s
 subst this;exact q
def EvT (Γ:Gm)(X:Cx)(E:Expr)(m:kR->kO->kS kP):Prop:=PE X E (TEv Γ m)/\PT X E (TTv Γ m)
theorem EvT.val {E:Expr}{m:kR->kO->kS kP}(h:PE X E (TEv Γ m))(G:∀ y,dP E X.env y=(do let v <- y;standAt E.pos;iL [v] (truthy v)):=by intro _;rfl):EvT Γ X E m :=
 ⟨h,(bL5 h G).imp λ σ H Q q=>aO0 q⟩
theorem bk0 {c a b:Expr}{pos:Pos}{tA tb Y:TT}(hc:PT X c tA)(ha:PT X a tb)(hb:PT X b Y):PT X (.IfExp c a b pos) (λ σ H Q=>tA σ H λ k G=>if k=true then tb σ G Q else Y σ G Q):=by
 intro y s σ H Q I h
 have e:dP (.IfExp c a b pos) X.env (eval (.IfExp c a b pos) X.env)=(do if <- dP c X.env (eval c X.env)then dP a X.env (eval a X.env)else dP b X.env (eval b X.env)):=by rw[dP]
 rw[e]
 refine ak (thn (hc y s σ H _ I h) λ k s1 ⟨G,J,Z⟩=>?_)
 cases k with
 | true=>exact ha y s1 σ G Q J Z
 | false=>exact hb y s1 σ G Q J Z
theorem bR6 {mc J Y:kR->kO->kS kP}{Q:Bool->Hp->Prop}(h:TTv Γ (λ ρ s=>k6 (mc ρ s) λ k s=>if k then J ρ s else Y ρ s) σ H Q):TTv Γ mc σ H λ k G=>if k=true then TTv Γ J σ G Q else TTv Γ Y σ G Q:=by
 obtain⟨φ,ρ,s,d,s',E,R,y,q⟩:=h
 obtain⟨c,s1,e1,y⟩:=qd y
 refine⟨φ,ρ,s,c,s1,E,R,e1,λ φ1 G g1 l1 R1=>?_⟩
 cases c with
 | true =>
  rw[if_pos rfl]at y ⊢
  exact⟨φ1,ρ,s1,d,s',E.mono g1 l1,R1,y,q.trans g1 l1⟩
 | false =>
  rw[if_neg aR]at y ⊢
  exact⟨φ1,ρ,s1,d,s',E.mono g1 l1,R1,y,q.trans g1 l1⟩
section
variable {a b c:lM} {l r t:Expr} {pos:Pos}
theorem bE6 (G:CG Γ F n X ck)(op:mr)(ha:EvT Γ X l (kU F a))(hb:EvT Γ X r (kU F b)):EvT Γ X (.BinOp l (cc3 op) r pos) (kU F (.bin op a b)) :=
 .val ((cg3 (bR7 G.K op) ha.1 hb.1).imp λ σ H Q q=>bo5 (TEv.eq (λ ρ s=>rfl) q))
theorem bv2 (ha:EvT Γ X l (kU F a)):EvT Γ X (.UnaryOp .USub l pos) (kU F (.neg a)) :=
 .val ((ca4 bV7 ha.1).imp λ σ H Q q=>cc6 (f:=λ x s=>match x with|.int i=>.ok (.int (-i)) s|_=>.bad) (TEv.eq (λ ρ s=>rfl) q) λ φ s x d s' v H' R r y h k=>by
  cases x with
  | int i =>
   cases h
   exact⟨i,r.intE,k.here R rfl RV.intI⟩
  | _=>cases h)
theorem bv8 (ha:EvT Γ X l (kU F a)):EvT Γ X (.UnaryOp .Not l pos) (kU F (.not a)) :=
 ⟨(bK1 ha.1).imp λ σ H Q q=>bX5 (TEv.eq (λ ρ s=>rfl) q),(bW2 ha.2).imp λ σ H Q q=>bV1 (TTv.eq (λ ρ s=>rfl) q)⟩
theorem bA8 (G:CG Γ F n X ck)(op:l8)(hs:shp r=true)(ha:EvT Γ X l (kU F a))(hb:EvT Γ X r (kU F b)):EvT Γ X (.Compare l [bC7 op] [r] pos) (kU F (.cmp op a b)):=by
 have ho:=bO4 (Γ:=Γ) G.K (G.room.mono G.deep) op
 refine⟨(bC5 ho ha.1 hb.1 (aB0 hs)).imp λ σ H Q q=>bo5 (TEv.eq (λ ρ s=>rfl) q),(bE2 ho ha.1 hb.1 (aB0 hs)).imp λ σ H Q q=>?_⟩
 have q:=bB8 q
 exact bo5 (TEv.eq (λ ρ s=>rfl) q)
theorem RV.nonIff {φ:Nat->Addr}{x:kP}{v:V}(r:RV Γ φ H x v):decide (v=.non)=decide (x=.non):=by
 cases x with
 | non=>rw[r.nonE];rfl
 | bl b=>rw[r.blE];rfl
 | int i=>rw[r.intE];rfl
 | str z=>rw[r.strE];rfl
 | tup l=>obtain⟨a,h,rfl,_⟩:=r.tupE;rfl
 | ref k=>rw[r.refE];rfl
 | fn f=>unfold RV at r;obtain⟨a,_,rfl⟩:=r;rfl
 | clo f cs=>unfold RV at r;obtain⟨f,_,_,_,rfl,_⟩:=r;rfl
theorem bF0 {j pos'}(ha:EvT Γ X l (kU F a)):EvT Γ X (.Compare l [.Is] [.Constant .none j pos'] pos) (kU F (.isN a)):=by
 have key:∀ σ H Q,TEv Γ (kU F (.isN a)) σ H Q->tIsN (TEv Γ (kU F a)) σ H Q:=λ σ H Q q=>by
  obtain⟨φ,ρ,s,d,s',E,R,h,k⟩:=q
  obtain⟨x,s1,e1,h⟩:=aa0 h
  cases h
  refine⟨φ,ρ,s,x,_,E,R,e1,λ v φ1 y g1 l1 G r1 R1=>?_⟩
  show Q (.bl (decide (v=.non))) y
  rw[r1.nonIff]
  exact k _ φ1 y g1 l1 rfl RV.blI R1
 exact⟨(br6 (bq5 ha.1)).imp key,(bu2 (bq5 ha.1)).imp λ σ H Q q=>key _ _ _ (aO0 q)⟩
theorem bk3 {j pos'}(ha:EvT Γ X l (kU F a)):EvT Γ X (.Compare l [.IsNot] [.Constant .none j pos'] pos) (kU F (.notN a)):=by
 have key:∀ σ H Q,TEv Γ (kU F (.notN a)) σ H Q->bP2 (TEv Γ (kU F a)) σ H Q:=λ σ H Q q=>by
  obtain⟨φ,ρ,s,d,s',E,R,h,k⟩:=q
  obtain⟨x,s1,e1,h⟩:=aa0 h
  cases h
  refine⟨φ,ρ,s,x,_,E,R,e1,λ v φ1 y g1 l1 G r1 R1=>?_⟩
  show Q (.bl (!decide (v=.non))) y
  rw[r1.nonIff]
  exact k _ φ1 y g1 l1 rfl RV.blI R1
 exact⟨(br6 (ba1 ha.1)).imp key,(bu2 (ba1 ha.1)).imp λ σ H Q q=>key _ _ _ (aO0 q)⟩
theorem be6 {op:BoolOp}{es:List Expr}{t:TT}(h:PT X (.BoolOp op es pos) t):PW X (.BoolOp op es pos) t:=by
 intro G y s σ H Q I q
 have:=h y s σ H Q I q
 have e:∀ w,dP (.BoolOp op es pos) X.env w=allTrue op es X.env:=λ w=>by rw[dP]
 rw[e]at this ⊢
 exact this
theorem bF8 (ha:EvT Γ X l (kU F a))(hb:EvT Γ X r (kU F b)):EvT Γ X (.BoolOp .And [l,r] pos) (kU F (.and a b)) :=
 ⟨(bu3 ha.1 (bs2 hb.1)).imp λ σ H Q q=>bt8 (TEv.eq (λ ρ s=>rfl) q),(br4 ha.2 (bG8 hb.2)).pt.imp λ σ H Q q=>bs6 (TTv.eq (λ ρ s=>rfl) q)⟩
theorem bu9 {es:List Expr}(ha:EvT Γ X l (kU F a))(hb:EvT Γ X (.BoolOp .And (r::es) pos) (kU F b)):EvT Γ X (.BoolOp .And (l::r::es) pos) (kU F (.and a b)) :=
 ⟨(bu3 ha.1 hb.1).imp λ σ H Q q=>bt8 (TEv.eq (λ ρ s=>rfl) q),(br4 ha.2 (be6 hb.2)).pt.imp λ σ H Q q=>bs6 (TTv.eq (λ ρ s=>rfl) q)⟩
theorem bN5 (ha:EvT Γ X l (kU F a))(hb:EvT Γ X r (kU F b)):EvT Γ X (.BoolOp .Or [l,r] pos) (kU F (.or a b)) :=
 ⟨(bU1 ha.1 (bs2 hb.1)).imp λ σ H Q q=>bK4 (TEv.eq (λ ρ s=>rfl) q),(bN9 ha.2 (bL2 hb.2)).pt.imp λ σ H Q q=>bX9 (TTv.eq (λ ρ s=>rfl) q)⟩
theorem bY3 {es:List Expr}(ha:EvT Γ X l (kU F a))(hb:EvT Γ X (.BoolOp .Or (r::es) pos) (kU F b)):EvT Γ X (.BoolOp .Or (l::r::es) pos) (kU F (.or a b)) :=
 ⟨(bU1 ha.1 hb.1).imp λ σ H Q q=>bK4 (TEv.eq (λ ρ s=>rfl) q),(bN9 ha.2 (be6 hb.2)).pt.imp λ σ H Q q=>bX9 (TTv.eq (λ ρ s=>rfl) q)⟩
theorem bz8 (hc:EvT Γ X t (kU F c))(ha:EvT Γ X l (kU F a))(hb:EvT Γ X r (kU F b)):EvT Γ X (.IfExp t l r pos) (kU F (.ite c a b)) :=
 ⟨(bl6 hc.2 ha.1 hb.1).imp λ σ H Q q=>bX8 (TEv.eq (λ ρ s=>rfl) q),(bk0 hc.2 ha.2 hb.2).imp λ σ H Q q=>bR6 (TTv.eq (λ ρ s=>rfl) q)⟩
theorem bK9 (G:CG Γ F n X ck)(hs:shp r=true)(ha:EvT Γ X l (kU F a))(hb:EvT Γ X r (kU F b)):EvT Γ X (.Subscript l r pos) (kU F (.ix a b)) :=
 .val ((ca6 (ch2 G.K (bj1 G.room)) ha.1 hb.1 (aR0 hs)).imp λ σ H Q q=>bo5 (TEv.eq (λ ρ s=>rfl) q))
theorem bz2 {h:Pos}(G:CG Γ F n X ck)(ha:EvT Γ X l (kU F a))(hb:EvT Γ X r (kU F b)):EvT Γ X (.Subscript l (.Slice none (some r) none h) pos) (kU F (.slU a b)) :=
 .val ((bo1 (cf7 G.K) ha.1 bG3 (bz5 hb.1)).imp λ σ H Q q=>(cb2 (ml:=kU F b)).2.1 (TEv.eq (λ ρ s=>rfl) q))
end
end
section
variable {Γ:Gm} {F:lj} {n:Nat} {X:Cx} {ck:Ck} {σ:St} {H:Hp} {Q:VK}
theorem aw8:∀ {es:lh} {ρ:kR} {s s':kO} {l:List kP} {y:List Expr} {G:Ck},ln F es ρ s=.ok l s'->mEs G es y=true->l.length=y.length
 | .nil,ρ,s,s',l,y,G,h,m=>by
  cases h
  cases y with
  | nil=>rfl
  | cons _ _=>rw[mEs]at m<;>first|cases m|(intros;simp_all)
 | .cons e es,ρ,s,s',l,y,G,h,m=>by
  obtain⟨d,s1,e1,h⟩:=aa0 h
  obtain⟨r,s2,e2,h⟩:=aa0 h
  cases h
  cases y with
  | nil=>rw[mEs]at m<;>first|cases m|(intros;simp_all)
  | cons x y =>
   rw[mEs,au]at m
   rw[aU,aU,aw8 e2 m.2]
theorem aw7:∀ {es:lh} {G:List Expr},mEs ck es G=true->∀ x∈G,shp x=true
 | .nil,[],_,x,hx=>by cases hx
 | .nil,_::_,m,_,_=>by rw[mEs]at m<;>first|cases m|(intros;simp_all)
 | .cons e es,[],m,x,hx=>by cases hx
 | .cons e es,y::G,m,x,hx=>by
  rw[mEs,au,au]at m
  rcases aI.mp hx with h|h
  ·rw[h];exact m.1.2
  ·exact aw7 m.2 x h
theorem bf8:∀ {es:lE} {G:List Expr},mAs ck es G=true->∀ x∈G,shp x=true
 | .nil,[],_,x,hx=>by cases hx
 | .nil,_::_,m,_,_=>by rw[mAs]at m<;>first|cases m|(intros;simp_all)
 | .ex e es,[],m,x,hx=>by cases hx
 | .lam _ _ _,_,m,_,_=>by rw[mAs]at m<;>first|cases m|(intros;simp_all)
 | .fn _ _,_,m,_,_=>by rw[mAs]at m<;>first|cases m|(intros;simp_all)
 | .ex e es,y::G,m,x,hx=>by
  rw[mAs,au,au]at m
  rcases aI.mp hx with h|h
  ·rw[h];exact m.1.2
  ·exact bf8 m.2 x h
theorem aL5 {e:lM}{x:Expr}{h:List Expr}{y:kR->kO->kS (List kP)}(hs:shp x=true)(J:PE X x (TEv Γ (kU F e)))(G:PA X h (TAv Γ y)) :
  PA X (x::h) (TAv Γ (λ ρ s=>(kU F e ρ s).bind λ d s=>(y ρ s).bind λ l s=>.ok (d::l) s)) :=
 (qy J G (zt hs)).imp λ σ H Q q=>bH7 q
theorem aY7 {k:Nat}(h:k<=1000):k<=aL:=by rw[fu];omega
theorem bE0 {es:lh}{y:List Expr}{k:Nat}{pos:Pos}(m:mEs ck es y=true)(hz:y.length<=1000)(h:PA X y (TAv Γ (ln F es))):EvT Γ X (.Tuple y k pos) (kU F (.tup es)) :=
 .val ((bJ7 h).imp λ σ H Q q=>tv_tup' hz m q)
where
 tv_tup' {es:lh} {y:List Expr} {σ:St} {H:Hp} {Q:VK} (hz:y.length<=1000) (m:mEs ck es y=true) (q:TEv Γ (kU F (.tup es)) σ H Q):tTup (TAv Γ (ln F es)) σ H Q:=by
  obtain⟨φ,ρ,s,d,s',E,R,G,q⟩:=q
  obtain⟨l,s1,e1,G⟩:=aa0 G
  cases G
  refine⟨φ,ρ,s,l,_,E,R,e1,λ vs φ1 Z g1 l1 J r1 R1=>⟨by rw[r1.length,aw8 e1 m];exact aY7 hz,λ p Y=>?_⟩⟩
  exact(q.trans g1 l1).tup R1 r1 J Y
theorem bH9 {es:lh}{y:List Expr}{pos:Pos}(m:mEs ck es y=true)(hz:y.length<=1000)(h:PA X y (TAv Γ (ln F es))):EvT Γ X (.List y pos) (kU F (.lst es)):=by
 refine .val ((bq9 h).imp λ σ H Q q=>?_)
 obtain⟨φ,ρ,s,d,s',E,R,G,q⟩:=q
 obtain⟨l,s1,e1,G⟩:=aa0 G
 obtain⟨rfl,rfl⟩:=qI G
 refine⟨φ,ρ,s,l,_,E,R,e1,λ vs φ1 Z g1 l1 J r1 R1=>⟨by rw[r1.length,aw8 e1 m];exact aY7 hz,λ p Y=>?_⟩⟩
 exact(q.trans g1 l1).alloc R1 r1 J Y
theorem bn1 {f:String}{y:lE}{Y:List Expr}{p pos:Pos}(G:CG Γ F n X ck)(hg:ck.gl (f:Str)=true)(m:mAs ck y Y=true)(h:PA X Y (TAv Γ (lK F y))):EvT Γ X (.Call (.Name (f:Str) p) Y [] pos) (kU F (.call f y)):=by
 refine .val ?_
 obtain⟨g1,g2,g3⟩:=G.gl hg
 rcases G.call f with hbad|⟨a,fd,ps,hF,J,hk,hb⟩
 ·intro a0 s σ H Q I q
  obtain⟨φ,ρ,s,d,s',E,R,Z,q⟩:=q
  obtain⟨l,s1,e1,Z⟩:=aa0 Z
  rw[hbad]at Z
  cases Z
 have key:∀ σ H Q,TEv Γ (kU F (.call f y)) σ H Q->aR1 (spV Γ (F.call f)) [] E0 (TAv Γ (lK F y)) σ H Q:=λ σ H Q q=>by
  have:=aI5 (TEv.eq (m':=λ ρ s=>(lK F y ρ s).bind λ l s=>F.call f l s) (λ ρ s=>rfl) q)
  unfold tCB at this
  unfold aR1 spV
  simpa only[bD]using this
 cases Y with
 | nil =>
  have h0:PE X (.Call (.Name (f:Str) p) [] [] pos) (aR1 (spV Γ (F.call f)) [] E0 bp4):=bj2 hF G.room g1 J hk hb .nil bY5 g2
  cases y with
  | nil =>
   refine h0.imp λ σ H Q q=>?_
   have q1:=key σ H Q q
   unfold aR1 at q1 ⊢
   exact aK1 (TAv.eq (λ ρ s=>rfl) q1)
  | _=>rw[mAs]at m<;>first|cases m|(intros;simp_all)
 | cons x Y =>
  have hs:=bf8 m
  exact(bI6 hF G.room g1 J hk hb .nil bY5 h g2 (zt (hs x (aH ..))) (zW λ e he=>hs e (az _ he)).1).imp key
def BiC (Γ:Gm)(X:Cx)(b:ls)(x:Str):Prop:=(∃ id,be x=some (.builtin id)/\ae2 X (.builtin id) (rCl Γ (mq b)))\/∃ T,be x=some (.type T)/\ae2 X (.type T) (rCl Γ (mq b))
theorem bN2 (G:CG Γ F n X ck){b:ls}{x:Str}(h:biT b=some x):x∈bNames/\BiC Γ X b x:=by
 cases b<;>first|cases h|skip
 ·exact⟨by decide,.inl ⟨_,cf0,bf5 G.K G.calm (k:=1) rfl⟩⟩
 ·exact⟨by decide,.inl ⟨_,cd8,bf5 G.K G.calm (k:=1) rfl⟩⟩
 ·exact⟨by decide,.inr ⟨_,bQ1,bJ9⟩⟩
 ·exact⟨by decide,.inl ⟨_,bG7,bf5 G.K G.calm (k:=2) rfl⟩⟩
 ·exact⟨by decide,.inl ⟨_,bT7,bf5 G.K G.calm (k:=2) rfl⟩⟩
 ·exact⟨by decide,.inl ⟨_,bT7,bf5 G.K G.calm (k:=3) rfl⟩⟩
theorem bQ5 {b:ls}{es:lh}{x:Str}{y:Expr}{J:List Expr}{p pos:Pos}(G:CG Γ F n X ck)(hb:biT b=some x)(hg:ck.gl x=true)(m:mEs ck es (y::J)=true)(h:PA X (y::J) (TAv Γ (ln F es))) :
  EvT Γ X (.Call (.Name x p) (y::J) [] pos) (kU F (.bi b es)):=by
 refine .val ?_
 obtain⟨g1,g2,g3⟩:=G.gl hg
 obtain⟨hm,hc⟩:=bN2 G hb
 have hs:=aw7 m
 have s1:=zt (es:=J) (env:=X.env) (hs y (aH ..))
 have s2:=(zW (env:=X.env) (pos:=pos) λ e he=>hs e (az _ he)).1
 rcases hc with⟨id,Y,Z⟩|⟨T,Y,Z⟩
 ·exact(av7 Z g1 (G.bi _ hm) Y h g3 g2 s1 s2).imp λ σ H Q q=>aI5 (TEv.eq (λ ρ s=>rfl) q)
 ·exact(ao3 Z g1 (G.bi _ hm) Y h g3 g2 s1 s2).imp λ σ H Q q=>aI5 (TEv.eq (λ ρ s=>rfl) q)
theorem bU2 {b:ls}{k:Nat}{t:Str}(h:biK b=some (k,t)):(1<=k/\k<=5)/\t∈bNames/\be t=some (.type (ar7 k))/\mq b=mf (my k):=by
 cases b<;>cases h
 ·exact⟨by omega,by decide,bQ1,rfl⟩
 ·exact⟨by omega,by decide,bS4,rfl⟩
 ·exact⟨by omega,by decide,cd5,rfl⟩
 ·exact⟨by omega,by decide,bh3,rfl⟩
 ·exact⟨by omega,by decide,bs9,rfl⟩
noncomputable def PEs (Γ:Gm)(F:lj)(X:Cx):lh->List Expr->Prop
 | .nil,[]=>True
 | .cons e es,x::xs=>(shp x=true/\EvT Γ X x (kU F e))/\PEs Γ F X es xs
 | _,_=>False
theorem aq1:∀ {es:lh} {y:List Expr},PEs Γ F X es y->PA X y (TAv Γ (ln F es))
 | .nil,[],_=>ag7.imp λ σ H Q q=>aK1 (TAv.eq (λ ρ s=>rfl) q)
 | .nil,_::_,h=>h.elim
 | .cons _ _,[],h=>h.elim
 | .cons e es,x::y,h=>(aL5 h.1.1 h.1.2.1 (aq1 h.2)).imp λ σ H Q q=>TAv.eq (λ ρ s=>rfl) q
theorem by1 {b:ls}{es:lh}{k:Nat}{t:Str}{a:Expr}{p py pos:Pos}(G:CG Γ F n X ck)(hb:biK b=some (k,t))(hg:ck.gl "isinstance"=true)(J:ck.gl t=true)(h:PEs Γ F X es [a]) :
  EvT Γ X (.Call (.Name "isinstance" p) [a,.Name t py] [] pos) (kU F (.bi b es)):=by
 refine .val ?_
 obtain⟨g1,g2,g3⟩:=G.gl hg
 obtain⟨t1,t2,t3⟩:=G.gl J
 obtain⟨hk,y,hv,Y⟩:=bU2 hb
 have Z:PE X (.Name t py) (tC (.ty (ar7 k))):=bI5 t1 (G.bi _ y) hv rfl t3 t2
 cases es with
 | nil=>exact h.elim
 | cons e es =>
  cases es with
  | cons _ _=>exact h.2.elim
  | nil =>
   obtain⟨⟨hs,ha,_⟩,_⟩:=h
   have hA:PA X [a,.Name t py] (aw9 (TEv Γ (kU F e)) (aw9 (tC (.ty (ar7 k))) bp4)):=qy ha (qy Z ag7 (zt rfl)) (zt hs)
   refine(av7 (bQ9 G.K hk) g1 (G.bi _ (by decide)) aA7 hA g3 g2 (zt hs) (zW λ e he=>by rw[bJ.mp he];rfl).1).imp λ σ H Q q=>?_
   obtain⟨φ,ρ,s,d,s',E,R,y,q⟩:=q
   obtain⟨l,s1,e1,y⟩:=aa0 y
   obtain⟨x,s2,e2,e1⟩:=aa0 e1
   obtain⟨l2,s3,e3,e1⟩:=aa0 e1
   cases e3
   cases e1
   rw[Y]at y
   refine⟨φ,ρ,s,x,_,E,R,e2,λ v φ1 H1 g1 l1 b1 r1 R1=>?_⟩
   exact⟨v,rfl,φ1,_,[x],d,s',R1,.cons r1 .nil,by unfold kQ;rw[b1];rfl,y,q.trans g1 l1⟩
end
section
variable {Γ:Gm} {F:lj} {n:Nat} {X:Cx} {ck:Ck} {σ:St} {H:Hp}
def TAp (Γ:Gm)(cells:List (Str×Addr))(N:List Str)(m:kR->kO->kS (List kP)):TA:=λ σ H Q=>∃ φ ρ s l s',RE Γ φ H s.length ρ σ/\Rp Γ φ H s/\m ρ s=.ok l s' /\
 ∀ vs φ' H',Gr φ s H φ' s' H'->s.length<=s'.length->kQ s'.length l=true->PVL Γ cells N σ φ' H' l vs->Rp Γ φ' H' s'->Q vs H'
theorem TAp.eq {cells:List (Str×Addr)}{N:List Str}{m m':kR->kO->kS (List kP)}{Q:List V->Hp->Prop}(e:∀ ρ s,m ρ s=m' ρ s)(q:TAp Γ cells N m σ H Q):TAp Γ cells N m' σ H Q:=by
 obtain⟨φ,ρ,s,l,s',E,R,h,q⟩:=q
 exact⟨φ,ρ,s,l,s',E,R,by rw[<-e];exact h,q⟩
theorem bx1 {cells:List (Str×Addr)}{N:List Str}{Q:List V->Hp->Prop}(h:TAp Γ cells N (λ ρ s=>.ok [] s) σ H Q):bp4 σ H Q:=by
 obtain⟨φ,ρ,s,l,s',E,R,y,q⟩:=h
 cases y
 exact q [] φ H (Gr.refl _ _ _) (ai _) rfl .nil R
theorem bQ3 {cells:List (Str×Addr)}{N:List Str}{m:kR->kO->kS kP}{Y:kR->kO->kS (List kP)}{Q:List V->Hp->Prop}(h:TAp Γ cells N (λ ρ s=>(m ρ s).bind λ d s=>(Y ρ s).bind λ l s=>.ok (d::l) s) σ H Q):aw9 (TEv Γ m) (TAp Γ cells N Y) σ H Q:=by
 obtain⟨φ,ρ,s,l,s',E,R,G,q⟩:=h
 obtain⟨x,s1,e1,G⟩:=aa0 G
 obtain⟨y,s2,e2,G⟩:=aa0 G
 cases G
 refine⟨φ,ρ,s,x,s1,E,R,e1,λ v φ1 H1 g1 l1 J r1 R1=>?_⟩
 refine⟨φ1,ρ,s1,y,s',E.mono g1 l1,R1,e2,λ vs φ2 H2 g2 Z b2 r2 R2=>?_⟩
 exact q (v::vs) φ2 H2 (g1.trans g2 l1) (am l1 Z) (by unfold kQ;rw[zE Z x J,b2];rfl) (.cons (PVp.mono g2 J (.inl r1)) r2) R2
theorem an5 {ρ:kR}:∀ {is:List Nat} {cs:List kP},lp ρ is=some cs->cs.length=is.length/\∀(i j:Nat),is[i]?=some j->∃ d,cs[i]?=some d/\ρ[j]?=some (some d)
 | [],cs,h=>by cases h;exact⟨rfl,λ i j e=>by cases e⟩
 | k::is,cs,h=>by
  unfold lp at h
  cases e:ρ[k]? with
  | none=>rw[e]at h;cases h
  | some o =>
   cases o with
   | none=>rw[e]at h;cases h
   | some d =>
    cases e2:lp ρ is with
    | none=>rw[e,e2]at h;cases h
    | some l =>
     rw[e,e2]at h
     cases h
     obtain⟨J,G⟩:=an5 e2
     refine⟨by rw[aU,aU,J],λ i j y=>?_⟩
     cases i with
     | zero=>cases y;exact⟨d,rfl,e⟩
     | succ i=>exact G i j y
theorem be7 {φ:Nat->Addr}{s:kO}{ρ:kR}(E:RE Γ φ H s.length ρ σ):∀ {is:List Nat} {cs:List kP},lp ρ is=some cs->∃ cap,RVL Γ φ H cs cap/\kQ s.length cs=true/\∀(i j:Nat) (v:V),is[i]?=some j->cap[i]?=some v->σ[j]?=some (some v)
 | [],cs,h=>by cases h;exact⟨[],.nil,rfl,λ i j v e=>by cases e⟩
 | k::is,cs,h=>by
  unfold lp at h
  cases e:ρ[k]? with
  | none=>rw[e]at h;cases h
  | some o =>
   cases o with
   | none=>rw[e]at h;cases h
   | some d =>
    cases e2:lp ρ is with
    | none=>rw[e,e2]at h;cases h
    | some l =>
     rw[e,e2]at h
     cases h
     obtain⟨cap,Z,Y,h3⟩:=be7 E e2
     obtain⟨hb,v,J,hv⟩:=E.val k d e
     refine⟨v::cap,.cons hv Z,by unfold kQ;rw[hb,Y];rfl,λ i j w y G=>?_⟩
     cases i with
     | zero=>cases y;cases G;exact J
     | succ i=>exact h3 i j w y G
theorem bP0 {id:String}{h:List Nat}{params:a9}{body:Expr}{scope:Scope}{pos:Pos}{c P:Addr}{J:LamI}{xs:List Expr}{ms:kR->kO->kS (List kP)}(L:LamHere Γ X X.N id h params body scope c P J)(hnm:J.nm=none)(h2:PA X xs (TAp Γ X.env.cells X.N ms)) :
  PA X (.Lambda params body scope pos::xs) (TAp Γ X.env.cells X.N (λ ρ s=>match lp ρ h with|some cs=>(ms ρ s).bind λ l s=>.ok (.clo id cs::l) s|none=>.bad)):=by
 refine(qy (ba8 L.code L.hd L.bm L.ck L.df) h2).imp λ σ H Q q=>?_
 obtain⟨φ,ρ,s,l,s',E,R,G,q⟩:=q
 have G:(match lp ρ h with|some cs=>(ms ρ s).bind λ l s=>DV.R.ok (DV.D.clo id cs::l) s|none=>DV.R.bad)=.ok l s':=G
 cases eg:lp ρ h with
 | none=>rw[eg]at G;exact fb G
 | some cs =>
  rw[eg]at G
  obtain⟨y,s2,e2,G⟩:=aa0 G
  cases G
  obtain⟨cap,Z,Y,hσ⟩:=be7 E eg
  have a0:=(an5 eg).1
  have hq:J.qual=X.env.qual ++ "<lambda>":=by rw[L.q];unfold LamI.own;rw[hnm]
  rw[<-hq]
  refine bi7 R.tab L.nd L.tab λ f H' e st tb hf ho=>?_
  obtain⟨g1,R1⟩:=R.sameT e st tb
  refine⟨φ,ρ,s,y,s',E.mono g1 (ai _),R1,e2,λ vs φ2 H2 g2 l2 b2 r2 R2=>?_⟩
  refine q (.ref f::vs) φ2 H2 (g1.trans g2 (ai _)) l2 (by unfold kQ kT;rw[ab2 l2 cs Y,b2];rfl) (.cons ?_ r2) R2
  have p1:PVp Γ X.env.cells X.N σ φ H' (.clo id cs) (.ref f):=by
   refine .inr ⟨id,cs,rfl,f,J,rfl,L.lg,by unfold ah2;rw[hnm];dsimp only;rw[L.p,L.b,L.s];exact ho,by rw[a0,L.len],by rw[L.s];exact L.cl,cap,RVL.mono g1 cs cap Y Z,λ i x v e1 e3=>?_⟩
   have hi:i<h.length:=by rw[<-L.len];exact(ab.mp e1).1
   have hj:h[i]?=some h[i]:=ag hi
   exact⟨by rw[L.s];exact L.fr x (aW e1),h[i],L.at_ i _ x hj e1,hσ i _ v hj e3⟩
  exact p1.mono g2 (by unfold kT;exact Y)
theorem bd8 {f:String}{ms:kR->kO->kS (List kP)}{e:Expr}{es:List Expr}{p pos:Pos}(G:CG Γ F n X ck)(hg:ck.gl (f:Str)=true)(a1:∀ x,X.fn x=true)(a0:∀ x c,X.env.cells.lookup x=some c->X.env.kindOf x=some .cell\/X.env.kindOf x=some .free)
  (hs:∀ y∈e::es,shp y=true) (h:PA X (e::es) (TAp Γ X.env.cells X.N ms)) :
  PE X (.Call (.Name (f:Str) p) (e::es) [] pos) (TEv Γ (λ ρ s=>(ms ρ s).bind λ l s=>(F.call f l s).bind λ d s'=>if(d.ncl&&s'.all mB)=true then .ok d s' else .bad)):=by
 obtain⟨g1,g2,g3⟩:=G.gl hg
 rcases G.call f with hb|⟨a,fd,ps,hF,Z,hk,hB⟩
 ·intro a2 s σ H Q I q
  obtain⟨φ,ρ,s,d,s',E,R,J,q⟩:=q
  obtain⟨l,s1,e1,J⟩:=aa0 J
  rw[hb]at J;exact fb J
 ·refine(aL3 hF G.room g1 Z hk hB a1 h g2 (zt (hs e (aH ..))) (zW λ y hy=>hs y (az _ hy)).1).imp λ σ H Q q=>?_
  obtain⟨φ,ρ,s,d,s',E,R,J,q⟩:=q
  obtain⟨l,s1,e1,J⟩:=aa0 J
  obtain⟨d2,s2,e2,J⟩:=aa0 J
  split at J
  case isFalse=>exact fb J
  rename_i hn
  cases J
  rw[au]at hn
  refine⟨φ,ρ,s,l,s1,E,R,e1,λ vs φ1 H1 gg l1 b1 r1 R1=>λ H2 Y=>?_⟩
  obtain⟨gs,R2⟩:=R1.same Y.same
  refine⟨φ1,s1,l,d,s',R2,r1.caught Y a0 b1,b1,e2,λ v φ' H3 g' l' b' r' R'=>?_⟩
  have hc:Cells X.env.cells H3:=Y.cells.kp g'.w.kp
  exact q v φ' (ac7 X.env.cells H3) (gg.trans (Gr.caught Y g') l1) (am l1 l') b' (RV.dropC hc d v hn.1 r') (R'.dropC hc hn.2)
theorem aV3 {i:Nat}{x:Str}{es:lh}{e:Expr}{xs:List Expr}{p pos:Pos}(G:CG Γ F n X ck)(hv:ck.var i x=true)(hs:∀ y∈e::xs,shp y=true)(h:PA X (e::xs) (TAv Γ (ln F es)))(a1:PE X (.Name x p) (bs1 i)) :
  PE X (.Call (.Name x p) (e::xs) [] pos) (TEv Γ (kU F (.callV i es))):=by
 refine(bl7 rfl rfl rfl rfl rfl G.room a1 h (zt (hs e (aH ..))) (zW λ y hy=>hs y (az _ hy)).1).imp λ σ H Q q=>?_
 obtain⟨φ,ρ,s,d,s',E,R,Y,q⟩:=q
 have Y:((ln F es ρ s).bind λ l s=>match ρ[i]? with
  | some (some (.fn f))=>F.call f l s
  | some (some (.clo id cs))=>F.lam id cs l s
  | _=>.bad)=.ok d s':=Y
 obtain⟨l,s1,e1,Y⟩:=aa0 Y
 cases eρ:ρ[i]? with
 | none=>rw[eρ]at Y;exact fb Y
 | some o =>
  cases o with
  | none=>rw[eρ]at Y;exact fb Y
  | some v0 =>
   obtain⟨hb,v,hσ,rv⟩:=E.val i v0 eρ
   cases v0 with
   | fn f =>
    rw[eρ]at Y
    have Y:F.call f l s1=.ok d s':=Y
    unfold RV at rv
    obtain⟨a,ha,e2⟩:=rv
    subst e2
    obtain⟨h1,h2⟩:=G.fa f a ha
    rcases G.call f with hb|⟨a',fd,ps,hF,a2,hk,hB⟩
    ·rw[hb]at Y;exact fb Y
    ·rw[h1]at a2
     cases a2
     refine⟨a,hσ,.inr h2,φ,ρ,s,l,s1,E,R,e1,λ vs φ1 H1 g1 l1 b1 r1 R1=>?_⟩
     exact⟨.inr h2,_,_,ClOk.ofFn hF hB,trivial,φ1,s1,l,d,s',R1,r1,b1,Y,q.trans g1 l1⟩
   | clo id cs =>
    rw[eρ]at Y
    have Y:F.lam id cs l s1=.ok d s':=Y
    unfold RV at rv
    unfold kT at hb
    obtain⟨f,cap,J,a0,e2,a4,a3,a6,a5⟩:=rv
    subst e2
    have fin:∀ H',CloAt H' f J cap a0->bv9 X.K H' f:=λ H' h'=>h'.fn
    refine⟨f,hσ,fin H a3,φ,ρ,s,l,s1,E,R,e1,λ vs φ1 H1 g1 l1 b1 r1 R1=>?_⟩
    have Z:=a3.kp g1.w.kp
    exact⟨fin H1 Z,_,_,G.cl id J f cap a0 a4 a6,Z,φ1,s1,cs,l,d,s',R1,r1,RVL.mono g1 cs cap hb a5,b1,ab2 l1 cs hb,Y,q.trans g1 l1⟩
   | _=>rw[eρ]at Y;exact fb Y
end
section
variable {Γ:Gm} {F:lj} {n:Nat} {X:Cx} {ck:Ck} {σ:St} {H:Hp} {Q:VK}
def SeqV (K:ae)(H:Hp)(v:V)(ys:List V):Prop:=(∃ a,v=.ref a/\(SqL K H a ys\/SqT K H a ys))\/∃ x:List Nat,v=.str ⟨x.toArray⟩/\x.length<=kY/\ys=sgV x
def TLv (Γ:Gm)(m:kR->kO->kS (List kP)):TE:=λ σ H Q=>∃ φ ρ s l s',RE Γ φ H s.length ρ σ/\Rp Γ φ H s/\m ρ s=.ok l s' /\
 ∀ v ys φ' H',Gr φ s H φ' s' H'->s.length<=s'.length->kQ s'.length l=true->SeqV Γ.K H' v ys->RVL Γ φ' H' l ys->Rp Γ φ' H' s'->Q v H'
theorem aL2 {m:kR->kO->kS (List kP)}(h:TLv Γ m σ H Q):TFv Γ m σ H Q:=by
 obtain⟨φ,ρ,s,l,s',E,R,J,q⟩:=h
 exact⟨φ,ρ,s,l,s',E,R,J,λ p ys φ' H' g hl hb y h0 ho r G=>q (.ref p) ys φ' H' g hl hb (.inl ⟨p,rfl,.inl (SqL.of y)⟩) r G⟩
theorem aC8 {φ:Nat->Addr}:∀ x:List Nat,RVL Γ φ H (x.map λ c=>.str [c]) (sgV x)
 | []=>.nil
 | c::x=>.cons (RV.strI (by unfold kY;simp)) (aC8 x)
theorem as6 {k:Nat}:∀ x:List Nat,kQ k (x.map λ c=>.str [c])=true
 | []=>rfl
 | c::x=>by rw[aJ];unfold kQ;rw[as6 x];rfl
theorem bO3 {m:kR->kO->kS kP}(h:TLv Γ (λ ρ s=>(m ρ s).bind λ d s=>DV.ay7 d s) σ H Q):TEv Γ m σ H Q:=by
 obtain⟨φ,ρ,s,l,s',E,R,y,q⟩:=h
 obtain⟨d,s1,e1,y⟩:=aa0 y
 refine⟨φ,ρ,s,d,s1,E,R,e1,λ v φ1 Z g1 l1 b1 r1 R1=>?_⟩
 cases d with
 | tup l' =>
  cases y
  obtain⟨a,G,rfl,Y,J⟩:=r1.tupE
  unfold kT at b1
  exact q _ G φ1 Z g1 l1 b1 (.inl ⟨a,rfl,.inr Y⟩) J R1
 | str x =>
  cases y
  exact q v (sgV x) φ1 Z g1 l1 (as6 x) (.inr ⟨x,r1.strE,r1.strL,rfl⟩) (aC8 x) R1
 | ref k =>
  have y:(match s1[k]? with
   | some (.lst l)=>DV.R.ok l s1
   | some (.ro l)=>.ok l s1
   | _=>.bad)=.ok l s':=y
  rw[r1.refE]
  cases e:s1[k]? with
  | none=>rw[e]at y;exact fb y
  | some ob =>
   rw[e]at y
   cases ob with
   | lst l' =>
    cases y
    obtain⟨G,Y,J⟩:=R1.addr e
    have:=R1.wf k _ e
    unfold kW at this
    exact q _ G φ1 Z g1 l1 this (.inl ⟨_,rfl,.inl (SqL.of Y)⟩) J R1
   | ro l' =>
    cases y
    obtain⟨G,Y,J⟩:=R1.obj k _ e
    have:=R1.wf k _ e
    unfold kW at this
    exact q _ G φ1 Z g1 l1 this (.inl ⟨_,rfl,.inl Y.1⟩) J R1
   | _=>exact fb y
 | _=>exact fb y
theorem TLv.eq {m m':kR->kO->kS (List kP)}(e:∀ ρ s,m ρ s=m' ρ s)(q:TLv Γ m σ H Q):TLv Γ m' σ H Q:=by
 have:m=m':=funext λ ρ=>funext λ s=>e ρ s
 subst this;exact q
theorem aQ5 {m:kR->kO->kS (List kP)}{a:Expr}{p pos:Pos}(G:CG Γ F n X ck)(hg:ck.gl "tuple"=true)(hs:shp a=true)(h:PE X a (TLv Γ m)) :
  PE X (.Call (.Name "tuple" p) [a] [] pos) (TEv Γ (λ ρ s=>(m ρ s).bind λ l s=>lP .tuple l s)):=by
 obtain⟨g1,g2,g3⟩:=G.gl hg
 refine(ao3 ((aF5 G.K).or (aI6 G.calm)) g1 (G.bi _ (by decide)) bh3 (qy h ag7 (zt hs)) g3 g2 (zt hs) rfl).imp λ σ H Q q=>?_
 obtain⟨φ,ρ,s,d,s',E,R,Y,q⟩:=q
 obtain⟨l,s1,e1,Y⟩:=aa0 Y
 cases Y
 refine⟨φ,ρ,s,l,_,E,R,e1,λ v ys φ1 Z g1 l1 y hq r1 R1=>?_⟩
 rcases hq with⟨a,rfl,hq|hq⟩|⟨x,rfl,hx,rfl⟩
 ·exact .inl ⟨a,ys,rfl,.inl ⟨hq,λ p J=>(q.trans g1 l1).tup R1 r1 y J⟩⟩
 ·exact .inl ⟨a,ys,rfl,.inr ⟨hq,q _ φ1 Z g1 l1 (by unfold kT;exact y) (RV.tupI hq r1) R1⟩⟩
 ·exact .inr ⟨x,rfl,hx,λ p J=>(q.trans g1 l1).tup R1 r1 y J⟩
theorem bg0 {m:kR->kO->kS (List kP)}{a:Expr}{p pos:Pos}(G:CG Γ F n X ck)(Z:ck.gl "list"=true)(hs:shp a=true)(h:PE X a (TLv Γ m)) :
  PE X (.Call (.Name "list" p) [a] [] pos) (TEv Γ (λ ρ s=>(m ρ s).bind λ l s=>lP .list l s)):=by
 obtain⟨g1,g2,g3⟩:=G.gl Z
 refine(ao3 ((aS9 G.K).or (aQ0 G.calm)) g1 (G.bi _ (by decide)) bs9 (qy h ag7 (zt hs)) g3 g2 (zt hs) rfl).imp λ σ H Q q=>?_
 obtain⟨φ,ρ,s,d,s',E,R,J,q⟩:=q
 obtain⟨l,s1,e1,J⟩:=aa0 J
 obtain⟨rfl,rfl⟩:=qI J
 refine⟨φ,ρ,s,l,_,E,R,e1,λ v ys φ1 H1 g1 l1 Y hq r1 R1=>?_⟩
 rcases hq with⟨a,rfl,hq⟩|⟨x,rfl,hx,rfl⟩
 ·exact .inl ⟨a,ys,rfl,hq,λ p y=>(q.trans g1 l1).alloc R1 r1 Y y⟩
 ·exact .inr ⟨x,rfl,hx,λ p y=>(q.trans g1 l1).alloc R1 r1 Y y⟩
theorem bR4 {m:kR->kO->kS (List kP)}{k:lY}{x:Str}{a:Expr}{p pos:Pos}(G:CG Γ F n X ck)(hk:mkT k=some x)(y:ck.gl x=true)(hs:shp a=true)(h:PE X a (TLv Γ m)) :
  PE X (.Call (.Name x p) [a] [] pos) (TEv Γ (λ ρ s=>(m ρ s).bind λ l s=>lP k l s)):=by
 cases k<;>cases hk
 ·exact aQ5 G y hs h
 ·exact bg0 G y hs h
def FrC (Γ:Gm)(X:Cx)(x:Str)(k:lY):Prop:=∃ id r,be x=some (.builtin id)/\x∈bNames/\ae2 X (.builtin id) r/\∀ φ H s l ys p d s' Q,Rp Γ φ H s->RVL Γ φ H l ys->H p=some (.lst ys)->lP k l s=.ok d s'->af8 Γ φ s H d s' Q->r [.ref p] H Q
theorem aN7:∀(l:List Int) (a:Int),(l.foldl min a=a\/l.foldl min a∈l)/\l.foldl min a<=a/\∀ y∈l,l.foldl min a<=y
 | [],a=>⟨.inl rfl,eF _,λ y hy=>by cases hy⟩
 | b::l,a=>by
  obtain⟨G,J,h3⟩:=aN7 l (min a b)
  rw[cj]
  refine⟨?_,by omega,λ y hy=>?_⟩
  ·rcases G with h|h
   ·rw[h]
    rcases kC a b with z|z
    ·left;omega
    ·right;rw[show min a b=b by omega];exact aH ..
   ·exact .inr (az _ h)
  ·rcases aI.mp hy with z|z
   ·rw[z];omega
   ·exact h3 y z
theorem aK9 {l:List Int}{m:Int}(h:lF l=some m):m∈l/\∀ y∈l,m<=y:=by
 cases l with
 | nil=>cases h
 | cons a l =>
  cases h
  obtain⟨J,G,h3⟩:=aN7 l a
  refine⟨?_,λ y hy=>?_⟩
  ·rcases J with h|h
   ·rw[h];exact aH ..
   ·exact az _ h
  ·rcases aI.mp hy with z|z
   ·rw[z];exact G
   ·exact h3 y z
theorem bB4 (G:CG Γ F n X ck){k:lY}{x:Str}(hk:mkF k=some x):FrC Γ X x k:=by
 cases k<;>cases hk
 ·refine⟨_,_,ce5,by decide,ba4 G.calm G.K,λ φ H s l ys p d s' Q R r J h q=>?_⟩
  unfold lP at h
  dsimp only at h
  cases e:lI l with
  | none=>rw[e]at h;exact fb h
  | some bs =>
   rw[e]at h
   cases h
   have:=ap5 e
   subst this
   exact⟨p,bs,rfl,SqL.of (by rw[<-r.bls];exact J),q.here R rfl RV.blI⟩
 ·refine⟨_,_,bG7,by decide,aW3 G.calm G.K,λ φ H s l ys p d s' Q R r J h q=>?_⟩
  unfold lP at h
  dsimp only at h
  cases e:ly l with
  | none=>rw[e]at h;exact fb h
  | some is =>
   rw[e]at h
   have h:(match lF is with|some m=>DV.R.ok (DV.D.int m) s|none=>.bad)=.ok d s':=h
   cases e2:lF is with
   | none=>rw[e2]at h;exact fb h
   | some mm =>
    rw[e2]at h
    cases h
    have:=qk e
    subst this
    refine⟨p,is,rfl,SqL.of (by rw[<-r.ints];exact J),(λ(z:is=[])=>by rw[z]at e2;cases e2),λ m h y=>?_⟩
    obtain⟨a,b⟩:=aK9 e2
    have:m=mm:=jS (y mm a) (b m h)
    rw[this]
    exact q.here R rfl RV.intI
theorem bN6 {m:kR->kO->kS (List kP)}{k:lY}{x:Str}{a:Expr}{p pos:Pos}(G:CG Γ F n X ck)(hk:mkF k=some x)(Y:ck.gl x=true)(hs:shp a=true)(h:PE X a (TFv Γ m)) :
  PE X (.Call (.Name x p) [a] [] pos) (TEv Γ (λ ρ s=>(m ρ s).bind λ l s=>lP k l s)):=by
 obtain⟨g1,g2,Z⟩:=G.gl Y
 obtain⟨id,r,hb,hx,hc,hr⟩:=bB4 (Γ:=Γ) G hk
 refine(av7 hc g1 (G.bi _ hx) hb (qy h ag7 (zt hs)) Z g2 (zt hs) rfl).imp λ σ H Q q=>?_
 obtain⟨φ,ρ,s,d,s',E,R,y,q⟩:=q
 obtain⟨l,s1,e1,y⟩:=aa0 y
 exact⟨φ,ρ,s,l,_,E,R,e1,λ p ys φ1 J g1 l1 b1 hp h0 ho r1 R1=>hr φ1 J s1 l ys p d s' Q R1 r1 hp y (q.trans g1 l1)⟩
theorem bR1 {md:kR->kO->kS (kP)}{ml:kR->kO->kS (List kP)}{a de:Expr}{p pos kp:Pos}(G:CG Γ F n X ck)(hg:ck.gl "min"=true)(hs:shp a=true)(h:PE X a (TFv Γ ml))(hd:PE X de (TEv Γ md)) :
  PE X (.Call (.Name "min" p) [a] [⟨some "default",de,kp⟩] pos) (TEv Γ (λ ρ s=>(ml ρ s).bind λ l s=>(md ρ s).bind λ d s=>DV.mkD .min l d s)):=by
 obtain⟨g1,g2,g3⟩:=G.gl hg
 refine(bx7 rfl G.calm g1 (G.bi _ (by decide)) h hd (zt hs)).imp λ σ H Q q=>?_
 obtain⟨φ,ρ,s,d,s',E,R,J,q⟩:=q
 obtain⟨l,s1,e1,J⟩:=aa0 J
 obtain⟨d0,s2,e2,J⟩:=aa0 J
 refine⟨φ,ρ,s,l,s1,E,R,e1,λ p ys φ1 H1 g1 l1 b1 hp h0 ho r1 R1=>?_⟩
 refine⟨φ1,ρ,s1,d0,s2,E.mono g1 l1,R1,e2,λ v φ2 H2 g2 l2 b2 r2 R2=>?_⟩
 have a1:H2 p=some (.lst ys):=g2.fr p _ hp (by nofun) (λ i ob e mu=>ho i ob e mu)
 unfold DV.mkD at J
 dsimp only at J
 cases e:ly l with
 | none=>rw[e]at J;exact fb J
 | some is =>
  rw[e]at J
  have Y:(match lF is with|some m=>DV.R.ok (DV.D.int m) s2|none=>DV.R.ok d0 s2)=.ok d s':=J
  have:=qk e
  subst this
  have hq:=q.trans (g1.trans g2 l1) (am l1 l2)
  refine⟨p,is,rfl,SqL.of (by rw[<-r1.ints];exact a1),λ z=>?_,λ m Z a0=>?_⟩
  ·subst z
   cases Y
   exact hq.here R2 b2 r2
  ·clear e2
   cases e2:lF is with
   | none =>
    cases is with
    | nil=>cases Z
    | cons _ _=>cases e2
   | some mm =>
    rw[e2]at Y
    cases Y
    obtain⟨x,y⟩:=aK9 e2
    have:m=mm:=jS (a0 mm x) (y m Z)
    rw[this]
    exact hq.here R2 rfl RV.intI
theorem bi0 {φ φ':Nat->Addr}{s s':kO}{H':Hp}{r:Nat}{l:List kP}(R:Rp Γ φ H s)(g:Gr φ s H φ' s' H')(hb:r<s.length)(e:s'[r]?=some (.lst l)):tyV Γ.K "list" (.ref (φ r)) H:=by
 obtain⟨h,y⟩:∃ h,s[r]?=some h:=⟨s[r],ag hb⟩
 have J:=g.mu r h _ y e rfl
 have ho:=R.obj r h y
 cases h with
 | lst l0 =>
  obtain⟨G,Y,_⟩:=ho
  exact .inl ⟨rfl,G,SqL.of Y⟩
 | ro _=>cases J
 | dic _=>have:=g.kd r _ _ y e;cases this
 | ins _ _=>exact ho.elim
def mtR (Γ:Gm)(m:lZ):V->List V->Hp->VK->Prop:=λ x vs H Q=>∃ φ s a l d s',Rp Γ φ H s/\RV Γ φ H a x/\RVL Γ φ H l vs/\a.bnd s.length=true/\kQ s.length l=true/\lV m a l s=.ok d s'/\af8 Γ φ s H d s' Q
theorem bU0:kY<aL:=by rw[fu];decide
theorem aM3 {m:lZ}{x:Str}{k:Nat}(y:mtT m=some (x,k)){a:kP}{l:List kP}{s s':kO}{d:kP}(h:lV m a l s=.ok d s'):∃ r l0,a=.ref r/\s[r]?=some (.lst l0):=by
 have go:∀ {r:Nat} {f:List kP->kS kP},(match s[r]? with|some (.lst l)=>f l|_=>.bad)=.ok d s'->∃ l0,s[r]?=some (.lst l0):=λ {r f} h=>by
  cases e:s[r]? with
  | none=>rw[e]at h;exact fb h
  | some ob =>
   cases ob with
   | lst l0=>exact⟨l0,rfl⟩
   | _=>rw[e]at h;exact fb h
 unfold lV at h
 split at h
 ·obtain⟨l0,e⟩:=go h;exact⟨_,l0,rfl,e⟩
 ·obtain⟨l0,e⟩:=go h;exact⟨_,l0,rfl,e⟩
 ·obtain⟨l0,e⟩:=go h;exact⟨_,l0,rfl,e⟩
 ·obtain⟨l0,e⟩:=go h;exact⟨_,l0,rfl,e⟩
 ·obtain⟨l0,e⟩:=go h;exact⟨_,l0,rfl,e⟩
 ·exact fb h
theorem bk1:MtR X "list.append" (mtR Γ .append):=by
 intro J sh σ H x vs v us Q I rx rv h
 obtain⟨φ,s,a,l,d,s',R,ra,rl,ba,bl,G,q⟩:=h
 obtain⟨r,l0,rfl,e⟩:=aM3 (m:=.append) rfl G
 cases l with
 | nil=>exact fb G
 | cons y t =>
  cases t with
  | cons _ _=>exact fb G
  | nil =>
   simp only[lV,e]at G
   split at G
   case isFalse=>exact fb G
   rename_i hlt
   cases G
   obtain⟨z,rfl,rz⟩:=rl.one
   obtain⟨xs,h1,Z⟩:=R.addr e
   have Y:kQ s.length l0=true:=by have:=R.wf r _ e;unfold kW at this;exact this
   refine aA6 J sh σ H x [z] v us Q I rx rv ⟨φ r,xs,z,ra.refE,rfl,h1,by rw[Z.length];have:=bU0;omega,?_⟩
   exact q.put R e (Z.append (.cons rz .nil)) (qo Y bl) rfl RV.nonI
structure MtOk (Γ:Gm)(X:Cx)(m:lZ)(x:Str):Prop where
 ex:∃ id,PySem.Slot "list" x id/\typeOf (.builtin id)=pure (.type "method_descriptor")/\MtR X id (mtR Γ m)
theorem bW6 (G:X.K=Γ.K)(y:Room (k7+1) X.A){m:lZ}{x:Str}{k:Nat}(h:mtT m=some (x,k)):MtOk Γ X m x:=by
 cases m<;>cases h
 ·exact⟨_,gH,PySem.F.type_list_append,bk1⟩
theorem bm4 {m:lZ}{o:lM}{es:lh}{ob:Expr}{Y:List Expr}{x:Str}{ap cp:Pos}(G:CG Γ F n X ck)(hm:mtT m=some (x,Y.length))(hab:ch1 ob=true)(hl:(ap.endLine==cp.line)=true)(ho:PE X ob (TEv Γ (kU F o)))
  (a3:mEs ck es Y=true) (h:PEs Γ F X es Y):EvT Γ X (.Call (.Attribute ob x ap) Y [] cp) (kU F (.meth m o es)):=by
 refine .val ?_
 obtain⟨id,slot,a2,hr⟩:=(bW6 (Γ:=Γ) (X:=X) G.K (G.room.mono G.deep) hm).ex
 have hs:=aw7 a3
 have key:∀ σ H Q,TEv Γ (kU F (.meth m o es)) σ H Q->tBM Γ.K "list" (mtR Γ m) (TEv Γ (kU F o)) (TAv Γ (ln F es)) σ H Q:=λ σ H Q q=>by
  obtain⟨φ,ρ,s,d,s',E,R,J,q⟩:=q
  obtain⟨a,s1,e1,J⟩:=aa0 J
  obtain⟨l,s2,e2,J⟩:=aa0 J
  refine⟨φ,ρ,s,a,s1,E,R,e1,λ v φ1 H1 g1 l1 Z r1 R1=>?_⟩
  obtain⟨r,l0,rfl,er⟩:=aM3 hm J
  rw[r1.refE]
  have hk:∀ φ2 H2,Gr φ1 s1 H1 φ2 s2 H2->tyV Γ.K "list" (.ref (φ1 r)) H1:=λ φ2 H2 g2=>bi0 R1 g2 (by unfold kT at Z;exact of_decide_eq_true Z) er
  have a0:TAv Γ (ln F es) σ H1 λ Y H2=>mtR Γ m (.ref (φ1 r)) Y H2 Q:=by
   refine⟨φ1,ρ,s1,l,s2,E.mono g1 l1,R1,e2,λ vs φ2 H2 g2 l2 b2 r2 R2=>?_⟩
   refine⟨φ2,s2,.ref r,l,d,s',R2,?_,r2,zE l2 _ Z,b2,J,q.trans (g1.trans g2 l1) (am l1 l2)⟩
   have:=RV.mono g2 _ _ Z r1
   rw[r1.refE]at this
   exact this
  refine⟨?_,a0⟩
  have hlt:r<s1.length:=by unfold kT at Z;exact of_decide_eq_true Z
  obtain⟨o0,e0⟩:∃ o0,s1[r]?=some o0:=⟨s1[r],ag hlt⟩
  have a1:=R1.obj r o0 e0
  cases o0 with
  | lst l0 =>
   obtain⟨Y,h1,_⟩:=a1
   exact .inl ⟨rfl,Y,SqL.of h1⟩
  | ro l0 =>
   obtain⟨Y,h1,_⟩:=a1
   exact .inl ⟨rfl,Y,h1.1⟩
  | dic _ =>
   obtain⟨o',eo,ek⟩:=DV.aj3 G.fk es ρ s1 _ _ e2 r _ e0
   rw[er]at eo;cases eo;cases ek
  | ins _ _=>exact a1.elim
 cases Y with
 | nil =>
  have p0:PE X (.Call (.Attribute ob x ap) [] [] cp) (tBM0 X.K "list" (mtR Γ m) (TEv Γ (kU F o))):=bP7 fY slot a2 hr ho (aW2 hab) hl
  rw[G.K]at p0
  refine p0.imp λ σ H Q q=>?_
  cases es with
  | cons _ _=>exact h.elim
  | nil =>
   obtain⟨φ,ρ,s,d,s',E,R,J,k⟩:=key σ H Q q
   refine⟨φ,ρ,s,d,s',E,R,J,λ v φ1 H1 g1 l1 Z r1 R1=>?_⟩
   obtain⟨h1,h2⟩:=k v φ1 H1 g1 l1 Z r1 R1
   exact⟨h1,aK1 (TAv.eq (λ ρ s=>rfl) h2)⟩
 | cons y ys =>
  refine(bR8 G.K fY slot a2 hr ho (aq1 h) (aW2 hab) ?_ hl (zt (hs y (aH ..))) (zW λ e he=>hs e (az _ he)).1).imp key
  rw[(zW hs).2]
  have:(y::ys).length<=1:=by
   unfold mtT at hm
   split at hm<;>first|(have:=av hm;have:=congrArg Prod.snd this;simp at this;simp;omega)|cases hm
  simp only[dI,c5,kD]
  show(true&&decide ((y::ys).length+0+0<30))=true
  rw[dI]
  exact decide_eq_true (by omega)
end
section
variable {Γ:Gm} {F:lj} {n:Nat} {X:Cx} {ck:Ck} {σ:St} {H:Hp} {Q:VK}
theorem PIf.imp {e:List Expr}{t t':TT}(h:PIf X e t)(i:∀ σ H Q,t' σ H Q->t σ H Q):PIf X e t':=λ y s σ H Q I q=>h y s σ H Q I (i σ H Q q)
structure CompF (Γ:Gm)(X:Cx)(m:kR->kO->kS (List kP))(E:Expr):Prop where
 ex:∃ elt tgt iter ifs scope pos N' caps wi g tc te,E=.ListComp elt [⟨tgt,iter,ifs,0⟩] scope pos/\qv N' caps scope X.N X.env.scope=true/\PI X tgt iter wi /\
  (∀(C:Addr) (cells:List (Str×Addr)) (s:ah) (H:Hp) (ex:List Addr),PG (zZ X N' scope C cells s H ex) tgt g/\PIf (zZ X N' scope C cells s H ex) ifs tc/\PE (zZ X N' scope C cells s H ex) elt te) /\
  (∀ x,dj iter X.env x=pure x)/\∀ σ H Q,TFv Γ m σ H Q->tComp caps wi g tc te σ H Q
theorem CompF.pe {m:kR->kO->kS (List kP)}{E:Expr}(h:CompF Γ X m E)(hc:X.calm=true):PE X E (TFv Γ m):=by
 obtain⟨Z,J,iter,a0,scope,pos,N',y,wi,g,tc,te,rfl,h1,h2,h3,G,Y⟩:=h.ex
 exact(bd6 N' y h1 h2 hc h3 G).imp Y
theorem bH0 {tg:lu}{mI:kR->kO->kS lN}{mc Y:kR->kO->kS kP}{h:List (Option Nat)}{J y iter i:Expr}{scope:Scope}{pos:Pos}(G:CG Γ F n X ck)(hm:aR6 ck tg y iter h scope=true)
  (hi:PI X y iter (TIv Γ mI)) (hc:∀ C cells s H ex,PT (zZ X (ckC ck y h scope).N scope C cells s H ex) i (TTv Γ mc)) (he:∀ C cells s H ex,PE (zZ X (ckC ck y h scope).N scope C cells s H ex) J (TEv Γ Y)) :
  CompF Γ X (λ ρ s=>(mI ρ s).bind λ q s0=>if q.its.length<=kY then lX (λ s=>lx s0 s q.src) (λ d ρ s=>match lf ρ tg d with
   | some ρ=>k6 (mc ρ s) λ k s=>if k then(Y ρ s).bind λ v s=>.ok (some v,ρ) s else .ok (none,ρ) s
   | none=>.bad) q.its (lO ρ h) s0 else .bad) (.ListComp J [⟨y,iter,[i],0⟩] scope pos):=by
 obtain⟨c1,c2,Z⟩:=G.comp hm
 exact⟨J,y,iter,[i],scope,pos,_,h,_,_,_,_,rfl,c1,hi,λ C cells s H ex=>⟨(Z C cells s H ex).2,bD7 (hc C cells s H ex),he C cells s H ex⟩,aG1 c2,λ σ H Q q=>bf2 q⟩
theorem bi6 {tg:lu}{mI:kR->kO->kS lN}{Z:kR->kO->kS kP}{h:List (Option Nat)}{J y iter:Expr}{scope:Scope}{pos:Pos}(G:CG Γ F n X ck)(Y:aR6 ck tg y iter h scope=true)
  (hi:PI X y iter (TIv Γ mI)) (he:∀ C cells s H ex,PE (zZ X (ckC ck y h scope).N scope C cells s H ex) J (TEv Γ Z)) :
  CompF Γ X (λ ρ s=>(mI ρ s).bind λ q s0=>if q.its.length<=kY then lX (λ s=>lx s0 s q.src) (λ d ρ s=>match lf ρ tg d with
   | some ρ=>(Z ρ s).bind λ v s=>.ok (some v,ρ) s
   | none=>.bad) q.its (lO ρ h) s0 else .bad) (.ListComp J [⟨y,iter,[],0⟩] scope pos):=by
 obtain⟨c1,c2,c3⟩:=G.comp Y
 refine⟨J,y,iter,[],scope,pos,_,h,_,_,TTv Γ (λ ρ s=>.ok (.bl true) s),_,rfl,c1,hi,λ C cells s H ex=>⟨(c3 C cells s H ex).2,bI4.imp λ σ H Q q=>?_,he C cells s H ex⟩,aG1 c2,λ σ H Q q=>bf2 (TFv.eq (λ ρ s=>?_) q)⟩
 ·obtain⟨φ,ρ,s,b,s',E,R,Y,q⟩:=q
  cases Y
  exact q φ H (Gr.refl _ _ _) (ai _) R
 ·congr 1
theorem bC8 {tg:Expr}{e:lM}{E:Expr}(G:CG Γ F n X ck)(h:PE X E (TEv Γ (kU F e))):PI X tg E (TIv Γ (mG F (.seq e))):=by
 refine(PI.or (bI3 G.K h) (PI.or (bi5 G.K h) (bQ0 h))).imp λ σ H R q=>bN8 (TIv.eq (λ ρ s=>rfl) q)
theorem bj7 {tg:Expr}{a:lM}{l:Expr}{p pos:Pos}(G:CG Γ F n X ck)(y:ck.gl "range"=true)(hs:shp l=true)(h:PE X l (TEv Γ (kU F a))):PI X tg (.Call (.Name "range" p) [l] [] pos) (TIv Γ (mG F (.rng1 a))) :=
 (bc0 (G.gl y).1 (G.bi _ (by decide)) (qy h ag7 (zt hs)) (zt hs)).imp λ σ H R q=>bz7 (TIv.eq (λ ρ s=>rfl) q)
theorem bU5 (h:TEv Γ (λ ρ s=>lz (.dic []) s) σ H Q):bt4 σ H Q:=by
 obtain⟨φ,ρ,s,d,s',E,R,J,q⟩:=h
 obtain⟨rfl,rfl⟩:=qI J
 intro p y
 obtain⟨g,G⟩:=R.new (o:=.dic []) (u:=.dK []) y rfl λ φ' H' g e=>⟨[],e,rfl⟩
 exact q (.ref p) _ _ g (by simp) (by unfold kT;simp) (by unfold RV;simp) G
theorem bN7 {mk mv:kR->kO->kS kP}(h:TEv Γ (λ ρ s=>(mk ρ (s++[.dic []])).bind λ kd s1=>(mv ρ s1).bind λ J s2=>if kd.key=true/\s2[s.length]?=some (.dic [])then .ok (.ref s.length) (s2.set s.length (.dic [(kd,J)]))else .bad) σ H Q):bL0 [(TEv Γ mk,TEv Γ mv)] σ H Q:=by
 obtain⟨φ,ρ,s,d,s',E,R,G,q⟩:=h
 obtain⟨kd,s1,e1,G⟩:=aa0 G
 obtain⟨J,s2,e2,G⟩:=aa0 G
 split at G
 case isFalse=>exact fb G
 rename_i hc
 cases G
 intro p hp
 obtain⟨g0,R0⟩:=R.new (o:=.dic []) (u:=.dK []) hp rfl λ φ' H' g e=>⟨[],e,rfl⟩
 have l0:s.length<=(s++[DV.O.dic []]).length:=by simp
 refine⟨_,ρ,s++[DV.O.dic []],kd,s1,E.mono g0 l0,R0,e1,λ v1 φ1 H1 g1 l1 b1 r1 R1=>?_⟩
 refine⟨φ1,ρ,s1,J,s2,(E.mono g0 l0).mono g1 l1,R1,e2,λ Z φ2 H2 g2 Y b2 r2 R2=>?_⟩
 have y:φ2 s.length=p:=by
  rw[g2.w.map s.length (aq (by simp) l1),g1.w.map s.length (by simp)];simp
 obtain⟨k,hk⟩:=am2 hc.1
 have ek:=aL9 hk (RV.mono g2 kd v1 b1 r1)
 obtain⟨a0,z1,z2⟩:=R2.obj s.length _ hc.2
 have z2:a0=[]:=z2
 subst z2
 rw[y]at z1
 refine⟨z1,[(k,Z)],by rw[ek];rfl,by simp,?_⟩
 have hb:(DV.O.dic [(kd,J)]).bnd s2.length=true:=by
  unfold kW
  simp only[aJ,cq,kQ,cL,au]
  exact⟨zE Y _ b1,b2⟩
 obtain⟨g3,R3⟩:=R2.set (o:=.dic [(kd,J)]) (u:=.dK [(k,Z)]) hc.2 rfl hb λ H' g e=>⟨_,e,k,Z,[],rfl,hk,RV.monoW g _ _ b2 r2,rfl⟩
 rw[y]at g3 R3
 have L:s.length<=s2.length:=am l0 (am l1 Y)
 have lt:s.length<s2.length:=aq (by simp) (am l1 Y)
 exact q (.ref p) _ _ (((g0.trans g1 l0).trans g2 (am l0 l1)).trans g3 L) (by rw[bw];exact L) (by unfold kT;rw[bw];exact decide_eq_true lt) (by unfold RV;rw[y]) R3
end
section
variable {Γ:Gm} {F:lj} {n:Nat}
theorem bN4 {X:Cx}{c:DV.Cn}{v:Const}{k:Nat}{pos:Pos}(h:mC c v=true):EvT Γ X (.Constant v k pos) (kU F (.cst c)):=by
 refine .val ?_
 unfold mC at h
 split at h
 ·exact bW0.imp λ σ H Q q=>aB8 (c:=.non) (λ _=>rfl) (λ _ _=>RV.nonI) (TEv.eq (λ ρ s=>rfl) q)
 ·rename_i b c
  have e:=eq_of_beq h
  subst e
  exact ch0.imp λ σ H Q q=>aB8 (c:=.bl b) (λ _=>rfl) (λ _ _=>RV.blI) (TEv.eq (λ ρ s=>rfl) q)
 ·rename_i i j
  have e:=of_decide_eq_true h
  subst e
  exact bY2.imp λ σ H Q q=>aB8 (c:=.int i) (λ _=>rfl) (λ _ _=>RV.intI) (TEv.eq (λ ρ s=>rfl) q)
 ·rename_i x y
  rw[au]at h
  have e:=of_decide_eq_true h.1
  have e2:=of_decide_eq_true h.2
  subst e
  exact bU9.imp λ σ H Q q=>aB8 (c:=.str x) (λ _=>rfl) (λ _ _=>RV.strI (by unfold kY;omega)) (TEv.eq (λ ρ s=>rfl) q)
 ·cases h
theorem bz3 {X:Cx}{ck:Ck}{es:lh}{y:List Expr}{pos:Pos}(m:mEs ck es y=true)(hz:y.length<=1000)(h:PA X y (TAv Γ (ln F es))):PE X (.List y pos) (TFv Γ (DV.evL F (.disp es))):=by
 refine(bq9 h).imp λ σ H Q q=>?_
 obtain⟨φ,ρ,s,l,s',E,R,hm,q⟩:=q
 refine⟨φ,ρ,s,l,s',E,R,hm,λ vs φ1 Y g1 l1 J r1 R1=>⟨by rw[r1.length,aw8 hm m];exact aY7 hz,λ p G=>?_⟩⟩
 obtain⟨Z,R2⟩:=R1.same (H':=upd Y p (.lst vs)) ((ag9.refl Y).new G)
 refine q p vs φ1 _ (g1.trans Z l1) l1 J zo ?_ (Off.new R1 G) (RVL.mono Z _ _ J r1) R2
 cases e:H p with
 | none=>rfl
 | some o=>exact absurd G (g1.st p (by rw[e];simp))
theorem CompF.eq {X:Cx}{m m':kR->kO->kS (List kP)}{E:Expr}(c:CompF Γ X m E)(e:∀ ρ s,m' ρ s=m ρ s):CompF Γ X m' E:=by
 have:m'=m:=funext λ ρ=>funext λ s=>e ρ s
 subst this;exact c
theorem zC {a b:Bool}(h:(a&&b)=true):a=true/\b=true:=by rw[au]at h;exact h
theorem bz0 {X:Cx}{J:Ck}{g:String}{p:Pos}(G:CG Γ F n X J)(h:J.gl (g:Str)=true):EvT Γ X (.Name (g:Str) p) (kU F (.glob g)):=by
 refine .val ?_
 obtain⟨g1,g2,g3⟩:=G.gl h
 cases e:F.con g with
 | none =>
  intro Y s σ H Q I q
  obtain⟨φ,ρ,s,d,s',E,R,y,q⟩:=q
  have y:(match F.con g with|some d=>DV.R.ok d s|none=>.bad)=.ok d s':=y
  rw[e]at y
  cases y
 | some d =>
  obtain⟨v,u,h1,h2,h3,Z⟩:=G.con g d e
  exact(bC1 g1 h1 h2 g2).imp λ σ H Q q=>aB8 (c:=d) h3 Z (TEv.eq (λ ρ s=>by show(match F.con g with|some d=>DV.R.ok d s|none=>.bad)=DV.R.ok d s;rw[e]) q)
theorem bU7 {X:Cx}{y:Ck}{i:Nat}{x:Str}{p:Pos}(G:CG Γ F n X y)(h:y.var i x=true):EvT Γ X (.Name x p) (kU F (.var i)):=by
 refine .val ?_
 unfold Ck.var at h
 obtain⟨h,J⟩:=zC h
 obtain⟨h,h3⟩:=zC h
 obtain⟨Z,Y⟩:=zC h
 have e1:(x==("__debug__":Str))=false:=by simpa using h3
 have e2:(x==("__classdict__":Str))=false:=by simpa using J
 exact(bb9 (by rw[G.N];exact of_decide_eq_true Z) (G.vis Y) e1 e2).imp λ σ H Q q=>bP4 i (TEv.eq (λ ρ s=>rfl) q)
theorem bq7 {X:Cx}{y:Ck}{i:Nat}{x:Str}{p:Pos}(G:CG Γ F n X y)(h:y.var i x=true):PE X (.Name x p) (bs1 i):=by
 unfold Ck.var at h
 obtain⟨h,J⟩:=zC h
 obtain⟨h,h3⟩:=zC h
 obtain⟨Z,Y⟩:=zC h
 exact bb9 (by rw[G.N];exact of_decide_eq_true Z) (G.vis Y) (by simpa using h3) (by simpa using J)
theorem ax9 {Y:Ck}:∀ {es:lE} {J:List Expr},bJ4 Y es J=true->∀ x∈J,shp x=true
 | .nil,[],_,x,hx=>by cases hx
 | .nil,_::_,h,_,_=>ff h
 | .ex e es,[],h,_,_=>ff h
 | .ex e es,y::ys,h,x,hx=>by
  obtain⟨h,h3⟩:=zC h
  obtain⟨Z,G⟩:=zC h
  rcases aI.mp hx with rfl|hx
  ·exact G
  ·exact ax9 h3 x hx
 | .lam _ _ es,[],h,_,_=>ff h
 | .lam _ _ es,y::ys,h,x,hx=>by
  obtain⟨h,h3⟩:=zC h
  obtain⟨Z,G⟩:=zC h
  rcases aI.mp hx with rfl|hx
  ·exact G
  ·exact ax9 h3 x hx
 | .fn _ _,_,h,_,_=>ff h
theorem aL0 {J:Ck}:∀ {es:lE} {Y:List Expr},bJ4 J es Y=true->bo0 es=true->∃ id G E,J.lk id G E=true
 | .nil,_,_,h=>by cases h
 | .ex e es,[],h,_=>ff h
 | .ex e es,y::ys,h,hl=>by
  obtain⟨h,h3⟩:=zC h
  exact aL0 h3 hl
 | .lam id G es,[],h,_=>ff h
 | .lam id G es,y::ys,h,_=>by
  obtain⟨h,h3⟩:=zC h
  obtain⟨Z,h2⟩:=zC h
  exact⟨id,G,y,Z⟩
 | .fn _ _,_,h,_=>ff h
theorem aM2 {X:Cx}{E:Expr}{m:kR->kO->kS kP}(h:∀ ρ s,m ρ s=.bad):EvT Γ X E m:=by
 refine⟨λ y s σ H Q I q=>?_,λ y s σ H Q I q=>?_⟩
 ·obtain⟨φ,ρ,s,d,s',E,R,G,q⟩:=q
  rw[h]at G;exact fb G
 ·obtain⟨φ,ρ,s,d,s',E,R,G,q⟩:=q
  rw[h]at G;exact fb G
inductive LK (Γ:Gm)(X:Cx)(m:kR->kO->kS (List kP))(E:Expr)(k:Nat):Prop where
 | c (h:CompF Γ X m E):LK Γ X m E k
 | f (hk:1<=k) (h:PE X E (TFv Γ m)):LK Γ X m E k
 | s (hk:k=2) (h:PE X E (TLv Γ m)):LK Γ X m E k
theorem bS1 {X:Cx}{m:kR->kO->kS (List kP)}{E:Expr}(h:LK Γ X m E 0):CompF Γ X m E:=by
 cases h with
 | c h=>exact h
 | f hk h=>omega
 | s hk h=>omega
theorem bP9 {X:Cx}{y:Ck}{m:kR->kO->kS (List kP)}{E:Expr}(G:CG Γ F n X y)(h:LK Γ X m E 1):PE X E (TFv Γ m):=by
 cases h with
 | c h=>exact h.pe G.calm
 | f hk h=>exact h
 | s hk h=>omega
theorem cd7 {X:Cx}{y:Ck}{m:kR->kO->kS (List kP)}{E:Expr}(G:CG Γ F n X y)(h:LK Γ X m E 2):PE X E (TLv Γ m):=by
 cases h with
 | c h=>exact(h.pe G.calm).imp λ σ H Q q=>aL2 q
 | f hk h=>exact h.imp λ σ H Q q=>aL2 q
 | s hk h=>exact h
theorem biOk_inv {G:Ck}{b:ls}{x:Str}{J:List Expr}{es:lh}(h:ca1 G b x J (mEs G es J) (mEs G es (J.take 1))=true) :
  (∃ k t a y Y,biK b=some (k,t)/\J=[a,.Name y Y]/\x=("isinstance":Str)/\y=t/\G.gl x=true/\G.gl y=true/\mEs G es [a]=true)\/∃ a ys,J=a::ys/\biT b=some x/\G.gl x=true/\mEs G es (a::ys)=true:=by
 unfold ca1 at h
 cases hk:biK b with
 | none =>
  rw[hk]at h
  cases J with
  | nil=>exact ff h
  | cons a ys =>
   obtain⟨h,h3⟩:=zC h
   obtain⟨h1,Z⟩:=zC h
   exact .inr ⟨a,ys,rfl,of_decide_eq_true h1,Z,h3⟩
 | some p =>
  rw[hk]at h
  cases J with
  | nil=>exact ff h
  | cons a ys=>cases ys with
   | nil=>exact ff h
   | cons b ys=>cases b with
    | Name y Y=>cases ys with
     | nil =>
      obtain⟨h,h5⟩:=zC h
      obtain⟨h,h4⟩:=zC h
      obtain⟨h,h3⟩:=zC h
      obtain⟨h1,Z⟩:=zC h
      exact .inl ⟨p.1,p.2,a,y,Y,rfl,rfl,of_decide_eq_true h1,of_decide_eq_true h3,Z,h4,h5⟩
     | cons _ _=>exact ff h
    | _=>exact ff h
mutual
theorem sE:∀(e:lM) (E:Expr) (X:Cx) (J:Ck),CG Γ F n X J->mE J e E=true->EvT Γ X E (kU F e)
 | .var i,E,X,J,G,h=>by
  cases E with
  | Name x p =>
   exact bU7 G h
  | _=>exact ff h
 | .cst c,E,X,J,G,h=>by
  cases E with
  | Constant v k p =>
   exact bN4 h
  | _=>exact ff h
 | .glob g,E,X,J,G,h=>by
  cases E with
  | Name x p =>
   obtain⟨Z,Y⟩:=zC h
   have e:=of_decide_eq_true Z
   subst e
   exact bz0 G Y
  | _=>exact ff h
 | .bin op a b,E,X,J,G,h=>by
  cases E with
  | BinOp l o r pE =>
   obtain⟨h,h3⟩:=zC h
   obtain⟨Z,Y⟩:=zC h
   have e:=of_decide_eq_true Z
   subst e
   exact bE6 G op (sE a _ X J G Y) (sE b _ X J G h3)
  | _=>exact ff h
 | .neg a,E,X,J,G,h=>by
  cases E with
  | UnaryOp o l p =>
   cases o with
   | USub =>
    exact bv2 (sE a _ X J G h)
   | _=>exact ff h
  | _=>exact ff h
 | .not a,E,X,J,G,h=>by
  cases E with
  | UnaryOp o l p =>
   cases o with
   | Not =>
    exact bv8 (sE a _ X J G h)
   | _=>exact ff h
  | _=>exact ff h
 | .cmp op a b,E,X,J,G,h=>by
  cases E with
  | Compare l os rs pE =>
   cases os with
   | cons o os_0 =>
    cases os_0 with
    | nil =>
     cases rs with
     | cons r rs_0 =>
      cases rs_0 with
      | nil =>
       obtain⟨h,h3⟩:=zC h
       obtain⟨Z,Y⟩:=zC h
       have e:=of_decide_eq_true Z
       subst e
       exact bA8 G op (aM1 h3) (sE a _ X J G Y) (sE b _ X J G h3)
      | _=>exact ff h
     | _=>exact ff h
    | _=>exact ff h
   | _=>exact ff h
  | _=>exact ff h
 | .chain _ _ _ _ _,E,X,J,G,h=>ff h
 | .isN a,E,X,J,G,h=>by
  cases E with
  | Compare l os rs pE =>
   cases os with
   | cons o os1 =>
    cases o with
    | Is =>
     cases os1 with
     | nil =>
      cases rs with
      | cons r rs1 =>
       cases r with
       | Constant v k p1 =>
        cases v with
        | none =>
         cases rs1 with
         | nil =>
          exact bF0 (sE a _ X J G h)
         | _=>exact ff h
        | _=>exact ff h
       | _=>exact ff h
      | _=>exact ff h
     | _=>exact ff h
    | _=>exact ff h
   | _=>exact ff h
  | _=>exact ff h
 | .notN a,E,X,J,G,h=>by
  cases E with
  | Compare l os rs pE =>
   cases os with
   | cons o os1 =>
    cases o with
    | IsNot =>
     cases os1 with
     | nil =>
      cases rs with
      | cons r rs1 =>
       cases r with
       | Constant v k p1 =>
        cases v with
        | none =>
         cases rs1 with
         | nil =>
          exact bk3 (sE a _ X J G h)
         | _=>exact ff h
        | _=>exact ff h
       | _=>exact ff h
      | _=>exact ff h
     | _=>exact ff h
    | _=>exact ff h
   | _=>exact ff h
  | _=>exact ff h
 | .isB _ _,E,X,J,G,h=>ff h
 | .notB _ _,E,X,J,G,h=>ff h
 | .and a b,E,X,J,G,h=>by
  cases E with
  | BoolOp op vs p=>cases op with
   | And =>
    cases vs with
    | nil=>exact ff h
    | cons l vs=>cases vs with
     | nil=>exact ff h
     | cons r vs=>cases vs with
      | nil =>
       obtain⟨Z,Y⟩:=zC h
       exact bF8 (sE a _ X J G Z) (sE b _ X J G Y)
      | cons r2 vs =>
       obtain⟨Z,Y⟩:=zC h
       exact bu9 (sE a _ X J G Z) (sE b _ X J G Y)
   | _=>exact ff h
  | _=>exact ff h
 | .or a b,E,X,J,G,h=>by
  cases E with
  | BoolOp op vs p=>cases op with
   | Or =>
    cases vs with
    | nil=>exact ff h
    | cons l vs=>cases vs with
     | nil=>exact ff h
     | cons r vs=>cases vs with
      | nil =>
       obtain⟨Z,Y⟩:=zC h
       exact bN5 (sE a _ X J G Z) (sE b _ X J G Y)
      | cons r2 vs =>
       obtain⟨Z,Y⟩:=zC h
       exact bY3 (sE a _ X J G Z) (sE b _ X J G Y)
   | _=>exact ff h
  | _=>exact ff h
 | .ite c a b,E,X,J,G,h=>by
  cases E with
  | IfExp tE l r pE =>
   obtain⟨h,h3⟩:=zC h
   obtain⟨Z,Y⟩:=zC h
   exact bz8 (sE c _ X J G Z) (sE a _ X J G Y) (sE b _ X J G h3)
  | _=>exact ff h
 | .tup es,E,X,J,G,h=>by
  cases E with
  | Tuple xs k p =>
   obtain⟨Z,Y⟩:=zC h
   exact bE0 Z (of_decide_eq_true Y) (aq1 (sEs es _ X J G Z))
  | _=>exact ff h
 | .lst es,E,X,J,G,h=>by
  cases E with
  | List xs p =>
   obtain⟨Z,Y⟩:=zC h
   exact bH9 Z (of_decide_eq_true Y) (aq1 (sEs es _ X J G Z))
  | _=>exact ff h
 | .dic .nil .nil,E,X,J,G,h=>by
  cases E with
  | Dict a b p=>cases a with
   | nil=>cases b with
    | nil=>exact .val (bi3.imp λ σ H Q q=>bU5 (TEv.eq (λ ρ s=>rfl) q))
    | _=>exact ff h
   | cons x a=>cases x with
    | none=>exact ff h
    | some x=>cases a with
     | nil=>cases b with
      | nil=>exact ff h
      | cons y b=>cases b with
       | nil=>exact ff h
       | _=>exact ff h
     | _=>exact ff h
  | _=>exact ff h
 | .dic (.cons k .nil) (.cons v .nil),E,X,J,G,h=>by
  cases E with
  | Dict a b p=>cases a with
   | nil=>cases b with
    | nil=>exact ff h
    | _=>exact ff h
   | cons x a=>cases x with
    | none=>exact ff h
    | some x=>cases a with
     | nil=>cases b with
      | nil=>exact ff h
      | cons y b=>cases b with
       | nil =>
        obtain⟨Z,Y⟩:=zC h
        obtain⟨Z,_⟩:=zC Z
        obtain⟨Z,_⟩:=zC Z
        obtain⟨Y,_⟩:=zC Y
        obtain⟨Y,_⟩:=zC Y
        exact .val ((bD2 (bq2 (sE k _ X J G Z).1 (sE v _ X J G Y).1 by4) rfl rfl (by nofun) (by show 1<=15;decide)).imp λ σ H Q q=>bN7 (TEv.eq (λ ρ s=>rfl) q))
       | _=>exact ff h
     | _=>exact ff h
  | _=>exact ff h
 | .dic .nil (.cons _ _),E,X,J,G,h=>aM2 λ _ _=>rfl
 | .dic (.cons _ .nil) .nil,E,X,J,G,h=>aM2 λ _ _=>rfl
 | .dic (.cons _ .nil) (.cons _ (.cons _ _)),E,X,J,G,h=>aM2 λ _ _=>rfl
 | .dic (.cons _ (.cons _ _)) _,E,X,J,G,h=>aM2 λ _ _=>rfl
 | .ix a b,E,X,J,G,h=>by
  cases E with
  | Subscript o i p =>
   obtain⟨Z,Y⟩:=zC h
   exact bK9 G (aM1 Y) (sE a _ X J G Z) (sE b _ X J G Y)
  | _=>exact ff h
 | .slL _ _,E,X,J,G,h=>ff h
 | .slU a hi,E,X,J,G,h=>by
  cases E with
  | Subscript o i p =>
   cases i with
   | Slice lo hi st p2 =>
    cases lo with
    | none =>
     cases hi with
     | some l =>
      cases st with
      | none =>
       obtain⟨Z,Y⟩:=zC h
       exact bz2 G (sE a _ X J G Z) (sE hi _ X J G Y)
      | _=>exact ff h
     | _=>exact ff h
    | _=>exact ff h
   | _=>exact ff h
  | _=>exact ff h
 | .slLU _ _ _,E,X,J,G,h=>ff h
 | .rev _,E,X,J,G,h=>ff h
 | .call f as,E,X,J,G,h=>by
  cases E with
  | Call fE xs kw p =>
   cases fE with
   | Name x pN =>
    cases kw with
    | nil =>
     obtain⟨h,h3⟩:=zC h
     obtain⟨Z,Y⟩:=zC h
     have e:=of_decide_eq_true Z
     subst e
     exact bn1 G Y h3 (sAs as _ X J G h3)
    | _=>exact ff h
   | _=>exact ff h
  | _=>exact ff h
 | .callC f as,E,X,J,G,h=>by
  cases E with
  | Call fE xs kw p =>
   cases fE with
   | Name x pN =>
    cases xs with
    | cons y ys =>
     cases kw with
     | nil =>
      obtain⟨h,h3⟩:=zC h
      obtain⟨h,h4⟩:=zC h
      obtain⟨Z,Y⟩:=zC h
      have e:=of_decide_eq_true Z
      subst e
      obtain⟨id,a0,E',hlk⟩:=aL0 h3 h4
      obtain⟨_,_,_,_,_,_,_,_,L⟩:=G.lam id a0 E' hlk
      exact .val ((bd8 G Y L.fn L.kd (ax9 h3) (ca8 as _ X J G h3)).imp λ σ H Q q=>TEv.eq (λ ρ s=>rfl) q)
     | _=>exact ff h
    | _=>exact ff h
   | _=>exact ff h
  | _=>exact ff h
 | .callV i es,E,X,J,G,h=>by
  cases E with
  | Call fE xs kw p =>
   cases fE with
   | Name x pN =>
    cases xs with
    | cons y ys =>
     cases kw with
     | nil =>
      obtain⟨Z,Y⟩:=zC h
      exact .val (aV3 G Z (aw7 Y) (aq1 (sEs es _ X J G Y)) (bq7 G Z))
     | _=>exact ff h
    | _=>exact ff h
   | _=>exact ff h
  | _=>exact ff h
 | .bi b es,E,X,J,G,h=>by
  cases E with
  | Call fE xs kw p =>
   cases fE with
   | Name x pN =>
    cases kw with
    | nil =>
     have h:ca1 J b x xs (mEs J es xs) (mEs J es (xs.take 1))=true:=h
     rcases biOk_inv h with⟨k,t,a,y,py,hk,rfl,rfl,rfl,Y,h4,h5⟩|⟨a,ys,rfl,Z,Y,h3⟩
     ·exact by1 G hk Y h4 (sEs es _ X J G h5)
     ·exact bQ5 G Z Y h3 (aq1 (sEs es _ X J G h3))
    | _=>exact ff h
   | _=>exact ff h
  | _=>exact ff h
 | .mk k l,E,X,J,G,h=>by
  cases E with
  | ListComp e gs sc p =>
   obtain⟨Z,Y⟩:=zC h
   have e:=of_decide_eq_true Z
   subst e
   exact .val (((bS1 (sL l _ X J G 0 Y)).pe G.calm).imp λ σ H Q q=>aW9 (TEv.eq (λ ρ s=>rfl) q))
  | Call fE xs kw p =>
   cases fE with
   | Name x pN =>
    cases xs with
    | cons a xs_0 =>
     cases xs_0 with
     | nil =>
      cases kw with
      | nil =>
       obtain⟨h,h4⟩:=zC h
       obtain⟨Y,h3⟩:=zC h
       rw[bP]at h4
       rcases h4 with h4|h4
       ·obtain⟨h5,h6⟩:=zC h4
        exact .val ((bR4 G (of_decide_eq_true h5) Y h3 (cd7 G (sL l _ X J G 2 h6))).imp λ σ H Q q=>TEv.eq (λ ρ s=>rfl) q)
       ·obtain⟨h5,h6⟩:=zC h4
        exact .val ((bN6 G (of_decide_eq_true h5) Y h3 (bP9 G (sL l _ X J G 1 h6))).imp λ σ H Q q=>TEv.eq (λ ρ s=>rfl) q)
      | _=>exact ff h
     | _=>exact ff h
    | _=>exact ff h
   | _=>exact ff h
  | _=>exact ff h
 | .mks _ _,E,X,J,G,h=>ff h
 | .mkDs _ _ _,E,X,J,G,h=>ff h
 | .mkD k l d,E,X,J,G,h=>by
  cases E with
  | Call fE xs kw p =>
   cases fE with
   | Name x pN =>
    cases xs with
    | cons a xs_0 =>
     cases xs_0 with
     | nil =>
      cases kw with
      | cons kk kw1 =>
       cases kk with
       | mk ky de kp =>
        cases ky with
        | some y =>
         cases kw1 with
         | nil =>
          obtain⟨h,h7⟩:=zC h
          obtain⟨h,h6⟩:=zC h
          obtain⟨h,h5⟩:=zC h
          obtain⟨h,h4⟩:=zC h
          obtain⟨h,h3⟩:=zC h
          obtain⟨Z,Y⟩:=zC h
          have e:=of_decide_eq_true Z
          have e2:=of_decide_eq_true Y
          have e3:=of_decide_eq_true h3
          subst e e2 e3
          exact .val ((bR1 G h4 h5 (bP9 G (sL l _ X J G 1 h6)) (sE d _ X J G h7).1).imp λ σ H Q q=>TEv.eq (λ ρ s=>rfl) q)
         | _=>exact ff h
        | _=>exact ff h
      | _=>exact ff h
     | _=>exact ff h
    | _=>exact ff h
   | _=>exact ff h
  | _=>exact ff h
 | .meth m o es,E,X,J,G,h=>by
  cases E with
  | Call fE xs kw p =>
   cases fE with
   | Attribute ob x ap =>
    cases kw with
    | nil =>
     obtain⟨h,h5⟩:=zC h
     obtain⟨h,h4⟩:=zC h
     obtain⟨h,h3⟩:=zC h
     obtain⟨Z,Y⟩:=zC h
     exact bm4 G (of_decide_eq_true Z) Y h3 (sE o _ X J G h4).1 h5 (sEs es _ X J G h5)
    | _=>exact ff h
   | _=>exact ff h
  | _=>exact ff h
 | .ext _ _,E,X,J,G,h=>ff h
 | .extS _ _,E,X,J,G,h=>ff h
 | .join _ _,E,X,J,G,h=>ff h
theorem sEs:∀(es:lh) (y:List Expr) (X:Cx) (J:Ck),CG Γ F n X J->mEs J es y=true->PEs Γ F X es y
 | .nil,y,X,J,G,h=>by
  cases y with
  | nil =>
   exact trivial
  | _=>exact ff h
 | .cons e es,y,X,J,G,h=>by
  cases y with
  | cons x y =>
   obtain⟨h,h3⟩:=zC h
   obtain⟨Z,Y⟩:=zC h
   exact⟨⟨Y,sE e _ X J G Z⟩,sEs es _ X J G h3⟩
  | _=>exact ff h
theorem sAs:∀(es:lE) (y:List Expr) (X:Cx) (J:Ck),CG Γ F n X J->mAs J es y=true->PA X y (TAv Γ (lK F es))
 | .nil,y,X,J,G,h=>by
  cases y with
  | nil =>
   exact ag7.imp λ σ H Q q=>aK1 (TAv.eq (λ ρ s=>rfl) q)
  | _=>exact ff h
 | .ex e es,y,X,J,G,h=>by
  cases y with
  | cons x y =>
   obtain⟨h,h3⟩:=zC h
   obtain⟨Z,Y⟩:=zC h
   exact(aL5 Y (sE e _ X J G Z).1 (sAs es _ X J G h3)).imp λ σ H Q q=>TAv.eq (λ ρ s=>rfl) q
  | _=>exact ff h
 | .lam _ _ _,y,X,J,G,h=>ff h
 | .fn _ _,y,X,J,G,h=>ff h
theorem ca8:∀(es:lE) (y:List Expr) (X:Cx) (Y:Ck),CG Γ F n X Y->bJ4 Y es y=true->PA X y (TAp Γ X.env.cells X.N (lK F es))
 | .nil,y,X,Y,G,h=>by
  cases y with
  | nil =>
   exact ag7.imp λ σ H Q q=>bx1 (TAp.eq (λ ρ s=>rfl) q)
  | _=>exact ff h
 | .ex e es,y,X,Y,G,h=>by
  cases y with
  | cons x y =>
   obtain⟨h,h3⟩:=zC h
   obtain⟨h1,Z⟩:=zC h
   exact(qy (sE e _ X Y G h1).1 (ca8 es _ X Y G h3) (zt Z)).imp λ σ H Q q=>bQ3 (TAp.eq (λ ρ s=>rfl) q)
  | _=>exact ff h
 | .lam id caps es,y,X,Y,G,h=>by
  cases y with
  | cons x y =>
   obtain⟨h,h3⟩:=zC h
   obtain⟨h1,Z⟩:=zC h
   obtain⟨c,P,params,body,scope,pos,J,e,L⟩:=G.lam id caps _ h1
   have hnm:J.nm=none:=by
    cases q:J.nm with
    | none=>rfl
    | some p=>unfold lamText at e;rw[q]at e;rw[e]at Z;cases Z
   unfold lamText at e
   rw[hnm]at e
   dsimp only at e
   subst e
   rw[<-G.N]at L
   exact(bP0 L hnm (ca8 es _ X Y G h3)).imp λ σ H Q q=>TAp.eq (λ ρ s=>rfl) q
  | _=>exact ff h
 | .fn _ _,y,X,Y,G,h=>ff h
theorem sI:∀(i:DV.I) (E tg:Expr) (X:Cx) (y:Ck),CG Γ F n X y->mI y tg i E=true->PI X tg E (TIv Γ (mG F i))
 | .seq e,E,tg,X,y,G,h=>by
  obtain⟨J,Y⟩:=zC h
  exact bC8 G (sE e _ X y G J).1
 | .rng1 a,E,tg,X,y,G,h=>by
  cases E with
  | Call fE xs kw p =>
   cases fE with
   | Name x pN =>
    cases xs with
    | cons l xs_0 =>
     cases xs_0 with
     | nil =>
      cases kw with
      | nil =>
       obtain⟨h,Z⟩:=zC h
       obtain⟨h,h3⟩:=zC h
       obtain⟨J,Y⟩:=zC h
       have e:=of_decide_eq_true J
       subst e
       exact bj7 G Y Z (sE a _ X y G h3).1
      | _=>exact ff h
     | _=>exact ff h
    | _=>exact ff h
   | _=>exact ff h
  | _=>exact ff h
 | .rng2 _ _,E,tg,X,y,G,h=>ff h
 | .rng3 _ _ _,E,tg,X,y,G,h=>ff h
 | .enum (.seq _),E,tg,X,y,G,h=>ff h
 | .enum (.rng1 _),E,tg,X,y,G,h=>ff h
 | .enum (.rng2 _ _),E,tg,X,y,G,h=>ff h
 | .enum (.rng3 _ _ _),E,tg,X,y,G,h=>ff h
 | .enum (.enum _),E,tg,X,y,G,h=>ff h
 | .enum (.zip _ _),E,tg,X,y,G,h=>ff h
 | .enum (.items _),E,tg,X,y,G,h=>ff h
 | .zip (.seq _) (.seq _),E,tg,X,y,G,h=>ff h
 | .zip (.seq _) (.rng1 _),E,tg,X,y,G,h=>ff h
 | .zip (.seq _) (.rng2 _ _),E,tg,X,y,G,h=>ff h
 | .zip (.seq _) (.rng3 _ _ _),E,tg,X,y,G,h=>ff h
 | .zip (.seq _) (.enum _),E,tg,X,y,G,h=>ff h
 | .zip (.seq _) (.zip _ _),E,tg,X,y,G,h=>ff h
 | .zip (.seq _) (.items _),E,tg,X,y,G,h=>ff h
 | .zip (.rng1 _) _,E,tg,X,y,G,h=>ff h
 | .zip (.rng2 _ _) _,E,tg,X,y,G,h=>ff h
 | .zip (.rng3 _ _ _) _,E,tg,X,y,G,h=>ff h
 | .zip (.enum _) _,E,tg,X,y,G,h=>ff h
 | .zip (.zip _ _) _,E,tg,X,y,G,h=>ff h
 | .zip (.items _) _,E,tg,X,y,G,h=>ff h
 | .items _,E,tg,X,y,G,h=>ff h
theorem sL:∀(l:DV.L) (E:Expr) (X:Cx) (J:Ck),CG Γ F n X J->∀ k,mL J k l E=true->LK Γ X (DV.evL F l) E k
 | .comp tg it e caps,E,X,J,G,k,h=>by
  cases E with
  | ListComp elt gs scope p =>
   cases gs with
   | cons g gs1 =>
    cases g with
    | mk tgt iter ifs z =>
     cases ifs with
     | nil =>
      cases gs1 with
      | nil =>
       obtain⟨h,h3⟩:=zC h
       obtain⟨h,Y⟩:=zC h
       obtain⟨h0,y⟩:=zC h
       have Z:=of_decide_eq_true h0
       subst Z
       have c:=bi6 (pos:=p) G y (sI it _ _ X J G Y) λ C cells s H ex=>(sE e _ _ _ ((G.comp y).2.2 C cells s H ex).1 h3).1
       exact .c (c.eq λ ρ s=>rfl)
      | _=>exact ff h
     | _=>exact ff h
   | _=>exact ff h
  | _=>exact ff h
 | .compIf tg it i e caps,E,X,J,G,k,h=>by
  cases E with
  | ListComp elt gs scope p =>
   cases gs with
   | cons g gs1 =>
    cases g with
    | mk tgt iter ifs z =>
     cases ifs with
     | cons i1 ifs1 =>
      cases ifs1 with
      | nil =>
       cases gs1 with
       | nil =>
        obtain⟨h,h4⟩:=zC h
        obtain⟨h,h3⟩:=zC h
        obtain⟨h,Y⟩:=zC h
        obtain⟨h0,y⟩:=zC h
        have Z:=of_decide_eq_true h0
        subst Z
        have c:=bH0 (pos:=p) G y (sI it _ _ X J G Y) (λ C cells s H ex=>(sE i _ _ _ ((G.comp y).2.2 C cells s H ex).1 h3).2) λ C cells s H ex=>(sE e _ _ _ ((G.comp y).2.2 C cells s H ex).1 h4).1
        exact .c (c.eq λ ρ s=>rfl)
       | _=>exact ff h
      | _=>exact ff h
     | _=>exact ff h
   | _=>exact ff h
  | _=>exact ff h
 | .disp es,E,X,J,G,k,h=>by
  cases E with
  | List xs p =>
   obtain⟨h,Y⟩:=zC h
   obtain⟨h0,y⟩:=zC h
   exact .f (of_decide_eq_true h0) (bz3 y (of_decide_eq_true Y) (aq1 (sEs es _ X J G y)))
  | _=>exact ff h
 | .seq e,E,X,J,G,k,h=>by
  obtain⟨h0,y⟩:=zC h
  exact .s (of_decide_eq_true h0) ((sE e _ X J G y).1.imp λ σ H Q q=>bO3 (TLv.eq (λ ρ s=>rfl) q))
end
end
section
variable {Γ:Gm} {F:lj} {n:Nat}
theorem bm2 {X:Cx}{ck:Ck}{m:kR->kO->kS (List kP)}{E:Expr}{x:Str}{i:Nat}{px pos:Pos}(G:CG Γ F n X ck)(c:CompF Γ X m E)(hi:ck.N[i]?=some x)(hl:ck.loc x=true) :
  PS X (.Assign [.Name x px] E pos) (bi2 (TFv Γ m) (az7 i)):=by
 obtain⟨a1,a0,iter,J,scope,p2,N',h,wi,g,tc,te,rfl,h1,h2,h3,h4,h5⟩:=c.ex
 obtain⟨l1,l2⟩:=G.loc hl
 have nd:X.N.Nodup:=by rw[G.N];exact G.nd
 have Z:X.N[i]?=some x:=by rw[G.N];exact hi
 generalize hb:((X.env.blockKind==.function&&X.env.kindOf x==some .local&&px.line==(Expr.ListComp a1 [⟨a0,iter,J,0⟩] scope p2).pos.line&&!(scope.names.any λ(n,k)=>n==x&&(k==.local||k==.cell))))=b
 have Y:eX (.ListComp a1 [⟨a0,iter,J,0⟩] scope p2) (some (.Name x px)) pos.line X.env=pure b:=by rw[<-hb];rfl
 have imp:∀ D σ H,bi2 (TFv Γ m) (az7 i) D σ H->bi2 (tComp h wi g tc te) (az7 i) D σ H:=λ D σ H q=>h5 _ _ _ q
 cases b with
 | true =>
  have y:X.env.scope.names.lookup x=some .local:=by
   simp only[au]at hb
   exact eq_of_beq hb.1.1.2
  exact(aP5 N' h nd Z y h1 h2 G.calm h3 h4 Y).imp imp
 | false=>exact(bs5 nd Z l1 (bd6 N' h h1 h2 G.calm h3 h4) Y l2).imp imp
theorem bD0 {X:Cx}{y:Ck}{e:lM}{v:Expr}{x:Str}{i:Nat}{Z pos:Pos}(G:CG Γ F n X y)(Y:y.N[i]?=some x)(hl:y.loc x=true)(h:mE y e v=true) :
  PS X (.Assign [.Name x Z] v pos) (TSv Γ (DV.ex F (.asg (.one i) e))):=by
 obtain⟨l1,l2⟩:=G.loc hl
 have nd:X.N.Nodup:=by rw[G.N];exact G.nd
 have J:X.N[i]?=some x:=by rw[G.N];exact Y
 by_cases hc:aA2 v=true
 ·exact(bs5 nd J l1 (sE e v X y G h).1 (ay0 hc) l2).imp λ D σ H q=>aU1 (tg:=.one i) (TSv.eq (λ ρ s=>rfl) q)
 ·have hs:=aM1 h
  cases v with
  | ListComp elt gs sc p =>
   cases e with
   | mk k l =>
    obtain⟨h1,h2⟩:=zC h
    have e:=of_decide_eq_true h1
    subst e
    exact(bm2 G (bS1 (sL l _ X y G 0 h2)) Y hl).imp λ D σ H q=>bp3 (tg:=.one i) (TSv.eq (λ ρ s=>rfl) q)
   | _=>exact ff h
  | SetComp _ _ _ _=>cases hs
  | DictComp _ _ _ _ _=>cases hs
  | _=>exact absurd rfl hc
theorem bn5 {T:List (Addr×Str)}{cells:List (Str×Addr)}{P:Addr}{q:Str}{name:Str}{params:a9}{body:List Stmt}{scope:Scope}{pos:Pos}{ix:Nat}{D0:Ends}{σ:St}{H:Hp}(hT:TabsH T H)(nd:(T.map (·.1)).Nodup)(hm:(P,q)∈T)
  (go:∀(f:Addr) (H':Hp),bf1 H H'->(∀ b,H b≠none->H' b≠none)->TabsH T H'->H f=none->(∃ J pm Y Z,H' f=some (aw4 f (cu name q params body scope (af6 cells scope.names []) .none .none J pm none (.ref Y) Z))/\H' Y=some (qJ Y q))->D0.nx (σ.set ix (some (.ref f))) H') :
  tDef cells P name q params body scope pos ix D0 σ H:=by
 obtain⟨ps,hP,ht,hc⟩:=hT _ hm
 refine⟨ps,hP,ht,λ hn Y f J pm Z n1 n2 ne=>?_,λ cv e=>?_⟩
 ·have cP:Y≠P:=λ z=>by rw[z,hP]at n1;cases n1
  have fP:f≠P:=λ z=>by rw[z,hP]at n2;cases n2
  have a0:∀ b,b≠P->H b≠none->∀ o1 o2 o3,upd (upd (upd H P o1) Y o2) f o3 b=H b:=λ b z1 z2 o1 o2 o3=>by
   rw[zm λ z=>by subst z;exact z2 n2,zm λ z=>by subst z;exact z2 n1,zm z1]
  refine go f _ (λ b o d e=>?_) (λ b hb=>?_) (λ y hy=>?_) n2 ⟨J,pm,Y,Z,zo,by rw[zm ne,zo]⟩
  ·rw[a0 b (λ z=>by subst z;rw[hP]at e;cases e;exact d _ rfl) (by rw[e];simp)];exact e
  ·by_cases z:b=P
   ·subst z;rw[zm (bU fP),zm (bU cP),zo];simp
   ·rw[a0 b z hb];exact hb
  ·by_cases z:y.1=P
   ·have ey:y=(P,q):=by
     have:∀(l:List (Addr×Str)),(l.map (·.1)).Nodup->y∈l->(P,q)∈l->y=(P,q):=by
      intro l
      induction l with
      | nil=>intro _ h;simp at h
      | cons a l ih =>
       intro hn h1 h2
       rw[aJ,cX]at hn
       rcases aI.mp h1 with e1|h1<;>rcases aI.mp h2 with e2|h2
       ·rw[e1,e2]
       ·exact absurd (by rw[<-e1,z];exact bo (f:=(·.1)) h2) hn.1
       ·exact absurd (by rw[<-e2,<-z];exact bo (f:=(·.1)) h1) hn.1
       ·exact ih hn.2 h1 h2
     exact this T nd hy hm
    subst ey
    refine⟨_,by rw[zm (bU fP),zm (bU cP),zo],?_,λ G cv e=>?_⟩
    ·rw[dF];exact TriplesOk_snoc _ _ _ _ ht
    ·rw[dF]at e
     rcases codeAmong_add _ ht e with e'|e'
     ·obtain⟨c2,e1,e2⟩:=hc G cv e'
      exact⟨c2,e1,by rw[a0 c2 (λ z=>by subst z;rw[hP]at e2;unfold qJ at e2;cases e2) (by rw[e2];simp)];exact e2⟩
     ·exact⟨Y,e',by rw[zm ne,zo]⟩
   ·obtain⟨qs,e1,e2,e3⟩:=hT y hy
    refine⟨qs,by rw[a0 y.1 z (by rw[e1];simp)];exact e1,e2,λ G cv e=>?_⟩
    obtain⟨c2,e4,e5⟩:=e3 G cv e
    exact⟨c2,e4,by rw[a0 c2 (λ z=>by subst z;rw[hP]at e5;unfold qJ at e5;cases e5) (by rw[e5];simp)];exact e5⟩
 ·obtain⟨Y,e1,e2⟩:=hc pos cv e
  refine⟨Y,e1,λ f J pm Z n=>go f _ (.of ((ag9.refl H).new n)) (λ b hb=>by
   by_cases z:b=f
   ·subst z;rw[zo];simp
   ·rw[zm z];exact hb) (hT.new n) n ⟨J,pm,Y,Z,zo,?_⟩⟩
  rw[zm (zJ e2 n)];exact e2
theorem aX4 (env : Env) : ∀ l : List Arg, (l.all λ y => y.annotation.isNone) = true -> ip l env = []
 | [], _ => by unfold ip; rfl
 | ⟨x,some a,p⟩::l,h=>by simp at h
 | ⟨x,none,p⟩::l,h=>by
  unfold ip
  exact aX4 env l (by simpa using h)
theorem bi9 {params:a9}(h:bH1 params=true)(env:Env):params.defaults=[]/\params.kw_defaults=[]/\annTrees params none env=[]:=by
 unfold bH1 at h
 split at h
 ·refine⟨rfl,rfl,?_⟩
  unfold annTrees
  simp only[Option.toList,bD]
  rw[aX4 env _ h];rfl
 ·cases h
theorem aG7 {α:Type}{o:Option α}{f:α->Bool}(h:o.any f=true):∃ a,o=some a/\f a=true:=by
 cases o with
 | none=>exact ff h
 | some a=>exact⟨a,rfl,h⟩
theorem bj0 {s:mF}{y:l6}{d:Nat×String×lM×String×List Nat}(h:ce2 s y=some d):s=.und d.1/\y=.cons (.ret (.callC d.2.1 (.ex d.2.2.1 (.lam d.2.2.2.1 d.2.2.2.2 .nil)))) .nil:=by
 unfold ce2 at h
 split at h
 ·cases h;exact⟨rfl,rfl⟩
 ·cases h
theorem bl1 {S:List Stmt}{q:Str×a9×Expr×Pos×Scope×Pos×List Stmt}(h:nst1 S=some q):S=.FunctionDef q.1 q.2.1 [.Return (some q.2.2.1) q.2.2.2.1] [] none [] q.2.2.2.2.1 none q.1 q.2.2.2.2.2.1::q.2.2.2.2.2.2:=by
 have y:∀ {p:Prop},(none:Option (Str×a9×Expr×Pos×Scope×Pos×List Stmt))=some q->p:=λ h=>nomatch h
 cases S with
 | cons x xs =>
  cases x with
  | FunctionDef nm params body dl ret tp scope ts nm2 pos =>
   cases body with
   | cons b1 bs =>
    cases b1 with
    | Return v rp =>
     cases v with
     | some b =>
      cases bs with
      | nil =>
       cases dl with
       | nil =>
        cases ret with
        | none =>
         cases tp with
         | nil =>
          cases ts with
          | none =>
           have h:(if nm2=nm then some (nm,params,b,rp,scope,pos,xs)else none)=some q:=h
           by_cases e:nm2=nm
           ·rw[if_pos e]at h;cases h;rw[e]
           ·rw[if_neg e]at h;exact y h
          | _=>exact y h
         | _=>exact y h
        | _=>exact y h
       | _=>exact y h
      | _=>exact y h
     | _=>exact y h
    | _=>exact y h
   | _=>exact y h
  | _=>exact y h
 | _=>exact y h
theorem bp8 {J:Str}{S:List Stmt}{r:Str×Pos×Expr×Pos×Pos×Pos}(h:nst2 J S=some r):S=[.Return (some (.Call (.Name r.1 r.2.1) [r.2.2.1,.Name J r.2.2.2.1] [] r.2.2.2.2.1)) r.2.2.2.2.2]:=by
 have G:∀ {p:Prop},(none:Option (Str×Pos×Expr×Pos×Pos×Pos))=some r->p:=λ h=>nomatch h
 cases S with
 | cons x xs =>
  cases x with
  | Return v rp2 =>
   cases v with
   | some e =>
    cases e with
    | Call f as kw cp =>
     cases f with
     | Name g gp =>
      cases as with
      | cons a as1 =>
       cases as1 with
       | cons y as2 =>
        cases y with
        | Name x p2 =>
         cases as2 with
         | nil =>
          cases kw with
          | nil =>
           cases xs with
           | nil =>
            have h:(if x=J then some (g,gp,a,p2,cp,rp2)else none)=some r:=h
            by_cases e:x=J
            ·rw[if_pos e]at h;cases h;rw[e]
            ·rw[if_neg e]at h;exact G h
           | _=>exact G h
          | _=>exact G h
         | _=>exact G h
        | _=>exact G h
       | _=>exact G h
      | _=>exact G h
     | _=>exact G h
    | _=>exact G h
   | _=>exact G h
  | _=>exact G h
 | _=>exact G h
theorem bR0 {X:Cx}{ck:Ck}{s:mF}{ss:l6}{S:List Stmt}(G:CG Γ F n X ck)(hM:bL6 ck s ss S=true):PSs X S (TSv Γ (mH F (.cons s ss))):=by
 obtain⟨⟨i,g,e,id,y⟩,e1,hA⟩:=aG7 hM
 clear hM
 obtain⟨⟨Z,params,b,rp,scope,pos,xs⟩,e2,hB⟩:=aG7 hA
 clear hA
 obtain⟨⟨g',gp,a,p2,cp,rp2⟩,e3,h⟩:=aG7 hB
 clear hB
 obtain⟨rfl,rfl⟩:=bj0 e1
 have e3:=bp8 e3
 have e2:=bl1 e2
 dsimp only at e2 e3 h ⊢
 subst e3
 subst e2
 clear e1
 obtain⟨h,b6⟩:=zC h
 obtain⟨h,b2⟩:=zC h
 obtain⟨h,h9⟩:=zC h
 obtain⟨h,h8⟩:=zC h
 obtain⟨h,h7⟩:=zC h
 obtain⟨h,h6⟩:=zC h
 obtain⟨h,h5⟩:=zC h
 obtain⟨h0,h2⟩:=zC h
 have h7:=of_decide_eq_true h7
 subst h7
 have h1:=of_decide_eq_true h0
 clear h0
 obtain⟨c,P,b0,c2,b4,f0,J,eE,L⟩:=G.lam id y _ h6
 obtain⟨pn,hnm⟩:∃ pn,J.nm=some pn:=by
  cases q:J.nm with
  | none=>unfold lamText at eE;rw[q]at eE;cases eE
  | some p=>exact⟨p,rfl⟩
 obtain⟨pa,pb⟩:=pn
 unfold lamText at eE
 rw[hnm]at eE
 dsimp only at eE
 cases eE
 rw[<-G.N]at L h1
 obtain⟨l1,l2⟩:=G.loc h2
 obtain⟨a1,a2,a3⟩:=bi9 b6 X.env
 have d3:X.env.kindOf Z=some .local\/X.env.kindOf Z=some .cell:=l1
 have hq:j8 X.env Z Z=J.qual:=by
  rw[L.q]
  unfold LamI.own j8
  rw[hnm]
  rcases d3 with z|z<;>rw[z]<;>rfl
 have p1:=bS7 (X:=X) (c:=c) (P:=P) (body:=[.Return (some b) rp]) (scope:=scope) (pos:=pos) (by rw[G.N];exact G.nd) h1 l1 L.code L.hd L.bm L.ck hq a1 a2 a3 l2
 have e7:PE X (.Name Z p2) (bs1 i):=bq7 G h5
 obtain⟨g1,g2,g3⟩:=G.gl h8
 rcases G.call g with hb|⟨fa,fd,ps,hF,d0,hk,hB⟩
 ·intro f1 sh σ H D I q
  obtain⟨φ,ρ,s,c,s',E,R,hm,q⟩:=q
  obtain⟨c1,s1,e1,hm⟩:=aa0 hm
  have e1:(match mJ ρ i with|some ρ=>DV.R.ok (DV.Ct.next ρ) s|none=>.bad)=.ok c1 s1:=e1
  split at e1
  case h_2=>cases e1
  cases e1
  obtain⟨c1,s1,e1,hm⟩:=aa0 hm
  obtain⟨d1,s2,e1,Y⟩:=aa0 e1
  obtain⟨l,s3,e1,Y⟩:=aa0 e1
  obtain⟨d,s4,e4,Y⟩:=aa0 Y
  rw[hb]at e4;cases e4
 have hE:=(sE e _ X ck G h9).1
 have hA:PA X [a,.Name Z p2] (aw9 (TEv Γ (kU F e)) (aw9 (bs1 i) bp4)):=qy hE (qy e7 ag7 (zt rfl)) (zt b2)
 have p3:=aL3 (p:=gp) (pos:=cp) hF G.room g1 d0 hk hB L.fn hA g2 (zt b2) (zW (es:=[.Name Z p2]) λ z hz=>by rw[bJ.mp hz];rfl).1
 refine(am0 p1 (am0 (be2 p3) aF1)).imp λ D σ H q=>?_
 obtain⟨φ,ρ,s,c0,s',E,R,hm,q⟩:=q
 obtain⟨c1,s1,e1,hm⟩:=aa0 hm
 have e1:(match mJ ρ i with|some ρ=>DV.R.ok (DV.Ct.next ρ) s|none=>.bad)=.ok c1 s1:=e1
 unfold mJ at e1
 by_cases hil:i < ρ.length
 case neg=>rw[if_neg hil]at e1;cases e1
 rw[if_pos hil]at e1
 cases e1
 obtain⟨c1,s1,e1,hm⟩:=aa0 hm
 obtain⟨d1,s2,e1,Y⟩:=aa0 e1
 cases Y
 cases hm
 obtain⟨l,s3,e1,Y⟩:=aa0 e1
 obtain⟨d2,s4,e4,Y⟩:=aa0 Y
 split at Y
 case isFalse=>exact fb Y
 rename_i hn
 cases Y
 rw[au]at hn
 obtain⟨x1,s5,e5,e1⟩:=aa0 e1
 obtain⟨y1,s6,e6,e1⟩:=aa0 e1
 cases e1
 have e6:(match lp (ρ.set i none) y with|some cs=>(lK F .nil (ρ.set i none) s5).bind λ l s=>DV.R.ok (DV.D.clo id cs::l) s|none=>DV.R.bad)=.ok y1 s3:=e6
 cases eg:lp (ρ.set i none) y with
 | none=>rw[eg]at e6;cases e6
 | some cs =>
  rw[eg]at e6
  cases e6
  refine bn5 R.tab L.nd L.tab λ f H' eS st tb hf ho=>?_
  obtain⟨a4,R1⟩:=R.sameT eS st tb
  have E1:RE Γ φ H' s.length (ρ.set i none) (σ.set i (some (.ref f))):=by
   have E0:=E.mono a4 (ai _)
   refine⟨by rw[bw,bw];exact E0.len,λ j d ej=>?_⟩
   by_cases z:i=j
   ·subst z
    rw[aS hil]at ej;cases ej
   ·rw[aY z]at ej
    obtain⟨q1,v,q2,q3⟩:=E0.val j d ej
    exact⟨q1,v,by rw[aY z];exact q2,q3⟩
  obtain⟨cap,a0,a6,hσ⟩:=be7 E1 eg
  have a5:=(an5 eg).1
  have b5:ah2 H' f J (af6 X.env.cells J.scope.names []):=by
   unfold ah2;rw[hnm];dsimp only;rw[L.p,L.b,L.s];exact ho
  refine⟨φ,ρ.set i none,s,x1,_,E1,R1,e5,λ v1 φ1 H1 g1 l1 b1 r1 e0=>?_⟩
  have c4:i < σ.length:=by rw[<-E.len];exact hil
  refine⟨.ref f,by rw[aS c4],?_⟩
  intro H2 ca
  obtain⟨gs,R2⟩:=e0.same ca.same
  have b3:=ab2 l1 cs a6
  have c3:∀ m,x1.bnd m=true->kQ m cs=true->kQ m [x1,.clo id cs]=true:=λ m z1 z2=>by
   simp only[kQ,z1,dI,cL]
   unfold kT;exact z2
  have bl:=c3 _ b1 b3
  have pv:PVL Γ X.env.cells X.N (σ.set i (some (.ref f))) φ1 H1 [x1,.clo id cs] [v1,.ref f]:=by
   refine .cons (.inl r1) (.cons (.inr ⟨id,cs,rfl,f,J,rfl,L.lg,b5.kp g1.w.kp,by rw[a5,L.len],by rw[L.s];exact L.cl,cap,RVL.mono g1 cs cap a6 a0,λ i x v e1 e3=>?_⟩) .nil)
   have hi:i<y.length:=by rw[<-L.len];exact(ab.mp e1).1
   have hj:y[i]?=some y[i]:=ag hi
   exact⟨by rw[L.s];exact L.fr x (aW e1),y[i],L.at_ i _ x hj e1,hσ i _ v hj e3⟩
  refine⟨φ1,_,[x1,.clo id cs],_,_,R2,pv.caught ca L.kd bl,bl,e4,λ v φ' H3 g' l' b' r' R'=>?_⟩
  have hc:Cells X.env.cells H3:=ca.cells.kp g'.w.kp
  exact q φ' (ac7 X.env.cells H3) ((a4.trans g1 (ai _)).trans (Gr.caught ca g') l1) (am l1 l') (R'.dropC hc hn.2) v b' (RV.dropC hc _ v hn.1 r')
mutual
theorem sS:∀(st:mF) (S:Stmt) (X:Cx) (y:Ck),CG Γ F n X y->mS y st S=true->PS X S (TSv Γ (DV.ex F st))
 | .asg tg e,S,X,y,G,h=>by
  cases S with
  | Assign ts v p =>
   cases ts with
   | cons t ts1 =>
    cases ts1 with
    | nil =>
     obtain⟨h,h3⟩:=zC h
     obtain⟨Y,J⟩:=zC h
     cases tg with
     | one i =>
      have h:=Y
      cases t with
      | Name x px =>
       obtain⟨Z,a2⟩:=zC h
       exact bD0 G (of_decide_eq_true Z) a2 J
      | _=>exact ff h
     | tup is =>
      obtain⟨Z,a2⟩:=zC h3
      have h:=Y
      cases t with
      | Tuple te tk tp=>exact(bq8 (sE e _ X y G J).1 (bz6 G Y) (show eX v (some (.Tuple te tk tp)) p.line X.env=pure false from ay0 a2) (aT4 Z) rfl).imp λ D σ H q=>aU1 (TSv.eq (λ ρ s=>rfl) q)
      | _=>exact ff h
    | _=>exact ff h
   | _=>exact ff h
  | _=>exact ff h
 | .setIx o i e,S,X,y,G,h=>by
  cases S with
  | Assign ts v p2 =>
   cases ts with
   | cons tt ts1 =>
    cases tt with
    | Subscript ob ix p1 =>
     cases ts1 with
     | nil =>
      obtain⟨h,h5⟩:=zC h
      obtain⟨h,h4⟩:=zC h
      obtain⟨h,h3⟩:=zC h
      obtain⟨Y,J⟩:=zC h
      have a0:=aM1 J
      refine(bq8 (sE e _ X y G h3).1 (bM3 (sE o _ X y G Y).1 (sE i _ X y G J).1 (bU4 (bj1 G.room)) ?_) (show eX v (some (.Subscript ob ix p1)) p2.line X.env=pure false from ay0 h4) (aQ9 h5) ?_).imp λ D σ H q=>bq4 (TSv.eq (λ ρ s=>rfl) q)
      ·intro w
       cases ix<;>first|rfl|cases a0
      ·rfl
     | _=>exact ff h
    | _=>exact ff h
   | _=>exact ff h
  | _=>exact ff h
 | .aug _ _,S,X,y,G,h=>ff h
 | .ex e,S,X,y,G,h=>by
  cases S with
  | Expr v p =>
   obtain⟨Y,J⟩:=zC h
   exact(bw3 (sE e _ X y G Y).1 (ay0 J)).imp λ D σ H q=>bI8 (TSv.eq (λ ρ s=>rfl) q)
  | _=>exact ff h
 | .ret e,S,X,y,G,h=>by
  cases S with
  | Return vo p =>
   cases vo with
   | some v =>
    exact(be2 (sE e _ X y G h).1).imp λ D σ H q=>bY0 (TSv.eq (λ ρ s=>rfl) q)
   | _=>exact ff h
  | _=>exact ff h
 | .retN,S,X,y,G,h=>ff h
 | .ite c a b,S,X,y,G,h=>by
  cases S with
  | If t l r p =>
   obtain⟨h,h3⟩:=zC h
   obtain⟨Y,J⟩:=zC h
   exact(cf1 (sE c _ X y G Y).2 (sSs a _ X y G J) (sSs b _ X y G h3)).imp λ D σ H q=>cg6 (TSv.eq (λ ρ s=>rfl) q)
  | _=>exact ff h
 | .whl c b,S,X,y,G,h=>by
  cases S with
  | While t l o p =>
   cases o with
   | nil =>
    obtain⟨Y,J⟩:=zC h
    exact(bm3 (by rw[G.xe];exact jT) (sE c _ X y G Y).2 (sSs b _ X y G J)).imp λ D σ H q=>bq0 (TSv.eq (λ ρ s=>rfl) q)
   | _=>exact ff h
  | _=>exact ff h
 | .for_ tg it b,S,X,y,G,h=>by
  cases S with
  | For tgt iter l o p =>
   cases o with
   | nil =>
    obtain⟨h,h3⟩:=zC h
    obtain⟨Y,J⟩:=zC h
    exact(bX1 (by rw[G.xe];exact jT) G.calm (sI it _ _ X y G J) (bz6 G Y) (sSs b _ X y G h3) (aG1 (bL3 J))).imp λ D σ H q=>bY1 (TSv.eq (λ ρ s=>rfl) q)
   | _=>exact ff h
  | _=>exact ff h
 | .pass,S,X,y,G,h=>ff h
 | .cont,S,X,y,G,h=>ff h
 | .brk,S,X,y,G,h=>ff h
 | .und _,S,X,y,G,h=>ff h
 | .raise,S,X,y,G,h=>bl2.imp λ D σ H q=>by
  obtain⟨φ,ρ,s,c,s',E,R,hm,q⟩:=q
  cases hm
theorem sSs:∀(st:l6) (S:List Stmt) (X:Cx) (y:Ck),CG Γ F n X y->mSs y st S=true->PSs X S (TSv Γ (mH F st))
 | .nil,S,X,y,G,h=>by
  cases S with
  | nil =>
   exact aF1.imp λ D σ H q=>by5 (m:=mH F .nil) (λ ρ s=>rfl) q
  | _=>exact ff h
 | .cons s ss,S,X,y,G,h=>by
  cases S with
  | cons x xs =>
   rcases(bP _ _).mp h with h|h
   ·exact bR0 G h
   obtain⟨Y,J⟩:=zC h
   exact(am0 (sS s _ X y G Y) (sSs ss _ X y G J)).imp λ D σ H q=>bX4 (TSv.eq (λ ρ s=>rfl) q)
  | _=>exact ff h
end
end
section
variable {Γ:Gm}
theorem aG6 {φ φ1:Nat->Addr}{H G:Hp}{s s1:kO}(R:Rp Γ φ H s)(g:Gr φ s H φ1 s1 G)(ho:mK s s1=true){i:Nat}{o:li}(y:i<s.length)(e:s1[i]?=some o):o.bnd s.length=true:=by
 unfold mK at ho
 have:=aO.mp ho i (bA.mpr y)
 rw[e,bP]at this
 rcases this with h|h
 ·exact R.wf i o (of_decide_eq_true h).symm
 ·exact h
theorem jf {s1:kO}{k i:Nat}{o:li}(e:(s1.take k)[i]?=some o):i<k/\s1[i]?=some o:=by
 rw[iI]at e
 split at e
 ·exact⟨‹_›,e⟩
 ·cases e
theorem aQ7 {φ φ1:Nat->Addr}{H h:Hp}{s s1:kO}(R:Rp Γ φ H s)(g:Gr φ s H φ1 s1 h)(R1:Rp Γ φ1 h s1)(ho:mK s s1=true):Gr φ s H φ1 (s1.take s.length) h/\Rp Γ φ1 h (s1.take s.length):=by
 have hl:(s1.take s.length).length=s.length:=by rw[bG];have:=g.le;omega
 refine⟨⟨g.w,by rw[hl];exact ai _,λ i J G=>by rw[hl]at G;omega,λ i o y e e'=>g.kd i o y e (jf e').2,g.st,g.fr⟩,λ i j o y e e' m m' z=>R1.inj i j o y (jf e).2 (jf e').2 m m' z,λ i o e=>R1.obj i o (jf e).2,λ i o e=>?_,R1.tab⟩
 rw[hl]
 exact aG6 R g ho (jf e).1 (jf e).2
theorem av1 {φ φ1:Nat->Addr}{H J:Hp}{s s1 s':kO}{v0 d:kP}{v:V}(R:Rp Γ φ H s)(g:Gr φ s H φ1 s1 J)(R1:Rp Γ φ1 J s1)(hb:v0.bnd s1.length=true)(r:RV Γ φ1 J v0 v)(h:DV.zT s v0 s1=.ok d s') :
  ∃ φ',Gr φ s H φ' s' J/\s.length<=s'.length/\d.bnd s'.length=true/\RV Γ φ' J d v/\Rp Γ φ' J s':=by
 have all:d=v0->s'=s1->∃ φ',Gr φ s H φ' s' J/\s.length<=s'.length/\d.bnd s'.length=true/\RV Γ φ' J d v/\Rp Γ φ' J s':=λ e1 e2=>by
  subst e1;subst e2
  exact⟨φ1,g,g.le,hb,r,R1⟩
 unfold DV.zT at h
 split at h
 case isFalse=>cases h;exact all rfl rfl
 rename_i ho
 obtain⟨gt,Rt⟩:=aQ7 R g R1 ho
 have hl:(s1.take s.length).length=s.length:=by rw[bG];have:=g.le;omega
 have tk:d=v0->s'=s1.take s.length->v0.bnd s.length=true->∃ φ',Gr φ s H φ' s' J/\s.length<=s'.length/\d.bnd s'.length=true/\RV Γ φ' J d v/\Rp Γ φ' J s':=λ e1 e2 b=>by
  subst e1;subst e2
  exact⟨φ1,gt,by rw[hl];exact ai _,by rw[hl];exact b,r,Rt⟩
 split at h
 ·rename_i k
  split at h
  ·cases h
   exact tk rfl rfl (by unfold kT;exact decide_eq_true ‹_›)
  ·rename_i hk
   split at h
   ·rename_i o eo
    split at h
    ·rename_i Z
     cases h
     have gw:Gw φ1 s.length J (λ i=>if i=s.length then φ1 k else φ1 i) J:=⟨λ i y=>if_neg (aA y),Kp.refl _⟩
     have key:∀(i:Nat) (Y:li),(s1.take s.length++[o])[i]?=some Y->(i<s.length/\s1[i]?=some Y)\/(i=s.length/\Y=o):=λ i Y e=>by
      rcases fB i s.length with h|h|h
      ·rw[aw (by rw[hl];exact h)]at e;exact .inl (jf e)
      ·subst h
       rw[af (by rw[hl];exact ai _),hl,ef]at e
       exact .inr ⟨rfl,(av e).symm⟩
      ·rw[aZ (by rw[aQ,hl];simp;omega)]at e;cases e
     have G:(s1.take s.length++[o]).length=s.length+1:=by rw[aQ,hl];rfl
     refine⟨λ i=>if i=s.length then φ1 k else φ1 i,⟨⟨λ i y=>?_,g.w.kp⟩,by rw[G];omega,λ i h1 h2=>?_,λ i oo Y e e'=>?_,g.st,g.fr⟩,by rw[G];omega,by unfold kT;rw[G];exact decide_eq_true (dB _),?_,⟨λ i j oi oj a0 a1 mi mj e=>?_,λ i Y e=>?_,λ i Y e=>?_,R1.tab⟩⟩
     ·show(if i=s.length then φ1 k else φ1 i)=φ i
      rw[if_neg (aA y)];exact g.w.map i y
     ·rw[G]at h2
      show H (if i=s.length then φ1 k else φ1 i)=none
      rw[if_pos (by omega)]
      exact g.new k (by omega) (ab.mp eo).1
     ·rcases key i Y e' with⟨_,e2⟩|⟨y,_⟩
      ·exact g.kd i oo Y e e2
      ·have:=(ab.mp e).1;omega
     ·rw[r.refE]
      unfold RV
      show V.ref (φ1 k)=V.ref (if s.length=s.length then φ1 k else φ1 s.length)
      rw[if_pos rfl]
     ·rcases key i oi a0 with⟨y,ei⟩|⟨y,zi⟩<;>rcases key j oj a1 with⟨hj,ej⟩|⟨hj,zj⟩
      ·rw[if_neg (aA y),if_neg (aA hj)]at e
       exact R1.inj i j oi oj ei ej mi mj e
      ·rw[if_neg (aA y),if_pos hj]at e
       subst zj
       have:=R1.inj i k oi _ ei eo mi mj e
       omega
      ·rw[if_neg (aA hj),if_pos y]at e
       subst zi
       have:=R1.inj k j _ oj eo ej mi mj e
       omega
      ·rw[y,hj]
     ·rcases key i Y e with⟨y,e⟩|⟨y,rfl⟩
      ·show RO Γ _ _ (if i=s.length then φ1 k else φ1 i) Y
       rw[if_neg (aA y)]
       exact(R1.obj i Y e).mono gw (aG6 R g ho y e) λ _ u hu=>hu
      ·show RO Γ _ _ (if i=s.length then φ1 k else φ1 i) Y
       rw[if_pos y]
       exact(R1.obj k _ eo).mono gw Z λ _ u hu=>hu
     ·rw[G]
      rcases key i Y e with⟨y,e⟩|⟨_,rfl⟩
      ·exact qG (du _) _ (aG6 R g ho y e)
      ·exact qG (du _) _ Z
    ·cases h;exact all rfl rfl
   ·exact fb h
 ·split at h
  ·cases h;exact tk rfl rfl ‹_›
  ·cases h;exact all rfl rfl
structure LamGood (J:LamI)(L:lQ):Prop where
 sc:LamScope (J.ps++J.fr) J.ps J.fr J.scope
 ps:J.ps.length=L.ps
 fr:J.fr.length=L.cs
 m:mE (ck0 (J.ps++J.fr) J.scope) L.body J.body=true
 bind:∀(clos:List (Str×Addr)) (doc pm:Value) (c':Addr) (ctv:Value) (us:List Value),us.length=J.ps.length->eC (bS "<lambda>" J.qual J.params J.body J.scope clos pm (.ref c') ctv) ⟨us,[]⟩=pure (J.ps.zip us) /\
  ∀(nm:Str) (rp:Pos),eC (cu nm J.qual J.params [.Return (some J.body) rp] J.scope clos .none .none doc pm none (.ref c') ctv) ⟨us,[]⟩=pure (J.ps.zip us)
structure LkAt (Γ:Gm)(cds:List (Addr×Addr))(f:Str)(sc:Scope)(N:List Str)(fd:bI)(id:String)(caps:List Nat)(params:a9)(body:Expr)(scope:Scope)(c P:Addr)(J:LamI):Prop where
 code:fd.code=.ref c
 cd:(c,P)∈cds
 ck:lamCheck scope sc=true
 fre:∀ x,scope.names.lookup x=some .free->sc.names.lookup x=some .cell
 cel:∀ y∈sc.names,y.2=.cell->sc.names.lookup y.1=some .cell
 df:∀ env,j7 params env=([],[])
 lg:Γ.lg id J
 q:J.qual=f ++ ".<locals>."++J.own
 p:J.params=params
 b:J.body=body
 s:J.scope=scope
 len:J.fr.length=caps.length
 at_:∀(i j:Nat) (x:Str),caps[i]?=some j->J.fr[i]?=some x->N[j]?=some x
 fr:∀ x∈J.fr,scope.names.lookup x=some .free
 tab:(P,J.qual)∈Γ.T
def bZ0 (Γ:Gm)(cds:List (Addr×Addr))(f:Str)(sc:Scope)(N:List Str)(fd:bI)(lk:String->List Nat->Expr->Bool):Prop :=
 ∀ id caps E,lk id caps E=true->∃ c P params body scope pos J,E=lamText J params body scope pos/\LkAt Γ cds f sc N fd id caps params body scope c P J
def Good (Γ:Gm)(cds:List (Addr×Addr))(mg:Str->Option Value)(f:String)(d:lR):Prop:=∃ st N ps a fd lk,DefAt Γ.K mg (f:Str) st ps a fd/\FnScope N ps (defScope st)/\ps.length=d.ps/\N.length=d.ps+d.vs/\mSs ⟨N,defScope st,lk⟩ d.body (qa st)=true/\bZ0 Γ cds (f:Str) (defScope st) N fd lk
structure PrOk (Γ:Gm)(cds:List (Addr×Addr))(P:lb)(mg:Str->Option Value):Prop where
 df:∀ f d,P.df f=some d->Good Γ cds mg f d
 con:∀ x d,P.con x=some d->∃ v u,mg (x:Str)=some u/\RelV v u/\(∀ m,d.bnd m=true)/\∀ φ H,RV Γ φ H d v
 bi:∀ x∈bNames,mg x=none
 fa:∀(f:String) (a:Addr),Γ.fa f=some a->mg (f:Str)=some (.ref a)/\∃ oc od fd sl,Γ.K.lookup a=some ⟨oc,od,.func fd,sl⟩
 lg:∀ id J,Γ.lg id J->∃ L,P.lm id=some L/\LamGood J L
 nd:(Γ.T.map (·.1)).Nodup
noncomputable def aN6 (Γ : Gm) (prog : Program) (w : World) (mg : Str -> Option Value) (base : Heap) (F : DV.Fns) (n : Nat) : Prop := (∀ f : String, (∀ l s, F.call f l s = .bad) \/
      ∃ a fd ps, FnOk prog w Γ.K mg base CX0 n a fd ps (spV Γ (F.call f)) /\ mg (f : Str) = some (.ref a) /\ cf Γ.K (.ref a) = true /\ Binds Γ.K fd ps []) /\
  ∀(id : String) (J : LamI) (f : Addr) (cap : List V) (clos : List (Str × Addr)), Γ.lg id J -> cap.length = J.fr.length -> ClOk prog w Γ.K mg base n (λ H => CloAt H f J cap clos) f (spL Γ (F.lam id) cap)
theorem bk6 {φ:Nat->Addr}{H:Hp}{n k:Nat}{N:List Str}{l:List kP}{vs:List V}(r:RVL Γ φ H l vs)(b:kQ n l=true)(hN:N.length=l.length+k):RE Γ φ H n (l.map some++ar k none) (aj0 N vs):=by
 have hl:=r.length
 refine⟨?_,λ i d e=>?_⟩
 ·unfold aj0;simp[hl,hN]
 ·by_cases hi:i<l.length
  ·rw[aw (by simpa using hi),ao]at e
   have e':l[i]?=some d:=by
    rw[ag hi]at e ⊢
    exact av e
   obtain⟨v,e1,e2⟩:=r.get e'
   refine⟨al6 b e',v,?_,e2⟩
   unfold aj0
   rw[aw (by rw[ax,hl];exact hi),ao,e1];rfl
  ·rw[af (by simpa using i5 hi)]at e
   rw[fR]at e
   split at e<;>cases e
theorem bL8 {a3:List (Addr×Addr)}{P:lb}{prog:aN}{w:World}{mg:Str->Option Value}{Z:Heap}(hP:PrOk Γ a3 P mg)(hb:∀ y∈a3,bT Z y.1 y.2/\BM mg Z)(n:Nat)(a2:aN6 Γ prog w mg Z (kZ P n) (n+31))
  {f:String} {d:lR} (e:P.df f=some d) {st:Stmt} {N ps:List Str} {a:Addr} {fd:bI} {lk:String->List Nat->Expr->Bool} (hD:DefAt Γ.K mg (f:Str) st ps a fd) (hS:FnScope N ps (defScope st)) (h1:ps.length=d.ps) (h2:N.length=d.ps+d.vs) (hm:mSs ⟨N,defScope st,lk⟩ d.body (qa st)=true) (hL:bZ0 Γ a3 (f:Str) (defScope st) N fd lk) :
  FnOk prog w Γ.K mg Z CX0 (n+1+31) a fd ps (spV Γ ((kZ P (n+1)).call f)):=by
 have a1:∀ vs H Q E,spV Γ ((kZ P (n+1)).call f) vs H Q E->vs.length=ps.length:=λ vs H Q E q=>by
  obtain⟨φ,s,l,d',s',R,r,b,hc,k⟩:=q
  simp only[kZ,e]at hc
  split at hc
  ·rw[r.length,h1];assumption
  ·exact fb hc
 have body:∀(a0:Value),(∀ id Y E,lk id Y E=true->fd.code=a0)->∀(A:aX) (outer:List Env) (sh:ah) (H:Hp) (vs:List V) (Q:VK) (E:XK),Room (n+31) (A.deeper (fF (f:Str) (defScope st) sh.heap.objs.size a a0))->spV Γ ((kZ P (n+1)).call f) vs H Q E ->
   ∃ t,PSs (bo4 CX0 prog w Γ.K mg Z N (f:Str) (defScope st) a a0 A outer sh H E).nox (qa st) t/\t { nx:=λ _ H'=>Q .non H',rt:=Q } (aj0 N vs) H:=by
  intro a0 a6 A outer sh H vs Q E hr q
  have G:CG Γ (kZ P n) (n+31) (bo4 CX0 prog w Γ.K mg Z N (f:Str) (defScope st) a a0 A outer sh H E).nox ⟨N,defScope st,lk⟩:=by
   refine⟨rfl,rfl,hS.nd,rfl,rfl,?_,hr,λ x k e=>.inl e,λ _ _=>rfl,hP.bi,a2.1,?_,λ id Y E' hlk=>?_,a2.2,hP.fa,DV.al2 P n⟩
   ·show k7+1<=n+31
    unfold k7;omega
   ·have:(kZ P n).con=P.con:=by cases n<;>rfl
    rw[this];exact hP.con
   ·obtain⟨c,Pa,params,body,scope,pos,J,eE,L⟩:=hL id Y E' hlk
    obtain⟨b0,a4⟩:=hb _ L.cd
    refine⟨c,Pa,params,body,scope,pos,J,eE,⟨?_,b0,a4,L.ck,L.df _,L.lg,L.q,L.p,L.b,L.s,L.len,L.at_,L.fr,λ x hx=>?_,L.tab,hP.nd,λ _=>rfl,λ x c hx=>?_⟩⟩
    ·show a0=.ref c
     rw[<-a6 id Y E' hlk];exact L.code
    ·exact qp (L.fre x hx)
    ·rcases zS (aC hx)with z|z
     ·exact .inl (L.cel (x,.cell) z rfl)
     ·exact absurd z (by simp)
  refine⟨_,sSs d.body (qa st) _ ⟨N,defScope st,lk⟩ G hm,?_⟩
  obtain⟨φ,s,l,d',s',R,r,b,hc,k⟩:=q
  simp only[kZ,e]at hc
  split at hc
  case isFalse=>exact fb hc
  rename_i a1
  obtain⟨c,s1,e1,hc⟩:=aa0 hc
  refine⟨φ,l.map some++ar d.vs none,s,c,s1,bk6 r b (by rw[h2,a1]),R,e1,λ φ1 H1 g1 l1 R1=>?_⟩
  cases c with
  | ret v0 =>
   intro v hb rv
   obtain⟨φ',g',l',b',r',R'⟩:=av1 R g1 R1 hb rv hc
   exact k v φ' H1 g' l' b' r' R'
  | next ρ =>
   intro σ' _
   obtain⟨φ',g',l',b',r',R'⟩:=av1 (v0:=.non) R g1 R1 rfl RV.nonI hc
   exact k .non φ' H1 g' l' b' r' R'
  | cont ρ=>exact fb hc
  | brk ρ=>exact fb hc
 by_cases hl:∃ id Y E,lk id Y E=true
 ·obtain⟨id,Y,E,hlk⟩:=hl
  obtain⟨c,Pa,params,a5,scope,pos,J,eE,L⟩:=hL id Y E hlk
  exact hD.fn.okC L.code hS a1 (body _ λ _ _ _ _=>L.code)
 ·exact hD.fn.ok hS a1 (λ a0=>body a0 λ id Y E h=>absurd ⟨id,Y,E,h⟩ hl)
theorem bG4 {b5:List (Addr×Addr)}{P:lb}{prog:aN}{w:World}{mg:Str->Option Value}{a0:Heap}(hP:PrOk Γ b5 P mg)(n:Nat)(a1:aN6 Γ prog w mg a0 (kZ P n) (n+31))
  (id:String) (J:LamI) (f:Addr) (cap:List V) (Z:List (Str×Addr)) (b6:Γ.lg id J) (a3:cap.length=J.fr.length) :
  ClOk prog w Γ.K mg a0 (n+1+31) (λ H=>CloAt H f J cap Z) f (spL Γ ((kZ P (n+1)).lam id) cap):=by
 obtain⟨L,eL,LG⟩:=hP.lg id J b6
 have a5:∀ vs H Q E,spL Γ ((kZ P (n+1)).lam id) cap vs H Q E->vs.length=J.ps.length:=λ vs H Q E q=>by
  obtain⟨φ,s,cs,l,d,s',R,r,rc,b,bc,hc,k⟩:=q
  simp only[kZ,eL]at hc
  split at hc
  ·rename_i hh;rw[r.length,LG.ps];exact hh.1
  ·exact fb hc
 have main:∀(A:aX) (outer:List Env) (sh:ah) (H:Hp) (cd:Value) (vs:List V) (Q:VK),Room (n+31) (A.deeper (cW J.qual J.scope sh.heap.objs.size f cd (aM (sh.heap.objs.size+1) J.scope.names Z)))->Cells Z H->(∀ b o,Γ.K.lookup b=some o->H b=none)->spL Γ ((kZ P (n+1)).lam id) cap vs H Q E0 ->
   ∃ t,PE (aG5 prog w Γ.K mg a0 (J.ps++J.fr) J.qual J.scope f cd Z A outer sh H) J.body t/\t (vs.map some++cap.map some) (ac7 Z H) λ v H'=>(∀ b,isC Z b=true->H' b=none)->Q v (Put Z H H'):=by
  intro A outer sh H cd vs Q hr Y hK q
  have G:CG Γ (kZ P n) (n+31) (aG5 prog w Γ.K mg a0 (J.ps++J.fr) J.qual J.scope f cd Z A outer sh H) (ck0 (J.ps++J.fr) J.scope):=by
   refine⟨rfl,rfl,LG.sc.nd,rfl,rfl,?_,hr,λ x k e=>.inl e,λ x e=>?_,hP.bi,a1.1,?_,λ _ _ _ h=>(by cases h),a1.2,hP.fa,DV.al2 P n⟩
   ·show k7+1<=n+31
    unfold k7;omega
   ·show(J.scope.names.lookup x==some .cell)=true
    rw[show J.scope.names.lookup x=some .cell from e];rfl
   ·have:(kZ P n).con=P.con:=by cases n<;>rfl
    rw[this];exact hP.con
  refine⟨_,(sE L.body J.body _ (ck0 (J.ps++J.fr) J.scope) G LG.m).1,?_⟩
  obtain⟨φ,s,cs,l,d,s',R,r,rc,b,bc,hc,k⟩:=q
  simp only[kZ,eL]at hc
  split at hc
  case isFalse=>exact fb hc
  rename_i hh
  obtain⟨h1,h2,h3⟩:=hh
  rw[au,au]at h3
  obtain⟨⟨c2,c1⟩,c0⟩:=h3
  obtain⟨v0,s1,e1,hc⟩:=aa0 hc
  have RD:Rp Γ φ (ac7 Z H) s:=R.dropC Y c0
  have b4:RVL Γ φ (ac7 Z H) (l++cs) (vs++cap):=(RVL.dropC Y l vs c2 r).append (RVL.dropC Y cs cap c1 rc)
  refine⟨φ,l.map some++cs.map some,s,v0,s1,⟨by simp[r.length,rc.length],λ i x ei=>?_⟩,RD,e1,λ v φ1 H1 g1 l1 b1 r1 R1 a4=>?_⟩
  ·rw[<-bE,ao]at ei
   have b3:(l++cs)[i]?=some x:=by
    cases q:(l++cs)[i]? with
    | none=>rw[q]at ei;cases ei
    | some y=>rw[q]at ei;cases ei;rfl
   obtain⟨u,e3,e4⟩:=b4.get b3
   refine⟨al6 (qo b bc) b3,u,?_,e4⟩
   rw[<-bE,ao,e3];rfl
  ·obtain⟨φ',g',l',b',r',R'⟩:=av1 RD g1 R1 b1 r1 hc
   have gp:=Gr.put Y a4 hK R' g'
   obtain⟨gs,Rs⟩:=R'.same (bf4 (H:=H) a4)
   exact k v φ' _ gp l' b' (RV.mono gs d v b' r') Rs
 unfold CloAt
 cases q:J.nm with
 | none=>exact bG6 LG.sc a5 a3 (λ pm c' a2 us b0=>(LG.bind Z .none pm c' a2 us b0).1) (λ A outer sh H cd vs Q hr a6 hK q=>by
   obtain⟨pm,c',a2,_,_,Y,_⟩:=a6
   exact main A outer sh H cd vs Q hr Y hK q)
 | some p=>exact bE4 LG.sc a5 a3 (λ b2 pm c' a2 us b0=>(LG.bind Z b2 pm c' a2 us b0).2 _ _) (λ A outer sh H cd vs Q hr a6 hK q=>by
   obtain⟨b2,pm,c',a2,_,_,Y,_⟩:=a6
   obtain⟨t,h1,h2⟩:=main A outer sh H cd vs Q hr Y hK q
   exact⟨_,am0 (be2 h1) aF1,h2⟩)
theorem bg1 {Y:List (Addr×Addr)}{P:lb}{prog:aN}{w:World}{mg:Str->Option Value}{h:Heap}(Z:PrOk Γ Y P mg)(hb:∀ y∈Y,bT h y.1 y.2/\BM mg h):∀ n:Nat,aN6 Γ prog w mg h (kZ P n) (n+31)
 | 0=>⟨λ f=>.inl λ l s=>rfl,λ id J f cap G _ _=>⟨λ A outer s H us vs Q _ _ _ _ q=>by
   obtain⟨φ,s,cs,l,d,s',R,r,rc,b,bc,hc,k⟩:=q
   cases hc⟩⟩
 | n+1=>by
  have ih:aN6 Γ prog w mg h (kZ P n) (n+31):=bg1 Z hb n
  refine⟨λ f=>?_,λ id J f cap G h1 h2=>bG4 Z n ih id J f cap G h1 h2⟩
  cases e:P.df f with
  | none=>exact .inl λ l s=>by simp only[kZ,e]
  | some d =>
   obtain⟨st,N,ps,a,fd,lk,hD,hS,h1,h2,hm,hL⟩:=Z.df f d e
   exact .inr ⟨a,fd,ps,bL8 Z hb n ih e hD hS h1 h2 hm hL,hD.mg,hD.fn.kp,hD.bi⟩
def spT (Γ:Gm):Sp:=λ vs H Q _=>∃(a:Addr) (ns:List Int),vs=[.ref a]/\SqF Γ.K H a (ns.map V.int)/\ns.length<=63/\TabsH Γ.T H/\∀ H',Q (.bl true) H'
theorem aM6 {φ:Nat->Addr}{H:Hp}:∀ ns:List Int,RVL Γ φ H (ns.map DV.D.int) (ns.map V.int)
 | []=>.nil
 | n::ns=>.cons RV.intI (aM6 ns)
theorem aE6 {m:Nat}:∀ ns:List Int,kQ m (ns.map DV.D.int)=true
 | []=>rfl
 | n::ns=>by rw[aJ];unfold kQ;rw[aE6 ns];rfl
theorem bX0 {P:lb}{k:Nat}(h:∀ ns:List Int,ns.length<=63->∃ s',(kZ P k).call "law" [.ref 0] [.ro (ns.map DV.D.int)]=.ok (.bl true) s')(vs:List V)(H:Hp)(Q:VK)(E:XK)(q:spT Γ vs H Q E):spV Γ ((kZ P k).call "law") vs H Q E:=by
 obtain⟨a,ns,rfl,y,hl,hT,G⟩:=q
 obtain⟨s',hs⟩:=h ns hl
 refine⟨λ _=>a,[.ro (ns.map DV.D.int)],[.ref 0],.bl true,s',⟨λ i j o J e e' m m' _=>?_,λ i o e=>?_,λ i o e=>?_,hT⟩,.cons RV.refI .nil,?_,hs,λ v φ' H' g l b r R=>?_⟩
 ·cases i with
  | zero=>cases e;cases m
  | succ i=>cases e
 ·cases i with
  | zero=>cases e;exact⟨_,y,aM6 ns⟩
  | succ i=>cases e
 ·cases i with
  | zero=>cases e;unfold kW;exact aE6 ns
  | succ i=>cases e
 ·unfold kQ kT kQ;rfl
 ·rw[r.blE];exact G H'
theorem aM9 {y:List (Addr×Addr)}{mg:Str->Option Value}:∀ {tbl:List (String×lR)},(∀ p∈tbl,Good Γ y mg p.1 p.2)->∀ f d,tbl.lookup f=some d->Good Γ y mg f d
 | [],_,f,d,h=>by cases h
 | (g,e)::tbl,H,f,d,h=>by
  rw[a8]at h
  cases q:f==g with
  | true =>
   rw[q]at h
   cases h
   rw[eq_of_beq q]
   exact H (g,_) (aH ..)
  | false =>
   rw[q]at h
   exact aM9 (λ p G=>H p (az _ G)) f d h
def bn7 (Γ:Gm)(mg:Str->Option Value)(x:String)(d:kP):Prop:=∃ v u,mg (x:Str)=some u/\RelV v u/\(∀ m,d.bnd m=true)/\∀ φ H,RV Γ φ H d v
theorem aT9 {mg:Str->Option Value}:∀ {tbl:List (String×kP)},(∀ p∈tbl,bn7 Γ mg p.1 p.2)->∀ f d,tbl.lookup f=some d->bn7 Γ mg f d
 | [],_,f,d,h=>by cases h
 | (g,e)::tbl,H,f,d,h=>by
  rw[a8]at h
  cases q:f==g with
  | true =>
   rw[q]at h
   cases h
   rw[eq_of_beq q]
   exact H (g,_) (aH ..)
  | false =>
   rw[q]at h
   exact aT9 (λ p y=>H p (az _ y)) f d h
theorem bE3 {mg:Str->Option Value}{x:String}{i:Int}{t:Tok}(h:mg (x:Str)=some (.int i t)):bn7 Γ mg x (.int i):=⟨.int i,_,h,⟨t,rfl⟩,λ _=>rfl,λ _ _=>RV.intI⟩
end
theorem aT2 {P:aN}{w:World}{K:ae}{mg mb:Str->Option Value}{k:Nat}{fa a:Addr}{fd:bI}{x:Str}{sp:Sp}{G:ah}{vs:List Value}{ns:List Int}{tabs:List (Addr×Addr)}
  (KX:K.In G.heap) (c1:G.heap.Ns bj mg) (hb:G.heap.Ns f6 mb) (e6:∀ x:Str,x ≠ "__name__"->mb x=be x) (a6:G.heap.NoLimit) (hg:G.gens=#[]) (d1:BM mg G.heap) (hT:ka tabs G.heap) (e4:kb K=true)
  (ha:G.heap.get? a=some { cls:=.type "list",data:=.seq vs.toArray }) (hi:jZ vs ns) (hl:ns.length<=aL) (hr:Room k g7)
  (F:∀ Z:Heap,K.In Z->Z.Ns bj mg->BM mg Z->(∀ q∈tabs,bT Z q.1 q.2)->FnOk P w K mg Z CX0 k fa fd [x] sp) (a4:∀(s:ah) (u:Value),jX s fd ⟨[u],[]⟩ [(x,u)])
  (d3:∀ H:Hp,(∀ q∈tabs,H q.2=some (.tbl #[]))->SqL K H a (ns.map V.int)->(∀ u,H a=some u->(∃ o xs,u=.frz o (.lst xs))\/∃ ps,u=.tbl ps)->sp [.ref a] H (λ v _=>v=.bl true) E0) :
  fv (model P w) g7 (.call (.ref fa) ⟨[.ref a],[]⟩) (λ r s'=>r=.ok (.ret (.bool true))/\OldK G.heap s'.heap/\s'.os=G.os/\fq s'.gens) G:=by
 have rv:=az8 hi
 have c0:=hi.length
 have J:∀ b,b∈tabs.map (·.2)->G.heap.get? b=some (d9 #[]):=λ b h=>by
  obtain⟨q,hq,rfl⟩:=aB.mp h
  exact(hT q hq).2
 have a1:∀ H:Hp,(∀ b u,H b=some u->(b=a/\∃ o xs,u=.frz o (.lst xs))\/(b∈tabs.map (·.2)/\u=.tbl #[]))->(∀ q∈tabs,H q.2=some (.tbl #[]))->SqL K H a (ns.map V.int)->HOk P w H G.heap->(H a≠none->K.lookup a=none) ->
   fv (model P w) g7 (.call (.ref fa) ⟨[.ref a],[]⟩) (λ r s'=>r=.ok (.ret (.bool true))/\OldK G.heap s'.heap/\s'.os=G.os/\fq s'.gens) G:=by
  intro H hO c4 hS hok hK
  have un:∀ b o,G.heap.get? b=some o->o.cls≠.type "list"->(∀ vs,o.data≠.fields vs)->H b=none:=λ b o e n1 n2=>by
   cases q:H b with
   | none=>rfl
   | some u =>
    rcases hO b u q with⟨z,_⟩|⟨z,_⟩
    ·rw[z,ha]at e;cases e;exact absurd rfl n1
    ·rw[J b z]at e;cases e;exact absurd rfl (n2 #[])
  have a0:∀ {b:Addr} {m:Str->Option Value},G.heap.Ns b m->(bh5 G.heap H).Ns b m:=λ {b m} ⟨o,es,ep,e,d,r⟩=>by
   refine⟨o,es,ep,al5 e ?_,d,r⟩
   cases q:H b with
   | none=>rfl
   | some u =>
    rcases hO b u q with⟨z,_⟩|⟨z,_⟩
    ·rw[z,ha]at e;cases e;cases d
    ·rw[J b z]at e;cases e;cases d
  have c2:K.In (bh5 G.heap H):=λ b o e=>al5 (KX b o e) (by
   cases q:H b with
   | none=>rfl
   | some u =>
    rcases hO b u q with⟨z,_⟩|⟨z,_⟩
    ·subst z
     rw[hK (by rw[q];simp)]at e;cases e
    ·have e2:=KX b o e
     rw[J b z]at e2
     have h2:=aO.mp e4 (b,o) (PySem.W.mem_of_lookupK e)
     have e3:o=d9 #[]:=(av e2).symm
     subst e3
     exact absurd (show false=true from h2) aR)
  have hM:Mod K mg (bh5 G.heap H):=⟨c2,a0 c1,⟨mb,a0 hb,e6⟩,let⟨mc,h1,h2⟩:=a6;⟨mc,a0 h1,h2⟩⟩
  have e7:BM mg (bh5 G.heap H):=by
   obtain⟨bm,ob,b1,b2,b3,b4,b5,b6⟩:=d1
   exact⟨bm,ob,b1,b2,al5 b3 (un bm ob b3 (by rw[b4];nofun) (by rw[b6];nofun)),b4,b5,b6⟩
  have d0:∀ q∈tabs,bT (bh5 G.heap H) q.1 q.2:=λ q hq=>by
   obtain⟨o,d2,c3,tf,a3,tg,e5,b0,tt,e1,r1,r2⟩:=(hT q hq).1
   refine⟨o,d2,c3,tf,a3,tg,e5,b0,tt,al5 e1 ?_,r1,r2⟩
   cases q2:H q.1 with
   | none=>rfl
   | some u =>
    rcases hO _ u q2 with⟨z,_⟩|⟨z,_⟩
    ·rw[z,ha]at e1;cases e1;exact absurd r1 (by simp)
    ·rw[J _ z]at e1;cases e1;exact absurd r1 (by simp)
  have e0:Env0 P w K mg (bh5 G.heap H) g7 [] G H:=⟨rfl,hM,λ b o e=>bC3 e,Nat.le_of_eq (bf7 _ _),trivial,λ b hb=>absurd (show b∈([]:List Addr)from hb) (by simp),hok,.of_eq hg⟩
  refine eR ((F _ c2 (a0 c1) e7 d0).run g7 [] G H ⟨[.ref a],[]⟩ [.ref a] [.ref a] _ _ hr e0 (a4 G (.ref a)) (.cons rfl .nil) (d3 H c4 hS (λ u e=>(hO a u e).elim (λ z=>.inl z.2) (λ z=>.inr ⟨_,z.2⟩)))) λ r s' h=>?_
  cases r with
  | error e=>exact bF h
  | ok fl =>
   cases fl with
   | next=>exact bF h
   | brk=>exact bF h
   | cont=>exact bF h
   | ret u =>
    obtain⟨v,H',os,bare,a5,a2,r',q⟩:=h
    have q':v=.bl true:=q
    subst q'
    obtain rfl:u=Value.bool true:=r'
    have key:∀ b o,G.heap.get? b=some o->asItWas G.heap s'.heap b o/\∃ o',s'.heap.get? b=some o':=λ b o e=>by
     cases q:H b with
     | none =>
      have z:=a5.keep b o e q (by intro z;exact absurd (show b∈([]:List Addr)from z) (by simp)) (by simp)
      exact⟨.inl z,o,z⟩
     | some u =>
      rcases hO b u q with⟨_,ob,xs,z⟩|⟨z,z2⟩
      ·subst z
       have z2:=a5.frzs b ob _ q
       obtain⟨e1,_⟩:=hok b _ q
       obtain⟨e2,_⟩:=a2 b _ z2
       rw[e]at e1;cases e1
       exact⟨.inl e2,_,e2⟩
      ·subst z2
       obtain⟨more,z3⟩:=a5.tbls b _ q
       have g:s'.heap.get? b=some { cls:=.none,data:=.fields (#[]++more) }:=a2 b _ z3
       have e1:=J b z
       rw[e]at e1;cases e1
       obtain⟨p,hp,ep⟩:=aB.mp z
       refine⟨.inr (.inl ⟨?_,rfl,#[],more,rfl,g⟩),_,g⟩
       have t:=((hT p hp).1.tab (hT p hp).2).isCodeTable
       rw[ep]at t
       exact t
    exact⟨rfl,⟨λ b o e=>(key b o e).1,λ b o e=>(key b o e).2⟩,os,bare⟩
 have tbl:∀ b,b∈tabs.map (·.2)->b≠a:=λ b h z=>by
  have e:=J b h
  rw[z,ha]at e;cases e
 cases hk:K.lookup a with
 | some o =>
  have e:=KX a o hk
  rw[ha]at e
  cases e
  refine a1 (λ b=>if b∈tabs.map (·.2)then some (.tbl #[])else none) (λ b u z=>?_) (λ q hq=>if_pos (bo hq)) (.inr ⟨_,vs.toArray,_,hk,rfl,rfl,rfl,by rw[ay,c0];exact hl,by simpa using rv⟩) (λ b u z=>?_) λ z=>?_
  ·by_cases hb:b∈tabs.map (·.2)
   ·have Y:=(if_pos hb).symm.trans z
    cases Y
    exact .inr ⟨hb,rfl⟩
   ·have Y:=(if_neg hb).symm.trans z
    cases Y
  ·by_cases hb:b∈tabs.map (·.2)
   ·have Y:=(if_pos hb).symm.trans z
    cases Y
    exact J b hb
   ·have Y:=(if_neg hb).symm.trans z
    cases Y
  ·exact absurd (if_neg λ y=>tbl a y rfl) z
 | none =>
  refine a1 (λ b=>if b=a then some (.frz { cls:=.type "list",data:=.seq vs.toArray } (.lst (ns.map V.int)))else if b∈tabs.map (·.2)then some (.tbl #[])else none) (λ b u z=>?_) (λ q hq=>?_) (.inl (.inr ⟨{ cls:=.type "list",data:=.seq vs.toArray },if_pos rfl⟩)) (λ b u z=>?_) λ _=>hk
  ·by_cases hb:b=a
   ·have Y:=(if_pos hb).symm.trans z
    cases Y
    exact .inl ⟨hb,_,_,rfl⟩
   ·have Y:=(if_neg hb).symm.trans z
    by_cases hc:b∈tabs.map (·.2)
    ·rw[if_pos hc]at Y;cases Y;exact .inr ⟨hc,rfl⟩
    ·rw[if_neg hc]at Y;cases Y
  ·have hm:q.2∈tabs.map (·.2):=bo hq
   show(if _ then _ else if _ then _ else _)=_
   rw[if_neg (tbl _ hm),if_pos hm]
  ·by_cases hb:b=a
   ·have Y:=(if_pos hb).symm.trans z
    cases Y
    subst hb
    exact⟨ha,by rw[ax];exact hl,vs,_,rv,ha⟩
   ·have Y:=(if_neg hb).symm.trans z
    by_cases hc:b∈tabs.map (·.2)
    ·rw[if_pos hc]at Y;cases Y;exact J b hc
    ·rw[if_neg hc]at Y;cases Y
theorem aW1 {ts:List Addr}{l:c6}{n k:Nat}{q:aN}{loose:List Str}{XP:(Str->Option Value)->Heap->Prop}{YP:World->Heap->Prop}{d:DefRec}{K:Params->ae}{sp:ae->Sp}{x:Str}(names:List Str)
  (hn:l.most=some n) (a5:n<=aL) (a6:d.params.defaults=[]) (hr:Room k g7)
  (hY:∀(w:World) (h:Heap),YP w h->(K w.params).In h/\∀ P∈ts,h.get? P=some (d9 #[])) (a1:∀ w:World,bT6 (K w.params) names ts=true) (b0:∀ w:World,kb (K w.params)=true)
  (F:∀(w:World) (mg:Str->Option Value) (fa:Addr) (h:Heap),(K w.params).In h->h.Ns bj mg->mg d.name=some (.ref fa) ->
   ∃ fd:bI,(∀(s:ah) (u:Value),jX s fd ⟨[u],[]⟩ [(x,u)]) /\
    ∀ J:Heap,(K w.params).In J->J.Ns bj mg->BM mg J->bA4 (K w.params) names J->FnOk l.prog w (K w.params) mg J CX0 k fa fd [x] (sp (K w.params)))
  (a3:∀(K:ae) (H:Hp) (a:Addr) (ns:List Int),ns.length<=n->bx5 K names H->SqL K H a (ns.map V.int)->(∀ u,H a=some u->(∃ o xs,u=.frz o (.lst xs))\/∃ ps,u=.tbl ps)->sp K [.ref a] H (λ v _=>v=.bl true) E0) :
  kq q loose XP YP l.row.toRowW d [] (λ f vs=>j5 f vs):=by
 refine Att.attach_call hn a6 λ w s₀ s₁ mg mb fa o pm cd b2 a vs ns G Y ho hd b3 a4 a2 a0 Z hg=>?_
 obtain⟨KX,b1⟩:=hY w _ Y
 obtain⟨fd,hb,hF⟩:=F w mg fa _ KX G.T.g a4
 have hT:ka ((aA3 (K w.params) names).map (·.2)) s₁.heap:=λ p hp=>by
  obtain⟨y,hy,rfl⟩:=aB.mp hp
  obtain⟨h1,h2⟩:=au2.mp hy
  have z:=aO.mp (a1 w) y.1 h1
  rw[h2]at z
  have z':(i7 (K w.params) y.2.1 y.2.2&&ts.contains y.2.2)=true:=z
  rw[au]at z'
  exact⟨PySem.W.codeHd_of_K KX z'.1,b1 _ (by simpa using z'.2)⟩
 have hm:∀ x∈names,∀ c P,bh (K w.params) x=some (c,P)->(c,P)∈(aA3 (K w.params) names).map (·.2):=λ x hx c P e=>aB.mpr ⟨(x,c,P),au2.mpr ⟨hx,e⟩,rfl⟩
 refine aT2 (tabs:=(aA3 (K w.params) names).map (·.2)) KX G.T.g G.T.b G.T.builtins G.T.nolimit hg ?_ hT (b0 w) a2 a0 (am Z a5) hr (λ J k1 k2 k3 k4=>hF J k1 k2 k3 λ x hx c P e=>k4 _ (hm x hx c P e)) hb λ H hO hS hF=>a3 (K w.params) H a ns Z (λ x hx c P e=>hO _ (hm x hx c P e)) hS hF
 obtain⟨bm,ob,h1,h2,h3,h4,h5,h6⟩:=G.T.bmain
 exact⟨bm,ob,h1,h2,h3,h4,h5,h6⟩
def spB (names:List Str)(K:ae):Sp:=λ vs H Q _=>∃(a:Addr) (ns:List Int),vs=[.ref a]/\SqF K H a (ns.map V.int)/\ns.length<=63/\bx5 K names H/\∀ H',Q (.bl true) H'
theorem bW9 {names:List Str}{K:ae}{H:Hp}{a:Addr}{ns:List Int}(hl:ns.length<=63)(Y:bx5 K names H)(y:SqL K H a (ns.map V.int))(J:∀ u,H a=some u->(∃ o G,u=.frz o (.lst G))\/∃ ps,u=.tbl ps):spB names K [.ref a] H (λ v _=>v=.bl true) E0:=by
 refine⟨a,ns,rfl,⟨y,λ H' k=>?_⟩,hl,Y,λ _=>rfl⟩
 rcases y with(h|⟨o,h⟩)|h
 ·rcases J _ h with⟨_,_,z⟩|⟨_,z⟩<;>cases z
 ·exact .inl (.inr ⟨o,k _ _ h rfl⟩)
 ·exact .inr h
def lgOf (P:lb):String->LamI->Prop:=λ id J=>∃ L,P.lm id=some L/\LamGood J L
noncomputable def sfx (x:Str):Str:=if x = "letter_table" then "least_fee" else "<lambda>"
noncomputable def bx0 (names:List Str)(K:ae):List (Addr×Str):=names.map λ x=>(((bh K x).getD (0,0)).2,x ++ ".<locals>."++sfx x)
noncomputable def bJ3 (names:List Str)(K:ae):List (Addr×Addr):=names.map λ x=>(bh K x).getD (0,0)
noncomputable def bO1 (K:ae)(f:String):Option Addr:=match dC K bj (f:Str)with
 | some (some (.ref a))=>(match K.lookup a with
  | some ⟨_,_,.func _,_⟩=>some a
  | _=>none)
 | _=>none
theorem bu8 {K:ae}{f:String}{a:Addr}{oc:Value}{od:Option Addr}{h:bI}{sl:Array (Option Value)}(G:dC K bj (f:Str)=some (some (.ref a)))(y:K.lookup a=some ⟨oc,od,.func h,sl⟩):bO1 K f=some a:=by
 unfold bO1
 rw[G]
 simp only
 rw[y]
theorem aK7 {K:ae}{f:String}{a:Addr}(h:bO1 K f=some a):dC K bj (f:Str)=some (some (.ref a))/\∃ oc od y sl,K.lookup a=some ⟨oc,od,.func y,sl⟩:=by
 unfold bO1 at h
 split at h
 ·rename_i G e
  split at h
  ·rename_i oc od y sl e2
   cases h
   exact⟨e,_,_,_,_,e2⟩
  ·cases h
 ·cases h
noncomputable abbrev bh7 (names:List Str)(P:lb)(K:ae):Gm:=⟨K,bO1 K,lgOf P,bx0 names K⟩
theorem cc8 {names:List Str}{P:lb}{K:ae}{h:Heap}{mg:Str->Option Value}(X:K.In h)(G:h.Ns bj mg):∀(f:String) (a:Addr),(bh7 names P K).fa f=some a->mg (f:Str)=some (.ref a)/\∃ oc od y sl,(bh7 names P K).K.lookup a=some ⟨oc,od,.func y,sl⟩:=λ f a e=>⟨db X G (aK7 e).1,(aK7 e).2⟩
theorem aU2 {names:List Str}{P:lb}{K:ae}{h:Heap}{mg:Str->Option Value}{f:String}{a:Addr}{oc:Value}{od:Option Addr}{J:bI}{sl:Array (Option Value)}(X:K.In h)(G:h.Ns bj mg)(y:dC K bj (f:Str)=some (some (.ref a)))(Y:K.lookup a=some ⟨oc,od,.func J,sl⟩):bn7 (bh7 names P K) mg f (.fn f) :=
 ⟨.ref a,.ref a,db X G y,rfl,λ _=>rfl,λ φ H=>by unfold RV;exact⟨a,bu8 y Y,rfl⟩⟩
theorem bn0 {names:List Str}{P:lb}{K:ae}(y:∀ x∈names,(bh K x).isSome=true){vs:List V}{H:Hp}{Q:VK}{E:XK}(q:spB names K vs H Q E):spT (bh7 names P K) vs H Q E:=by
 obtain⟨a,ns,e,J,hl,G,Y⟩:=q
 refine⟨a,ns,e,J,hl,TabsH.init λ p h=>?_,Y⟩
 simp only[bx0,cI]at h
 obtain⟨x,hx,rfl⟩:=aB.mp h
 exact G x hx _ _ (aw0 (y x hx))
theorem br2 {names:List Str}{K:ae}{mg:Str->Option Value}{h:Heap}(G:∀ x∈names,(bh K x).isSome=true)(bm:BM mg h)(hc:bA4 K names h):∀ y∈bJ3 names K,bT h y.1 y.2/\BM mg h:=λ y hy=>by
 obtain⟨x,hx,rfl⟩:=aB.mp hy
 exact⟨hc x hx _ _ (aw0 (G x hx)),bm⟩
noncomputable def az1:a9->Option (List Str)
 | ⟨[],args,none,[],[],none,[]⟩=>some (args.map (·.arg))
 | _=>none
theorem qK {p:a9}{ps:List Str}(h:az1 p=some ps):∃ args,p=⟨[],args,none,[],[],none,[]⟩/\args.map (·.arg)=ps:=by
 unfold az1 at h
 split at h
 ·exact⟨_,rfl,av h⟩
 ·cases h
def aE1 (ps:List Str):Prop:=∀ params,az1 params=some ps->∀(qual:Str) (body:Expr) (scope:Scope) (clos:List (Str×Addr)) (doc pm:Value) (c':Addr) (ctv:Value) (us:List Value),us.length=ps.length->eC (bS "<lambda>" qual params body scope clos pm (.ref c') ctv) ⟨us,[]⟩=pure (ps.zip us) /\
 ∀(nm:Str) (rp:Pos),eC (cu nm qual params [.Return (some body) rp] scope clos .none .none doc pm none (.ref c') ctv) ⟨us,[]⟩=pure (ps.zip us)
noncomputable def bb3 (ps fr:List Str)(sc:Scope):Bool:=decide (sc.kind=.function)&&!sc.isCoroutine&&!sc.isGenerator&&decide ((ps++fr).Nodup)&&(ps.all λ x=>decide (sc.names.lookup x=some .local)||decide (sc.names.lookup x=some .cell))&&(fr.all λ x=>decide (sc.names.lookup x=some .free))&&(sc.names.all λ y=>!decide (y.2=.cell)||decide (sc.names.lookup y.1=some .cell))
theorem bg8 {ps fr:List Str}{sc:Scope}(h:bb3 ps fr sc=true):LamScope (ps++fr) ps fr sc:=by
 unfold bb3 at h
 simp only[au,decide_eq_true_eq,fC,aO,bP]at h
 obtain⟨⟨⟨⟨⟨⟨h1,Z⟩,h3⟩,G⟩,J⟩,Y⟩,h7⟩:=h
 exact⟨h1,Z,h3,G,rfl,J,Y,λ y hy e=>by
  rcases h7 y hy with z|z
  ·rw[e]at z;simp at z
  ·exact z⟩
noncomputable def bV6 (scope sc:Scope):Bool:=scope.names.all λ y=>!decide (scope.names.lookup y.1=some .free)||decide (sc.names.lookup y.1=some .cell)
theorem bj5 {scope sc:Scope}(h:bV6 scope sc=true):∀ x,scope.names.lookup x=some .free->sc.names.lookup x=some .cell:=λ x hx=>by
 have:=aO.mp h (x,.free) (aC hx)
 simp only[bP,fC,decide_eq_false_iff_not,decide_eq_true_eq]at this
 rcases this with z|z
 ·exact absurd hx z
 ·exact z
noncomputable def lkB (sc:Scope)(N:List Str)(caps:List Nat)(params:a9)(body:Expr)(scope:Scope)(t:lQ×List Str×List Str):Bool :=
 decide (az1 params=some t.2.1)&&decide (caps.map (λ j=>N[j]?)=t.2.2.map some)&&lamCheck scope sc&&bV6 scope sc&&bb3 t.2.1 t.2.2 scope&&decide (t.2.1.length=t.1.ps)&&decide (t.2.2.length=t.1.cs)&&mE (ck0 (t.2.1++t.2.2) scope) t.1.body body
noncomputable def lkG (f:Str)(sc:Scope)(N:List Str)(tab:List (String×lQ×List Str×List Str))(id:String)(caps:List Nat)(E:Expr):Bool:=match tab.lookup id,E with
 | some t,.Lambda params body scope _=>decide (sfx f = "<lambda>")&&lkB sc N caps params body scope t
 | some t,.NamedExpr (.Name nm _) (.Lambda params body scope p1) p2=>decide (sfx f=nm)&&decide (p1=p2)&&lkB sc N caps params body scope t
 | _,_=>false
theorem bF5 {names:List Str}{P:lb}{K:ae}{f:Str}{sc:Scope}{N:List Str}{fd:bI}{tab:List (String×lQ×List Str×List Str)}(hf:f∈names)(Y:fd.code=.ref ((bh K f).getD (0,0)).1)(a0:∀ y∈sc.names,y.2=.cell->sc.names.lookup y.1=some .cell)
  (Z:∀ id t,tab.lookup id=some t->P.lm id=some t.1/\aE1 t.2.1):bZ0 (bh7 names P K) (bJ3 names K) f sc N fd (lkG f sc N tab):=by
 intro id G E h
 have J:∀(t:lQ×List Str×List Str) (params:a9) (body:Expr) (scope:Scope) (nm:Option (Str×Pos)),tab.lookup id=some t->lkB sc N G params body scope t=true->(match nm with|none => "<lambda>" | some p=>p.1)=sfx f ->
   LkAt (bh7 names P K) (bJ3 names K) f sc N fd id G params body scope ((bh K f).getD (0,0)).1 ((bh K f).getD (0,0)).2 ⟨f ++ ".<locals>."++sfx f,params,body,scope,t.2.1,t.2.2,nm⟩:=λ t params body scope nm e h hs=>by
  obtain⟨L,ps,fr⟩:=t
  unfold lkB at h
  simp only[au,decide_eq_true_eq]at h
  obtain⟨⟨⟨⟨⟨⟨⟨h1,h2⟩,h3⟩,h4⟩,h5⟩,h6⟩,h7⟩,h8⟩:=h
  obtain⟨hL,hB⟩:=Z id _ e
  obtain⟨args,rfl,a2⟩:=qK h1
  have a1:fr.length=G.length:=by have:=congrArg kH h2;simpa using this.symm
  have S:=bg8 h5
  refine⟨Y,aB.mpr ⟨f,hf,rfl⟩,h3,bj5 h4,a0,λ env=>rfl,⟨L,hL,⟨S,h6,h7,h8,λ a4 a5 pm c' a6 us a3=>hB _ h1 _ _ _ _ _ _ _ _ _ a3⟩⟩,?_,rfl,rfl,rfl,a1,λ i j x e1 e2=>?_,S.frs,aB.mpr ⟨f,hf,rfl⟩⟩
  ·show f ++ ".<locals>."++sfx f=f ++ ".<locals>."++LamI.own _
   unfold LamI.own
   rw[<-hs]<;>rfl
  ·have e3:(G.map (λ j=>N[j]?))[i]?=some (N[j]?):=by rw[ao,e1];rfl
   rw[h2,ao,e2]at e3
   exact(av e3).symm
 unfold lkG at h
 split at h
 case h_3=>cases h
 ·rename_i t params body scope pos e
  rw[au]at h
  exact⟨_,_,params,body,scope,pos,_,rfl,J t params body scope none e h.2 (of_decide_eq_true h.1).symm⟩
 ·rename_i t nm rp params body scope p1 p2 e
  rw[au,au]at h
  have ep:=of_decide_eq_true h.1.2
  subst ep
  exact⟨_,_,params,body,scope,p1,_,rfl,J t params body scope (some (nm,rp)) e h.2 (of_decide_eq_true h.1.1).symm⟩
theorem aV2 {names:List Str}{P:lb}{K:ae}{f:Str}{sc:Scope}{N:List Str}{y:bI}:bZ0 (bh7 names P K) (bJ3 names K) f sc N y (λ _ _ _=>false):=λ _ _ _ h=>by cases h
theorem cg7 {names:List Str}{P:lb}{K:ae}:∀ id J,(bh7 names P K).lg id J->∃ L,P.lm id=some L/\LamGood J L:=λ _ _ h=>h
theorem cc9 {P:lb}{tab:List (String×lQ×List Str×List Str)}(h:∀ p∈tab,P.lm p.1=some p.2.1/\aE1 p.2.2.1):∀ id t,tab.lookup id=some t->P.lm id=some t.1/\aE1 t.2.1:=by
 induction tab with
 | nil=>intro id t e;cases e
 | cons y l ih =>
  intro id t e
  rw[a8]at e
  cases q:id==y.1 with
  | true =>
   rw[q]at e
   cases e
   rw[eq_of_beq q]
   exact h y (aH ..)
  | false =>
   rw[q]at e
   exact ih (λ p G=>h p (az _ G)) id t e
def DfIn (K:ae)(n:Str)(st:Stmt):Prop:=∃(f:Addr) (od an:Option Addr) (sl:Array (Option Value)) (oc kV dc pm cd ct:Value),dC K bj n=some (some (.ref f)) /\
 K.lookup f=some ⟨oc,od,.func (cV n n (defArgs st) (qa st) (defScope st) .none kV dc pm an cd ct),sl⟩/\e8 K cd n=true/\cf K (.ref f)=true
def BdOk (n:Str)(st:Stmt)(ps:List Str):Prop:=∀(kV doc pm:Value) (an:Option Addr) (cdv ct:Value) (us:List Value),us.length=ps.length->eC (cV n n (defArgs st) (qa st) (defScope st) .none kV doc pm an cdv ct) ⟨us,[]⟩=pure (ps.zip us)
theorem bd0 {Q:List Value->Prop}(h:Q [])(us:List Value)(hl:us.length=0):Q us:=by
 cases us with
 | nil=>exact h
 | cons _ _=>cases hl
theorem bdS {k:Nat}{Q:List Value->Prop}(h:∀ a us,us.length=k->Q (a::us))(us:List Value)(hl:us.length=k+1):Q us:=by
 cases us with
 | nil=>cases hl
 | cons a us=>exact h a us (Nat.succ.inj hl)
theorem bd1 {Q:List Value->Prop}(h:∀ a,Q [a]):∀ us:List Value,us.length=1->Q us:=bdS λ a=>bd0 (h a)
theorem bd2 {Q:List Value->Prop}(h:∀ a b,Q [a,b]):∀ us:List Value,us.length=2->Q us:=bdS λ a=>bd1 (h a)
theorem bd3 {Q:List Value->Prop}(h:∀ a b c,Q [a,b,c]):∀ us:List Value,us.length=3->Q us:=bdS λ a=>bd2 (h a)
theorem bd4 {Q:List Value->Prop}(h:∀ a b c d,Q [a,b,c,d]):∀ us:List Value,us.length=4->Q us:=bdS λ a=>bd3 (h a)
def DT (names:List Str)(P:lb)(n:String)(d:lR)(st:Stmt):Prop:=∃ N ps,FnScope N ps (defScope st)/\ps.length=d.ps/\N.length=d.ps+d.vs/\BdOk n st ps/\(mSs ⟨N,defScope st,λ _ _ _=>false⟩ d.body (qa st)=true \/
 ((n:Str)∈names/\∃ tab,mSs ⟨N,defScope st,lkG n (defScope st) N tab⟩ d.body (qa st)=true/\(∀ y∈(defScope st).names,y.2=.cell->(defScope st).names.lookup y.1=some .cell)/\∀ p∈tab,P.lm p.1=some p.2.1/\aE1 p.2.2.1))
theorem good_of {names:List Str}{P:lb}{K:ae}{h:Heap}{mg:Str->Option Value}{n:String}{d:lR}{st:Stmt}(X:K.In h)(G:h.Ns bj mg)(hT:∀ x∈names,(bh K x).isSome=true)(hD:DfIn K n st)(hd:DT names P n d st):Good (bh7 names P K) (bJ3 names K) mg n d:=by
 obtain⟨f,od,an,sl,oc,kV,dc,pm,cd,ct,a,l,c,k⟩:=hD
 obtain⟨N,ps,J,Y,h3,Z,y⟩:=hd
 have F:=bs0 (st:=st) l c k
 have D:DefAt K mg n st ps f _:=⟨F,db X G a,F.binds Z⟩
 rcases y with y|⟨hn,tab,y,h6,h7⟩
 ·exact⟨_,_,_,_,_,_,D,J,Y,h3,y,aV2⟩
 ·exact⟨_,_,_,_,_,_,D,J,Y,h3,y,bF5 hn (PySem.W.law_code X G (aw0 (hT _ hn)) (db X G a) (X _ _ l) rfl) h6 (cc9 h7)⟩
theorem head_of {l:c6}{q:aN}{loose:List Str}{H:PySem.W.Hook}{N:Nat}{d:DefRec}{h:List (Str×Expr)}
  (left:PySem.W.LeftO l.row.prog q loose (λ s=>PySem.W.xlAt q [] s&&PySem.W.recOk (PySem.W.RowW.records (kE l.row)) s) H.obs H.val N)
  (y:PySem.W.defOf q l.row.name=some (d,h)) (Y:l.row.prog.theDef l.row.name=some (d.params,d.body,d.scope)) (hk:PySem.W.kwWritten? d.params.kwonlyargs d.params.kw_defaults=some h) (G:(!l.row.writes||l.row.records.isEmpty)=true)
  (J:l.row.wellSaid=true) (ok:(PySem.W.chainsOk q&&PySem.W.opensWell l.row.prog&&(PySem.W.frees l.row.toRowW&&l.row.within.isEmpty))=true) (hb:l.row.prog.bare) (hw:l.row.toRowW.promised)
  (call:kq q loose (PySem.W.XL q []) H.says l.row.toRowW d h λ f vs=>j5 f vs):l.row.Holds :=
 PySem.W.holds_open left H.of H.keeps (λ s e=>PySem.W.xl_of s (gT.mp e).1) PySem.W.XL.keeps y Y hk (λ s e=>PySem.W.recFacts_of (gT.mp e).2) G J ok hb hw call
end L2
end
noncomputable section
namespace DV
noncomputable def aR9:Df:=⟨"is_whole",3,0,(.cons (.ret (.and (.bi .isInt (.cons (.var 0) .nil)) (.and (.not (.bi .isBool (.cons (.var 0) .nil))) (.chain .le .le (.var 1) (.var 0) (.var 2))))) .nil)⟩
noncomputable def ay1:Df:=⟨"is_tuple_of",2,0,(.cons (.ret (.and (.bi .isTup (.cons (.var 0) .nil)) (.cmp .eq (.bi .len (.cons (.var 0) .nil)) (.var 1)))) .nil)⟩
noncomputable def aI7:Df:=⟨"is_letter",2,0,(.cons (.ret (.cmp .isin (.var 0) (.slU (.glob "LETTERS") (.var 1)))) .nil)⟩
noncomputable def cg5:Df:=⟨"_law_bag",2,3,(.cons (.asg (.one 2) (.cst (.int 0))) (.cons (.ite (.cmp .lt (.var 1) (.bi .len (.cons (.var 0) .nil))) (.cons (.asg (.one 2) (.bi .abs (.cons (.ix (.var 0) (.var 1)) .nil))) .nil) .nil) (.cons (.asg (.one 3) (.bin .add (.bin .mul (.cst (.int 7919)) (.var 1)) (.cst (.int 17)))) (.cons (.for_ (.one 4) (.rng1 (.bi .min2 (.cons (.bi .len (.cons (.var 0) .nil)) (.cons (.cst (.int 60)) .nil)))) (.cons (.asg (.one 3) (.bin .mod (.bin .add (.bin .add (.bin .mul (.var 3) (.cst (.int 48271))) (.bin .mod (.ix (.var 0) (.var 4)) (.cst (.int 2147483647)))) (.var 4)) (.cst (.int 2147483629)))) .nil)) (.cons (.ite (.cmp .lt (.var 2) (.bin .pow (.cst (.int 10)) (.cst (.int 18)))) (.cons (.asg (.one 2) (.cst (.int 0))) .nil) .nil) (.cons (.ret (.lst (.cons (.var 2) (.cons (.var 3) .nil)))) .nil))))))⟩
noncomputable def bQ4:Df:=⟨"_law_take",2,3,(.cons (.ite (.cmp .gt (.ix (.var 0) (.cst (.int 0))) (.cst (.int 0))) (.cons (.asg (.one 2) (.bin .mod (.ix (.var 0) (.cst (.int 0))) (.var 1))) (.cons (.setIx (.var 0) (.cst (.int 0)) (.bin .fdiv (.ix (.var 0) (.cst (.int 0))) (.var 1))) (.cons (.ret (.var 2)) .nil))) .nil) (.cons (.asg (.one 3) (.cst (.int 0))) (.cons (.asg (.one 4) (.cst (.int 1))) (.cons (.whl (.cmp .lt (.var 4) (.var 1)) (.cons (.setIx (.var 0) (.cst (.int 1)) (.bin .mod (.bin .add (.bin .mul (.ix (.var 0) (.cst (.int 1))) (.cst (.int 48271))) (.cst (.int 7919))) (.cst (.int 2147483647)))) (.cons (.asg (.one 3) (.bin .add (.bin .mul (.var 3) (.cst (.int 1073741789))) (.bin .mod (.bin .mul (.bin .fdiv (.ix (.var 0) (.cst (.int 1))) (.cst (.int 8))) (.cst (.int 69621))) (.cst (.int 1073741789))))) (.cons (.asg (.one 4) (.bin .mul (.var 4) (.cst (.int 1073741789)))) .nil)))) (.cons (.ret (.bin .mod (.var 3) (.var 1))) .nil)))))⟩
noncomputable def by8:Df:=⟨"_law_rooms",2,1,(.cons (.asg (.one 2) (.call "_law_take" (.ex (.var 0) (.ex (.bin .shl (.cst (.int 1)) (.var 1)) .nil)))) (.cons (.ret (.mk .tuple (.compIf (.one 0) (.rng1 (.var 1)) (.cmp .eq (.bin .mod (.bin .fdiv (.var 1) (.bin .shl (.cst (.int 1)) (.var 0))) (.cst (.int 2))) (.cst (.int 1))) (.var 0) [none,some 2]))) .nil))⟩
noncomputable def aX5:Df:=⟨"_law_machine",1,5,(.cons (.asg (.one 1) (.bin .add (.cst (.int 1)) (.call "_law_take" (.ex (.var 0) (.ex (.cst (.int 3)) .nil))))) (.cons (.asg (.one 2) (.bin .add (.cst (.int 1)) (.call "_law_take" (.ex (.var 0) (.ex (.cst (.int 5)) .nil))))) (.cons (.asg (.one 3) (.call "_law_take" (.ex (.var 0) (.ex (.cst (.int 13)) .nil)))) (.cons (.ite (.cmp .eq (.call "_law_take" (.ex (.var 0) (.ex (.cst (.int 8)) .nil))) (.cst (.int 7))) (.cons (.asg (.one 3) (.call "_law_take" (.ex (.var 0) (.ex (.cst (.int 76)) .nil)))) .nil) .nil) (.cons (.asg (.one 4) (.lst .nil)) (.cons (.for_ (.one 5) (.rng1 (.var 3)) (.cons (.ex (.meth .append (.var 4) (.cons (.tup (.cons (.call "_law_take" (.ex (.var 0) (.ex (.var 2) .nil))) (.cons (.ix (.cst (.str [97,98,99])) (.call "_law_take" (.ex (.var 0) (.ex (.var 1) .nil)))) (.cons (.call "_law_take" (.ex (.var 0) (.ex (.var 2) .nil))) (.cons (.call "_law_take" (.ex (.var 0) (.ex (.cst (.int 4)) .nil))) .nil))))) .nil))) .nil)) (.cons (.ret (.tup (.cons (.var 1) (.cons (.var 2) (.cons (.call "_law_rooms" (.ex (.var 0) (.ex (.var 2) .nil))) (.cons (.call "_law_rooms" (.ex (.var 0) (.ex (.var 2) .nil))) (.cons (.mk .tuple (.seq (.var 4))) .nil))))))) .nil)))))))⟩
noncomputable def az9:Df:=⟨"letters_of",1,0,(.cons (.ret (.slU (.glob "LETTERS") (.ix (.var 0) (.cst (.int 0))))) .nil)⟩
noncomputable def bY4:Df:=⟨"_law_word",3,2,(.cons (.asg (.one 3) (.cst (.str []))) (.cons (.for_ (.one 4) (.rng1 (.call "_law_take" (.ex (.var 0) (.ex (.bin .add (.var 2) (.cst (.int 1))) .nil)))) (.cons (.asg (.one 3) (.bin .add (.var 3) (.ix (.cst (.str [97,98,99])) (.call "_law_take" (.ex (.var 0) (.ex (.var 1) .nil)))))) .nil)) (.cons (.ret (.var 3)) .nil)))⟩
noncomputable def aa6:Df:=⟨"rooms_of",1,0,(.cons (.ret (.ix (.var 0) (.cst (.int 1)))) .nil)⟩
noncomputable def jH:Df:=⟨"begins_of",1,0,(.cons (.ret (.ix (.var 0) (.cst (.int 2)))) .nil)⟩
noncomputable def an3:Df:=⟨"ends_of",1,0,(.cons (.ret (.ix (.var 0) (.cst (.int 3)))) .nil)⟩
noncomputable def ab3:Df:=⟨"doors_of",1,0,(.cons (.ret (.ix (.var 0) (.cst (.int 4)))) .nil)⟩
noncomputable def ad1:Df:=⟨"grid",2,2,(.cons (.asg (.one 2) (.lst .nil)) (.cons (.for_ (.one 3) (.rng1 (.var 0)) (.cons (.ex (.meth .append (.var 2) (.cons (.mk .tuple (.comp (.one 0) (.rng1 (.var 0)) (.callV 1 (.cons (.var 2) (.cons (.var 0) .nil))) [none,some 1,some 3])) .nil))) .nil)) (.cons (.ret (.mk .tuple (.seq (.var 2)))) .nil)))⟩
noncomputable def ad0:Df:=⟨"least",1,0,(.cons (.ret (.mkD .min (.compIf (.one 0) (.seq (.var 0)) (.notN (.var 0)) (.var 0) [none]) (.cst .non))) .nil)⟩
noncomputable def ad3:Df:=⟨"added",2,0,(.cons (.ite (.or (.isN (.var 0)) (.isN (.var 1))) (.cons (.ret (.cst .non)) .nil) .nil) (.cons (.ret (.bin .add (.var 0) (.var 1))) .nil))⟩
noncomputable def ad7:Df:=⟨"plain",1,0,(.cons (.ret (.callC "grid" (.ex (.var 0) (.lam "plain.0" [] .nil)))) .nil)⟩
noncomputable def aa8:Lm:=⟨"plain.0",2,0,(.ite (.cmp .eq (.var 0) (.var 1)) (.cst (.int 0)) (.cst .non))⟩
noncomputable def ab5:Df:=⟨"product",2,1,(.cons (.asg (.one 2) (.bi .len (.cons (.var 0) .nil))) (.cons (.ret (.callC "grid" (.ex (.var 2) (.lam "product.0" [2,0,1] .nil)))) .nil))⟩
noncomputable def aa4:Lm:=⟨"product.0",2,3,(.call "least" (.ex (.mk .list (.comp (.one 0) (.rng1 (.var 2)) (.call "added" (.ex (.ix (.ix (.var 1) (.var 2)) (.var 0)) (.ex (.ix (.ix (.var 3) (.var 0)) (.var 4)) .nil))) [none,some 3,some 0,some 4,some 1])) .nil))⟩
noncomputable def bo3:Df:=⟨"_law_same",2,2,(.cons (.ite (.or (.not (.bi .isTup (.cons (.var 0) .nil))) (.cmp .ne (.bi .len (.cons (.var 0) .nil)) (.bi .len (.cons (.var 1) .nil)))) (.cons (.ret (.cst (.bl false))) .nil) .nil) (.cons (.for_ (.one 2) (.rng1 (.bi .len (.cons (.var 1) .nil))) (.cons (.ite (.or (.not (.bi .isTup (.cons (.ix (.var 0) (.var 2)) .nil))) (.cmp .ne (.bi .len (.cons (.ix (.var 0) (.var 2)) .nil)) (.bi .len (.cons (.var 1) .nil)))) (.cons (.ret (.cst (.bl false))) .nil) .nil) (.cons (.for_ (.one 3) (.seq (.ix (.var 0) (.var 2))) (.cons (.ite (.and (.notN (.var 3)) (.or (.not (.bi .isInt (.cons (.var 3) .nil))) (.bi .isBool (.cons (.var 3) .nil)))) (.cons (.ret (.cst (.bl false))) .nil) .nil) .nil)) .nil))) (.cons (.ret (.cmp .eq (.var 0) (.var 1))) .nil)))⟩
noncomputable def ad6:Df:=⟨"raised",4,3,(.cons (.asg (.one 4) (.var 2)) (.cons (.asg (.one 5) (.var 0)) (.cons (.asg (.one 6) (.var 1)) (.cons (.whl (.cmp .gt (.var 6) (.cst (.int 0))) (.cons (.ite (.cmp .eq (.bin .mod (.var 6) (.cst (.int 2))) (.cst (.int 1))) (.cons (.asg (.one 4) (.callV 3 (.cons (.var 4) (.cons (.var 5) .nil)))) .nil) .nil) (.cons (.asg (.one 6) (.bin .fdiv (.var 6) (.cst (.int 2)))) (.cons (.ite (.cmp .gt (.var 6) (.cst (.int 0))) (.cons (.asg (.one 5) (.callV 3 (.cons (.var 5) (.cons (.var 5) .nil)))) .nil) .nil) .nil)))) (.cons (.ret (.var 4)) .nil)))))⟩
noncomputable def ae8:Df:=⟨"power",2,0,(.cons (.ret (.call "raised" (.ex (.var 0) (.ex (.var 1) (.ex (.call "plain" (.ex (.bi .len (.cons (.var 0) .nil)) .nil)) (.ex (.glob "product") .nil)))))) .nil)⟩
noncomputable def aa3:Df:=⟨"letter_table",2,1,(.cons (.und 2) (.cons (.ret (.callC "grid" (.ex (.call "rooms_of" (.ex (.var 0) .nil)) (.lam "letter_table.least_fee" [0,1] .nil)))) .nil))⟩
noncomputable def aa2:Lm:=⟨"letter_table.least_fee",2,2,(.call "least" (.ex (.mk .list (.compIf (.tup [0,1,2,3]) (.seq (.call "doors_of" (.ex (.var 2) .nil))) (.cmp .eq (.tup (.cons (.var 0) (.cons (.var 1) (.cons (.var 2) .nil)))) (.tup (.cons (.var 4) (.cons (.var 5) (.cons (.var 6) .nil))))) (.var 3) [none,none,none,none,some 0,some 3,some 1])) .nil))⟩
noncomputable def ab0:Df:=⟨"word_table",2,3,(.cons (.asg (.one 2) (.dic .nil .nil)) (.cons (.asg (.one 3) (.call "plain" (.ex (.call "rooms_of" (.ex (.var 0) .nil)) .nil))) (.cons (.for_ (.one 4) (.seq (.var 1)) (.cons (.ite (.cmp .notin (.var 4) (.var 2)) (.cons (.setIx (.var 2) (.var 4) (.call "letter_table" (.ex (.var 0) (.ex (.var 4) .nil)))) .nil) .nil) (.cons (.asg (.one 3) (.call "product" (.ex (.var 3) (.ex (.ix (.var 2) (.var 4)) .nil)))) .nil))) (.cons (.ret (.var 3)) .nil))))⟩
noncomputable def aI1:Df:=⟨"_law_from_room",3,7,(.cons (.asg (.one 3) (.mk .list (.comp (.one 0) (.rng1 (.ix (.var 0) (.cst (.int 1)))) (.cst .non) [none]))) (.cons (.setIx (.var 3) (.var 2) (.cst (.int 0))) (.cons (.for_ (.one 4) (.seq (.var 1)) (.cons (.asg (.one 5) (.mk .list (.comp (.one 0) (.seq (.var 3)) (.cst .non) [none]))) (.cons (.for_ (.tup [6,7,8,9]) (.seq (.ix (.var 0) (.cst (.int 4)))) (.cons (.ite (.and (.cmp .eq (.var 7) (.var 4)) (.notN (.ix (.var 3) (.var 6)))) (.cons (.ite (.or (.isN (.ix (.var 5) (.var 8))) (.cmp .lt (.bin .add (.ix (.var 3) (.var 6)) (.var 9)) (.ix (.var 5) (.var 8)))) (.cons (.setIx (.var 5) (.var 8) (.bin .add (.ix (.var 3) (.var 6)) (.var 9))) .nil) .nil) .nil) .nil) .nil)) (.cons (.asg (.one 3) (.var 5)) .nil)))) (.cons (.ret (.mk .tuple (.seq (.var 3)))) .nil))))⟩
noncomputable def aX8:Df:=⟨"law",1,7,(.cons (.for_ (.one 1) (.rng1 (.bin .add (.bi .min2 (.cons (.bi .len (.cons (.var 0) .nil)) (.cons (.cst (.int 3)) .nil))) (.cst (.int 1)))) (.cons (.asg (.one 2) (.call "_law_bag" (.ex (.var 0) (.ex (.var 1) .nil)))) (.cons (.asg (.one 3) (.call "_law_machine" (.ex (.var 2) .nil))) (.cons (.asg (.one 4) (.call "_law_word" (.ex (.var 2) (.ex (.ix (.var 3) (.cst (.int 0))) (.ex (.ix (.lst (.cons (.cst (.int 10)) (.cons (.cst (.int 10)) (.cons (.cst (.int 10)) (.cons (.ix (.lst (.cons (.cst (.int 30)) (.cons (.cst (.int 200)) .nil))) (.bi .int (.cons (.cmp .eq (.var 1) (.cst (.int 0))) .nil))) .nil))))) (.call "_law_take" (.ex (.var 2) (.ex (.cst (.int 4)) .nil)))) .nil))))) (.cons (.asg (.one 5) (.lst (.cons (.var 4) (.cons (.cst (.str [])) (.cons (.rev (.var 4)) (.cons (.var 4) .nil)))))) (.cons (.ite (.cmp .gt (.bi .len (.cons (.var 4) .nil)) (.cst (.int 60))) (.cons (.asg (.one 5) (.lst (.cons (.var 4) .nil))) .nil) .nil) (.cons (.for_ (.one 6) (.seq (.var 5)) (.cons (.asg (.one 7) (.mk .tuple (.comp (.one 0) (.rng1 (.ix (.var 3) (.cst (.int 1)))) (.call "_law_from_room" (.ex (.var 1) (.ex (.var 2) (.ex (.var 0) .nil)))) [none,some 3,some 6]))) (.cons (.ite (.not (.call "_law_same" (.ex (.call "word_table" (.ex (.var 3) (.ex (.var 6) .nil))) (.ex (.var 7) .nil)))) (.cons (.ret (.cst (.bl false))) .nil) .nil) .nil))) .nil))))))) (.cons (.ret (.cst (.bl true))) .nil))⟩
noncomputable def zY:Df:=⟨"at_begins_and_ends",2,2,(.cons (.asg (.one 2) (.lst .nil)) (.cons (.for_ (.one 3) (.seq (.call "begins_of" (.ex (.var 0) .nil))) (.cons (.ex (.ext (.var 2) (.comp (.one 0) (.seq (.call "ends_of" (.ex (.var 0) .nil))) (.ix (.ix (.var 1) (.var 2)) (.var 0)) [none,some 1,some 3]))) .nil)) (.cons (.ret (.var 2)) .nil)))⟩
noncomputable def bc8:Df:=⟨"price",2,0,(.cons (.ret (.call "least" (.ex (.call "at_begins_and_ends" (.ex (.var 0) (.ex (.call "word_table" (.ex (.var 0) (.ex (.var 1) .nil))) .nil))) .nil))) .nil)⟩
noncomputable def aA9:Df:=⟨"sign_of",1,0,(.cons (.ite (.isN (.var 0)) (.cons (.ret (.glob "NONE")) .nil) .nil) (.cons (.ret (.ite (.cmp .eq (.var 0) (.cst (.int 0))) (.glob "FREE") (.glob "SOME"))) .nil))⟩
noncomputable def aE4:Df:=⟨"reading",1,0,(.cons (.ret (.callC "grid" (.ex (.bi .len (.cons (.var 0) .nil)) (.lam "reading.0" [0] .nil)))) .nil)⟩
noncomputable def ak3:Lm:=⟨"reading.0",2,1,(.call "sign_of" (.ex (.ix (.ix (.var 2) (.var 0)) (.var 1)) .nil))⟩
noncomputable def ah1:Df:=⟨"plain_signs",1,0,(.cons (.ret (.callC "grid" (.ex (.var 0) (.lam "plain_signs.0" [] .nil)))) .nil)⟩
noncomputable def jl:Lm:=⟨"plain_signs.0",2,0,(.ite (.cmp .eq (.var 0) (.var 1)) (.glob "FREE") (.glob "NONE"))⟩
noncomputable def an2:Df:=⟨"_law_box",2,4,(.cons (.asg (.one 2) (.cst (.int 0))) (.cons (.ite (.cmp .lt (.var 1) (.bi .len (.cons (.var 0) .nil))) (.cons (.asg (.one 2) (.bi .abs (.cons (.ix (.var 0) (.var 1)) .nil))) .nil) .nil) (.cons (.ite (.cmp .ge (.var 2) (.bin .pow (.cst (.int 10)) (.cst (.int 18)))) (.cons (.ret (.lst (.cons (.var 2) .nil))) .nil) .nil) (.cons (.asg (.one 3) (.cst (.int 0))) (.cons (.for_ (.one 4) (.rng1 (.cst (.int 128))) (.cons (.asg (.one 5) (.bin .mod (.bin .mul (.bin .add (.bin .add (.bin .add (.bin .mod (.var 2) (.cst (.int 2147483647))) (.bin .mul (.cst (.int 7919)) (.var 1))) (.bin .mul (.cst (.int 104729)) (.var 4))) (.cst (.int 97))) (.cst (.int 48271))) (.cst (.int 2147483647)))) (.cons (.asg (.one 3) (.bin .add (.bin .mul (.var 3) (.cst (.int 2147483647))) (.bin .mod (.bin .add (.bin .add (.bin .mul (.var 5) (.var 5)) (.bin .mul (.cst (.int 31)) (.var 4))) (.bin .fdiv (.var 2) (.cst (.int 2147483647)))) (.cst (.int 2147483647))))) .nil))) (.cons (.ret (.lst (.cons (.var 3) .nil))) .nil))))))⟩
noncomputable def ae7:Df:=⟨"_law_draw",2,1,(.cons (.asg (.one 2) (.bin .mod (.ix (.var 0) (.cst (.int 0))) (.var 1))) (.cons (.setIx (.var 0) (.cst (.int 0)) (.bin .fdiv (.ix (.var 0) (.cst (.int 0))) (.var 1))) (.cons (.ret (.var 2)) .nil)))⟩
noncomputable def bt1:Df:=⟨"_law_form",2,2,(.cons (.ite (.or (.not (.bi .isTup (.cons (.var 0) .nil))) (.cmp .ne (.bi .len (.cons (.var 0) .nil)) (.var 1))) (.cons (.ret (.cst (.bl false))) .nil) .nil) (.cons (.for_ (.one 2) (.seq (.var 0)) (.cons (.ite (.or (.not (.bi .isTup (.cons (.var 2) .nil))) (.cmp .ne (.bi .len (.cons (.var 2) .nil)) (.var 1))) (.cons (.ret (.cst (.bl false))) .nil) .nil) (.cons (.for_ (.one 3) (.seq (.var 2)) (.cons (.ite (.or (.not (.bi .isInt (.cons (.var 3) .nil))) (.bi .isBool (.cons (.var 3) .nil))) (.cons (.ret (.cst (.bl false))) .nil) .nil) .nil)) .nil))) (.cons (.ret (.cst (.bl true))) .nil)))⟩
noncomputable def zN:Df:=⟨"sign_product",2,1,(.cons (.asg (.one 2) (.bi .len (.cons (.var 0) .nil))) (.cons (.ret (.callC "grid" (.ex (.var 2) (.lam "sign_product.0" [2,0,1] .nil)))) .nil))⟩
noncomputable def zB:Lm:=⟨"sign_product.0",2,3,(.mk .min (.comp (.one 0) (.rng1 (.var 2)) (.bi .max2 (.cons (.ix (.ix (.var 1) (.var 2)) (.var 0)) (.cons (.ix (.ix (.var 3) (.var 0)) (.var 4)) .nil))) [none,some 3,some 0,some 4,some 1]))⟩
noncomputable def aH1:Df:=⟨"_law_signs",2,6,(.cons (.asg (.one 2) (.call "_law_draw" (.ex (.var 0) (.ex (.cst (.int 4)) .nil)))) (.cons (.asg (.one 3) (.lst .nil)) (.cons (.for_ (.one 4) (.rng1 (.var 1)) (.cons (.asg (.one 5) (.lst .nil)) (.cons (.for_ (.one 6) (.rng1 (.var 1)) (.cons (.asg (.one 7) (.call "_law_draw" (.ex (.var 0) (.ex (.cst (.int 4)) .nil)))) (.cons (.ite (.or (.and (.cmp .eq (.var 2) (.cst (.int 1))) (.cmp .gt (.call "_law_draw" (.ex (.var 0) (.ex (.cst (.int 3)) .nil))) (.cst (.int 0)))) (.and (.cmp .eq (.var 2) (.cst (.int 2))) (.cmp .gt (.var 4) (.var 6)))) (.cons (.asg (.one 7) (.cst (.int 3))) .nil) .nil) (.cons (.ite (.and (.cmp .eq (.var 2) (.cst (.int 3))) (.and (.cmp .ne (.var 6) (.bin .mod (.bin .add (.var 4) (.cst (.int 1))) (.var 1))) (.cmp .gt (.call "_law_draw" (.ex (.var 0) (.ex (.cst (.int 4)) .nil))) (.cst (.int 0))))) (.cons (.asg (.one 7) (.cst (.int 3))) .nil) .nil) (.cons (.ex (.meth .append (.var 5) (.cons (.var 7) .nil))) .nil))))) (.cons (.ex (.meth .append (.var 3) (.cons (.mk .tuple (.seq (.var 5))) .nil))) .nil)))) (.cons (.ret (.mk .tuple (.seq (.var 3)))) .nil))))⟩
noncomputable def ab1:Df:=⟨"_law_product",2,4,(.cons (.asg (.one 2) (.lst .nil)) (.cons (.for_ (.one 3) (.seq (.var 0)) (.cons (.asg (.one 4) (.mk .list (.comp (.one 0) (.seq (.var 3)) (.cst (.int 3)) [none]))) (.cons (.for_ (.one 5) (.rng1 (.bi .len (.cons (.var 3) .nil))) (.cons (.ite (.cmp .lt (.ix (.var 3) (.var 5)) (.cst (.int 3))) (.cons (.asg (.one 4) (.mk .list (.comp (.one 0) (.rng1 (.bi .len (.cons (.var 3) .nil))) (.bi .min2 (.cons (.ix (.var 1) (.var 0)) (.cons (.bi .max2 (.cons (.ix (.var 2) (.var 3)) (.cons (.ix (.ix (.var 4) (.var 3)) (.var 0)) .nil))) .nil))) [none,some 4,some 3,some 5,some 1]))) .nil) .nil) .nil)) (.cons (.ex (.meth .append (.var 2) (.cons (.mk .tuple (.seq (.var 4))) .nil))) .nil)))) (.cons (.ret (.mk .tuple (.seq (.var 2)))) .nil)))⟩
noncomputable def ak0:Df:=⟨"sign_power",2,0,(.cons (.ret (.call "raised" (.ex (.var 0) (.ex (.var 1) (.ex (.call "plain_signs" (.ex (.bi .len (.cons (.var 0) .nil)) .nil)) (.ex (.glob "sign_product") .nil)))))) .nil)⟩
noncomputable def aW7:Df:=⟨"_law_unit",1,0,(.cons (.ret (.mk .tuple (.comp (.one 0) (.rng1 (.var 0)) (.mk .tuple (.comp (.one 0) (.rng1 (.var 1)) (.bin .mul (.cst (.int 3)) (.bi .int (.cons (.cmp .ne (.var 1) (.var 0)) .nil))) [none,some 0])) [none,some 0]))) .nil)⟩
noncomputable def aV1:Df:=⟨"_law_round",1,2,(.cons (.asg (.one 1) (.lst (.cons (.call "_law_unit" (.ex (.bi .len (.cons (.var 0) .nil)) .nil)) .nil))) (.cons (.whl (.cst (.bl true)) (.cons (.asg (.one 2) (.call "_law_product" (.ex (.ix (.var 1) (.neg (.cst (.int 1)))) (.ex (.var 0) .nil)))) (.cons (.ite (.cmp .isin (.var 2) (.var 1)) (.cons (.ret (.tup (.cons (.var 1) (.cons (.meth .index (.var 1) (.cons (.var 2) .nil)) .nil)))) .nil) .nil) (.cons (.ex (.meth .append (.var 1) (.cons (.var 2) .nil))) .nil)))) .nil))⟩
noncomputable def bF4:Df:=⟨"_law_due",3,0,(.cons (.ite (.cmp .lt (.var 2) (.bi .len (.cons (.var 0) .nil))) (.cons (.ret (.ix (.var 0) (.var 2))) .nil) .nil) (.cons (.ret (.ix (.var 0) (.bin .add (.var 1) (.bin .mod (.bin .sub (.var 2) (.var 1)) (.bin .sub (.bi .len (.cons (.var 0) .nil)) (.var 1)))))) .nil))⟩
noncomputable def aW4:Df:=⟨"law",1,9,(.cons (.for_ (.one 1) (.rng1 (.bin .add (.bi .min2 (.cons (.cst (.int 8)) (.cons (.bi .len (.cons (.var 0) .nil)) .nil))) (.cst (.int 1)))) (.cons (.asg (.one 2) (.call "_law_box" (.ex (.var 0) (.ex (.var 1) .nil)))) (.cons (.asg (.one 3) (.bin .add (.cst (.int 1)) (.call "_law_draw" (.ex (.var 2) (.ex (.cst (.int 5)) .nil))))) (.cons (.asg (.one 4) (.call "_law_signs" (.ex (.var 2) (.ex (.var 3) .nil)))) (.cons (.asg (.tup [5,6]) (.call "_law_round" (.ex (.var 4) .nil))) (.cons (.asg (.one 7) (.bin .mul (.call "_law_draw" (.ex (.var 2) (.ex (.bin .pow (.cst (.int 10)) (.cst (.int 30))) .nil))) (.bin .pow (.cst (.int 10)) (.cst (.int 29))))) (.cons (.ite (.cmp .gt (.var 1) (.cst (.int 0))) (.cons (.asg (.one 7) (.cst (.int 0))) .nil) .nil) (.cons (.for_ (.one 8) (.seq (.lst (.cons (.cst (.int 0)) (.cons (.cst (.int 1)) (.cons (.bin .add (.cst (.int 2)) (.call "_law_draw" (.ex (.var 2) (.ex (.cst (.int 30)) .nil)))) (.cons (.call "_law_draw" (.ex (.var 2) (.ex (.cst (.int 1000)) .nil))) (.cons (.bin .add (.var 7) (.call "_law_draw" (.ex (.var 2) (.ex (.cst (.int 1000)) .nil)))) .nil))))))) (.cons (.asg (.one 9) (.call "sign_power" (.ex (.var 4) (.ex (.var 8) .nil)))) (.cons (.ite (.or (.not (.call "_law_form" (.ex (.var 9) (.ex (.var 3) .nil)))) (.cmp .ne (.var 9) (.call "_law_due" (.ex (.var 5) (.ex (.var 6) (.ex (.var 8) .nil)))))) (.cons (.ret (.cst (.bl false))) .nil) .nil) (.cons (.ite (.cmp .ne (.call "sign_product" (.ex (.var 9) (.ex (.call "sign_power" (.ex (.var 4) (.ex (.cst (.int 7)) .nil))) .nil))) (.call "_law_due" (.ex (.var 5) (.ex (.var 6) (.ex (.bin .add (.var 8) (.cst (.int 7))) .nil))))) (.cons (.ret (.cst (.bl false))) .nil) .nil) .nil)))) .nil)))))))) (.cons (.ret (.cst (.bl true))) .nil))⟩
noncomputable def jE:Df:=⟨"is_steady",1,0,(.cons (.ret (.cmp .eq (.call "sign_product" (.ex (.var 0) (.ex (.var 0) .nil))) (.var 0))) .nil)⟩
noncomputable def as9:Df:=⟨"round_of",1,0,(.cons (.ite (.or (.cmp .eq (.var 0) (.glob "FREE")) (.cmp .eq (.var 0) (.glob "NONE"))) (.cons (.ret (.var 0)) .nil) .nil) (.cons (.ret (.glob "UNBOUND")) .nil))⟩
noncomputable def ap6:Df:=⟨"sharpened",1,2,(.cons (.ite (.not (.call "is_steady" (.ex (.var 0) .nil))) (.cons .raise .nil) .nil) (.cons (.asg (.one 1) (.bi .len (.cons (.var 0) .nil))) (.cons (.asg (.one 2) (.mk .list (.comp (.one 0) (.rng1 (.var 1)) (.call "round_of" (.ex (.ix (.ix (.var 1) (.var 0)) (.var 0)) .nil)) [none,some 0]))) (.cons (.ret (.callC "grid" (.ex (.var 1) (.lam "sharpened.0" [1,0,2] .nil)))) .nil))))⟩
noncomputable def jB:Lm:=⟨"sharpened.0",2,3,(.mk .min (.comp (.one 0) (.rng1 (.var 2)) (.bi .max3 (.cons (.ix (.ix (.var 1) (.var 2)) (.var 0)) (.cons (.ix (.var 3) (.var 0)) (.cons (.ix (.ix (.var 1) (.var 0)) (.var 4)) .nil)))) [none,some 3,some 0,some 4,some 1]))⟩
noncomputable def jA:Df:=⟨"steady_power",1,2,(.cons (.asg (.one 1) (.cst (.int 1))) (.cons (.asg (.one 2) (.var 0)) (.cons (.whl (.not (.call "is_steady" (.ex (.var 2) .nil))) (.cons (.aug 1 (.cst (.int 1))) (.cons (.asg (.one 2) (.call "sign_product" (.ex (.var 2) (.ex (.var 0) .nil)))) .nil))) (.cons (.ret (.tup (.cons (.var 1) (.cons (.var 2) .nil)))) .nil))))⟩
noncomputable def aG0:Df:=⟨"_law_goes_with",2,4,(.cons (.for_ (.tup [2,3]) (.zip (.seq (.var 0)) (.seq (.var 1))) (.cons (.for_ (.tup [4,5]) (.zip (.seq (.var 2)) (.seq (.var 3))) (.cons (.ite (.or (.cmp .lt (.var 5) (.var 4)) (.or (.cmp .ne (.cmp .eq (.var 5) (.cst (.int 0))) (.cmp .eq (.var 4) (.cst (.int 0)))) (.cmp .ne (.cmp .eq (.var 5) (.cst (.int 3))) (.cmp .eq (.var 4) (.cst (.int 3)))))) (.cons (.ret (.cst (.bl false))) .nil) .nil) .nil)) .nil)) (.cons (.ret (.cmp .eq (.bi .len (.cons (.var 0) .nil)) (.bi .len (.cons (.var 1) .nil)))) .nil))⟩
noncomputable def bw6:Df:=⟨"_law_right",1,3,(.cons (.asg (.tup [1,2]) (.call "steady_power" (.ex (.var 0) .nil))) (.cons (.asg (.one 3) (.call "sharpened" (.ex (.var 2) .nil))) (.cons (.ite (.or (.notB (.call "is_steady" (.ex (.var 3) .nil)) true) (.cmp .ne (.call "sharpened" (.ex (.var 3) .nil)) (.var 3))) (.cons (.ret (.cst (.bl false))) .nil) .nil) (.cons (.ite (.or (.cmp .ne (.call "sign_product" (.ex (.var 3) (.ex (.var 2) .nil))) (.var 3)) (.cmp .ne (.call "sign_product" (.ex (.var 2) (.ex (.var 3) .nil))) (.var 3))) (.cons (.ret (.cst (.bl false))) .nil) .nil) (.cons (.ret (.call "_law_goes_with" (.ex (.var 2) (.ex (.var 3) .nil)))) .nil)))))⟩
noncomputable def aU4:Df:=⟨"law",1,7,(.cons (.for_ (.one 1) (.rng1 (.bin .add (.bi .min2 (.cons (.cst (.int 12)) (.cons (.bi .len (.cons (.var 0) .nil)) .nil))) (.cst (.int 1)))) (.cons (.asg (.one 2) (.call "_law_box" (.ex (.var 0) (.ex (.var 1) .nil)))) (.cons (.asg (.one 3) (.bin .add (.cst (.int 1)) (.call "_law_draw" (.ex (.var 2) (.ex (.cst (.int 5)) .nil))))) (.cons (.asg (.one 4) (.call "_law_signs" (.ex (.var 2) (.ex (.var 3) .nil)))) (.cons (.asg (.one 5) (.call "_law_signs" (.ex (.var 2) (.ex (.var 3) .nil)))) (.cons (.asg (.one 6) (.call "sign_product" (.ex (.call "sharpened" (.ex (.ix (.call "steady_power" (.ex (.var 4) .nil)) (.cst (.int 1))) .nil)) (.ex (.var 5) .nil)))) (.cons (.for_ (.one 7) (.seq (.lst (.cons (.var 4) (.cons (.call "sign_product" (.ex (.var 4) (.ex (.var 5) .nil))) (.cons (.call "sign_product" (.ex (.var 5) (.ex (.var 4) .nil))) (.cons (.var 6) .nil)))))) (.cons (.ite (.not (.call "_law_right" (.ex (.var 7) .nil))) (.cons (.ret (.cst (.bl false))) .nil) .nil) .nil)) .nil))))))) (.cons (.ret (.cst (.bl true))) .nil))⟩
noncomputable def ak2:Df:=⟨"word_signs",2,0,(.cons (.ret (.call "reading" (.ex (.call "word_table" (.ex (.var 0) (.ex (.var 1) .nil))) .nil))) .nil)⟩
noncomputable def at1:Df:=⟨"end_sign",2,0,(.cons (.ret (.mkDs .min (.call "at_begins_and_ends" (.ex (.var 0) (.ex (.var 1) .nil))) (.glob "NONE"))) .nil)⟩
noncomputable def ad4:Df:=⟨"_law_machine",1,12,(.cons (.asg (.one 1) (.bin .add (.cst (.int 1)) (.call "_law_draw" (.ex (.var 0) (.ex (.cst (.int 3)) .nil))))) (.cons (.asg (.one 2) (.bin .add (.cst (.int 1)) (.call "_law_draw" (.ex (.var 0) (.ex (.cst (.int 5)) .nil))))) (.cons (.asg (.one 3) (.call "_law_draw" (.ex (.var 0) (.ex (.bin .add (.bin .mul (.cst (.int 3)) (.var 2)) (.cst (.int 2))) .nil)))) (.cons (.ite (.cmp .eq (.call "_law_draw" (.ex (.var 0) (.ex (.cst (.int 8)) .nil))) (.cst (.int 5))) (.cons (.asg (.one 3) (.call "_law_draw" (.ex (.var 0) (.ex (.cst (.int 76)) .nil)))) .nil) .nil) (.cons (.asg (.one 4) (.ix (.lst (.cons (.cst (.int 2)) (.cons (.cst (.int 2)) (.cons (.cst (.int 4)) (.cons (.cst (.int 1)) .nil))))) (.call "_law_draw" (.ex (.var 0) (.ex (.cst (.int 4)) .nil))))) (.cons (.asg (.one 5) (.lst .nil)) (.cons (.for_ (.one 6) (.rng1 (.var 3)) (.cons (.asg (.one 7) (.call "_law_draw" (.ex (.var 0) (.ex (.var 2) .nil)))) (.cons (.asg (.one 8) (.call "_law_draw" (.ex (.var 0) (.ex (.var 2) .nil)))) (.cons (.asg (.one 9) (.ix (.cst (.str [97,98,99])) (.call "_law_draw" (.ex (.var 0) (.ex (.var 1) .nil))))) (.cons (.ex (.meth .append (.var 5) (.cons (.tup (.cons (.var 7) (.cons (.var 9) (.cons (.var 8) (.cons (.call "_law_draw" (.ex (.var 0) (.ex (.var 4) .nil))) .nil))))) .nil))) .nil))))) (.cons (.asg (.one 10) (.call "_law_draw" (.ex (.var 0) (.ex (.bin .shl (.cst (.int 1)) (.var 2)) .nil)))) (.cons (.asg (.one 11) (.mk .tuple (.compIf (.one 0) (.rng1 (.var 2)) (.cmp .eq (.bin .mod (.bin .shr (.var 1) (.var 0)) (.cst (.int 2))) (.cst (.int 1))) (.var 0) [none,some 10]))) (.cons (.asg (.one 10) (.call "_law_draw" (.ex (.var 0) (.ex (.bin .shl (.cst (.int 1)) (.var 2)) .nil)))) (.cons (.asg (.one 12) (.mk .tuple (.compIf (.one 0) (.rng1 (.var 2)) (.cmp .eq (.bin .mod (.bin .shr (.var 1) (.var 0)) (.cst (.int 2))) (.cst (.int 1))) (.var 0) [none,some 10]))) (.cons (.ret (.tup (.cons (.var 1) (.cons (.var 2) (.cons (.var 11) (.cons (.var 12) (.cons (.mk .tuple (.seq (.var 5))) .nil))))))) .nil))))))))))))⟩
noncomputable def aa7:Df:=⟨"_law_letter_signs",2,6,(.cons (.asg (.one 2) (.ix (.var 0) (.cst (.int 1)))) (.cons (.asg (.one 3) (.mk .list (.comp (.one 0) (.rng1 (.var 2)) (.mk .list (.comp (.one 0) (.rng1 (.var 1)) (.cst (.int 3)) [none])) [none,some 2]))) (.cons (.for_ (.tup [4,5,6,7]) (.seq (.ix (.var 0) (.cst (.int 4)))) (.cons (.ite (.cmp .eq (.var 5) (.var 1)) (.cons (.setIx (.ix (.var 3) (.var 4)) (.var 6) (.bi .min2 (.cons (.ix (.ix (.var 3) (.var 4)) (.var 6)) (.cons (.bi .int (.cons (.cmp .gt (.var 7) (.cst (.int 0))) .nil)) .nil)))) .nil) .nil) .nil)) (.cons (.ret (.mk .tuple (.comp (.one 0) (.seq (.var 3)) (.mk .tuple (.seq (.var 0))) [none]))) .nil))))⟩
noncomputable def aX2:Df:=⟨"law",1,11,(.cons (.for_ (.one 1) (.rng1 (.bin .add (.bi .min2 (.cons (.cst (.int 3)) (.cons (.bi .len (.cons (.var 0) .nil)) .nil))) (.cst (.int 1)))) (.cons (.asg (.one 2) (.call "_law_box" (.ex (.var 0) (.ex (.var 1) .nil)))) (.cons (.asg (.one 3) (.call "_law_machine" (.ex (.var 2) .nil))) (.cons (.asg (.one 4) (.call "_law_draw" (.ex (.var 2) (.ex (.cst (.int 61)) .nil)))) (.cons (.ite (.and (.cmp .eq (.call "_law_draw" (.ex (.var 2) (.ex (.cst (.int 8)) .nil))) (.cst (.int 3))) (.cmp .eq (.var 1) (.cst (.int 0)))) (.cons (.asg (.one 4) (.call "_law_draw" (.ex (.var 2) (.ex (.cst (.int 201)) .nil)))) .nil) .nil) (.cons (.asg (.one 5) (.cst (.str []))) (.cons (.asg (.one 6) (.call "_law_unit" (.ex (.ix (.var 3) (.cst (.int 1))) .nil))) (.cons (.asg (.one 7) (.mk .list (.comp (.one 0) (.seq (.slU (.cst (.str [97,98,99])) (.ix (.var 3) (.cst (.int 0))))) (.call "_law_letter_signs" (.ex (.var 1) (.ex (.var 0) .nil))) [none,some 3]))) (.cons (.for_ (.one 8) (.rng1 (.var 4)) (.cons (.asg (.one 9) (.call "_law_draw" (.ex (.var 2) (.ex (.ix (.var 3) (.cst (.int 0))) .nil)))) (.cons (.asg (.one 5) (.bin .add (.var 5) (.ix (.cst (.str [97,98,99])) (.var 9)))) (.cons (.asg (.one 6) (.call "_law_product" (.ex (.var 6) (.ex (.ix (.var 7) (.var 9)) .nil)))) .nil)))) (.cons (.asg (.one 10) (.call "word_signs" (.ex (.var 3) (.ex (.var 5) .nil)))) (.cons (.ite (.or (.not (.call "_law_form" (.ex (.var 10) (.ex (.ix (.var 3) (.cst (.int 1))) .nil)))) (.or (.cmp .ne (.var 10) (.var 6)) (.cmp .ne (.call "reading" (.ex (.call "word_table" (.ex (.var 3) (.ex (.var 5) .nil))) .nil)) (.var 6)))) (.cons (.ret (.cst (.bl false))) .nil) .nil) (.cons (.asg (.one 11) (.call "_law_draw" (.ex (.var 2) (.ex (.bin .add (.var 4) (.cst (.int 1))) .nil)))) (.cons (.ite (.cmp .ne (.call "sign_product" (.ex (.call "word_signs" (.ex (.var 3) (.ex (.slU (.var 5) (.var 11)) .nil))) (.ex (.call "word_signs" (.ex (.var 3) (.ex (.slL (.var 5) (.var 11)) .nil))) .nil))) (.var 6)) (.cons (.ret (.cst (.bl false))) .nil) .nil) (.cons (.ite (.cmp .ne (.call "end_sign" (.ex (.var 3) (.ex (.var 10) .nil))) (.call "sign_of" (.ex (.call "price" (.ex (.var 3) (.ex (.var 5) .nil))) .nil))) (.cons (.ret (.cst (.bl false))) .nil) .nil) .nil)))))))))))))) (.cons (.ret (.cst (.bl true))) .nil))⟩
noncomputable def aP7:Df:=⟨"is_ahead",2,0,(.cons (.ret (.call "is_whole" (.ex (.var 0) (.ex (.cst (.int 0)) (.ex (.bin .sub (.var 1) (.cst (.int 1))) .nil))))) .nil)⟩
noncomputable def ak4:Df:=⟨"is_letter_step",2,0,(.cons (.ret (.and (.call "is_tuple_of" (.ex (.var 0) (.ex (.cst (.int 2)) .nil))) (.and (.cmp .eq (.ix (.var 0) (.cst (.int 0))) (.cst (.str [108,101,116,116,101,114]))) (.call "is_letter" (.ex (.ix (.var 0) (.cst (.int 1))) (.ex (.var 1) .nil)))))) .nil)⟩
noncomputable def as4:Df:=⟨"is_pair_step",2,0,(.cons (.ret (.and (.call "is_tuple_of" (.ex (.var 0) (.ex (.cst (.int 3)) .nil))) (.and (.cmp .eq (.ix (.var 0) (.cst (.int 0))) (.cst (.str [112,97,105,114]))) (.and (.call "is_ahead" (.ex (.ix (.var 0) (.cst (.int 1))) (.ex (.var 1) .nil))) (.call "is_ahead" (.ex (.ix (.var 0) (.cst (.int 2))) (.ex (.var 1) .nil))))))) .nil)⟩
noncomputable def ar1:Df:=⟨"is_sharp_step",2,0,(.cons (.ret (.and (.call "is_tuple_of" (.ex (.var 0) (.ex (.cst (.int 2)) .nil))) (.and (.cmp .eq (.ix (.var 0) (.cst (.int 0))) (.cst (.str [115,104,97,114,112]))) (.call "is_ahead" (.ex (.ix (.var 0) (.cst (.int 1))) (.ex (.var 1) .nil)))))) .nil)⟩
noncomputable def ae0:Df:=⟨"_law_sharp",1,8,(.cons (.asg (.one 1) (.bi .len (.cons (.var 0) .nil))) (.cons (.asg (.one 2) (.lst .nil)) (.cons (.for_ (.one 3) (.rng1 (.var 1)) (.cons (.asg (.one 4) (.lst .nil)) (.cons (.for_ (.one 5) (.rng1 (.var 1)) (.cons (.asg (.one 6) (.cst (.int 3))) (.cons (.for_ (.one 7) (.rng1 (.var 1)) (.cons (.asg (.one 8) (.ix (.ix (.var 0) (.var 7)) (.var 7))) (.cons (.ite (.cmp .eq (.var 8) (.cst (.int 1))) (.cons (.asg (.one 8) (.cst (.int 2))) .nil) .nil) (.cons (.asg (.one 6) (.bi .min2 (.cons (.var 6) (.cons (.bi .max3 (.cons (.ix (.ix (.var 0) (.var 3)) (.var 7)) (.cons (.var 8) (.cons (.ix (.ix (.var 0) (.var 7)) (.var 5)) .nil)))) .nil)))) .nil)))) (.cons (.ex (.meth .append (.var 4) (.cons (.var 6) .nil))) .nil)))) (.cons (.ex (.meth .append (.var 2) (.cons (.mk .tuple (.seq (.var 4))) .nil))) .nil)))) (.cons (.ret (.mk .tuple (.seq (.var 2)))) .nil))))⟩
noncomputable def ae5:Df:=⟨"_law_makings",4,8,(.cons (.asg (.one 4) (.lst .nil)) (.cons (.asg (.one 5) (.lst .nil)) (.cons (.asg (.one 6) (.lst .nil)) (.cons (.for_ (.one 7) (.rng1 (.bin .add (.cst (.int 1)) (.call "_law_draw" (.ex (.var 0) (.ex (.var 2) .nil))))) (.cons (.asg (.one 8) (.call "_law_draw" (.ex (.var 0) (.ex (.cst (.int 6)) .nil)))) (.cons (.asg (.one 9) (.call "_law_draw" (.ex (.var 0) (.ex (.bin .add (.var 7) (.cst (.int 1))) .nil)))) (.cons (.asg (.one 10) (.call "_law_draw" (.ex (.var 0) (.ex (.bin .add (.var 7) (.cst (.int 1))) .nil)))) (.cons (.ite (.and (.cmp .lt (.var 8) (.cst (.int 4))) (.and (.cmp .gt (.var 3) (.cst (.int 0))) (.and (.cmp .ne (.var 6) (.lst .nil)) (.cmp .gt (.var 8) (.cst (.int 0)))))) (.cons (.asg (.one 9) (.ix (.var 6) (.bin .mod (.var 10) (.bi .len (.cons (.var 6) .nil))))) (.cons (.ex (.meth .append (.var 4) (.cons (.tup (.cons (.cst (.str [115,104,97,114,112])) (.cons (.var 9) .nil))) .nil))) (.cons (.ex (.meth .append (.var 5) (.cons (.call "_law_sharp" (.ex (.ix (.var 5) (.var 9)) .nil)) .nil))) (.cons (.asg (.one 3) (.bin .sub (.var 3) (.cst (.int 1)))) .nil)))) (.cons (.ite (.and (.cmp .gt (.var 7) (.cst (.int 0))) (.cmp .lt (.var 8) (.cst (.int 5)))) (.cons (.asg (.one 9) (.bi .min2 (.cons (.var 9) (.cons (.bin .sub (.var 7) (.cst (.int 1))) .nil)))) (.cons (.asg (.one 10) (.ite (.cmp .gt (.var 8) (.cst (.int 1))) (.bi .min2 (.cons (.var 10) (.cons (.bin .sub (.var 7) (.cst (.int 1))) .nil))) (.var 9))) (.cons (.ex (.meth .append (.var 4) (.cons (.tup (.cons (.cst (.str [112,97,105,114])) (.cons (.var 9) (.cons (.var 10) .nil)))) .nil))) (.cons (.ex (.meth .append (.var 5) (.cons (.call "_law_product" (.ex (.ix (.var 5) (.var 9)) (.ex (.ix (.var 5) (.var 10)) .nil))) .nil))) .nil)))) (.cons (.asg (.one 11) (.ix (.cst (.str [97,98,99])) (.bin .mod (.var 9) (.ix (.var 1) (.cst (.int 0)))))) (.cons (.ex (.meth .append (.var 4) (.cons (.tup (.cons (.cst (.str [108,101,116,116,101,114])) (.cons (.var 11) .nil))) .nil))) (.cons (.ex (.meth .append (.var 5) (.cons (.call "_law_letter_signs" (.ex (.var 1) (.ex (.var 11) .nil))) .nil))) .nil)))) .nil)) (.cons (.ite (.cmp .eq (.call "_law_product" (.ex (.ix (.var 5) (.var 7)) (.ex (.ix (.var 5) (.var 7)) .nil))) (.ix (.var 5) (.var 7))) (.cons (.ex (.meth .append (.var 6) (.cons (.var 7) .nil))) .nil) .nil) .nil)))))) (.cons (.ret (.tup (.cons (.mk .tuple (.seq (.var 4))) (.cons (.var 5) .nil)))) .nil)))))⟩
noncomputable def ac6:Df:=⟨"as_times",2,0,(.cons (.ret (.mk .list (.comp (.one 0) (.seq (.var 0)) (.ite (.cmp .eq (.ix (.var 0) (.cst (.int 0))) (.cst (.str [115,104,97,114,112]))) (.tup (.cons (.cst (.str [116,105,109,101,115])) (.cons (.ix (.var 0) (.cst (.int 1))) (.cons (.var 1) .nil)))) (.var 0)) [none,some 1]))) .nil)⟩
noncomputable def ab7:Df:=⟨"folded",4,2,(.cons (.asg (.one 4) (.lst .nil)) (.cons (.for_ (.one 5) (.seq (.var 0)) (.cons (.ite (.cmp .eq (.ix (.var 5) (.cst (.int 0))) (.cst (.str [108,101,116,116,101,114]))) (.cons (.ex (.meth .append (.var 4) (.cons (.callV 1 (.cons (.ix (.var 5) (.cst (.int 1))) .nil)) .nil))) .nil) (.cons (.ite (.cmp .eq (.ix (.var 5) (.cst (.int 0))) (.cst (.str [112,97,105,114]))) (.cons (.ex (.meth .append (.var 4) (.cons (.callV 2 (.cons (.ix (.var 4) (.ix (.var 5) (.cst (.int 1)))) (.cons (.ix (.var 4) (.ix (.var 5) (.cst (.int 2)))) .nil))) .nil))) .nil) (.cons (.ex (.meth .append (.var 4) (.cons (.callV 3 (.cons (.ix (.var 4) (.ix (.var 5) (.cst (.int 1)))) (.cons (.ix (.var 5) (.cst (.int 2))) .nil))) .nil))) .nil)) .nil)) .nil)) (.cons (.ret (.var 4)) .nil)))⟩
noncomputable def ad2:Df:=⟨"counted",2,0,(.cons (.ret (.callC "folded" (.ex (.var 0) (.lam "counted.2" [1] (.lam "counted.1" [] (.lam "counted.0" [] .nil)))))) .nil)⟩
noncomputable def ac3:Lm:=⟨"counted.0",2,0,(.bin .mul (.var 0) (.var 1))⟩
noncomputable def ac2:Lm:=⟨"counted.1",2,0,(.bin .add (.var 0) (.var 1))⟩
noncomputable def ac1:Lm:=⟨"counted.2",1,1,(.var 1)⟩
noncomputable def ab9:Df:=⟨"unrolled",3,0,(.cons (.ret (.call "as_times" (.ex (.var 1) (.ex (.bin .mul (.bin .add (.var 2) (.cst (.int 1))) (.call "rooms_of" (.ex (.var 0) .nil))) .nil)))) .nil)⟩
noncomputable def ae4:Df:=⟨"lengths",3,0,(.cons (.ret (.call "counted" (.ex (.call "unrolled" (.ex (.var 0) (.ex (.var 1) (.ex (.var 2) .nil)))) (.ex (.cst (.int 1)) .nil)))) .nil)⟩
noncomputable def ag1:Df:=⟨"begun",1,0,(.cons (.ret (.slU (.var 0) (.bin .add (.glob "MOST_WRITTEN") (.cst (.int 1))))) .nil)⟩
noncomputable def ab8:Df:=⟨"begun_times",2,1,(.cons (.asg (.one 2) (.bin .add (.bin .fdiv (.glob "MOST_WRITTEN") (.bi .len (.cons (.var 0) .nil))) (.cst (.int 1)))) (.cons (.ret (.call "begun" (.ex (.bin .mul (.var 0) (.bi .min2 (.cons (.var 1) (.cons (.var 2) .nil)))) .nil))) .nil))⟩
noncomputable def ad5:Df:=⟨"last_word",1,1,(.cons (.asg (.one 1) (.ix (.callC "folded" (.ex (.var 0) (.lam "last_word.1" [] (.lam "last_word.0" [] (.ex (.glob "begun_times") .nil))))) (.neg (.cst (.int 1))))) (.cons (.ite (.cmp .gt (.bi .len (.cons (.var 1) .nil)) (.glob "MOST_WRITTEN")) (.cons .raise .nil) .nil) (.cons (.ret (.var 1)) .nil)))⟩
noncomputable def ac8:Lm:=⟨"last_word.0",2,0,(.call "begun" (.ex (.bin .add (.var 0) (.var 1)) .nil))⟩
noncomputable def ac9:Lm:=⟨"last_word.1",1,0,(.var 0)⟩
noncomputable def ab4:Df:=⟨"word_unrolled",3,0,(.cons (.ret (.call "last_word" (.ex (.call "unrolled" (.ex (.var 0) (.ex (.var 1) (.ex (.var 2) .nil)))) .nil))) .nil)⟩
noncomputable def af3:Df:=⟨"_law_tall",3,2,(.cons (.asg (.one 3) (.lst (.cons (.tup (.cons (.cst (.str [108,101,116,116,101,114])) (.cons (.ix (.cst (.str [97,98,99])) (.call "_law_draw" (.ex (.var 0) (.ex (.var 1) .nil)))) .nil))) .nil))) (.cons (.for_ (.one 4) (.rng1 (.call "_law_draw" (.ex (.var 0) (.ex (.var 2) .nil)))) (.cons (.ex (.meth .append (.var 3) (.cons (.tup (.cons (.cst (.str [112,97,105,114])) (.cons (.var 4) (.cons (.bin .sub (.var 4) (.call "_law_draw" (.ex (.var 0) (.ex (.bin .add (.bi .min2 (.cons (.var 4) (.cons (.cst (.int 1)) .nil))) (.cst (.int 1))) .nil)))) .nil)))) .nil))) .nil)) (.cons (.ret (.mk .tuple (.seq (.var 3)))) .nil)))⟩
noncomputable def ac4:Df:=⟨"last_table",2,0,(.cons (.ret (.ix (.callC "folded" (.ex (.var 1) (.lam "last_table.0" [0] (.ex (.glob "product") (.ex (.glob "power") .nil))))) (.neg (.cst (.int 1))))) .nil)⟩
noncomputable def ac0:Lm:=⟨"last_table.0",1,1,(.call "letter_table" (.ex (.var 1) (.ex (.var 0) .nil)))⟩
noncomputable def aa9:Df:=⟨"table_unrolled",3,0,(.cons (.ret (.call "last_table" (.ex (.var 0) (.ex (.call "unrolled" (.ex (.var 0) (.ex (.var 1) (.ex (.var 2) .nil)))) .nil)))) .nil)⟩
noncomputable def ac5:Df:=⟨"_law_least",2,0,(.cons (.ite (.or (.isN (.var 0)) (.and (.notN (.var 1)) (.cmp .lt (.var 1) (.var 0)))) (.cons (.ret (.var 1)) .nil) .nil) (.cons (.ret (.var 0)) .nil))⟩
noncomputable def af4:Df:=⟨"_law_times",2,6,(.cons (.asg (.one 2) (.lst .nil)) (.cons (.for_ (.one 3) (.seq (.var 0)) (.cons (.asg (.one 4) (.lst .nil)) (.cons (.for_ (.one 5) (.rng1 (.bi .len (.cons (.var 0) .nil))) (.cons (.asg (.one 6) (.cst .non)) (.cons (.for_ (.one 7) (.rng1 (.bi .len (.cons (.var 0) .nil))) (.cons (.ite (.and (.notN (.ix (.var 3) (.var 7))) (.notN (.ix (.ix (.var 1) (.var 7)) (.var 5)))) (.cons (.asg (.one 6) (.call "_law_least" (.ex (.var 6) (.ex (.bin .add (.ix (.var 3) (.var 7)) (.ix (.ix (.var 1) (.var 7)) (.var 5))) .nil)))) .nil) .nil) .nil)) (.cons (.ex (.meth .append (.var 4) (.cons (.var 6) .nil))) .nil)))) (.cons (.ex (.meth .append (.var 2) (.cons (.mk .tuple (.seq (.var 4))) .nil))) .nil)))) (.cons (.ret (.mk .tuple (.seq (.var 2)))) .nil)))⟩
noncomputable def ae1:Df:=⟨"_law_power",2,1,(.cons (.asg (.one 2) (.cst .non)) (.cons (.whl (.cmp .gt (.var 1) (.cst (.int 0))) (.cons (.ite (.cmp .eq (.bin .mod (.var 1) (.cst (.int 2))) (.cst (.int 1))) (.cons (.asg (.one 2) (.ite (.isN (.var 2)) (.var 0) (.call "_law_times" (.ex (.var 2) (.ex (.var 0) .nil))))) .nil) .nil) (.cons (.asg (.one 1) (.bin .fdiv (.var 1) (.cst (.int 2)))) (.cons (.ite (.cmp .gt (.var 1) (.cst (.int 0))) (.cons (.asg (.one 0) (.call "_law_times" (.ex (.var 0) (.ex (.var 0) .nil)))) .nil) .nil) .nil)))) (.cons (.ret (.var 2)) .nil)))⟩
noncomputable def aa5:Df:=⟨"_law_letter_table",2,6,(.cons (.asg (.one 2) (.ix (.var 0) (.cst (.int 1)))) (.cons (.asg (.one 3) (.mk .list (.comp (.one 0) (.rng1 (.var 2)) (.mk .list (.comp (.one 0) (.rng1 (.var 1)) (.cst .non) [none])) [none,some 2]))) (.cons (.for_ (.tup [4,5,6,7]) (.seq (.ix (.var 0) (.cst (.int 4)))) (.cons (.ite (.cmp .eq (.var 5) (.var 1)) (.cons (.setIx (.ix (.var 3) (.var 4)) (.var 6) (.call "_law_least" (.ex (.ix (.ix (.var 3) (.var 4)) (.var 6)) (.ex (.var 7) .nil)))) .nil) .nil) .nil)) (.cons (.ret (.mk .tuple (.comp (.one 0) (.seq (.var 3)) (.mk .tuple (.seq (.var 0))) [none]))) .nil))))⟩
noncomputable def ag2:Df:=⟨"_law_due",3,2,(.cons (.asg (.one 3) (.lst .nil)) (.cons (.for_ (.one 4) (.seq (.var 1)) (.cons (.ite (.cmp .eq (.ix (.var 4) (.cst (.int 0))) (.cst (.str [108,101,116,116,101,114]))) (.cons (.ex (.meth .append (.var 3) (.cons (.call "_law_letter_table" (.ex (.var 0) (.ex (.ix (.var 4) (.cst (.int 1))) .nil))) .nil))) .nil) (.cons (.ite (.cmp .eq (.ix (.var 4) (.cst (.int 0))) (.cst (.str [112,97,105,114]))) (.cons (.ex (.meth .append (.var 3) (.cons (.call "_law_times" (.ex (.ix (.var 3) (.ix (.var 4) (.cst (.int 1)))) (.ex (.ix (.var 3) (.ix (.var 4) (.cst (.int 2)))) .nil))) .nil))) .nil) (.cons (.ex (.meth .append (.var 3) (.cons (.call "_law_power" (.ex (.ix (.var 3) (.ix (.var 4) (.cst (.int 1)))) (.ex (.var 2) .nil))) .nil))) .nil)) .nil)) .nil)) (.cons (.ret (.ix (.var 3) (.neg (.cst (.int 1))))) .nil)))⟩
noncomputable def ad8:Df:=⟨"law",1,8,(.cons (.for_ (.one 1) (.rng1 (.bin .add (.bi .min2 (.cons (.cst (.int 4)) (.cons (.bi .len (.cons (.var 0) .nil)) .nil))) (.cst (.int 1)))) (.cons (.asg (.one 2) (.call "_law_box" (.ex (.var 0) (.ex (.var 1) .nil)))) (.cons (.asg (.one 3) (.call "_law_machine" (.ex (.var 2) .nil))) (.cons (.asg (.one 4) (.ix (.call "_law_makings" (.ex (.var 2) (.ex (.var 3) (.ex (.cst (.int 8)) (.ex (.cst (.int 3)) .nil))))) (.cst (.int 0)))) (.cons (.ite (.cmp .eq (.call "_law_draw" (.ex (.var 2) (.ex (.cst (.int 8)) .nil))) (.cst (.int 3))) (.cons (.asg (.one 4) (.call "_law_tall" (.ex (.var 2) (.ex (.ix (.var 3) (.cst (.int 0))) (.ex (.cst (.int 100)) .nil))))) .nil) .nil) (.cons (.asg (.one 5) (.call "_law_draw" (.ex (.var 2) (.ex (.bin .add (.bin .pow (.cst (.int 10)) (.cst (.int 30))) (.cst (.int 1))) .nil)))) (.cons (.ite (.cmp .gt (.var 1) (.cst (.int 0))) (.cons (.asg (.one 5) (.bin .mod (.var 5) (.bin .pow (.cst (.int 10)) (.cst (.int 9))))) .nil) .nil) (.cons (.for_ (.one 6) (.seq (.lst (.cons (.call "_law_draw" (.ex (.var 2) (.ex (.cst (.int 4)) .nil))) (.cons (.var 5) .nil)))) (.cons (.asg (.one 7) (.call "_law_due" (.ex (.var 3) (.ex (.var 4) (.ex (.bin .mul (.bin .add (.var 6) (.cst (.int 1))) (.ix (.var 3) (.cst (.int 1)))) .nil))))) (.cons (.asg (.one 8) (.call "table_unrolled" (.ex (.var 3) (.ex (.var 4) (.ex (.var 6) .nil))))) (.cons (.ite (.or (.not (.bi .isTup (.cons (.var 8) .nil))) (.cmp .ne (.var 8) (.var 7))) (.cons (.ret (.cst (.bl false))) .nil) .nil) (.cons (.ite (.cmp .le (.ix (.call "lengths" (.ex (.var 3) (.ex (.var 4) (.ex (.var 6) .nil)))) (.neg (.cst (.int 1)))) (.cst (.int 200))) (.cons (.ite (.cmp .ne (.call "word_table" (.ex (.var 3) (.ex (.call "word_unrolled" (.ex (.var 3) (.ex (.var 4) (.ex (.var 6) .nil)))) .nil))) (.var 7)) (.cons (.ret (.cst (.bl false))) .nil) .nil) .nil) .nil) .nil))))) .nil)))))))) (.cons (.ret (.cst (.bl true))) .nil))⟩
noncomputable def ay9:Df:=⟨"long_length",1,0,(.cons (.ret (.ix (.call "counted" (.ex (.var 0) (.ex (.cst (.int 1)) .nil))) (.neg (.cst (.int 1))))) .nil)⟩
noncomputable def aH6:Df:=⟨"letter_at",2,4,(.cons (.asg (.one 2) (.call "counted" (.ex (.var 0) (.ex (.cst (.int 1)) .nil)))) (.cons (.asg (.one 3) (.ix (.var 0) (.neg (.cst (.int 1))))) (.cons (.asg (.one 4) (.var 1)) (.cons (.whl (.cmp .ne (.ix (.var 3) (.cst (.int 0))) (.cst (.str [108,101,116,116,101,114]))) (.cons (.asg (.one 5) (.ix (.var 3) (.cst (.int 1)))) (.cons (.ite (.cmp .eq (.ix (.var 3) (.cst (.int 0))) (.cst (.str [116,105,109,101,115]))) (.cons (.asg (.one 4) (.bin .mod (.var 4) (.ix (.var 2) (.var 5)))) .nil) (.cons (.ite (.cmp .ge (.var 4) (.ix (.var 2) (.var 5))) (.cons (.asg (.one 4) (.bin .sub (.var 4) (.ix (.var 2) (.var 5)))) (.cons (.asg (.one 5) (.ix (.var 3) (.cst (.int 2)))) .nil)) .nil) .nil)) (.cons (.asg (.one 3) (.ix (.var 0) (.var 5))) .nil)))) (.cons (.ret (.ix (.var 3) (.cst (.int 1)))) .nil)))))⟩
noncomputable def w_on:Df:=⟨"_law_on",3,5,(.cons (.asg (.one 3) (.mk .list (.comp (.one 0) (.seq (.var 2)) (.cst .non) [none]))) (.cons (.for_ (.tup [4,5,6,7]) (.seq (.ix (.var 0) (.cst (.int 4)))) (.cons (.ite (.and (.cmp .eq (.var 5) (.var 1)) (.notN (.ix (.var 2) (.var 4)))) (.cons (.ite (.or (.isN (.ix (.var 3) (.var 6))) (.cmp .lt (.bin .add (.ix (.var 2) (.var 4)) (.var 7)) (.ix (.var 3) (.var 6)))) (.cons (.setIx (.var 3) (.var 6) (.bin .add (.ix (.var 2) (.var 4)) (.var 7))) .nil) .nil) .nil) .nil) .nil)) (.cons (.ret (.var 3)) .nil)))⟩
class Has (P:Pr)(d:Df):Prop where
 eq:P.df d.name=some d
class HasL (P:Pr)(d:Lm):Prop where
 eq:P.lm d.id=some d
class HasC (P:Pr)(x:String)(v:D):Prop where
 eq:P.con x=some v
noncomputable def fin (s:Sto)(c:Ct)(s':Sto):R D:=match c with
 | .ret v=>zT s v s'
 | .next _=>zT s .non s'
 | _=>.bad
@[simp] theorem qe (s:Sto) (v:D) (s':Sto):fin s (.ret v) s'=zT s v s':=rfl
@[simp] theorem fin_next (s:Sto) (ρ:Env) (s':Sto):fin s (.next ρ) s'=zT s .non s':=rfl
theorem zn {P:Pr}(d:Df)[h:Has P d]{n:Nat}{l:List D}{s:Sto}(hl:l.length=d.ps) :
  (aa1 P (n+1)).call d.name l s=(exs (aa1 P n) d.body (l.map some++ar d.vs none) s).bind (fin s):=by
 simp only[aa1,h.eq,hl,if_true]
 rfl
theorem jk {P:Pr}(d:Lm)[h:HasL P d]{n:Nat}{cs l:List D}{s:Sto}(hl:l.length=d.ps)(hc:cs.length=d.cs)(hn:(D.nclL l&&D.nclL cs&&s.all O.ncl)=true) :
  (aa1 P (n+1)).lam d.id cs l s=(ev (aa1 P n) d.body (l.map some++cs.map some) s).bind (zT s):=by
 simp only[aa1,h.eq,hl,hc,hn,and_self,if_true]
theorem bv3 {P:Pr}{x:String}{v:D}[h:HasC P x v]{n:Nat}:(aa1 P n).con x=some v:=by
 cases n<;>exact h.eq
theorem aC1 (s t:Sto):as3 s (s++t)=true:=by
 unfold as3
 rw[aO]
 intro i h
 rw[bA]at h
 rw[aw h]
 simp
theorem an4 (s t:Sto)(r:Nat)(o:O)(h:o.bnd s.length=true):as3 s (s.set r o++t)=true:=by
 unfold as3
 rw[aO]
 intro i y
 rw[bA]at y
 rw[aw (by rw[bw];exact y)]
 by_cases e:r=i
 ·subst e;rw[aS y];simp[h]
 ·rw[aY e];simp
theorem zG {s t:Sto}{d:D}(h:∀ n,d.bnd n=true)(y:∀ r,d≠.ref r):zT s d (s++t)=.ok d s:=by
 unfold zT
 rw[aC1,if_pos rfl]
 cases d with
 | ref r=>exact absurd rfl (y r)
 | _=>simp[h]
theorem zv {s:Sto}{d:D}(h:∀ n,d.bnd n=true)(y:∀ r,d≠.ref r):zT s d s=.ok d s:=by
 have:=zG (s:=s) (t:=[]) h y
 rwa [bD]at this
theorem ao1 {s t:Sto}{d:D}{r:Nat}{o:O}(h:∀ n,d.bnd n=true)(y:∀ r,d≠.ref r)(ho:o.bnd s.length=true):zT s d (s.set r o++t)=.ok d (s.set r o):=by
 unfold zT
 rw[an4 s t r o ho,if_pos rfl]
 have e:(s.set r o++t).take s.length=s.set r o:=by rw[cU (by simp),cr (by simp)]
 cases d with
 | ref r=>exact absurd rfl (y r)
 | _=>simp only[h,if_true,e]
theorem aS8 {s:Sto}{d:D}{r:Nat}{o:O}(h:∀ n,d.bnd n=true)(y:∀ r,d≠.ref r)(ho:o.bnd s.length=true):zT s d (s.set r o)=.ok d (s.set r o):=by
 have:=ao1 (s:=s) (t:=[]) (r:=r) h y ho
 rwa [bD]at this
theorem ap0 {s t u:Sto}{o:O}(ho:o.bnd s.length=true):zT s (.ref (s.length+t.length)) (s++(t++o::u))=.ok (.ref s.length) (s++[o]):=by
 unfold zT
 rw[aC1,if_pos rfl]
 simp[ho,af]
@[simp] theorem qh {s:Sto} {i:Int}:zT s (.int i) s=.ok (.int i) s:=zv (λ _=>rfl) (by nofun)
@[simp] theorem bZ9 {s:Sto} {i:Bool}:zT s (.bl i) s=.ok (.bl i) s:=zv (λ _=>rfl) (by nofun)
@[simp] theorem aq4 {s:Sto}:zT s .non s=.ok .non s:=zv (λ _=>rfl) (by nofun)
@[simp] theorem bP3 {s:Sto} {x:List Nat}:zT s (.str x) s=.ok (.str x) s:=zv (λ _=>rfl) (by nofun)
theorem jr {c:Env->Sto->R D}{g:Env->Sto->R Ct}:∀ {n:Nat} {ρ:Env} {s:Sto},jL c g n ρ s≠.bad->jL c g (n+1) ρ s=jL c g n ρ s
 | 0,_,_,h=>absurd rfl h
 | n+1,ρ,s,h=>by
  rw[show jL c g (n+1+1) ρ s=tru (c ρ s) (λ b s=>if b then(g ρ s).bind λ y s=>match y with
   | .next ρ=>jL c g (n+1) ρ s|.cont ρ=>jL c g (n+1) ρ s|.brk ρ=>.ok (.next ρ) s|.ret d=>.ok (.ret d) s else .ok (.next ρ) s)from rfl]
  have e:jL c g (n+1) ρ s=tru (c ρ s) (λ b s=>if b then(g ρ s).bind λ y s=>match y with
   | .next ρ=>jL c g n ρ s|.cont ρ=>jL c g n ρ s|.brk ρ=>.ok (.next ρ) s|.ret d=>.ok (.ret d) s else .ok (.next ρ) s):=rfl
  rw[e]at h ⊢
  unfold tru at h ⊢
  cases hc:c ρ s with
  | exc _ _=>rfl
  | bad=>rfl
  | ok d s1 =>
   rw[hc]at h
   cases d with
   | bl b =>
    cases b with
    | false=>rfl
    | true =>
     simp only[R.bind_ok,if_true]at h ⊢
     cases hg:g ρ s1 with
     | exc _ _=>rfl
     | bad=>rfl
     | ok y s2 =>
      rw[hg]at h
      simp only[R.bind_ok]at h ⊢
      cases y with
      | next ρ'=>exact jr h
      | cont ρ'=>exact jr h
      | _=>rfl
   | _=>rfl
theorem qL {c:Env->Sto->R D}{g:Env->Sto->R Ct}{n:Nat}{ρ:Env}{s:Sto}(h:jL c g n ρ s≠.bad):∀ k,jL c g (n+k) ρ s=jL c g n ρ s
 | 0=>rfl
 | k+1=>by
  have e:=qL h k
  rw[<-Nat.add_assoc,jr (by rw[e];exact h),e]
theorem bL9 {c:Env->Sto->R D}{g:Env->Sto->R Ct}{n:Nat}{ρ:Env}{s:Sto}{r:Ct}{t:Sto}(h:jL c g n ρ s=.ok r t):whl c g ρ s=.ok r t:=by
 have hb:jL c g n ρ s≠.bad:=by rw[h];nofun
 have hx:∃ n,jL c g n ρ s≠.bad:=⟨n,hb⟩
 unfold whl
 rw[dif_pos hx]
 have G:=qL hx.choose_spec n
 have y:=qL hb hx.choose
 rw[<-G,gk,y,h]
theorem bj3 {c:Env->Sto->R D}{g:Env->Sto->R Ct}{ρ ρ':Env}{s s1 s':Sto}(hc:c ρ s=.ok (.bl true) s1)(G:g ρ s1=.ok (.next ρ') s'):whl c g ρ s=whl c g ρ' s':=by
 have key:∀ n,jL c g (n+1) ρ s=jL c g n ρ' s':=λ n=>by
  show tru (c ρ s) _=_
  rw[hc,zH,if_pos rfl,G];rfl
 unfold whl
 by_cases hx:∃ n,jL c g n ρ' s'≠.bad
 ·have hy:∃ n,jL c g n ρ s≠.bad:=⟨hx.choose+1,by rw[key];exact hx.choose_spec⟩
  rw[dif_pos hx,dif_pos hy]
  have y:=qL hy.choose_spec (hx.choose+1)
  have h:=qL (n:=hx.choose+1) (ρ:=ρ) (s:=s) (by rw[key];exact hx.choose_spec) hy.choose
  rw[<-y,gk,h,key]
 ·have hy:¬ ∃ n,jL c g n ρ s≠.bad:=λ⟨n,hn⟩=>by
   cases n with
   | zero=>exact hn rfl
   | succ n=>exact hx ⟨n,by rw[<-key];exact hn⟩
  rw[dif_neg hx,dif_neg hy]
theorem bv6 {c:Env->Sto->R D}{g:Env->Sto->R Ct}{ρ:Env}{s s1:Sto}(hc:c ρ s=.ok (.bl false) s1):whl c g ρ s=.ok (.next ρ) s1 :=
 bL9 (n:=1) (by show tru (c ρ s) _=_;rw[hc,zH];rfl)
theorem aY9 (s0 s:Sto):chk s0 s []=true:=rfl
theorem jj {ok:Sto->Bool}{g:D->Env->Sto->R Ct}(P:Nat->Env->Sto->Prop):∀(l:List D) (k:Nat) (ρ:Env) (s:Sto),
  P k ρ s->(∀(j:Nat) (ρ:Env) (s:Sto),j<=l.length->P (k+j) ρ s->ok s=true)->(∀(j:Nat) (d:D) (ρ:Env) (s:Sto),l[j]?=some d->P (k+j) ρ s->∃ ρ' s',(g d ρ s=.ok (.next ρ') s'\/g d ρ s=.ok (.cont ρ') s')/\P (k+j+1) ρ' s') ->
  ∃ ρ' s',aN8 ok g l ρ s=.ok (.next ρ') s'/\P (k+l.length) ρ' s'
 | [],k,ρ,s,h,o,_=>⟨ρ,s,by show(if ok s then _ else _)=_;rw[if_pos (o 0 ρ s (ai _) h)],h⟩
 | d::l,k,ρ,s,h,o,t=>by
  have ho:=o 0 ρ s (cS _) h
  obtain⟨ρ1,s1,y,J⟩:=t 0 d ρ s rfl h
  obtain⟨ρ2,s2,e,Y⟩:=jj P l (k+1) ρ1 s1 J (λ j ρ' s' hj G=>o (j+1) ρ' s' (by simpa using hj) (by rwa [show k+(j+1)=k+1+j by omega])) λ j d' ρ' s' hj G=>by
   have:=t (j+1) d' ρ' s' (by simpa using hj) (by rwa [show k+(j+1)=k+1+j by omega])
   rwa [show k+(j+1)+1=k+1+j+1 by omega]at this
  refine⟨ρ2,s2,?_,by rwa [aU,show k+(l.length+1)=k+1+l.length by omega]⟩
  show(if ok s then _ else _)=_
  rw[if_pos ho]
  rcases y with y|y<;>(rw[y];exact e)
noncomputable def Nx (Q:Env->Sto->Prop):R Ct->Prop
 | .ok (.next ρ) s=>Q ρ s
 | .ok (.cont ρ) s=>Q ρ s
 | _=>False
@[simp] theorem bb6 (Q:Env->Sto->Prop) (ρ:Env) (s:Sto):Nx Q (.ok (.next ρ) s)=Q ρ s:=rfl
@[simp] theorem cf6 (Q:Env->Sto->Prop) (ρ:Env) (s:Sto):Nx Q (.ok (.cont ρ) s)=Q ρ s:=rfl
theorem av8 {Q:Env->Sto->Prop}{r:R Ct}{ρ:Env}{s:Sto}(e:r=.ok (.next ρ) s)(h:Q ρ s):Nx Q r:=by rw[e];exact h
theorem Nx.out {Q:Env->Sto->Prop}:∀ {r:R Ct},Nx Q r->∃ ρ s,(r=.ok (.next ρ) s\/r=.ok (.cont ρ) s)/\Q ρ s
 | .ok (.next ρ) s,h=>⟨ρ,s,.inl rfl,h⟩
 | .ok (.cont ρ) s,h=>⟨ρ,s,.inr rfl,h⟩
 | .ok (.ret _) _,h=>h.elim
 | .ok (.brk _) _,h=>h.elim
 | .exc _ _,h=>h.elim
 | .bad,h=>h.elim
noncomputable def Tst (A B:Sto->Prop):R D->Prop
 | .ok (.bl false) s=>A s
 | .ok (.bl true) s=>B s
 | _=>False
@[simp] theorem br1 (A B:Sto->Prop) (b:Bool) (s:Sto):Tst A B (.ok (.bl b) s)=if b then B s else A s:=by cases b<;>rfl
theorem Tst.out {A B:Sto->Prop}:∀ {r:R D},Tst A B r->(∃ s,r=.ok (.bl false) s/\A s)\/∃ s,r=.ok (.bl true) s/\B s
 | .ok (.bl false) s,h=>.inl ⟨s,rfl,h⟩
 | .ok (.bl true) s,h=>.inr ⟨s,rfl,h⟩
 | .ok .non _,h=>h.elim
 | .ok (.int _) _,h=>h.elim
 | .ok (.str _) _,h=>h.elim
 | .ok (.tup _) _,h=>h.elim
 | .ok (.ref _) _,h=>h.elim
 | .ok (.fn _) _,h=>h.elim
 | .ok (.clo _ _) _,h=>h.elim
 | .exc _ _,h=>h.elim
 | .bad,h=>h.elim
theorem bo6 {c:Env->Sto->R D}{g:Env->Sto->R Ct}{ρ ρ':Env}{s s1 s':Sto}(hc:c ρ s=.ok (.bl true) s1)(G:g ρ s1=.ok (.cont ρ') s'):whl c g ρ s=whl c g ρ' s':=by
 have key:∀ n,jL c g (n+1) ρ s=jL c g n ρ' s':=λ n=>by
  show tru (c ρ s) _=_
  rw[hc,zH,if_pos rfl,G];rfl
 unfold whl
 by_cases hx:∃ n,jL c g n ρ' s'≠.bad
 ·have hy:∃ n,jL c g n ρ s≠.bad:=⟨hx.choose+1,by rw[key];exact hx.choose_spec⟩
  rw[dif_pos hx,dif_pos hy]
  have y:=qL hy.choose_spec (hx.choose+1)
  have h:=qL (n:=hx.choose+1) (ρ:=ρ) (s:=s) (by rw[key];exact hx.choose_spec) hy.choose
  rw[<-y,gk,h,key]
 ·have hy:¬ ∃ n,jL c g n ρ s≠.bad:=λ⟨n,hn⟩=>by
   cases n with
   | zero=>exact hn rfl
   | succ n=>exact hx ⟨n,by rw[<-key];exact hn⟩
  rw[dif_neg hx,dif_neg hy]
theorem bM5 {c:Env->Sto->R D}{g:Env->Sto->R Ct}(P:Nat->Env->Sto->Prop)(Q:Env->Sto->Prop)
  (step:∀ k ρ s,P k ρ s->Tst (λ s1=>Q ρ s1) (λ s1=>Nx (λ ρ' s'=>∃ y,y<k/\P y ρ' s') (g ρ s1)) (c ρ s)) :
  ∀(k:Nat) (ρ:Env) (s:Sto),P k ρ s->∃ ρ' s',whl c g ρ s=.ok (.next ρ') s'/\Q ρ' s':=by
 intro k
 induction k using gD with
 | _ k ih =>
  intro ρ s h
  rcases(step k ρ s h).out with⟨s1,hc,hq⟩|⟨s1,hc,hn⟩
  ·exact⟨ρ,s1,bv6 hc,hq⟩
  ·obtain⟨ρ',s',G,y,hk,J⟩:=hn.out
   rcases G with G|G
   ·rw[bj3 hc G];exact ih y hk ρ' s' J
   ·rw[bo6 hc G];exact ih y hk ρ' s' J
theorem bh9 {c:Env->Sto->R D}{g:Env->Sto->R Ct}{ρ:Env}{s:Sto}{α:Type}{f:Ct->Sto->R α}{W:R α->Prop}(P:Nat->Env->Sto->Prop)(Q:Env->Sto->Prop)(k:Nat)(h:P k ρ s)
  (step:∀ k ρ s,P k ρ s->Tst (λ s1=>Q ρ s1) (λ s1=>Nx (λ ρ' s'=>∃ y,y<k/\P y ρ' s') (g ρ s1)) (c ρ s))
  (G:∀ ρ' s',Q ρ' s'->W (f (.next ρ') s')):W ((whl c g ρ s).bind f):=by
 obtain⟨ρ',s',e,q⟩:=bM5 P Q step k ρ s h
 rw[e]
 exact G ρ' s' q
theorem aM0 {c:Env->Sto->R D}{g:Env->Sto->R Ct}{ρ:Env}{s:Sto}{α:Type}{f:Ct->Sto->R α}{x:R α}(P:Nat->Env->Sto->Prop)(Q:Env->Sto->Prop)(k:Nat)(h:P k ρ s)
  (step:∀ k ρ s,P k ρ s->Tst (λ s1=>Q ρ s1) (λ s1=>Nx (λ ρ' s'=>∃ y,y<k/\P y ρ' s') (g ρ s1)) (c ρ s))
  (G:∀ ρ' s',Q ρ' s'->f (.next ρ') s'=x):(whl c g ρ s).bind f=x:=bh9 (W:=(·=x)) P Q k h step G
theorem qU {ok:Sto->Bool}{g:D->Env->Sto->R Ct}{l:List D}{ρ:Env}{s:Sto}{α:Type}{f:Ct->Sto->R α}{W:R α->Prop}(P:Nat->Env->Sto->Prop)(h:P 0 ρ s)
  (o:∀(j:Nat) (ρ:Env) (s:Sto),j<=l.length->P j ρ s->ok s=true) (step:∀(j:Nat) (d:D) (ρ:Env) (s:Sto),l[j]?=some d->P j ρ s->Nx (P (j+1)) (g d ρ s))
  (G:∀ ρ' s',P l.length ρ' s'->W (f (.next ρ') s')):W ((aN8 ok g l ρ s).bind f):=by
 obtain⟨ρ',s',e,q⟩:=jj P l 0 ρ s h (λ j ρ s hj y=>o j ρ s hj (by rwa [bq]at y)) (λ j d ρ s hj y=>by
  rw[bq]at y ⊢
  exact(step j d ρ s hj y).out)
 rw[e]
 rw[bq]at q
 exact G ρ' s' q
theorem je {ok:Sto->Bool}{g:D->Env->Sto->R Ct}{l:List D}{ρ:Env}{s:Sto}{α:Type}{f:Ct->Sto->R α}{x:R α}(P:Nat->Env->Sto->Prop)(h:P 0 ρ s)
  (o:∀(j:Nat) (ρ:Env) (s:Sto),j<=l.length->P j ρ s->ok s=true) (step:∀(j:Nat) (d:D) (ρ:Env) (s:Sto),l[j]?=some d->P j ρ s->Nx (P (j+1)) (g d ρ s))
  (y:∀ ρ' s',P l.length ρ' s'->f (.next ρ') s'=x):(aN8 ok g l ρ s).bind f=x:=qU (W:=(·=x)) P h o step y
section
variable {F:Fns} {ρ:Env} {s:Sto}
@[simp] theorem zb (i:Nat):ev F (.var i) ρ s=bh2 ρ i s:=rfl
@[simp] theorem zw (c:Cn):ev F (.cst c) ρ s=.ok c.d s:=rfl
@[simp] theorem qi (op:BOp) (a b:E):ev F (.bin op a b) ρ s=(ev F a ρ s).bind λ x s=>(ev F b ρ s).bind λ y s=>qN op x y s:=rfl
@[simp] theorem ev_not (a:E):ev F (.not a) ρ s=tru (ev F a ρ s) λ b s=>.ok (.bl (!b)) s:=rfl
@[simp] theorem zO (op:COp) (a b:E):ev F (.cmp op a b) ρ s=(ev F a ρ s).bind λ x s=>(ev F b ρ s).bind λ y s=>qz op x y s:=rfl
@[simp] theorem bZ3 (o p:COp) (a b c:E):ev F (.chain o p a b c) ρ s=(ev F a ρ s).bind λ x s=>(ev F b ρ s).bind λ y s=>tru (qz o x y s) λ k s=>if k then(ev F c ρ s).bind λ z s=>qz p y z s else .ok (.bl false) s:=rfl
@[simp] theorem ev_isN (a:E):ev F (.isN a) ρ s=(ev F a ρ s).bind λ x s=>.ok (.bl (decide (x=.non))) s:=rfl
@[simp] theorem ev_notN (a:E):ev F (.notN a) ρ s=(ev F a ρ s).bind λ x s=>.ok (.bl (!decide (x=.non))) s:=rfl
@[simp] theorem ev_and (a b:E):ev F (.and a b) ρ s=tru (ev F a ρ s) λ c s=>if c then tru (ev F b ρ s) λ c s=>.ok (.bl c) s else .ok (.bl false) s:=rfl
@[simp] theorem ev_or (a b:E):ev F (.or a b) ρ s=tru (ev F a ρ s) λ c s=>if c then .ok (.bl true) s else tru (ev F b ρ s) λ c s=>.ok (.bl c) s:=rfl
@[simp] theorem ev_ite (c a b:E):ev F (.ite c a b) ρ s=tru (ev F c ρ s) λ k s=>if k then ev F a ρ s else ev F b ρ s:=rfl
@[simp] theorem ev_tup (es:Es):ev F (.tup es) ρ s=(evs F es ρ s).bind λ l s=>.ok (.tup l) s:=rfl
@[simp] theorem ev_lst (es:Es):ev F (.lst es) ρ s=(evs F es ρ s).bind λ l s=>af5 (.lst l) s:=rfl
@[simp] theorem qt (a b:E):ev F (.ix a b) ρ s=(ev F a ρ s).bind λ x s=>(ev F b ρ s).bind λ y s=>ixM x y s:=rfl
@[simp] theorem zU (f:String) (h:As):ev F (.call f h) ρ s=(aq9 F h ρ s).bind λ l s=>F.call f l s:=rfl
@[simp] theorem jw (f:String) (h:As):ev F (.callC f h) ρ s=(aq9 F h ρ s).bind λ l s=>(F.call f l s).bind λ d s'=>if(d.ncl&&s'.all O.ncl)=true then .ok d s' else .bad:=rfl
@[simp] theorem ev_bi (b:Bi) (es:Es):ev F (.bi b es) ρ s=(evs F es ρ s).bind λ l s=>bi b l s:=rfl
@[simp] theorem ev_mk (k:Mk) (h:L):ev F (.mk k h) ρ s=(evL F h ρ s).bind λ q s=>mk k q s:=rfl
@[simp] theorem ev_mkD (k:Mk) (h:L) (d:E):ev F (.mkD k h d) ρ s=(evL F h ρ s).bind λ q s=>(ev F d ρ s).bind λ d s=>mkD k q d s:=rfl
@[simp] theorem ev_mks (k:Mk) (e:E):ev F (.mks k e) ρ s=(ev F e ρ s).bind λ x s=>(bJ2 x s).bind λ q s=>mk k q s:=rfl
@[simp] theorem ev_mkDs (k:Mk) (e d:E):ev F (.mkDs k e d) ρ s=(ev F e ρ s).bind λ x s=>(ev F d ρ s).bind λ z s=>(bJ2 x s).bind λ q s=>mkD k q z s:=rfl
@[simp] theorem z9 (m:Mt) (o:E) (es:Es):ev F (.meth m o es) ρ s=(ev F o ρ s).bind λ x s=>(evs F es ρ s).bind λ l s=>meth m x l s:=rfl
@[simp] theorem cf3 (o e:E):ev F (.extS o e) ρ s=(ev F o ρ s).bind λ x s=>(ev F e ρ s).bind λ y s=>extS x y s:=rfl
@[simp] theorem ev_rev (a:E):ev F (.rev a) ρ s=(ev F a ρ s).bind λ x s=>revM x s:=rfl
@[simp] theorem ev_ext (o:E) (h:L):ev F (.ext o h) ρ s=(ev F o ρ s).bind λ x s=>(evL F h ρ s).bind λ q s=>bW5 x q s:=rfl
@[simp] theorem zr:evs F .nil ρ s=.ok [] s:=rfl
@[simp] theorem zq (e:E) (es:Es):evs F (.cons e es) ρ s=(ev F e ρ s).bind λ d s=>(evs F es ρ s).bind λ l s=>.ok (d::l) s:=rfl
@[simp] theorem zD:aq9 F .nil ρ s=.ok [] s:=rfl
@[simp] theorem zI (e:E) (h:As):aq9 F (.ex e h) ρ s=(ev F e ρ s).bind λ d s=>(aq9 F h ρ s).bind λ l s=>.ok (d::l) s:=rfl
@[simp] theorem cb6 (f:String) (h:As):aq9 F (.fn f h) ρ s=(aq9 F h ρ s).bind λ l s=>.ok (.fn f::l) s:=rfl
@[simp] theorem evI_seq (e:E):evI F (.seq e) ρ s=(ev F e ρ s).bind λ d s=>an9 d s:=rfl
@[simp] theorem bZ4 (es:Es):evL F (.disp es) ρ s=evs F es ρ s:=rfl
@[simp] theorem evL_seq (e:E):evL F (.seq e) ρ s=(ev F e ρ s).bind λ d s=>ay7 d s:=rfl
noncomputable def bC0 (x:D):M Sq:=λ s=>match x with|.int i=>if -W62<=i/\i<W62 then .ok ⟨jy 0 i,[]⟩ s else .bad|_=>.bad
@[simp] theorem qS (a:E):evI F (.rng1 a) ρ s=(ev F a ρ s).bind λ x s=>bC0 x s:=rfl
theorem zL {i:Int}(h0:-W62<=i)(h:i<W62):bC0 (.int i) s=.ok ⟨jy 0 i,[]⟩ s:=by unfold bC0;simp only[h0,h,and_self,if_true]
noncomputable def nxt (F:Fns)(ss:Ss)(c:Ct)(s:Sto):R Ct:=match c with|.next ρ=>exs F ss ρ s|c=>.ok c s
@[simp] theorem zl (h:Ss) (ρ:Env) (s:Sto):nxt F h (.next ρ) s=exs F h ρ s:=rfl
@[simp] theorem qb (h:Ss) (d:D) (s:Sto):nxt F h (.ret d) s=.ok (.ret d) s:=rfl
@[simp] theorem nxt_cont (h:Ss) (ρ:Env) (s:Sto):nxt F h (.cont ρ) s=.ok (.cont ρ) s:=rfl
@[simp] theorem zg:exs F .nil ρ s=.ok (.next ρ) s:=rfl
@[simp] theorem za (st:S) (h:Ss):exs F (.cons st h) ρ s=(ex F st ρ s).bind (nxt F h):=rfl
noncomputable def cd6 (ρ:Option Env)(s:Sto):R Ct:=match ρ with|some ρ=>.ok (.next ρ) s|none=>.bad
@[simp] theorem zx (ρ:Env) (s:Sto):cd6 (some ρ) s=.ok (.next ρ) s:=rfl
@[simp] theorem qf (tg:Tg) (e:E):ex F (.asg tg e) ρ s=(ev F e ρ s).bind λ d s=>cd6 (af2 ρ tg d) s:=rfl
@[simp] theorem ex_setIx (o i e:E):ex F (.setIx o i e) ρ s=(ev F e ρ s).bind λ d s=>(ev F o ρ s).bind λ x s=>(ev F i ρ s).bind λ y s=>(setIx x y d s).bind λ _ s=>.ok (.next ρ) s:=rfl
@[simp] theorem jC (e:E):ex F (.ex e) ρ s=(ev F e ρ s).bind λ _ s=>.ok (.next ρ) s:=rfl
@[simp] theorem qP (e:E):ex F (.ret e) ρ s=(ev F e ρ s).bind λ d s=>.ok (.ret d) s:=rfl
@[simp] theorem ch6:ex F .retN ρ s=.ok (.ret .non) s:=rfl
@[simp] theorem qg (c:E) (a b:Ss):ex F (.ite c a b) ρ s=tru (ev F c ρ s) λ k s=>if k then exs F a ρ s else exs F b ρ s:=rfl
@[simp] theorem ex_whl (c:E) (b:Ss):ex F (.whl c b) ρ s=whl (ev F c) (exs F b) ρ s:=rfl
noncomputable def turn (F:Fns)(tg:Tg)(b:Ss)(d:D)(ρ:Env)(s:Sto):R Ct:=match af2 ρ tg d with
 | some ρ=>exs F b ρ s
 | none=>.bad
@[simp] theorem ex_for (tg:Tg) (h:I) (b:Ss):ex F (.for_ tg h b) ρ s=(evI F h ρ s).bind λ q s0=>aN8 (λ s=>chk s0 s q.src) (turn F tg b) q.its ρ s0:=rfl
@[simp] theorem ex_cont:ex F .cont ρ s=.ok (.cont ρ) s:=rfl
@[simp] theorem ex_und (i:Nat):ex F (.und i) ρ s=cd6 (ag8 ρ i) s:=rfl
@[simp] theorem ex_pass:ex F .pass ρ s=.ok (.next ρ) s:=rfl
@[simp] theorem zh (i:Nat) (d:D):af2 ρ (.one i) d=aJ1 ρ i d:=rfl
@[simp] theorem bindT_tup (is:List Nat) (l:List D):af2 ρ (.tup is) (.tup l)=ap3 ρ is l:=rfl
@[simp] theorem setVs_nil:ap3 ρ [] []=some ρ:=rfl
@[simp] theorem jv (i:Nat) (is:List Nat) (d:D) (l:List D):ap3 ρ (i::is) (d::l)=(aJ1 ρ i d).bind λ ρ=>ap3 ρ is l:=rfl
@[simp] theorem zd (d:D) (ρ:Env):bh2 (some d::ρ) 0 s=.ok d s:=rfl
@[simp] theorem ze (x:Option D) (ρ:Env) (i:Nat):bh2 (x::ρ) (i+1) s=bh2 ρ i s:=by unfold bh2;rw[List.getElem?_cons_succ]
@[simp] theorem zA (d:D) (x:Option D) (ρ:Env):aJ1 (x::ρ) 0 d=some (some d::ρ):=rfl
@[simp] theorem zF (d:D) (x:Option D) (ρ:Env) (i:Nat):aJ1 (x::ρ) (i+1) d=(aJ1 ρ i d).map (x::·):=by
 unfold aJ1
 by_cases h:i < ρ.length
 ·rw[if_pos (by simpa using h),if_pos h];rfl
 ·rw[if_neg (by simpa using h),if_neg h];rfl
@[simp] theorem unsetV_0 (x:Option D) (ρ:Env):ag8 (x::ρ) 0=some (none::ρ):=rfl
@[simp] theorem unsetV_s (x:Option D) (ρ:Env) (i:Nat):ag8 (x::ρ) (i+1)=(ag8 ρ i).map (x::·):=by
 unfold ag8
 by_cases h:i < ρ.length
 ·rw[if_pos (by simpa using h),if_pos h];rfl
 ·rw[if_neg (by simpa using h),if_neg h];rfl
@[simp] theorem zz (i:Int):(Cn.int i).d=.int i:=rfl
@[simp] theorem Cn_bl (i:Bool):(Cn.bl i).d=.bl i:=rfl
@[simp] theorem qQ (i:List Nat):(Cn.str i).d=.str i:=rfl
@[simp] theorem Cn_non:Cn.non.d=.non:=rfl
@[simp] theorem add_int (a b:Int):qN .add (.int a) (.int b) s=.ok (.int (a+b)) s:=rfl
@[simp] theorem sub_int (a b:Int):qN .sub (.int a) (.int b) s=.ok (.int (a - b)) s:=rfl
theorem ae3 {a b:Int}(h:mulOk a b=true):qN .mul (.int a) (.int b) s=.ok (.int (a*b)) s:=by show(if mulOk a b then _ else _:M D) s=_;rw[if_pos h];rfl
theorem aq0 {a b:Int}(h:a.natAbs<2^64):mulOk a b=true:=by unfold mulOk;simp[h]
theorem aq7 {a b:Int}(h:b.natAbs<2^64):mulOk a b=true:=by unfold mulOk;simp[h]
theorem jm {a b:Int}(h:0<b):qN .mod (.int a) (.int b) s=.ok (.int (a % b)) s:=by show(if 0<b then _ else _:M D) s=_;rw[if_pos h];rfl
theorem bC2:(10:Int)^200<=(DIVL:Int):=by unfold DIVL;decide +kernel
theorem ai1 {a b:Int}(h:0<b)(y:b<10^200):qN .fdiv (.int a) (.int b) s=.ok (.int (a / b)) s:=by show(if 0<b/\b<(DIVL:Int)then _ else _:M D) s=_;rw[if_pos ⟨h,Int.lt_of_lt_of_le y bC2⟩];rfl
theorem au8 {a b:Int}(h:0<=b/\b<=1000000/\a.natAbs<2^64):qN .pow (.int a) (.int b) s=.ok (.int (a^b.toNat)) s:=by show(if _ then _ else _:M D) s=_;rw[if_pos h];rfl
@[simp] theorem lt_int (a b:Int):qz .lt (.int a) (.int b) s=.ok (.bl (decide (a<b))) s:=rfl
@[simp] theorem le_int (a b:Int):qz .le (.int a) (.int b) s=.ok (.bl (decide (a<=b))) s:=rfl
@[simp] theorem gt_int (a b:Int):qz .gt (.int a) (.int b) s=.ok (.bl (decide (b<a))) s:=rfl
@[simp] theorem ge_int (a b:Int):qz .ge (.int a) (.int b) s=.ok (.bl (decide (b<=a))) s:=rfl
@[simp] theorem eq_int (a b:Int):qz .eq (.int a) (.int b) s=.ok (.bl (decide (a=b))) s:=rfl
@[simp] theorem ne_int (a b:Int):qz .ne (.int a) (.int b) s=.ok (.bl (!decide (a=b))) s:=rfl
@[simp] theorem qT (o:O):af5 o s=.ok (.ref s.length) (s++[o]):=rfl
@[simp] theorem bu6 (l:List D):bi .len [.tup l] s=.ok (.int l.length) s:=rfl
@[simp] theorem aI2 (l:List Nat):bi .len [.str l] s=.ok (.int l.length) s:=rfl
theorem bB5 {r:Nat}{l:List D}(h:s[r]?=some (.lst l)):bi .len [.ref r] s=.ok (.int l.length) s:=by simp only[bi,bi1,bF3,h]
theorem bu1 {r:Nat}{l:List D}(h:s[r]?=some (.ro l)):bi .len [.ref r] s=.ok (.int l.length) s:=by simp only[bi,bi1,bF3,h]
@[simp] theorem cc2 (i:Int):bi .abs [.int i] s=.ok (.int (if i<0 then -i else i)) s:=rfl
@[simp] theorem jt (a b:Int):bi .min2 [.int a,.int b] s=.ok (.int (if b<a then b else a)) s:=rfl
@[simp] theorem ca3 (a b:Int):bi .max2 [.int a,.int b] s=.ok (.int (if b > a then b else a)) s:=rfl
@[simp] theorem bQ2 (a:Int):bi .isInt [.int a] s=.ok (.bl true) s:=rfl
@[simp] theorem bJ1 (a:Int):bi .isBool [.int a] s=.ok (.bl false) s:=rfl
@[simp] theorem bR3 (l:List D):bi .isTup [.tup l] s=.ok (.bl true) s:=rfl
theorem cf4 {r:Nat}{l:List D}{j:Nat}{d:D}(h:s[r]?=some (.ro l))(hj:l[j]?=some d):ixM (.ref r) (.int (j:Int)) s=.ok d s:=by
 have hl:j<l.length:=(ab.mp hj).1
 have e:l[j]=d:=(ab.mp hj).2
 simp[ixM,h,ixn,hl,e]
theorem qu {r:Nat}{l:List D}{j:Nat}{d:D}(h:s[r]?=some (.lst l))(hj:l[j]?=some d):ixM (.ref r) (.int (j:Int)) s=.ok d s:=by
 have hl:j<l.length:=(ab.mp hj).1
 have e:l[j]=d:=(ab.mp hj).2
 simp[ixM,h,ixn,hl,e]
theorem ix_tup {l:List D}{j:Nat}{d:D}(hj:l[j]?=some d):ixM (.tup l) (.int (j:Int)) s=.ok d s:=by
 have hl:j<l.length:=(ab.mp hj).1
 have e:l[j]=d:=(ab.mp hj).2
 simp[ixM,ixn,hl,e]
theorem bh1 {r:Nat}{l:List D}{j:Nat}{v:D}(h:s[r]?=some (.lst l))(hl:j<l.length):setIx (.ref r) (.int (j:Int)) v s=.ok () (s.set r (.lst (l.set j v))):=by
 simp[setIx,h,ixn,hl]
theorem ql {r:Nat}{l:List D}{v:D}(h:s[r]?=some (.lst l))(hl:l.length<LIM):meth .append (.ref r) [v] s=.ok .non (s.set r (.lst (l++[v]))):=by
 simp[meth,h,hl]
end
theorem aH2 (s t:Sto)(b:Bool):∃ s',zT s (.bl b) t=.ok (.bl b) s':=by
 unfold zT
 by_cases h:as3 s t=true
 ·rw[if_pos h];exact⟨_,rfl⟩
 ·rw[if_neg h];exact⟨_,rfl⟩
def Yes (r:R D):Prop:=∃ s',r=.ok (.bl true) s'
theorem ba0 (s t:Sto):Yes (zT s (.bl true) t):=aH2 s t true
theorem ai5 {a b:Int}{j:Nat}{d:D}(h:(jy a b)[j]?=some d):(j:Int)<b - a/\d=.int (a+j):=by
 have hj:=(ab.mp h).1
 simp only[jy,ax,b7]at hj
 unfold jy at h
 rw[ao,aV hj]at h
 exact⟨by omega,(av h).symm⟩
def ch7 (P:Pr)(k:Nat):Prop:=∀ ns:List Int,ns.length<=63->Yes ((aa1 P k).call "law" [.ref 0] [.ro (ns.map D.int)])
noncomputable def zV:Option Int->D
 | none=>.non
 | some i=>.int i
@[simp] theorem aq2:zV none=.non:=rfl
@[simp] theorem aq6 (i:Int):zV (some i)=.int i:=rfl
@[simp] theorem jd (p:Option Int) (n:Nat):(zV p).bnd n=true:=by cases p<;>rfl
theorem ay2 (p:Option Int)(r:Nat):zV p≠.ref r:=by cases p<;>nofun
@[simp] theorem aQ3 {s:Sto} {p:Option Int}:zT s (zV p) s=.ok (zV p) s:=zv (jd p) (ay2 p)
noncomputable def bagO (b:Nat×Nat):O:=.lst [.int b.1,.int b.2]
@[simp] theorem bZ6 (b:Nat×Nat) (n:Nat):(bagO b).bnd n=true:=rfl
noncomputable def tkW (many:Nat):Nat->Nat->Nat->Nat->Nat×Nat
 | 0,mix,num,_=>(num,mix)
 | n+1,mix,num,room=>if room<many then tkW many n ((mix*48271+7919) % 2147483647) (num*1073741789+(mix*48271+7919) % 2147483647 / 8*69621 % 1073741789) (room*1073741789)else(num,mix)
noncomputable def tk (b:Nat×Nat)(many:Nat):Nat×(Nat×Nat) :=
 if 0<b.1 then(b.1 % many,(b.1 / many,b.2))else let r:=tkW many 12 b.2 0 1;(r.1 % many,(b.1,r.2))
theorem bB3 {s t:Sto}{r:Nat}{o:O}(h:r<s.length):(s++t).set r o=s.set r o++t:=by rw[jU,if_pos h]
theorem jo {s t:Sto}{r:Nat}{o:O}(h:s[r]?=some o):(s++t)[r]?=some o:=by
 rw[aw (ab.mp h).1];exact h
theorem be4 {s:Sto}{r:Nat}{o:O}(h:r<s.length):(s.set r o)[r]?=some o:=aS h
noncomputable def bd (b:Nat×Nat):Nat×(Nat×Nat) :=
 let x0:=tk b 3
 let x1:=tk x0.2 13
 let x2:=tk x1.2 1000000000
 let x3:=tk x2.2 1000000000000000000000000000000
 let i:=tk x3.2 4
 ([x0.1,x1.1,x2.1,x3.1].getD i.1 0,i.2)
section
variable {F:Fns} {ρ:Env} {s:Sto}
noncomputable def qM (F:Fns)(tg:Tg)(e:E)(d:D)(ρ:Env)(s:Sto):R (Option D×Env):=match af2 ρ tg d with
 | some ρ=>(ev F e ρ s).bind λ v s=>.ok (some v,ρ) s
 | none=>.bad
noncomputable def aC7 (F:Fns)(tg:Tg)(c e:E)(d:D)(ρ:Env)(s:Sto):R (Option D×Env):=match af2 ρ tg d with
 | some ρ=>tru (ev F c ρ s) λ k s=>if k then(ev F e ρ s).bind λ v s=>.ok (some v,ρ) s else .ok (none,ρ) s
 | none=>.bad
@[simp] theorem av2 (tg:Tg) (y:I) (e:E) (h:List (Option Nat)):evL F (.comp tg y e h) ρ s=(evI F y ρ s).bind λ q s0=>if q.its.length<=LIM then jc (λ s=>chk s0 s q.src) (qM F tg e) q.its (z0 ρ h) s0 else .bad:=rfl
@[simp] theorem jz (tg:Tg) (y:I) (c e:E) (h:List (Option Nat)):evL F (.compIf tg y c e h) ρ s=(evI F y ρ s).bind λ q s0=>if q.its.length<=LIM then jc (λ s=>chk s0 s q.src) (aC7 F tg c e) q.its (z0 ρ h) s0 else .bad:=rfl
@[simp] theorem bQ7 (a h:E):ev F (.slU a h) ρ s=(ev F a ρ s).bind λ x s=>(ev F h ρ s).bind λ y s=>match y with|.int i=>slM x none (some i) s|_=>.bad:=rfl
@[simp] theorem ev_slL (a h:E):ev F (.slL a h) ρ s=(ev F a ρ s).bind λ x s=>(ev F h ρ s).bind λ y s=>match y with|.int i=>slM x (some i) none s|_=>.bad:=rfl
end
theorem ah9 {ok:Sto->Bool}{g:D->Env->Sto->R (Option D×Env)}(P:Env->Sto->Prop)(f:D->Option D):∀(l:List D) (ρ:Env) (s:Sto),P ρ s ->
  (∀ ρ s,P ρ s->ok s=true)->(∀ d∈l,∀ ρ s,P ρ s->∃ ρ' s',g d ρ s=.ok (f d,ρ') s'/\P ρ' s')->∃ ρ' s',jc ok g l ρ s=.ok (l.filterMap f) s'/\P ρ' s'
 | [],ρ,s,h,o,_=>⟨ρ,s,by unfold jc;rw[if_pos (o ρ s h)];rfl,h⟩
 | d::l,ρ,s,h,o,st=>by
  obtain⟨ρ1,s1,e1,G⟩:=st d (aH ..) ρ s h
  obtain⟨ρ2,s2,e2,y⟩:=ah9 P f l ρ1 s1 G o λ x hx=>st x (az _ hx)
  refine⟨ρ2,s2,?_,y⟩
  unfold jc
  rw[if_pos (o ρ s h),e1]
  simp only[R.bind_ok]
  rw[e2,bv]
  cases f d<;>rfl
theorem qj {k:Int}(h:k<=1000):k<=10^90:=cc h (by decide)
theorem ba6 {k:Int}{s:Sto}(h:0<=k/\k<=1000000):qN .shl (.int 1) (.int k) s=.ok (.int (1*2^k.toNat)) s:=by
 show(if 0<=k/\k<=1000000/\(1:Int).natAbs<2^64 then _ else _:M D) s=_
 rw[if_pos ⟨h.1,h.2,by decide⟩];rfl
theorem zQ {l:List D}(h:∀ d∈l,∀ n,d.bnd n=true)(n:Nat):D.bndL n l=true:=by
 induction l with
 | nil=>rfl
 | cons d l ih=>unfold D.bndL;rw[h d (aH ..),ih λ x hx=>h x (az _ hx)];rfl
noncomputable def bg9 (bits:Nat):D->Option D
 | .int i=>if(bits:Int) / (1*2^i.toNat) % 2=1 then some (.int i)else none
 | _=>none
theorem aT7 {k:Nat}(h:k<3)(s:Sto):ixM (.str [97,98,99]) (.int (k:Int)) s=.ok (.str [97+k]) s:=by
 match k,h with
 | 0,_=>rfl
 | 1,_=>rfl
 | 2,_=>rfl
theorem aX1 {a b:List Nat}{s:Sto}(h:a.length+b.length<=LIM):qN .add (.str a) (.str b) s=.ok (.str (a++b)) s:=by
 show(if a.length+b.length<=LIM then _ else _:M D) s=_;rw[if_pos h];rfl
theorem by2 {a:List Nat}{k:Int}{s:Sto}(h:0<=k/\k<=1000000/\a.length*k.toNat<=LIM):qN .mul (.str a) (.int k) s=.ok (.str (rep k.toNat a)) s:=by
 show(if _ then _ else _:M D) s=_;rw[if_pos h];rfl
def Lts (L:Nat)(w:List Nat):Prop:=∀ c∈w,97<=c/\c<97+L
theorem rep_len (l:List Nat):∀ n,(rep n l).length=l.length*n
 | 0=>by simp[rep]
 | n+1=>by simp[rep,rep_len l n,dY];omega
noncomputable def bK6 (L:Nat)(d:D):Bool:=match d with
 | .str w=>decide (w.length<=200)&&w.all λ c=>decide (97<=c/\c<97+L)
 | _=>false
noncomputable def bI0 (s:Sto):D->Prop
 | .fn _=>False
 | .clo _ _=>False
 | .ref k=>∃ l,s[k]?=some (.lst l)
 | _=>True
noncomputable abbrev abcD:List D:=[.str [97],.str [98],.str [99]]
@[simp] theorem ev_neg {F:Fns} {ρ:Env} {s:Sto} (a:E):ev F (.neg a) ρ s=(ev F a ρ s).bind λ x s=>match x with|.int i=>.ok (.int (-i)) s|_=>.bad:=rfl
structure Dr where
 a:Nat
 l:Nat
 b:Nat
 t:Nat
noncomputable def Dr.d (x:Dr):D:=.tup [.int x.a,.str [x.l],.int x.b,.int x.t]
structure Mc where
 L:Nat
 R:Nat
 bg:List Nat
 en:List Nat
 ds:List Dr
noncomputable def qR (l:List Nat):List D:=l.map λ(k:Nat)=>D.int (k:Int)
noncomputable def aV4 (l:List Int):List D:=l.map D.int
noncomputable def sg (w:List Nat):List D:=w.map λ c=>.str [c]
noncomputable def Mc.ps (m:Mc):List D:=[.int m.L,.int m.R,.tup (qR m.bg),.tup (qR m.en),.tup (m.ds.map Dr.d)]
noncomputable def Mc.d (m:Mc):D:=.tup m.ps
structure Dr.Ok (m:Mc)(x:Dr):Prop where
 a:x.a<m.R
 l:97<=x.l/\x.l<97+m.L
 b:x.b<m.R
 t:x.t<4
structure Mc.Ok (m:Mc):Prop where
 L1:1<=m.L
 L3:m.L<=3
 R1:1<=m.R
 R5:m.R<=5
 bg:(∀ k∈m.bg,k<m.R)/\m.bg.Pairwise (· < ·)
 en:(∀ k∈m.en,k<m.R)/\m.en.Pairwise (· < ·)
 ds:(∀ x∈m.ds,x.Ok m)/\m.ds.length<=75
theorem aN0 {l:List Nat}:∀ d∈qR l,∀ n,d.bnd n=true:=λ d hd n=>by
 obtain⟨c,_,rfl⟩:=aB.mp hd;rfl
theorem aJ7 {l:List Int}:∀ d∈aV4 l,∀ n,d.bnd n=true:=λ d hd n=>by
 obtain⟨c,_,rfl⟩:=aB.mp hd;rfl
theorem aT8 {l:List Dr}:∀ d∈l.map Dr.d,∀ n,d.bnd n=true:=λ d hd n=>by
 obtain⟨c,_,rfl⟩:=aB.mp hd;rfl
theorem bH2 {m:Mc}:∀ d∈m.ps,∀ n,d.bnd n=true:=λ d hd n=>by
 simp only[Mc.ps,aI,bz,or_false]at hd
 rcases hd with rfl|rfl|rfl|rfl|rfl
 ·rfl
 ·rfl
 ·unfold D.bnd;exact zQ aN0 n
 ·unfold D.bnd;exact zQ aN0 n
 ·unfold D.bnd;exact zQ aT8 n
theorem bK0 (m:Mc)(n:Nat):m.d.bnd n=true:=by unfold Mc.d D.bnd;exact zQ bH2 n
noncomputable def ah4 (bits k:Nat):List Nat:=(ac k).filter λ i=>decide (bits / 2^i % 2=1)
theorem aB5 (h k:Nat):(∀ i∈ah4 h k,i<k)/\(ah4 h k).Pairwise (· < ·) :=
 ⟨λ i y=>bA.mp (gy.mp y).1,kL _ List.pairwise_lt_range⟩
theorem bm8 (y:Nat)(k:Nat):(jy 0 (k:Int)).filterMap (bg9 y)=qR (ah4 y k):=by
 unfold jy ah4 qR
 simp only[kA,cH]
 rw[dQ]
 induction (ac k)with
 | nil=>rfl
 | cons i l ih =>
  rw[bv,List.filter_cons]
  have e:((y:Int) / (1*2^((0:Int)+(i:Int)).toNat) % 2=1)↔(y / 2^i % 2=1):=by
   rw[Int.one_mul,show((0:Int)+(i:Int)).toNat=i by omega]
   have:((y:Int) / 2^i % 2)=((y / 2^i % 2:Nat):Int):=by simp
   rw[this];omega
  simp only[iq,bg9]
  by_cases h:y / 2^i % 2=1
  ·rw[if_pos (e.mpr h)]
   simp only[h,decide_true,if_true,aJ]
   rw[<-ih,gv]
  ·rw[if_neg λ z=>h (e.mp z)]
   simp only[h,decide_false]
   exact ih
section
variable {P:Pr}
theorem bH6 {l:List D}{s:Sto}(j:Nat){d:D}(h:l[j]?=some d):ixM (.tup l) (.int (j:Int)) s=.ok d s:=ix_tup h
theorem ixL (m:Mc)(s:Sto):ixM m.d (.int 0) s=.ok (.int m.L) s:=bH6 0 rfl
theorem ixR (m:Mc)(s:Sto):ixM m.d (.int 1) s=.ok (.int m.R) s:=bH6 1 rfl
theorem ixD (m:Mc)(s:Sto):ixM m.d (.int 4) s=.ok (.tup (m.ds.map Dr.d)) s:=bH6 4 rfl
theorem jh [Has P aa6](n:Nat)(m:Mc)(s:Sto):(aa1 P (n+1)).call "rooms_of" [m.d] s=.ok (.int m.R) s:=by
 refine(zn aa6 rfl).trans ?_
 simp -implicitDefEqProofs [aa6,ixR]
theorem aZ9 {s:Sto}{l:List D}(h:∀ d∈l,∀ n,d.bnd n=true):zT s (.tup l) s=.ok (.tup l) s:=zv (λ n=>by unfold D.bnd;exact zQ h n) (by nofun)
theorem aF6 [Has P ab3](n:Nat)(m:Mc)(s:Sto):(aa1 P (n+1)).call "doors_of" [m.d] s=.ok (.tup (m.ds.map Dr.d)) s:=by
 refine(zn ab3 rfl).trans ?_
 simp -implicitDefEqProofs [ab3,ixD,aZ9 aT8]
theorem aW0 {a b:Int}(h:a<b):jy a b=.int a::jy (a+1) b:=by
 unfold jy
 obtain⟨n,hn⟩:∃ n:Nat,(b - a).toNat=n+1:=⟨(b - a).toNat - 1,by omega⟩
 rw[hn,show(b - (a+1)).toNat=n by omega,gq,aJ,cI]
 congr 1
 ·simp
 ·apply b8
  intro k _
  simp only[iq]
  congr 1;omega
@[simp] theorem ce9 (a b:Nat) (s:Sto):qz .ne (.str [a]) (.str [b]) s=.ok (.bl (!decide (a=b))) s:=by
 show(match eqv s DEEP (.str [a]) (.str [b])with|some r=>R.ok (D.bl (!r)) s|none=>.bad)=_
 have:eqv s DEEP (.str [a]) (.str [b])=some ([a]==[b]):=rfl
 rw[this]
 have e:([a]==[b])=decide (a=b):=by rw[dN];simp
 rw[e]
@[simp] theorem au7 (a b:Nat) (s:Sto):qz .eq (.str [a]) (.str [b]) s=.ok (.bl (decide (a=b))) s:=by
 show(match eqv s DEEP (.str [a]) (.str [b])with|some r=>R.ok (D.bl r) s|none=>.bad)=_
 have:eqv s DEEP (.str [a]) (.str [b])=some ([a]==[b]):=rfl
 rw[this]
 have e:([a]==[b])=decide (a=b):=by rw[dN];simp
 rw[e]
end
theorem good_of {L:Nat}{w:List Nat}(h:w.length<=200)(hw:Lts L w):bK6 L (.str w)=true:=by
 unfold bK6
 simp only[h,decide_true,dI,aO,decide_eq_true_eq]
 exact hw
@[simp] theorem cd1 {F:Fns} {ρ:Env} {s:Sto} (a h G:E):ev F (.slLU a h G) ρ s=(ev F a ρ s).bind λ x s=>(ev F h ρ s).bind λ y s=>match y with|.int i=>(ev F G ρ s).bind (λ z s=>match z with|.int j=>slM x (some i) (some j) s|_=>.bad)|_=>.bad:=rfl
noncomputable def qr (N:Int):O:=.lst [.int N]
theorem aO7 {s:Sto}{r:Nat}(h:∃ N,s[r]?=some (qr N)):r<s.length:=by obtain⟨b,hb⟩:=h;exact(ab.mp hb).1
theorem ap9 {s:Sto}{r:Nat}{b:Int}(h:r<s.length):∃ y,(s.set r (qr b))[r]?=some (qr y):=⟨b,be4 h⟩
theorem qX {P:Pr}[Has P ae7](n:Nat){s:Sto}{r:Nat}(hs:∃ N,s[r]?=some (qr N))(y:Int)(h0:0<y)(h:y<=10^90) :
  ∃(k:Nat) (N:Int),(k:Int)<y/\(aa1 P (n+1)).call "_law_draw" [.ref r,.int y] s=.ok (.int k) (s.set r (qr N)):=by
 obtain⟨N,hN⟩:=hs
 have Y:(aa1 P (n+1)).call "_law_draw" [.ref r,.int y] s=_:=zn ae7 (n:=n) rfl
 have J:y<10^200:=by
  have:(10:Int)^90<10^200:=by decide +kernel
  omega
 have h1:=jV N (show y≠0 by omega)
 have Z:=iK N h0
 refine⟨(N % y).toNat,N / y,by omega,?_⟩
 rw[Y]
 have G:s[r]?=some (.lst [.int N]):=hN
 simp -implicitDefEqProofs [ae7,ixM,G,ixn,jm h0,ai1 h0 J,setIx]
 rw[show max (N % y) 0=N % y by omega]
 exact aS8 (λ _=>rfl) (by nofun) rfl
def BoxR (s:Sto)(x:R D):Prop:=∃ N:Int,x=.ok (.ref s.length) (s++[qr N])
theorem bX6 {P:Pr}[Has P an2](n:Nat)(ns:List Int)(k:Nat){s:Sto}{r:Nat}(hs:s[r]?=some (.ro (ns.map D.int))) :
  ∃ N:Int,(aa1 P (n+1)).call "_law_box" [.ref r,.int k] s=.ok (.ref s.length) (s++[qr N]):=by
 have e0:(aa1 P (n+1)).call "_law_box" [.ref r,.int k] s=_:=zn an2 (n:=n) rfl
 have G:bi .len [.ref r] s=.ok (.int ns.length) s:=by rw[bu1 hs,ax]
 have m1:∀ a:Int,mulOk 7919 a=true:=λ a=>aq0 (by decide)
 have m2:∀ a:Int,mulOk a 48271=true:=λ a=>aq7 (by decide)
 have m3:∀ a:Int,mulOk 104729 a=true:=λ a=>aq0 (by decide)
 have m4:∀ a:Int,mulOk a 2147483647=true:=λ a=>aq7 (by decide)
 have m5:∀ a:Int,mulOk 31 a=true:=λ a=>aq0 (by decide)
 have Z:∀ a:Int,mulOk (a % 2147483647) (a % 2147483647)=true:=λ a=>aq0 (by
  have h1:=jV a (show(2147483647:Int)≠0 by decide)
  have h2:=iK a (show(0:Int)<2147483647 by decide)
  omega)
 have Y:∀ N:Int,zT s (.ref s.length) (s++[.lst [.int N]])=.ok (.ref s.length) (s++[qr N]):=λ N=>by
  have:=ap0 (s:=s) (t:=[]) (u:=[]) (o:=qr N) rfl
  simp only[c5,kD,dL]at this
  exact this
 have h:∀ c:Int,BoxR s ((exs (aa1 P n) (.cons (.ite (.cmp .ge (.var 2) (.bin .pow (.cst (.int 10)) (.cst (.int 18)))) (.cons (.ret (.lst (.cons (.var 2) .nil))) .nil) .nil) (.cons (.asg (.one 3) (.cst (.int 0))) (.cons (.for_ (.one 4) (.rng1 (.cst (.int 128))) (.cons (.asg (.one 5) (.bin .mod (.bin .mul (.bin .add (.bin .add (.bin .add (.bin .mod (.var 2) (.cst (.int 2147483647))) (.bin .mul (.cst (.int 7919)) (.var 1))) (.bin .mul (.cst (.int 104729)) (.var 4))) (.cst (.int 97))) (.cst (.int 48271))) (.cst (.int 2147483647)))) (.cons (.asg (.one 3) (.bin .add (.bin .mul (.var 3) (.cst (.int 2147483647))) (.bin .mod (.bin .add (.bin .add (.bin .mul (.var 5) (.var 5)) (.bin .mul (.cst (.int 31)) (.var 4))) (.bin .fdiv (.var 2) (.cst (.int 2147483647)))) (.cst (.int 2147483647))))) .nil))) (.cons (.ret (.lst (.cons (.var 3) .nil))) .nil))))
   [some (.ref r),some (.int k),some (.int c),none,none,none] s).bind (fin s)):=by
  intro c
  by_cases hc:(10:Int)^18<=c
  ·have J:(1000000000000000000:Int)<=c:=hc
   exact⟨c,by simp -implicitDefEqProofs [au8,J,Y]⟩
  ·have J:¬(1000000000000000000:Int)<=c:=hc
   simp -implicitDefEqProofs [au8,J]
   rw[zL (by decide) (by decide)]
   simp only[R.bind_ok]
   refine qU (W:=BoxR s) (λ j ρ t=>t=s/\∃(N:Int) (x y:Option D),ρ=[some (.ref r),some (.int k),some (.int c),some (.int N),x,y]) ⟨rfl,0,_,_,rfl⟩ (λ _ _ _ _ _=>rfl) ?_ ?_
   ·rintro j d ρ t hj ⟨rfl,N,x,y,rfl⟩
    obtain⟨_,rfl⟩:=ai5 hj
    conv=>arg 2;simp -implicitDefEqProofs [turn,ae3 (m1 _),ae3 (m2 _),ae3 (m3 _),ae3 (m4 _),ae3 (m5 _),ae3 (Z _),jm,ai1]
    exact⟨rfl,_,_,_,rfl⟩
   ·rintro ρ t ⟨rfl,N,x,y,rfl⟩
    exact⟨N,by simp -implicitDefEqProofs [Y]⟩
 rw[e0]
 by_cases hk:k<ns.length
 ·have hx:ixM (.ref r) (.int k) s=.ok (.int (ns.getD k 0)) s:=cf4 hs (by simp[hk])
  obtain⟨N,e⟩:=h (if ns.getD k 0<0 then -ns.getD k 0 else ns.getD k 0)
  refine⟨N,?_⟩
  rw[<-e]
  simp -implicitDefEqProofs [an2,G,hk,hx]
 ·obtain⟨N,e⟩:=h 0
  refine⟨N,?_⟩
  rw[<-e]
  simp -implicitDefEqProofs [an2,G,hk]
theorem ba7 {s:Sto}{d:D}(h:bI0 s d)(w:List Nat):∃ b:Bool,qz .eq d (.str w) s=.ok (.bl b) s/\(b=true↔d=.str w):=by
 cases d with
 | str v=>exact⟨v==w,rfl,by
   rw[beq_iff_eq]
   constructor
   ·intro h;rw[h]
   ·intro h;cases h;rfl⟩
 | ref k =>
  obtain⟨l,e⟩:=h
  refine⟨false,?_,by constructor<;>intro h<;>cases h⟩
  have:eqv s DEEP (.ref k) (.str w)=some false:=by
   show ae6 s (.ref k) (.str w)=_
   unfold ae6 aI4
   simp only[kd,e];rfl
  simp only[qz,eqM,this]
 | fn _=>exact h.elim
 | clo _ _=>exact h.elim
 | _=>exact⟨false,rfl,by constructor<;>intro h<;>cases h⟩
@[simp] theorem ca2 {F:Fns} {ρ:Env} {s:Sto} (e:E):evI F (.enum (.seq e)) ρ s=(ev F e ρ s).bind λ d s=>(bl4 d s).bind λ q s=>.ok ⟨bC9 0 q.its,q.src⟩ s:=rfl
theorem qx (v w:List Nat)(s:Sto):qz .eq (.str v) (.str w) s=.ok (.bl (decide (v=w))) s:=by
 obtain⟨b,e,q⟩:=ba7 (s:=s) (d:=.str v) trivial w
 rw[e]
 congr 2
 rw[dN,q,decide_eq_true_iff]
 constructor
 ·intro h;cases h;rfl
 ·intro h;rw[h]
theorem qY {P:Pr}[Has P ae7](n:Nat){s t:Sto}{r:Nat}(J:r<s.length)(b:Int)(y:Int)(h0:0<y)(h:y<=10^90) :
  ∃(k:Nat) (G:Int),(k:Int)<y/\(aa1 P (n+1)).call "_law_draw" [.ref r,.int y] (s.set r (qr b)++t)=.ok (.int k) (s.set r (qr G)++t):=by
 obtain⟨k,G,Z,Y⟩:=qX (P:=P) n (s:=s.set r (qr b)++t) (r:=r) ⟨b,jo (be4 J)⟩ y h0 h
 refine⟨k,G,Z,?_⟩
 rw[Y,bB3 (by rw[bw];exact J),eW]
theorem bD3 {s t:Sto}{r:Nat}{b:Int}{l:List D}{v:D}(h:l.length<LIM):meth .append (.ref s.length) [v] (s.set r (qr b)++(.lst l::t))=.ok .non (s.set r (qr b)++(.lst (l++[v])::t)):=by
 rw[ql (l:=l) (by rw[af (by simp)];simp) h]
 congr 1
 rw[jU,if_neg (by simp)]
 simp
noncomputable def row (m:Nat)(f:Nat->Int):List D:=(ac m).map λ j=>.int (f j)
noncomputable def gd (m:Nat)(f:Nat->Nat->Int):D:=.tup ((ac m).map λ i=>.tup (row m (f i)))
theorem am8 {m:Nat}{f:Nat->Int}{j:Nat}(h:j<m):(row m f)[j]?=some (.int (f j)):=by
 unfold row;rw[ao,aV h];rfl
@[simp] theorem aZ0 {m:Nat} {f:Nat->Int}:(row m f).length=m:=by unfold row;simp
theorem bw0 {m:Nat}{f:Nat->Int}(n:Nat):D.bndL n (row m f)=true:=zQ (λ d hd n=>by
 obtain⟨j,_,rfl⟩:=aB.mp hd;rfl) n
theorem bg3 {m:Nat}{f:Nat->Nat->Int}(n:Nat):(gd m f).bnd n=true:=by
 unfold gd D.bnd
 exact zQ (λ d hd n=>by
  obtain⟨j,_,rfl⟩:=aB.mp hd
  unfold D.bnd;exact bw0 n) n
theorem bf9 {m:Nat}{f:Nat->Nat->Int}{i:Nat}(h:i<m)(s:Sto):ixM (gd m f) (.int (i:Int)) s=.ok (.tup (row m (f i))) s :=
 ix_tup (by rw[ao,aV h];rfl)
theorem aj5 {m:Nat}{f:Nat->Int}{j:Nat}(h:j<m)(s:Sto):ixM (.tup (row m f)) (.int (j:Int)) s=.ok (.int (f j)) s:=ix_tup (am8 h)
theorem bU6 {m:Nat}{f:Nat->Nat->Int}(s:Sto):an9 (gd m f) s=.ok ⟨(ac m).map λ i=>.tup (row m (f i)),[]⟩ s:=rfl
theorem ai9 {l:List D}(s:Sto):an9 (.tup l) s=.ok ⟨l,[]⟩ s:=rfl
theorem am6 {ok:Sto->Bool}{g:D->Env->Sto->R (Option D×Env)}(P:Env->Sto->Prop)(f:D->D)(l:List D)(ρ:Env)(s:Sto)(h:P ρ s)
  (o:∀ ρ s,P ρ s->ok s=true) (st:∀ d∈l,∀ ρ s,P ρ s->∃ ρ' s',g d ρ s=.ok (some (f d),ρ') s'/\P ρ' s'):∃ ρ' s',jc ok g l ρ s=.ok (l.map f) s'/\P ρ' s':=by
 obtain⟨ρ',s',e,p⟩:=ah9 P (λ d=>some (f d)) l ρ s h o st
 refine⟨ρ',s',?_,p⟩
 rw[e];congr 1;induction l<;>simp_all
theorem ah7 {ok:Sto->Bool}{g:D->Env->Sto->R (Option D×Env)}(P:Env->Sto->Prop)(f:Nat->D)(n:Nat)(ρ:Env)(s:Sto)(h:P ρ s)
  (o:∀ ρ s,P ρ s->ok s=true) (st:∀ j,j<n->∀ ρ s,P ρ s->∃ ρ' s',g (.int (j:Int)) ρ s=.ok (some (f j),ρ') s'/\P ρ' s'):∃ ρ' s',jc ok g (jy 0 (n:Int)) ρ s=.ok ((ac n).map f) s'/\P ρ' s':=by
 obtain⟨ρ',s',e,p⟩:=am6 (g:=g) P (λ d=>match d with|.int i=>f i.toNat|d=>d) (jy 0 (n:Int)) ρ s h o λ d hd ρ s y=>by
  obtain⟨j,hj⟩:=gU hd
  obtain⟨G,rfl⟩:=ai5 hj
  obtain⟨ρ',s',e,p⟩:=st j (by omega) ρ s y
  refine⟨ρ',s',?_,p⟩
  rw[gv,e];rfl
 refine⟨ρ',s',?_,p⟩
 rw[e]
 congr 1
 unfold jy
 rw[cI,show((n:Int) - 0).toNat=n by omega]
 exact b8 λ j _=>by
  show f ((0:Int)+(j:Int)).toNat=f j
  congr 1;omega
theorem zK (n:Nat):(jy 0 (n:Int)).length=n:=by simp[jy]
theorem qc {n j:Nat}{d:D}(h:(jy 0 (n:Int))[j]?=some d):j<n/\d=.int (j:Int):=by
 obtain⟨y,rfl⟩:=ai5 h
 exact⟨by omega,by rw[gv]⟩
theorem aX3 {m:Nat}{f:Nat->Int}{i:Int}:(row m f).map (λ _=>D.int i)=row m λ _=>i:=by
 unfold row;rw[cI];rfl
theorem ay3 {s t:Sto}{l:List D}{v:D}(h:l.length<LIM):meth .append (.ref s.length) [v] (s++.lst l::t)=.ok .non (s++.lst (l++[v])::t):=by
 rw[ql (l:=l) (by rw[af (ai _)];simp) h,br _ _ (ai _)]
 simp
theorem av6 {s t:Sto}{o:O}{x:O}:(s++x::(t++[o]))[s.length+(t.length+1)]?=some o:=by
 rw[show(s++x::(t++[o]))=(s++x::t)++[o]by simp,af (by simp)]
 simp
noncomputable def prN (f g:Nat->Nat->Int)(i j:Nat):Nat->Int
 | 0=>3
 | k+1=>if f i k<3 then(let b:=(if g k j > f i k then g k j else f i k);if b<prN f g i j k then b else prN f g i j k)else prN f g i j k
noncomputable def pr (m:Nat)(f g:Nat->Nat->Int)(i j:Nat):Int:=prN f g i j m
theorem au4 {P:Pr}[Has P ab1](n:Nat){m:Nat}(hR:m<=5)(f g:Nat->Nat->Int)(s:Sto) :
  (aa1 P (n+1)).call "_law_product" [gd m f,gd m g] s=.ok (gd m (pr m f g)) s:=by
 have Z:(aa1 P (n+1)).call "_law_product" [gd m f,gd m g] s=_:=zn ab1 (n:=n) rfl
 rw[Z]
 conv=>lhs;simp only[ab1]
 simp -implicitDefEqProofs [bU6]
 refine je (λ i ρ t=>∃(T:Sto) (x y z:Option D),ρ=[some (gd m f),some (gd m g),some (.ref s.length),x,y,z]/\t=s++.lst ((ac i).map λ i=>.tup (row m (pr m f g i)))::T) ⟨[],none,none,none,rfl,rfl⟩ (λ _ _ _ _ _=>rfl) ?_ ?_
 ·rintro i d ρ t hi ⟨T,x,y,z,rfl,rfl⟩
  have J:i<m:=by have:=(ab.mp hi).1;simpa using this
  have hd:d=.tup (row m (f i)):=by rw[ao,aV J]at hi;exact(av hi).symm
  subst hd
  conv=>arg 2;simp -implicitDefEqProofs [turn,ai9]
  rw[if_pos (by unfold LIM;omega)]
  obtain⟨ρ1,s1,e1,Y⟩:=am6 (ok:=λ s1=>chk (s++.lst ((ac i).map λ i=>.tup (row m (pr m f g i)))::T) s1 []) (g:=qM (aa1 P n) (.one 0) (.cst (.int 3))) (λ ρ u=>u=s++.lst ((ac i).map λ i=>.tup (row m (pr m f g i)))::T/\∃ x,ρ=[x]) (λ _=>.int 3) (row m (f i)) (z0 [some (gd m f),some (gd m g),some (.ref s.length),some (.tup (row m (f i))),y,z] [none]) _ ⟨rfl,none,rfl⟩ (λ _ _ _=>rfl) (by
   rintro d _ ρ u ⟨rfl,x,rfl⟩
   exact⟨_,_,rfl,rfl,_,rfl⟩)
  obtain⟨rfl,_⟩:=Y
  rw[aX3]at e1
  rw[e1]
  simp -implicitDefEqProofs [mk]
  rw[zL (by unfold W62;omega) (by unfold W62;omega)]
  simp only[R.bind_ok]
  refine qU (W:=Nx _) (λ k ρ t=>∃(T:Sto) (p:Nat) (z:Option D),ρ=[some (gd m f),some (gd m g),some (.ref s.length),some (.tup (row m (f i))),some (.ref p),z]/\t=s++.lst ((ac i).map λ i=>.tup (row m (pr m f g i)))::T/\t[p]?=some (.lst (row m λ j=>prN f g i j k))) ⟨T++[.lst (row m λ _=>3)],s.length+(T.length+1),z,rfl,rfl,av6⟩ (λ _ _ _ _ _=>rfl) ?_ ?_
  ·rintro k d ρ t hk ⟨T,p,z,rfl,rfl,G⟩
   obtain⟨h,rfl⟩:=qc hk
   by_cases h3:f i k<3
   ·conv=>arg 2;simp -implicitDefEqProofs [turn,aj5 h,h3]
    rw[zL (by unfold W62;omega) (by unfold W62;omega)]
    simp only[R.bind_ok]
    rw[if_pos (by rw[zK];unfold LIM;omega)]
    obtain⟨ρ1,s1,e1,Y⟩:=ah7 (ok:=λ s1=>chk (s++.lst ((ac i).map λ i=>.tup (row m (pr m f g i)))::T) s1 []) (g:=qM (aa1 P n) (.one 0) (.bi .min2 (.cons (.ix (.var 1) (.var 0)) (.cons (.bi .max2 (.cons (.ix (.var 2) (.var 3)) (.cons (.ix (.ix (.var 4) (.var 3)) (.var 0)) .nil))) .nil)))) (λ ρ u=>u=s++.lst ((ac i).map λ i=>.tup (row m (pr m f g i)))::T/\∃ x,ρ=[x,some (.ref p),some (.tup (row m (f i))),some (.int k),some (gd m g)]) (λ j=>.int (prN f g i j (k+1))) m (z0 [some (gd m f),some (gd m g),some (.ref s.length),some (.tup (row m (f i))),some (.ref p),some (.int (k:Int))] [none,some 4,some 3,some 5,some 1]) _ ⟨rfl,none,rfl⟩ (λ _ _ _=>rfl) (by
     rintro j hj ρ u ⟨rfl,x,rfl⟩
     refine⟨[some (.int j),some (.ref p),some (.tup (row m (f i))),some (.int k),some (gd m g)],_,?_,rfl,_,rfl⟩
     simp -implicitDefEqProofs [qM,aj5 h,bf9 h,aj5 hj,qu G (am8 hj),prN,h3])
    obtain⟨rfl,_⟩:=Y
    rw[e1]
    simp -implicitDefEqProofs [mk]
    rfl
   ·refine av8 (ρ:=[some (gd m f),some (gd m g),some (.ref s.length),some (.tup (row m (f i))),some (.ref p),some (.int k)]) ?_ ⟨T,p,_,rfl,rfl,?_⟩
    ·simp -implicitDefEqProofs [turn,aj5 h,h3]
    ·rw[G];simp[prN,h3]
  ·rintro ρ t ⟨T,p,z,rfl,rfl,G⟩
   rw[zK]at G
   simp -implicitDefEqProofs [ay7,G,mk]
   rw[ay3 (by unfold LIM;simp;omega)]
   simp -implicitDefEqProofs
   rw[bL,bE];rfl
 ·rintro ρ t ⟨T,x,y,z,rfl,rfl⟩
  have h0:(s++.lst ((ac m).map λ i=>D.tup (row m (pr m f g i)))::T:Sto)[s.length]?=some (.lst ((ac m).map λ i=>D.tup (row m (pr m f g i)))):=by rw[af (ai _)];simp
  simp -implicitDefEqProofs [ay7,h0,mk]
  exact zG (d:=gd m (pr m f g)) bg3 (by nofun)
theorem by0 {a b:Int}{s:Sto}(h:0<=b):qN .shr (.int a) (.int b) s=.ok (.int (a / 2^b.toNat)) s:=by
 show(if 0<=b then _ else _:M D) s=_
 rw[if_pos h];rfl
theorem bc7 {P:Pr}{n c h:Nat}(J:c<=5){s:Sto}{ρ:Env}(G:z0 ρ [none,some 10]=[none,some (.int h)]) :
  jc (λ y=>chk s y []) (aC7 (aa1 P n) (.one 0) (.cmp .eq (.bin .mod (.bin .shr (.var 1) (.var 0)) (.cst (.int 2))) (.cst (.int 1))) (.var 0)) (jy 0 (c:Int)) (z0 ρ [none,some 10]) s=.ok (qR (ah4 h c)) s:=by
 have key:∃(ρ':Env) (s':Sto),jc (λ y=>chk s y []) (aC7 (aa1 P n) (.one 0) (.cmp .eq (.bin .mod (.bin .shr (.var 1) (.var 0)) (.cst (.int 2))) (.cst (.int 1))) (.var 0)) (jy 0 (c:Int)) (z0 ρ [none,some 10]) s=.ok ((jy 0 (c:Int)).filterMap (bg9 h)) s'/\(s'=s/\∃ x,ρ'=[x,some (D.int h)]):=by
  refine ah9 (λ ρ u=>u=s/\∃ x,ρ=[x,some (.int h)]) (bg9 h) (jy 0 (c:Int)) _ _ ⟨rfl,none,G⟩ (λ _ _ _=>rfl) ?_
  rintro d hd ρ u ⟨rfl,x,rfl⟩
  obtain⟨j,hj⟩:=gU hd
  obtain⟨Y,rfl⟩:=ai5 hj
  refine⟨[some (.int (0+j)),some (.int h)],_,?_,rfl,_,rfl⟩
  unfold aC7
  simp only[zh,zA,zO,qi,zb,zw,zz,zd,ze,R.bind_ok]
  rw[by0 (by omega)]
  simp only[R.bind_ok]
  rw[jm (by decide)]
  simp only[R.bind_ok,eq_int,zH]
  simp[bg9]
  split<;>rfl
 obtain⟨_,_,e,rfl,_⟩:=key
 rw[e,bm8]
theorem bA1 {s:Sto}{r:Nat}{b:Int}{o:O}{l:List D}{v:D}(h:l.length<LIM):meth .append (.ref (s.length+1)) [v] (s.set r (qr b)++[o,.lst l])=.ok .non (s.set r (qr b)++[o,.lst (l++[v])]):=by
 rw[ql (l:=l) (by rw[af (by simp)];simp) h,br _ _ (by simp)]
 simp
theorem pow5 {k:Nat}(h:k<=5):(0:Int)<1*2^((k:Int)).toNat/\(1:Int)*2^((k:Int)).toNat<=32:=by
 have J:(2:Nat)^k<=2^5:=eJ (by decide) h
 have h3:((2^k:Nat):Int)<=32:=by exact_mod_cast J
 have G:0<(2:Nat)^k:=Nat.pow_pos (by decide)
 have y:(0:Int)<((2^k:Nat):Int):=by exact_mod_cast G
 rw[cH,Int.one_mul]
 push_cast at h3 y
 exact⟨y,h3⟩
def McB (s:Sto)(r:Nat)(x:R D):Prop:=∃(m:Mc) (b:Int),m.Ok/\x=.ok m.d (s.set r (qr b))
theorem aJ2 {P : Pr} [Has P ae7] [Has P ad4] (n : Nat) {s : Sto} {r : Nat} (hs : ∃ b, s[r]? = some (qr b)) : McB s r ((aa1 P (n + 2)).call "_law_machine" [.ref r] s) := by
  have e0 : (aa1 P (n + 2)).call "_law_machine" [.ref r] s = _ := zn ad4 (n := n + 1) rfl
  have hr := aO7 hs
  obtain⟨a, b1, ha, e1⟩ := qX (P := P) n hs 3 (by decide) (by decide)
  obtain⟨c, b2, hc, e2⟩ := qX (P := P) n (ap9 (b := b1) hr) 5 (by decide) (by decide)
  rw[eW]at e2
  obtain⟨m1, b3, hm1, e3⟩ := qX (P := P) n (ap9 (b := b2) hr) (3 * (1 + (c : Int)) + 2) (by omega) (qj (by omega))
  rw[eW]at e3
  obtain⟨m2, b4, hm2, e4⟩ := qX (P := P) n (ap9 (b := b3) hr) 8 (by decide) (by decide)
  rw[eW]at e4
  obtain⟨m3, b5, hm3, e5⟩ := qX (P := P) n (ap9 (b := b4) hr) 76 (by decide) (by decide)
  rw[eW]at e5
  rw[e0]
  have mo : ∀ x : Int, mulOk 3 x = true := λ x => aq0 (by decide)
  simp -implicitDefEqProofs [ad4, e1, e2, ae3 (mo _), e3, e4]
  obtain ⟨many, bb, hmany, hif⟩ : ∃ (many : Nat) (bb : Int), many <= 75 /\ (if (m2 : Int) = 5 then
                      ((aa1 P (n + 1)).call "_law_draw" [D.ref r, D.int 76] (List.set s r (qr b4))).bind λ d s =>
                        R.ok
                          (Ct.next [some (D.ref r), some (D.int (1 + ↑a)), some (D.int (1 + ↑c)), some d, none, none, none, none, none, none, none, none, none]) s
                    else
                      R.ok
                        (Ct.next
                          [some (D.ref r), some (D.int (1 + ↑a)), some (D.int (1 + ↑c)), some (D.int ↑m1), none, none, none, none, none, none, none, none, none])
                        (List.set s r (qr b4))) = .ok (.next [some (.ref r), some (.int (1 + a)), some (.int (1 + c)), some (.int many), none, none, none, none, none, none, none, none, none]) (s.set r (qr bb)) := by
    by_cases h7 : (m2 : Int) = 5
    · exact⟨m3, b5, by omega, by rw[if_pos h7, e5]; rfl⟩
    · exact⟨m1, b4, by omega, by rw[if_neg h7]⟩
  rw[hif]
  simp -implicitDefEqProofs
  obtain⟨h4, b6, hh4, e6⟩ := qY (P := P) n (t := [.lst [.int 2, .int 2, .int 4, .int 1]]) hr bb 4 (by decide) (by decide)
  rw[e6]
  have hx : ∃ hi : Nat, 1 <= hi /\ hi <= 4 /\ ixM (.ref s.length) (.int h4) (s.set r (qr b6) ++ [.lst [.int 2, .int 2, .int 4, .int 1]]) = .ok (.int hi) (s.set r (qr b6) ++ [.lst [.int 2, .int 2, .int 4, .int 1]]) := by
    have hg : (s.set r (qr b6) ++ [O.lst [.int 2, .int 2, .int 4, .int 1]])[s.length]? = some (.lst [.int 2, .int 2, .int 4, .int 1]) := by rw[af (by simp)]; simp
    match h4, hh4 with
    | 0, _ => exact⟨2, by decide, by decide, qu (j := 0) hg rfl⟩
    | 1, _ => exact⟨2, by decide, by decide, qu (j := 1) hg rfl⟩
    | 2, _ => exact⟨4, by decide, by decide, qu (j := 2) hg rfl⟩
    | 3, _ => exact⟨1, by decide, by decide, qu (j := 3) hg rfl⟩
    | k + 4, h => omega
  obtain⟨hi, hi1, hi4, hx⟩ := hx
  simp -implicitDefEqProofs [hx]
  rw[zL (by unfold W62; omega) (by unfold W62; omega)]
  simp -implicitDefEqProofs only[R.bind_ok]
  have hc1 : ((1 : Int) + (c : Int)) = ((c + 1 : Nat) : Int) := by omega
  have ha1 : ((1 : Int) + (a : Int)) = ((a + 1 : Nat) : Int) := by omega
  rw[hc1, ha1]
  generalize hH : O.lst [D.int 2, D.int 2, D.int 4, D.int 1] = H
  have hHb : ∀ b : Int, as3 s (s.set r (qr b) ++ [H]) = true := λ b => an4 s [H] r (qr b) rfl
  refine qU (W := McB s r) (λ j ρ u => ∃(b : Int) (l : List Dr) (x y z v : Option D), (∀ d ∈ l, d.Ok ⟨a + 1, c + 1, [], [], []⟩) /\ l.length = j /\ ρ = [some (.ref r), some (.int (a + 1 : Nat)), some (.int (c + 1 : Nat)), some (.int many), some (.int hi), some (.ref (s.length + 1)), x, y, z, v, none, none, none] /\ u = s.set r (qr b) ++ [H, .lst (l.map Dr.d)]) ⟨b6, [], none, none, none, none, by simp, rfl, rfl, rfl⟩ (λ _ _ _ _ _ => rfl) ?_ ?_
  · rintro j d ρ u hj ⟨b, l, x, y, z, v, hl, hlen, rfl, rfl⟩
    obtain⟨hj2, rfl⟩ := ai5 hj
    obtain⟨k1, c1, hk1, f1⟩ := qY (P := P) n (t := [H, .lst (l.map Dr.d)]) hr b (c + 1 : Nat) (by omega) (qj (by omega))
    obtain⟨k3, c2, hk3, f2⟩ := qY (P := P) n (t := [H, .lst (l.map Dr.d)]) hr c1 (c + 1 : Nat) (by omega) (qj (by omega))
    obtain⟨k2, c3, hk2, f3⟩ := qY (P := P) n (t := [H, .lst (l.map Dr.d)]) hr c2 (a + 1 : Nat) (by omega) (qj (by omega))
    obtain⟨k4, c4, hk4, f4⟩ := qY (P := P) n (t := [H, .lst (l.map Dr.d)]) hr c3 hi (by omega) (qj (by omega))
    refine av8 (ρ := [some (.ref r), some (.int (a + 1 : Nat)), some (.int (c + 1 : Nat)), some (.int many), some (.int hi), some (.ref (s.length + 1)), some (.int j), some (.int k1), some (.int k3), some (.str [97 + k2]), none, none, none]) (s := s.set r (qr c4) ++ [H, .lst ((l ++ [(⟨k1, 97 + k2, k3, k4⟩ : Dr)]).map Dr.d)]) ?_ ⟨c4, l ++ [(⟨k1, 97 + k2, k3, k4⟩ : Dr)], _, _, _, _, ?_, ?_, rfl, rfl⟩
    · simp -implicitDefEqProofs only[turn, gv, zh, zF, zA, aF, za, zg, qf, jC, zU, zb, qt, zw, z9, ev_tup, zq, zr, zI, zD, zd, ze, R.bind_ok, qQ, f1, f2, f3, f4, aT7 (show k2 < 3 by omega), zx, zl]
      rw[bA1 (by unfold LIM; simp; omega)]
      simp -implicitDefEqProofs
      rfl
    · intro d hd
      rcases bV.mp hd with h|h
      · exact hl d h
      · rw[bJ.mp h]; constructor <;> simp only <;> omega
    · simp[hlen]
  · rintro ρ u ⟨b, l, x, y, z, v, hl, hlen, rfl, rfl⟩
    have p5 := pow5 (k := c + 1) (by omega)
    obtain⟨k1, c1, hk1, f1⟩ := qY (P := P) n (t := [H, .lst (l.map Dr.d)]) hr b _ p5.1 (qj (by omega))
    obtain⟨k2, c2, hk2, f2⟩ := qY (P := P) n (t := [H, .lst (l.map Dr.d)]) hr c1 _ p5.1 (qj (by omega))
    have hl3 : (s.set r (qr c2) ++ [H, O.lst (l.map Dr.d)])[s.length + 1]? = some (.lst (l.map Dr.d)) := by rw[af (by simp)]; simp
    have hll : l.length <= 75 := by
      rw[hlen]; simp[jy]; omega
    have hrl : (jy 0 ((c + 1 : Nat) : Int)).length <= LIM := by rw[zK]; unfold LIM; omega
    simp -implicitDefEqProofs only[zl, za, zg, qf, zU, zI, zD, zb, qi, zw, zz, zd, ze, R.bind_ok, ba6 ⟨show(0 : Int) <= ((c + 1 : Nat) : Int)by omega, by omega⟩, f1, zh, zF, zA, aF, zx, ev_mk, jz, qS]
    rw[zL (by unfold W62; omega) (by unfold W62; omega)]
    simp -implicitDefEqProofs only[R.bind_ok, if_pos hrl]
    rw[bc7 (by omega) rfl]
    simp -implicitDefEqProofs only[R.bind_ok, mk, f2, zx, zl, zh, zF, zA, aF, za, zU, zI, zD, zb, qi, zw, zz, zd, ze, qf, ba6 ⟨show(0 : Int) <= ((c + 1 : Nat) : Int)by omega, by omega⟩, ev_mk, jz, qS]
    rw[zL (by unfold W62; omega) (by unfold W62; omega)]
    simp -implicitDefEqProofs only[R.bind_ok, if_pos hrl]
    rw[bc7 (by omega) rfl]
    simp -implicitDefEqProofs only[R.bind_ok, mk, zx, zl, qb, zh, zF, zA, aF, za, zg, qP, ev_tup, zq, zr, zb, zd, ze, ev_mk, evL_seq, ay7, hl3, qe]
    refine⟨⟨a + 1, c + 1, ah4 k1 (c + 1), ah4 k2 (c + 1), l⟩, c2, ⟨by simp, by simp; omega, by simp, by simp; omega, aB5 _ _, aB5 _ _, λ x hx => ?_, hll⟩, ?_⟩
    · have := hl x hx
      exact⟨this.a, this.l, this.b, this.t⟩
    · exact ao1 (bK0 ⟨a + 1, c + 1, ah4 k1 (c + 1), ah4 k2 (c + 1), l⟩) (by nofun) rfl
noncomputable def ah8 (m:Nat)(f:Nat->Nat->Int):Sto:=(ac m).map λ i=>.lst (row m (f i))
@[simp] theorem aU5 {m:Nat} {f:Nat->Nat->Int}:(ah8 m f).length=m:=by unfold ah8;simp
theorem ai3 {m i:Nat}{f:Nat->Nat->Int}(h:i<m):(ah8 m f)[i]?=some (.lst (row m (f i))):=by
 unfold ah8;rw[ao,aV h];rfl
theorem bD9 {m b:Nat}{f:Nat->Int}{v:Int}:(row m f).set b (.int v)=row m λ j=>if j=b then v else f j:=by
 apply dm
 intro j
 by_cases hj:j<m
 ·rw[am8 hj]
  by_cases e:j=b
  ·subst e;rw[aS (by rw[aZ0];exact hj),if_pos rfl]
  ·rw[aY (λ z=>e z.symm),am8 hj,if_neg e]
 ·rw[aZ (by simp;omega),aZ (by simp;omega)]
theorem aY1 {m a b:Nat}{f:Nat->Nat->Int}{v:Int}:(ah8 m f).set a (.lst ((row m (f a)).set b (.int v)))=ah8 m λ i j=>if i=a/\j=b then v else f i j:=by
 apply dm
 intro i
 by_cases hi:i<m
 ·rw[ai3 hi]
  by_cases e:i=a
  ·subst e;rw[aS (by rw[aU5];exact hi),bD9]
   simp
  ·rw[aY (λ z=>e z.symm),ai3 hi]
   simp[e]
 ·rw[aZ (by simp;omega),aZ (by simp;omega)]
noncomputable def ai6 (p m:Nat):List D:=(ac m).map λ i=>.ref (p+i)
theorem aO2 {p m i:Nat}(h:i<m):(ai6 p m)[i]?=some (.ref (p+i)):=by
 unfold ai6;rw[ao,aV h];rfl
theorem aC3 {ok:Sto->Bool}{g:D->Env->Sto->R (Option D×Env)}(P:Nat->Env->Sto->Prop)(f:Nat->D)(n:Nat)
  (o:∀ k ρ s,P k ρ s->ok s=true) (st:∀ j,j<n->∀ ρ s,P j ρ s->∃ ρ' s',g (.int (j:Int)) ρ s=.ok (some (f j),ρ') s'/\P (j+1) ρ' s') :
  ∀(k:Nat) (ρ:Env) (s:Sto),k<=n->P k ρ s->∃ ρ' s',jc ok g (jy (k:Int) (n:Int)) ρ s=.ok ((List.range' k (n - k)).map f) s'/\P n ρ' s':=by
 intro k
 induction h:n - k generalizing k with
 | zero =>
  intro ρ s hk y
  have e:k=n:=by omega
  subst e
  refine⟨ρ,s,?_,y⟩
  rw[show jy (k:Int) (k:Int)=[]by simp[jy]]
  unfold jc
  rw[if_pos (o _ _ _ y)];rfl
 | succ d ih =>
  intro ρ s hk y
  obtain⟨ρ1,s1,e1,J⟩:=st k (by omega) ρ s y
  obtain⟨ρ2,s2,e2,G⟩:=ih (k+1) (by omega) ρ1 s1 (by omega) J
  refine⟨ρ2,s2,?_,G⟩
  rw[aW0 (by omega),List.range'_succ,aJ]
  unfold jc
  rw[if_pos (o _ _ _ y),e1]
  simp only[R.bind_ok]
  rw[show((k:Int)+1)=((k+1:Nat):Int)by omega,e2]
  rfl
noncomputable def sgF (ds:List Dr)(c i j:Nat):Nat->Int
 | 0=>3
 | k+1=>match ds[k]? with
  | some x=>if x.l=c/\i=x.a/\j=x.b then(if(if 0<x.t then(1:Int)else 0)<sgF ds c i j k then(if 0<x.t then(1:Int)else 0)else sgF ds c i j k)else sgF ds c i j k
  | none=>sgF ds c i j k
noncomputable def sgM (m:Mc)(c i j:Nat):Int:=sgF m.ds c i j m.ds.length
theorem bW8 {b:Bool}{s:Sto}:bi .int [.bl b] s=.ok (.int (if b then 1 else 0)) s:=rfl
theorem am7 {P:Pr}[Has P aa7](n:Nat){m:Mc}(hm:m.Ok)(c:Nat)(s:Sto) :
  (aa1 P (n+1)).call "_law_letter_signs" [m.d,.str [c]] s=.ok (gd m.R (sgM m c)) s:=by
 have e0:(aa1 P (n+1)).call "_law_letter_signs" [m.d,.str [c]] s=_:=zn aa7 (n:=n) rfl
 have hR:=hm.R5
 rw[e0]
 simp -implicitDefEqProofs [aa7,ixR]
 rw[zL (by unfold W62;omega) (by unfold W62;omega)]
 simp only[R.bind_ok]
 rw[if_pos (by rw[zK];unfold LIM;omega)]
 obtain⟨ρ1,s1,e1,G⟩:=aC3 (ok:=λ s1=>chk s s1 []) (g:=qM (aa1 P n) (.one 0) (.mk .list (.comp (.one 0) (.rng1 (.var 1)) (.cst (.int 3)) [none]))) (λ k ρ u=>u=s++(ac k).map (λ _=>O.lst (row m.R λ _=>3))/\∃ x,ρ=[x,some (.int m.R)]) (λ i=>.ref (s.length+i)) m.R (λ _ _ _ _=>rfl) (by
  rintro j hj ρ u ⟨rfl,x,rfl⟩
  refine⟨[some (.int j),some (.int m.R)],_,?_,rfl,_,rfl⟩
  simp -implicitDefEqProofs [qM]
  rw[zL (by unfold W62;omega) (by unfold W62;omega)]
  simp only[R.bind_ok]
  rw[if_pos (by rw[zK];unfold LIM;omega)]
  obtain⟨ρ1,s1,e1,G⟩:=ah7 (ok:=λ s1=>chk (s++(ac j).map (λ _=>O.lst (row m.R λ _=>3))) s1 []) (g:=qM (aa1 P n) (.one 0) (.cst (.int 3))) (λ ρ u=>u=s++(ac j).map (λ _=>O.lst (row m.R λ _=>3))/\∃ x,ρ=[x]) (λ _=>.int 3) m.R (z0 [some (.int (j:Int)),some (.int m.R)] [none]) _ ⟨rfl,none,rfl⟩ (λ _ _ _=>rfl) (by
   rintro i _ ρ u ⟨rfl,x,rfl⟩
   exact⟨_,_,rfl,rfl,_,rfl⟩)
  obtain⟨rfl,_⟩:=G
  rw[e1]
  simp -implicitDefEqProofs [mk,bL]
  rfl) 0 (z0 [some m.d,some (.str [c]),some (.int m.R),none,none,none,none,none] [none,some 2]) s (cS _) ⟨by simp,none,rfl⟩
 obtain⟨rfl,_⟩:=G
 rw[show((0:Nat):Int)=0 from rfl]at e1
 rw[e1]
 have el:(ac m.R).map (λ _=>O.lst (row m.R λ _=>3))=ah8 m.R (λ i j=>sgF m.ds c i j 0):=rfl
 rw[el,iY,<-gX]
 simp -implicitDefEqProofs [mk,ixD,ai9]
 refine je (λ k ρ t=>∃(x y z w:Option D),ρ=[some m.d,some (.str [c]),some (.int m.R),some (.ref (s.length+m.R)),x,y,z,w]/\t=s++(ah8 m.R (λ i j=>sgF m.ds c i j k)++[.lst (ai6 s.length m.R)])) ⟨none,none,none,none,rfl,rfl⟩ (λ _ _ _ _ _=>rfl) ?_ ?_
 ·rintro k d ρ t hk ⟨x,y,z,w,rfl,rfl⟩
  rw[ao]at hk
  obtain⟨v,hv,rfl⟩:∃ v,m.ds[k]?=some v/\Dr.d v=d:=by
   cases e:m.ds[k]? with
   | none=>rw[e]at hk;cases hk
   | some v=>rw[e]at hk;exact⟨v,rfl,av hk⟩
  have Y:=hm.ds.1 v (aW hv)
  have ha:=Y.a
  have hb:=Y.b
  refine av8 (ρ:=[some m.d,some (.str [c]),some (.int m.R),some (.ref (s.length+m.R)),some (.int v.a),some (.str [v.l]),some (.int v.b),some (.int v.t)]) (s:=s++(ah8 m.R (λ i j=>sgF m.ds c i j (k+1))++[.lst (ai6 s.length m.R)])) ?_ ⟨_,_,_,_,rfl,rfl⟩
  have e3:(s++(ah8 m.R (λ i j=>sgF m.ds c i j k)++[.lst (ai6 s.length m.R)]))[s.length+m.R]?=some (.lst (ai6 s.length m.R)):=by
   rw[af (by omega),a7,af (by simp)];simp
  have Z:(s++(ah8 m.R (λ i j=>sgF m.ds c i j k)++[.lst (ai6 s.length m.R)]))[s.length+v.a]?=some (.lst (row m.R λ j=>sgF m.ds c v.a j k)):=by
   rw[af (by omega),a7,aw (by simpa using ha),ai3 ha]
  have e5:=qu e3 (aO2 ha)
  have e6:=qu Z (am8 hb)
  by_cases hl:v.l=c
  ·simp -implicitDefEqProofs only[turn,Dr.d,bindT_tup,jv,setVs_nil,zF,zA,aF,dD,za,zg,qg,zO,zb,zd,ze,R.bind_ok,au7,hl,decide_true,zH,if_true,ex_setIx,ev_bi,zq,zr,qt,e5,e6,zw,zz,gt_int,bW8,jt]
   rw[bh1 Z (by rw[aZ0];exact hb)]
   simp -implicitDefEqProofs only[R.bind_ok,zl,zg]
   congr 1
   rw[br _ _ (by omega),a7,gY _ _ (by simpa using ha)]
   congr 2
   rw[aY1 (f:=λ i j=>sgF m.ds c i j k)]
   congr 1
   funext i j
   rw[sgF,hv]
   by_cases h2:i=v.a/\j=v.b
   ·obtain⟨rfl,rfl⟩:=h2
    simp[hl]
   ·simp[hl,h2]
  ·simp -implicitDefEqProofs only[turn,Dr.d,bindT_tup,jv,setVs_nil,zF,zA,aF,dD,za,zg,qg,zO,zb,zd,ze,R.bind_ok,au7,hl,decide_false,zH,if_false,aK,zl]
   congr 3
   congr 1
   funext i j
   rw[sgF,hv]
   simp[hl]
 ·rintro ρ t ⟨x,y,z,w,rfl,rfl⟩
  rw[ax]
  have e3:(s++(ah8 m.R (sgM m c)++[.lst (ai6 s.length m.R)]))[s.length+m.R]?=some (.lst (ai6 s.length m.R)):=by
   rw[af (by omega),a7,af (by simp)];simp
  show(nxt _ _ _ (s++(ah8 m.R (sgM m c)++[.lst (ai6 s.length m.R)]))).bind _=_
  simp -implicitDefEqProofs [an9,e3]
  rw[if_pos (by unfold ai6 LIM;simp;omega)]
  generalize hS:s++(ah8 m.R (sgM m c)++[.lst (ai6 s.length m.R)])=S
  obtain⟨ρ1,s1,e1,G⟩:=am6 (ok:=λ s1=>chk S s1 [s.length+m.R]) (g:=qM (aa1 P n) (.one 0) (.mk .tuple (.seq (.var 0)))) (λ ρ u=>u=S/\∃ x,ρ=[x]) (λ d=>match d with|.ref p=>.tup (row m.R (sgM m c (p - s.length)))|d=>d) (ai6 s.length m.R) (z0 [some m.d,some (.str [c]),some (.int m.R),some (.ref (s.length+m.R)),x,y,z,w] [none]) S ⟨rfl,none,rfl⟩ (λ _ u h=>by obtain⟨rfl,_⟩:=h;simp[chk]) (by
   rintro d hd ρ u ⟨rfl,x,rfl⟩
   obtain⟨i,hi,rfl⟩:=aB.mp hd
   have J:=bA.mp hi
   have Z:u[s.length+i]?=some (.lst (row m.R (sgM m c i))):=by
    rw[<-hS,af (by omega),a7,aw (by simpa using J),ai3 J]
   refine⟨[some (.ref (s.length+i))],u,?_,rfl,_,rfl⟩
   simp -implicitDefEqProofs [qM,ay7,Z,mk])
  obtain⟨rfl,_⟩:=G
  rw[e1]
  simp -implicitDefEqProofs [mk]
  rw[<-hS]
  have:(ai6 s.length m.R).map (λ d=>match d with|.ref p=>D.tup (row m.R (sgM m c (p - s.length)))|d=>d)=(ac m.R).map λ i=>.tup (row m.R (sgM m c i)):=by
   unfold ai6
   rw[cI]
   exact b8 λ i _=>by simp
  rw[this]
  exact zG (d:=gd m.R (sgM m c)) bg3 (by nofun)
@[simp] theorem cf2 {F:Fns} {ρ:Env} {s:Sto} (a b:E):evI F (.zip (.seq a) (.seq b)) ρ s=(ev F a ρ s).bind λ x s=>(ev F b ρ s).bind λ y s=>(aP9 x s).bind λ p s=>(aP9 y s).bind λ q s=>.ok ⟨cb4 p.its q.its,p.src++q.src⟩ s:=rfl
theorem ix_str {l:List Nat}{j c:Nat}{s:Sto}(hj:l[j]?=some c):ixM (.str l) (.int (j:Int)) s=.ok (.str [c]) s:=by
 have hl:j<l.length:=(ab.mp hj).1
 have e:l[j]=c:=(ab.mp hj).2
 simp[ixM,ixn,hl,e]
theorem bD6 (s:Sto)(n:Nat)(a b:Int):eqv s n (.int a) (.int b)=some (a==b):=by cases n<;>rfl
noncomputable def shN (f:Nat->Nat->Int)(i j:Nat):Nat->Int
 | 0=>3
 | k+1=>let b:=max (max (f i k) (if f k k=1 then 2 else f k k)) (f k j);if b<shN f i j k then b else shN f i j k
noncomputable def sh (m:Nat)(f:Nat->Nat->Int)(i j:Nat):Int:=shN f i j m
theorem aO6 {a b c:Int}{s:Sto}:bi .max3 [.int a,.int b,.int c] s=.ok (.int (max (max a b) c)) s:=rfl
theorem bM9 {m:Nat}{f:Nat->Nat->Int}{s:Sto}:bi .len [gd m f] s=.ok (.int m) s:=by
 show R.ok (D.int ((ac m).map λ i=>D.tup (row m (f i))).length) s=_
 simp
theorem qC {s:Sto}{l:List D}{v:D}(h:l.length<LIM):meth .append (.ref s.length) [v] (s++[.lst l])=.ok .non (s++[.lst (l++[v])]):=ay3 (t:=[]) h
theorem bp2 {P:Pr}[Has P ae0](n:Nat){m:Nat}(hR:m<=5)(f:Nat->Nat->Int)(s:Sto) :
  (aa1 P (n+1)).call "_law_sharp" [gd m f] s=.ok (gd m (sh m f)) s:=by
 have e0:(aa1 P (n+1)).call "_law_sharp" [gd m f] s=_:=zn ae0 (n:=n) rfl
 rw[e0]
 simp -implicitDefEqProofs [ae0,bM9]
 rw[zL (by unfold W62;omega) (by unfold W62;omega)]
 simp only[R.bind_ok]
 refine je (λ i ρ t=>∃(T:Sto) (x y z u v w:Option D),ρ=[some (gd m f),some (.int m),some (.ref s.length),x,y,z,u,v,w]/\t=s++.lst ((ac i).map λ i=>.tup (row m (sh m f i)))::T) ⟨[],none,none,none,none,none,none,rfl,rfl⟩ (λ _ _ _ _ _=>rfl) ?_ ?_
 ·rintro i d ρ t hi ⟨T,x,y,z,u,v,w,rfl,rfl⟩
  have qq:=qc hi
  have G:=qq.1
  have hd:=qq.2
  rw[hd]
  simp -implicitDefEqProofs only[turn,zh,zF,zA,aF,za,qf,ev_lst,zr,R.bind_ok,qT,zx,zl,ex_for,qS,zb,zd,ze,cg,cw,aQ,aU]
  rw[zL (by unfold W62;omega) (by unfold W62;omega)]
  simp only[R.bind_ok]
  generalize Z:(ac i).map (λ i=>D.tup (row m (sh m f i)))=X
  have a0:X.length=i:=by rw[<-Z];simp
  refine qU (W:=Nx _) (λ j ρ t=>∃(z u v w:Option D),ρ=[some (gd m f),some (.int m),some (.ref s.length),some (.int i),some (.ref (s.length+(T.length+1))),z,u,v,w]/\t=s++.lst X::(T++[.lst ((ac j).map λ j=>.int (sh m f i j))])) ⟨z,u,v,w,rfl,rfl⟩ (λ _ _ _ _ _=>rfl) ?_ ?_
  ·rintro j d ρ t hj ⟨z,u,v,w,rfl,rfl⟩
   have J:=(qc hj).1
   rw[(qc hj).2]
   simp -implicitDefEqProofs only[turn,zh,zF,zA,aF,za,qf,zw,zz,R.bind_ok,zx,zl,ex_for,qS,zb,zd,ze]
   rw[zL (by unfold W62;omega) (by unfold W62;omega)]
   simp only[R.bind_ok]
   refine qU (W:=Nx _) (λ k ρ t=>∃(v w:Option D),ρ=[some (gd m f),some (.int m),some (.ref s.length),some (.int i),some (.ref (s.length+(T.length+1))),some (.int j),some (.int (shN f i j k)),v,w]/\t=s++.lst X::(T++[.lst ((ac j).map λ j=>.int (sh m f i j))])) ⟨v,w,rfl,rfl⟩ (λ _ _ _ _ _=>rfl) ?_ ?_
   ·rintro k d ρ t hk ⟨v,w,rfl,rfl⟩
    have h:=(qc hk).1
    rw[(qc hk).2]
    refine av8 (ρ:=[some (gd m f),some (.int m),some (.ref s.length),some (.int i),some (.ref (s.length+(T.length+1))),some (.int j),some (.int (shN f i j (k+1))),some (.int k),some (.int (if f k k=1 then 2 else f k k))]) (s:=s++.lst X::(T++[.lst ((ac j).map λ j=>.int (sh m f i j))])) ?_ ⟨_,_,rfl,rfl⟩
    by_cases h1:f k k=1
    ·simp -implicitDefEqProofs [turn,bf9 h,bf9 G,aj5 h,aj5 J,h1,aO6,shN]
    ·simp -implicitDefEqProofs [turn,bf9 h,bf9 G,aj5 h,aj5 J,h1,aO6,shN]
   ·rintro ρ t ⟨v,w,rfl,rfl⟩
    rw[zK]
    have Y:(s++.lst X::(T++[O.lst ((ac j).map λ j=>D.int (sh m f i j))]))[s.length+(T.length+1)]?=some (.lst ((ac j).map λ j=>.int (sh m f i j))):=av6
    simp -implicitDefEqProofs only[zl,za,zg,jC,z9,zq,zr,zb,zd,ze,R.bind_ok]
    rw[ql Y (by unfold LIM;simp;omega)]
    simp -implicitDefEqProofs only[R.bind_ok,zl,zg,bb6]
    refine⟨_,_,_,_,rfl,?_⟩
    rw[br _ _ (by omega),a7,List.set_cons_succ,br _ _ (ai _),ef,List.set_cons_zero,bL,bE]
    rfl
  ·rintro ρ t ⟨z,u,v,w,rfl,rfl⟩
   rw[zK]
   have Y:(s++.lst X::(T++[O.lst ((ac m).map λ j=>D.int (sh m f i j))]))[s.length+(T.length+1)]?=some (.lst ((ac m).map λ j=>.int (sh m f i j))):=av6
   simp -implicitDefEqProofs only[zl,za,zg,jC,z9,zq,zr,zb,zd,ze,R.bind_ok,ev_mk,evL_seq,ay7,Y,mk]
   rw[ay3 (by unfold LIM;omega)]
   simp -implicitDefEqProofs only[R.bind_ok,zl,zg,bb6]
   refine⟨T++[O.lst (bB (λ j=>D.int (sh m f i j)) (ac m))],_,_,_,_,_,_,rfl,?_⟩
   rw[bL,bE,Z]
   rfl
 ·rintro ρ t ⟨T,x,y,z,u,v,w,rfl,rfl⟩
  rw[zK]
  have h0:(s++.lst ((ac m).map λ i=>D.tup (row m (sh m f i)))::T:Sto)[s.length]?=some (.lst ((ac m).map λ i=>D.tup (row m (sh m f i)))):=by rw[af (ai _)];simp
  simp -implicitDefEqProofs [ay7,h0,mk]
  exact zG (d:=gd m (sh m f)) bg3 (by nofun)
theorem bf3 {s:Sto}{n m:Nat}{f g:Nat->Int}:∀ l:List Nat,eqL (eqv s n) (l.map λ j=>.int (f j)) (l.map λ j=>.int (g j))=some (l.all λ j=>f j==g j)
 | []=>rfl
 | a::l=>by
  rw[aJ,aJ]
  unfold eqL
  rw[bD6,bf3 (m:=m) l]
  simp
theorem br5 {s:Sto}{n m:Nat}{f g:Nat->Nat->Int}:∀ l:List Nat,eqL (eqv s (n+1)) (l.map λ i=>.tup (row m (f i))) (l.map λ i=>.tup (row m (g i)))=some (l.all λ i=>(ac m).all λ j=>f i j==g i j)
 | []=>rfl
 | a::l=>by
  rw[aJ,aJ]
  unfold eqL
  rw[show eqv s (n+1) (.tup (row m (f a))) (.tup (row m (g a)))=eqL (eqv s n) (row m (f a)) (row m (g a))from rfl,row,row,bf3 (m:=m),br5 l]
  simp
def EqG (m:Nat)(f g:Nat->Nat->Int):Prop:=∀ i j,i<m->j<m->f i j=g i j
theorem bW1 {s:Sto}{m:Nat}{f g:Nat->Nat->Int}:∃ b:Bool,eqv s DEEP (gd m f) (gd m g)=some b/\(b=true↔EqG m f g):=by
 refine⟨_,br5 (n:=28) (ac m),?_⟩
 simp[EqG,aO]
 exact⟨λ h i j y hj=>h i y j hj,λ h i y j hj=>h i j y hj⟩
theorem cg8 {s:Sto}{m:Nat}{f g:Nat->Nat->Int}:∃ b:Bool,qz .eq (gd m f) (gd m g) s=.ok (.bl b) s/\(b=true↔EqG m f g):=by
 obtain⟨b,e,h⟩:=bW1 (s:=s) (m:=m) (f:=f) (g:=g)
 exact⟨b,by show(match eqv s DEEP (gd m f) (gd m g)with|some r=>R.ok (D.bl r) s|none=>.bad)=_;rw[e],h⟩
inductive Stp where
 | let_ (c:Nat)|pair (i j:Nat)|sharp (i:Nat)
noncomputable def by9:List Nat:=[108,101,116,116,101,114]
noncomputable def ar8:List Nat:=[112,97,105,114]
noncomputable def aL7:List Nat:=[115,104,97,114,112]
noncomputable def as5:List Nat:=[116,105,109,101,115]
noncomputable def Stp.d:Stp->D
 | .let_ c=>.tup [.str [108,101,116,116,101,114],.str [c]]
 | .pair i j=>.tup [.str [112,97,105,114],.int i,.int j]
 | .sharp i=>.tup [.str [115,104,97,114,112],.int i]
theorem Stp.bnd (x:Stp)(n:Nat):x.d.bnd n=true:=by cases x<;>rfl
theorem zP {l:List D}(h:∀ d∈l,d.ncl=true):D.nclL l=true:=by
 induction l with
 | nil=>rfl
 | cons d l ih=>unfold D.nclL;rw[h d (aH ..),ih λ x hx=>h x (az _ hx)];rfl
theorem Stp.ncl (x:Stp):x.d.ncl=true:=by cases x<;>rfl
theorem bp6 {l:List Stp}:D.nclL (l.map Stp.d)=true:=zP λ d hd=>by obtain⟨x,_,rfl⟩:=aB.mp hd;exact x.ncl
theorem aK5 {l:List Nat}:D.nclL (qR l)=true:=zP λ d hd=>by obtain⟨x,_,rfl⟩:=aB.mp hd;rfl
theorem ax6 {l:List Int}:D.nclL (l.map D.int)=true:=zP λ d hd=>by obtain⟨x,_,rfl⟩:=aB.mp hd;rfl
theorem bE7 {m:Nat}{f:Nat->Int}:D.nclL (row m f)=true:=zP λ d hd=>by obtain⟨x,_,rfl⟩:=aB.mp hd;rfl
theorem bS2 {m:Nat}{f:Nat->Nat->Int}:(gd m f).ncl=true:=by
 unfold gd D.ncl
 exact zP λ d hd=>by obtain⟨x,_,rfl⟩:=aB.mp hd;unfold D.ncl;exact bE7
theorem by7 {s:Sto}{r:Nat}{o:O}(h:s.all O.ncl=true)(ho:o.ncl=true):(s.set r o).all O.ncl=true:=by
 rw[aO]at h ⊢
 intro x hx
 rcases fj hx with h1|h1
 ·exact h x h1
 ·rw[h1];exact ho
inductive Mks (m:Mc):List Stp->List (Nat->Nat->Int)->Prop where
 | nil:Mks m [] []
 | let_ {l fs} (c:Nat):Mks m l fs->97<=c->c<97+m.L->Mks m (l++[.let_ c]) (fs++[sgM m c])
 | pair {l fs} (i j:Nat) (f g:Nat->Nat->Int):Mks m l fs->fs[i]?=some f->fs[j]?=some g->Mks m (l++[.pair i j]) (fs++[pr m.R f g])
 | sharp {l fs} (i:Nat) (f:Nat->Nat->Int):Mks m l fs->fs[i]?=some f->EqG m.R (pr m.R f f) f->Mks m (l++[.sharp i]) (fs++[sh m.R f])
theorem Mks.len {m:Mc}{l:List Stp}{fs:List (Nat->Nat->Int)}(h:Mks m l fs):l.length=fs.length:=by
 induction h<;>simp_all
noncomputable def stM (s:Sto)(r:Nat)(b:Int)(A B C:List D)(T:Sto):Sto:=s.set r (qr b)++(.lst A::.lst B::.lst C::T)
section
variable {s:Sto} {r:Nat} {b:Int} {A B C:List D} {T:Sto}
theorem bW7:(stM s r b A B C T)[s.length]?=some (.lst A):=by unfold stM;rw[af (by simp)];simp
theorem aR5:(stM s r b A B C T)[s.length+1]?=some (.lst B):=by unfold stM;rw[af (by simp)];simp
theorem bm0:(stM s r b A B C T)[s.length+2]?=some (.lst C):=by unfold stM;rw[af (by simp)];simp
theorem ba3 {v:D}(h:A.length<LIM):meth .append (.ref s.length) [v] (stM s r b A B C T)=.ok .non (stM s r b (A++[v]) B C T):=by
 rw[ql bW7 h];unfold stM;rw[br _ _ (by simp)];simp
theorem aU0 {v:D}(h:B.length<LIM):meth .append (.ref (s.length+1)) [v] (stM s r b A B C T)=.ok .non (stM s r b A (B++[v]) C T):=by
 rw[ql aR5 h];unfold stM;rw[br _ _ (by simp)];simp
theorem bO7 {v:D}(h:C.length<LIM):meth .append (.ref (s.length+2)) [v] (stM s r b A B C T)=.ok .non (stM s r b A B (C++[v]) T):=by
 rw[ql bm0 h];unfold stM;rw[br _ _ (by simp)];simp
theorem aw5 {o:O}:stM s r b A B C T++[o]=stM s r b A B C (T++[o]):=by unfold stM;simp
theorem ax0:(stM s r b A B C T).length=s.length+(T.length+3):=by unfold stM;simp
theorem bh8 {o:O}:(stM s r b A B C (T++[o]))[s.length+(T.length+3)]?=some o:=by
 rw[<-aw5,af (by rw[ax0];omega),ax0];simp
theorem al8 {P:Pr}[Has P ae7](n:Nat)(J:r<s.length)(y:Int)(h0:0<y)(h:y<=10^90) :
  ∃(k:Nat) (G:Int),(k:Int)<y/\(aa1 P (n+1)).call "_law_draw" [.ref r,.int y] (stM s r b A B C T)=.ok (.int k) (stM s r G A B C T):=qY n J b y h0 h
end
theorem aN1 {s:Sto}{r:Nat}{b:Int}{A B C:List D}{T:Sto}:qz .ne (.ref (s.length+2)) (.ref (s.length+(T.length+3))) (stM s r b A B C (T++[O.lst []]))=.ok (.bl (!decide (C=[]))) (stM s r b A B C (T++[O.lst []])):=by
 show(match eqv (stM s r b A B C (T++[O.lst []])) DEEP (.ref (s.length+2)) (.ref (s.length+(T.length+3)))with|some r=>R.ok (D.bl (!r)) _|none=>.bad)=_
 have:eqv (stM s r b A B C (T++[O.lst []])) DEEP (.ref (s.length+2)) (.ref (s.length+(T.length+3)))=some (decide (C=[])):=by
  show(match(stM s r b A B C (T++[O.lst []]))[s.length+2]?,(stM s r b A B C (T++[O.lst []]))[s.length+(T.length+3)]? with
   | some (O.lst l),some (O.lst m)=>if l.length=m.length then eqL (eqv (stM s r b A B C (T++[O.lst []])) 29) l m else some false
   | _,_=>none)=_
  rw[bm0,bh8]
  cases C<;>rfl
 rw[this]
noncomputable def zM (m:Nat)(fs:List (Nat->Nat->Int)):List D:=fs.map (gd m)
theorem bi4 {m:Nat}{fs:List (Nat->Nat->Int)}:D.nclL (zM m fs)=true:=zP λ d hd=>by obtain⟨x,_,rfl⟩:=aB.mp hd;exact bS2
theorem am5 {m i:Nat}{fs:List (Nat->Nat->Int)}{f:Nat->Nat->Int}(h:fs[i]?=some f):(zM m fs)[i]?=some (gd m f):=by
 unfold zM;rw[ao,h];rfl
noncomputable def mkC:E:=.and (.cmp .lt (.var 8) (.cst (.int 4))) (.and (.cmp .gt (.var 3) (.cst (.int 0))) (.and (.cmp .ne (.var 6) (.lst .nil)) (.cmp .gt (.var 8) (.cst (.int 0)))))
noncomputable def mkA:Ss:=(.cons (.asg (.one 9) (.ix (.var 6) (.bin .mod (.var 10) (.bi .len (.cons (.var 6) .nil))))) (.cons (.ex (.meth .append (.var 4) (.cons (.tup (.cons (.cst (.str [115,104,97,114,112])) (.cons (.var 9) .nil))) .nil))) (.cons (.ex (.meth .append (.var 5) (.cons (.call "_law_sharp" (.ex (.ix (.var 5) (.var 9)) .nil)) .nil))) (.cons (.asg (.one 3) (.bin .sub (.var 3) (.cst (.int 1)))) .nil))))
noncomputable def mkB:Ss:=(.cons (.asg (.one 9) (.bi .min2 (.cons (.var 9) (.cons (.bin .sub (.var 7) (.cst (.int 1))) .nil)))) (.cons (.asg (.one 10) (.ite (.cmp .gt (.var 8) (.cst (.int 1))) (.bi .min2 (.cons (.var 10) (.cons (.bin .sub (.var 7) (.cst (.int 1))) .nil))) (.var 9))) (.cons (.ex (.meth .append (.var 4) (.cons (.tup (.cons (.cst (.str [112,97,105,114])) (.cons (.var 9) (.cons (.var 10) .nil)))) .nil))) (.cons (.ex (.meth .append (.var 5) (.cons (.call "_law_product" (.ex (.ix (.var 5) (.var 9)) (.ex (.ix (.var 5) (.var 10)) .nil))) .nil))) .nil))))
noncomputable def mkL:Ss:=(.cons (.asg (.one 11) (.ix (.cst (.str [97,98,99])) (.bin .mod (.var 9) (.ix (.var 1) (.cst (.int 0)))))) (.cons (.ex (.meth .append (.var 4) (.cons (.tup (.cons (.cst (.str [108,101,116,116,101,114])) (.cons (.var 11) .nil))) .nil))) (.cons (.ex (.meth .append (.var 5) (.cons (.call "_law_letter_signs" (.ex (.var 1) (.ex (.var 11) .nil))) .nil))) .nil)))
noncomputable def mkI:S:=.ite mkC mkA (.cons (.ite (.and (.cmp .gt (.var 7) (.cst (.int 0))) (.cmp .lt (.var 8) (.cst (.int 5)))) mkB mkL) .nil)
noncomputable def mkE:S:=.ite (.cmp .eq (.call "_law_product" (.ex (.ix (.var 5) (.var 7)) (.ex (.ix (.var 5) (.var 7)) .nil))) (.ix (.var 5) (.var 7))) (.cons (.ex (.meth .append (.var 6) (.cons (.var 7) .nil))) .nil) .nil
def ao8 (m:Nat)(fs:List (Nat->Nat->Int))(C:List Nat):Prop:=∀ i∈C,∃ f,fs[i]?=some f/\EqG m (pr m f f) f
theorem ao8.app {m:Nat}{fs:List (Nat->Nat->Int)}{C:List Nat}{g:Nat->Nat->Int}(h:ao8 m fs C):ao8 m (fs++[g]) C:=λ i y=>by
 obtain⟨f,e,q⟩:=h i y
 exact⟨f,by rw[aw (ab.mp e).1];exact e,q⟩
noncomputable def ar2 (s:Sto)(r:Nat)(m:Mc)(most z:Int)(k:Option D)(x8 x9 x10 x11:Option D):Env:=[some (.ref r),some m.d,some (.int most),some (.int z),some (.ref s.length),some (.ref (s.length+1)),some (.ref (s.length+2)),k,x8,x9,x10,x11]
theorem bV8 {F:Fns}{s:Sto}{r:Nat}{m:Mc}{most z:Int}{k way one other:Nat}{x11:Option D}{b:Int}{A B C:List D}{T:Sto} :
  ∃(c:Bool) (y:Sto),ev F mkC (ar2 s r m most z (some (.int k)) (some (.int way)) (some (.int one)) (some (.int other)) x11) (stM s r b A B C T)=.ok (.bl c) (stM s r b A B C y)/\(c=true->C≠[])/\(T.all O.ncl=true->y.all O.ncl=true):=by
 unfold mkC ar2
 by_cases h1:(way:Int)<4
 ·by_cases h2:0<z
  ·by_cases h3:C=[]
   ·refine⟨false,T++[.lst []],?_,nofun,λ h=>by rw[c7,h];rfl⟩
    simp -implicitDefEqProofs [h1,h2,aw5,ax0]
    rw[aN1]
    simp -implicitDefEqProofs [h3]
   ·refine⟨decide (0<(way:Int)),T++[.lst []],?_,λ _=>h3,λ h=>by rw[c7,h];rfl⟩
    simp -implicitDefEqProofs [h1,h2,aw5,ax0]
    rw[aN1]
    simp -implicitDefEqProofs [h3]
  ·exact⟨false,T,by simp -implicitDefEqProofs [h1,h2],nofun,id⟩
 ·exact⟨false,T,by simp -implicitDefEqProofs [h1],nofun,id⟩
theorem ixm {l:List D}{s:Sto}{r:Nat}{i:Int}{j:Nat}{d:D}(h:s[r]?=some (.lst l))(e:i=(j:Int))(hj:l[j]?=some d):ixM (.ref r) (.int i) s=.ok d s:=by rw[e];exact qu h hj
theorem bX7 {P:Pr}[Has P ab1][Has P aa7][Has P ae0]{n:Nat}{s:Sto}{r:Nat}{m:Mc}(hm:m.Ok){most z:Int}{k way one other:Nat}{x11:Option D}{b:Int}{l:List Stp}{fs:List (Nat->Nat->Int)}{C:List Nat}{T:Sto}
  (hM:Mks m l fs) (hk:l.length=k) (b3:k<1000) (b0:one<k+1) (b2:other<k+1) (hC:ao8 m.R fs C) :
  ∃(x:Stp) (f:Nat->Nat->Int) (z':Int) (x9 x10 a0:Option D) (y:Sto),Mks m (l++[x]) (fs++[f])/\(T.all O.ncl=true->y.all O.ncl=true) /\
   ex (aa1 P (n+1)) mkI (ar2 s r m most z (some (.int k)) (some (.int way)) (some (.int one)) (some (.int other)) x11) (stM s r b (l.map Stp.d) (zM m.R fs) (qR C) T)
    = .ok (.next (ar2 s r m most z' (some (.int k)) (some (.int way)) x9 x10 a0)) (stM s r b ((l++[x]).map Stp.d) (zM m.R (fs++[f])) (qR C) y):=by
 have b1:=hM.len
 have J:(l.map Stp.d).length<LIM:=by unfold LIM;simp;omega
 have Z:(zM m.R fs).length<LIM:=by unfold LIM zM;simp;omega
 obtain⟨c,y,ec,hc,hT⟩:=bV8 (F:=aa1 P (n+1)) (s:=s) (r:=r) (m:=m) (most:=most) (z:=z) (k:=k) (way:=way) (one:=one) (other:=other) (x11:=x11) (b:=b) (A:=l.map Stp.d) (B:=zM m.R fs) (C:=qR C) (T:=T)
 unfold mkI
 rw[qg,ec,zH]
 cases c with
 | true =>
  have a5:=hc rfl
  have a6:0<C.length:=by
   cases C with
   | nil=>exact absurd rfl a5
   | cons _ _=>simp
  rw[if_pos rfl]
  have hq:other % C.length<C.length:=ke _ a6
  obtain⟨i,hi⟩:∃ i,C[other % C.length]?=some i:=⟨_,ag hq⟩
  obtain⟨f,hf,a4⟩:=hC i (aW hi)
  refine⟨.sharp i,sh m.R f,z - 1,some (.int i),some (.int other),x11,y,.sharp i f hM hf a4,hT,?_⟩
  have i1:∀ T,ixM (.ref (s.length+2)) (.int ((other:Int) % (C.length:Int))) (stM s r b (l.map Stp.d) (zM m.R fs) (qR C) T)=.ok (.int i) (stM s r b (l.map Stp.d) (zM m.R fs) (qR C) T):=λ T=>ixm bm0 (j:=other % C.length) (by simp) (by unfold qR;rw[ao,hi];rfl)
  have i2:∀ A T,ixM (.ref (s.length+1)) (.int (i:Int)) (stM s r b A (zM m.R fs) (qR C) T)=.ok (gd m.R f) (stM s r b A (zM m.R fs) (qR C) T):=λ A T=>qu aR5 (am5 hf)
  have l2:bi .len [.ref (s.length+2)] (stM s r b (l.map Stp.d) (zM m.R fs) (qR C) y)=.ok (.int C.length) (stM s r b (l.map Stp.d) (zM m.R fs) (qR C) y):=by rw[bB5 bm0];simp[qR]
  unfold mkA ar2
  simp -implicitDefEqProofs only[za,zg,qf,jC,qt,zb,qi,ev_bi,zq,zr,zd,ze,R.bind_ok,l2,jm (show(0:Int)<(C.length:Int)by omega),i1,zh,zF,zA,aF,zx,zl,z9,ev_tup,zw,qQ,zz,ba3 J,zU,zI,zD,i2,bp2 n hm.R5,aU0 Z,sub_int]
  unfold zM;simp[Stp.d]
 | false =>
  rw[if_neg aR]
  by_cases hk0:0<k/\way<5
  ·obtain⟨h1,h2⟩:=hk0
   have G:∀ a:Nat,(if(k:Int) - 1<(a:Int)then(k:Int) - 1 else(a:Int))=((min a (k - 1):Nat):Int):=λ a=>by omega
   obtain⟨j,hj,hoj⟩:∃ j:Nat,j<k/\(if(1:Int)<(way:Int)then((min other (k - 1):Nat):Int)else((min one (k - 1):Nat):Int))=(j:Int):=by
    by_cases h:(1:Int)<(way:Int)
    ·exact⟨min other (k - 1),by omega,if_pos h⟩
    ·exact⟨min one (k - 1),by omega,if_neg h⟩
   have hi:min one (k - 1)<fs.length:=by omega
   have a1:j<fs.length:=by omega
   refine⟨.pair (min one (k - 1)) j,pr m.R fs[min one (k - 1)] fs[j],z,some (.int (min one (k - 1):Nat)),some (.int j),x11,y,.pair _ _ _ _ hM (ag hi) (ag a1),hT,?_⟩
   have i1:∀ A T,ixM (.ref (s.length+1)) (.int ((min one (k - 1):Nat):Int)) (stM s r b A (zM m.R fs) (qR C) T)=.ok (gd m.R fs[min one (k - 1)]) (stM s r b A (zM m.R fs) (qR C) T):=λ A T=>qu aR5 (am5 (ag hi))
   have i2:∀ A T,ixM (.ref (s.length+1)) (.int (j:Int)) (stM s r b A (zM m.R fs) (qR C) T)=.ok (gd m.R fs[j]) (stM s r b A (zM m.R fs) (qR C) T):=λ A T=>qu aR5 (am5 (ag a1))
   have a2:(0:Int)<(k:Int):=by omega
   have a3:(way:Int)<5:=by omega
   have eo:ev (aa1 P (n+1)) (.ite (.cmp .gt (.var 8) (.cst (.int 1))) (.bi .min2 (.cons (.var 10) (.cons (.bin .sub (.var 7) (.cst (.int 1))) .nil))) (.var 9)) (ar2 s r m most z (some (.int k)) (some (.int way)) (some (.int (min one (k - 1):Nat))) (some (.int other)) x11) (stM s r b (l.map Stp.d) (zM m.R fs) (qR C) y)=.ok (.int j) (stM s r b (l.map Stp.d) (zM m.R fs) (qR C) y):=by
    rw[<-hoj]
    unfold ar2
    by_cases h:(1:Int)<(way:Int)
    ·simp -implicitDefEqProofs only[ev_ite,zO,zb,zw,zz,zd,ze,R.bind_ok,gt_int,zH,h,decide_true,if_true,ev_bi,zq,zr,qi,sub_int,jt,G]
    ·simp -implicitDefEqProofs only[ev_ite,zO,zb,zw,zz,zd,ze,R.bind_ok,gt_int,zH,h,decide_false,if_false,aK]
   unfold mkB
   unfold ar2 at eo ⊢
   simp -implicitDefEqProofs only[za,zg,qg,ev_and,zO,zb,zw,zz,qQ,zd,ze,R.bind_ok,gt_int,lt_int,a2,a3,decide_true,zH,if_true,qf,ev_bi,zq,zr,qi,sub_int,jt,G,zh,zF,zA,aF,zx,zl,eo,jC,z9,ev_tup,ba3 J,zU,zI,zD,qt,i1,i2,au4 n hm.R5,aU0 Z]
   unfold zM;simp[Stp.d]
  ·have Y:ev (aa1 P (n+1)) (.and (.cmp .gt (.var 7) (.cst (.int 0))) (.cmp .lt (.var 8) (.cst (.int 5)))) (ar2 s r m most z (some (.int k)) (some (.int way)) (some (.int one)) (some (.int other)) x11) (stM s r b (l.map Stp.d) (zM m.R fs) (qR C) y)=.ok (.bl false) (stM s r b (l.map Stp.d) (zM m.R fs) (qR C) y):=by
    unfold ar2
    by_cases h1:(0:Int)<(k:Int)
    ·have h2:¬(way:Int)<5:=λ h=>hk0 ⟨by omega,by omega⟩
     simp -implicitDefEqProofs only[ev_and,zO,zb,zw,zz,zd,ze,R.bind_ok,gt_int,lt_int,h1,h2,decide_true,decide_false,zH,if_true]
    ·simp -implicitDefEqProofs only[ev_and,zO,zb,zw,zz,zd,ze,R.bind_ok,gt_int,lt_int,h1,decide_false,zH,if_false,aK]
   have hL:=hm.L1
   have b4:=hm.L3
   have hq:one % m.L<m.L:=ke _ hL
   refine⟨.let_ (97+one % m.L),sgM m (97+one % m.L),z,some (.int one),some (.int other),some (.str [97+one % m.L]),y,.let_ _ hM (by omega) (by omega),hT,?_⟩
   have em:((one:Int) % (m.L:Int))=((one % m.L:Nat):Int):=by simp
   rw[za,qg,Y]
   unfold mkL ar2
   simp -implicitDefEqProofs only[zH,if_false,aK,za,zg,qf,qt,zw,qQ,zz,qi,zb,zd,ze,R.bind_ok,ixL,jm (show(0:Int)<(m.L:Int)by omega),em,aT7 (show one % m.L<3 by omega),zh,zF,zA,aF,zx,zl,jC,z9,ev_tup,zq,zr,ba3 J,zU,zI,zD,am7 n hm,aU0 Z]
   unfold zM;simp[Stp.d]
theorem bS9 {P:Pr}[Has P ab1]{n:Nat}{s:Sto}{r:Nat}{m:Mc}(hm:m.Ok){most z:Int}{k:Nat}{x8 x9 x10 x11:Option D}{b:Int}{A:List D}{fs:List (Nat->Nat->Int)}{C:List Nat}{T:Sto}
  (hk:fs.length=k+1) (Z:C.length<1000) (Y:ao8 m.R fs C) :
  ∃(G:List Nat),G.length<=C.length+1/\ao8 m.R fs G /\
   ex (aa1 P (n+1)) mkE (ar2 s r m most z (some (.int k)) x8 x9 x10 x11) (stM s r b A (zM m.R fs) (qR C) T)
    = .ok (.next (ar2 s r m most z (some (.int k)) x8 x9 x10 x11)) (stM s r b A (zM m.R fs) (qR G) T):=by
 obtain⟨f,J⟩:∃ f,fs[k]?=some f:=⟨_,ag (by omega)⟩
 have i1:ixM (.ref (s.length+1)) (.int (k:Int)) (stM s r b A (zM m.R fs) (qR C) T)=.ok (gd m.R f) (stM s r b A (zM m.R fs) (qR C) T):=qu aR5 (am5 J)
 obtain⟨c,ec,hc⟩:=cg8 (s:=stM s r b A (zM m.R fs) (qR C) T) (m:=m.R) (f:=pr m.R f f) (g:=f)
 have y:ev (aa1 P (n+1)) (.cmp .eq (.call "_law_product" (.ex (.ix (.var 5) (.var 7)) (.ex (.ix (.var 5) (.var 7)) .nil))) (.ix (.var 5) (.var 7))) (ar2 s r m most z (some (.int k)) x8 x9 x10 x11) (stM s r b A (zM m.R fs) (qR C) T)=.ok (.bl c) (stM s r b A (zM m.R fs) (qR C) T):=by
  unfold ar2
  simp -implicitDefEqProofs only[zO,zU,zI,zD,qt,zb,zd,ze,R.bind_ok,i1,au4 n hm.R5,ec]
 unfold mkE
 rw[qg,y,zH]
 cases c with
 | false=>exact⟨C,by omega,Y,rfl⟩
 | true =>
  refine⟨C++[k],by simp,λ i hi=>?_,?_⟩
  ·rcases bV.mp hi with h|h
   ·exact Y i h
   ·rw[bJ.mp h];exact⟨f,J,hc.mp rfl⟩
  ·rw[if_pos rfl]
   unfold ar2
   simp -implicitDefEqProofs only[za,zg,jC,z9,zb,zq,zr,zd,ze,R.bind_ok,bO7 (show(qR C).length<LIM by unfold qR LIM;simp;omega),zl]
   unfold qR;simp
def MkR (s:Sto)(r:Nat)(m:Mc)(most:Nat)(x:R D):Prop:=∃(l:List Stp) (fs:List (Nat->Nat->Int)) (b:Int) (T:Sto) (p:Nat),Mks m l fs/\1<=l.length/\l.length<=most/\(s.set r (qr b)++T)[p]?=some (.lst (zM m.R fs))/\T.all O.ncl=true/\x=.ok (.tup [.tup (l.map Stp.d),.ref p]) (s.set r (qr b)++T)
theorem aP4 {P:Pr}[Has P ae7][Has P ab1][Has P aa7][Has P ae0][Has P ae5](n:Nat){s:Sto}{r:Nat}(hs:∃ b,s[r]?=some (qr b)){m:Mc}(hm:m.Ok)(most:Nat)(h0:1<=most)(h1:most<=500)(z:Int) :
  MkR s r m most ((aa1 P (n+2)).call "_law_makings" [.ref r,m.d,.int most,.int z] s):=by
 have e0:(aa1 P (n+2)).call "_law_makings" [.ref r,m.d,.int most,.int z] s=_:=zn ae5 (n:=n+1) rfl
 have hr:=aO7 hs
 obtain⟨Z,a1⟩:=hs
 have es:s=s.set r (qr Z):=by
  rw[show qr Z=s[r]from((ab.mp a1).2).symm,List.set_getElem_self]
 have eS:s++[O.lst [],O.lst [],O.lst []]=stM s r Z [] [] [] []:=by unfold stM;rw[<-es]
 obtain⟨d,b1,hd,ed⟩:=al8 (P:=P) n (s:=s) (b:=Z) (A:=[]) (B:=[]) (C:=[]) (T:=[]) hr most (by omega) (qj (by omega))
 rw[e0]
 have body:ae5.body=.cons (.asg (.one 4) (.lst .nil)) (.cons (.asg (.one 5) (.lst .nil)) (.cons (.asg (.one 6) (.lst .nil)) (.cons (.for_ (.one 7) (.rng1 (.bin .add (.cst (.int 1)) (.call "_law_draw" (.ex (.var 0) (.ex (.var 2) .nil))))) (.cons (.asg (.one 8) (.call "_law_draw" (.ex (.var 0) (.ex (.cst (.int 6)) .nil)))) (.cons (.asg (.one 9) (.call "_law_draw" (.ex (.var 0) (.ex (.bin .add (.var 7) (.cst (.int 1))) .nil)))) (.cons (.asg (.one 10) (.call "_law_draw" (.ex (.var 0) (.ex (.bin .add (.var 7) (.cst (.int 1))) .nil)))) (.cons mkI (.cons mkE .nil)))))) (.cons (.ret (.tup (.cons (.mk .tuple (.seq (.var 4))) (.cons (.var 5) .nil)))) .nil)))):=rfl
 rw[body,show(bB some [D.ref r,m.d,.int most,.int z]++ar ae5.vs none)=[some (D.ref r),some m.d,some (.int most),some (.int z),none,none,none,none,none,none,none,none]from rfl]
 simp -implicitDefEqProofs only[za,zg,qf,ev_lst,zr,R.bind_ok,qT,zh,zF,zA,aF,zx,zl,cg,cw,dL,aQ,aU,c5,ex_for,qS,qi,zw,zz,zU,zI,zD,zb,zd,ze,eS,ed,add_int,bq]
 rw[zL (by unfold W62;omega) (by unfold W62;omega),show((1:Int)+(d:Int))=((d+1:Nat):Int)by omega]
 simp only[R.bind_ok,R.bind_assoc]
 refine qU (W:=MkR s r m most) (λ k ρ t=>∃(l:List Stp) (fs:List (Nat->Nat->Int)) (C:List Nat) (b:Int) (T:Sto) (z:Int) (Y x8 x9 x10 x11:Option D),Mks m l fs/\l.length=k/\C.length<=k/\ao8 m.R fs C/\T.all O.ncl=true/\ρ=ar2 s r m most z Y x8 x9 x10 x11/\t=stM s r b (l.map Stp.d) (zM m.R fs) (qR C) T) ⟨[],[],[],b1,[],z,none,none,none,none,none,.nil,rfl,ai _,λ _ h=>(by cases h),rfl,rfl,rfl⟩ (λ _ _ _ _ _=>rfl) ?_ ?_
 ·rintro k dd ρ t hk ⟨l,fs,C,b,T,z,Y,x8,x9,x10,x11,hM,hl,a4,hC,hT,rfl,rfl⟩
  have a6:=(qc hk).1
  rw[(qc hk).2]
  obtain⟨way,c1,_,f1⟩:=al8 (P:=P) n (s:=s) (b:=b) (A:=l.map Stp.d) (B:=zM m.R fs) (C:=qR C) (T:=T) hr 6 (by decide) (by decide)
  obtain⟨one,c2,ho,f2⟩:=al8 (P:=P) n (s:=s) (b:=c1) (A:=l.map Stp.d) (B:=zM m.R fs) (C:=qR C) (T:=T) hr ((k:Int)+1) (by omega) (qj (by omega))
  obtain⟨other,G,b2,f3⟩:=al8 (P:=P) n (s:=s) (b:=c2) (A:=l.map Stp.d) (B:=zM m.R fs) (C:=qR C) (T:=T) hr ((k:Int)+1) (by omega) (qj (by omega))
  obtain⟨x,f,z',y9,J,y,T',a3,a2,eI⟩:=bX7 (P:=P) (n:=n) (s:=s) (r:=r) hm (most:=most) (z:=z) (k:=k) (way:=way) (one:=one) (other:=other) (x11:=x11) (b:=G) (T:=T) hM hl (by omega) (by omega) (by omega) hC
  obtain⟨C',a5,a0,eE⟩:=bS9 (P:=P) (n:=n) (s:=s) (r:=r) hm (most:=most) (z:=z') (k:=k) (x8:=some (.int way)) (x9:=y9) (x10:=J) (x11:=y) (b:=G) (A:=(l++[x]).map Stp.d) (T:=T') (C:=C) (fs:=fs++[f]) (by have:=hM.len;simp;omega) (by omega) hC.app
  refine av8 (ρ:=ar2 s r m most z' (some (.int k)) (some (.int way)) y9 J y) (s:=stM s r G ((l++[x]).map Stp.d) (zM m.R (fs++[f])) (qR C') T') ?_ ⟨l++[x],fs++[f],C',G,T',z',_,_,_,_,_,a3,by simp;omega,by omega,a0,a2 hT,rfl,rfl⟩
  have st:turn (aa1 P (n+1)) (.one 7) (.cons (.asg (.one 8) (.call "_law_draw" (.ex (.var 0) (.ex (.cst (.int 6)) .nil)))) (.cons (.asg (.one 9) (.call "_law_draw" (.ex (.var 0) (.ex (.bin .add (.var 7) (.cst (.int 1))) .nil)))) (.cons (.asg (.one 10) (.call "_law_draw" (.ex (.var 0) (.ex (.bin .add (.var 7) (.cst (.int 1))) .nil)))) (.cons mkI (.cons mkE .nil))))) (.int k) (ar2 s r m most z Y x8 x9 x10 x11) (stM s r b (l.map Stp.d) (zM m.R fs) (qR C) T)
    = exs (aa1 P (n+1)) (.cons mkI (.cons mkE .nil)) (ar2 s r m most z (some (.int k)) (some (.int way)) (some (.int one)) (some (.int other)) x11) (stM s r G (l.map Stp.d) (zM m.R fs) (qR C) T):=by
   unfold turn ar2
   simp -implicitDefEqProofs only[zh,zF,zA,aF,za (.asg _ _),qf,zU,zI,zD,zb,qi,zw,zz,add_int,zd,ze,R.bind_ok,f1,f2,f3,zx,zl]
  rw[st,za,eI,R.bind_ok,zl,za,eE,R.bind_ok,zl,zg]
 ·rintro ρ t ⟨l,fs,C,b,T,z,Y,x8,x9,x10,x11,hM,hl,a4,hC,hT,rfl,rfl⟩
  rw[zK]at hl
  unfold ar2
  simp -implicitDefEqProofs only[zl,za,zg,qP,ev_tup,zq,zr,ev_mk,evL_seq,zb,zd,ze,R.bind_ok,ay7,bW7,mk,qb,qe]
  refine⟨l,fs,b,.lst (l.map Stp.d)::.lst (zM m.R fs)::.lst (qR C)::T,s.length+1,hM,by omega,by omega,aR5,by simp only[cK,O.ncl,bp6,bi4,aK5,hT,Bool.and_self],?_⟩
  unfold zT
  rw[show stM s r b (l.map Stp.d) (zM m.R fs) (qR C) T=s.set r (qr b)++(.lst (l.map Stp.d)::.lst (zM m.R fs)::.lst (qR C)::T)from rfl,if_pos (an4 s _ r (qr b) rfl)]
  have:(D.tup [.tup (l.map Stp.d),.ref (s.length+1)]).bnd s.length=false:=by
   unfold D.bnd D.bndL D.bndL D.bndL
   simp[D.bnd]
  simp only[this,if_false,aK]
section
variable {m:Nat} {f:Nat->Nat->Int} {x:Int}
end
noncomputable def StOk (k:Nat):Stp->Prop
 | .let_ _=>True
 | .pair i j=>i<k/\j<k/\(k<100\/(i=k - 1/\j=0))
 | .sharp i=>i<k/\k<100
def af0 (l:List Stp):Prop:=∀ k x,l[k]?=some x->StOk k x
theorem af0.nil:af0 []:=λ k x h=>by cases h
theorem af0.snoc {l:List Stp}{x:Stp}(h:af0 l)(hx:StOk l.length x):af0 (l++[x]):=λ k y e=>by
 by_cases hk:k<l.length
 ·rw[aw hk]at e;exact h k y e
 ·have G:=(ab.mp e).1
  simp at G
  have:k=l.length:=by omega
  subst this
  rw[af (ai _),ef]at e
  cases e;exact hx
theorem Mks.ok {m:Mc}{l:List Stp}{fs:List (Nat->Nat->Int)}(h:Mks m l fs):l.length<=100->af0 l:=by
 induction h with
 | nil=>intro _;exact .nil
 | let_ c h _ _ ih=>intro hl;simp at hl;exact(ih (by omega)).snoc trivial
 | pair i j f g h e1 e2 ih =>
  intro hl;simp at hl
  have:=h.len
  have:=(ab.mp e1).1
  have:=(ab.mp e2).1
  exact(ih (by omega)).snoc ⟨by omega,by omega,.inl (by omega)⟩
 | sharp i f h e1 _ ih =>
  intro hl;simp at hl
  have:=h.len
  have:=(ab.mp e1).1
  exact(ih (by omega)).snoc ⟨by omega,by omega⟩
noncomputable def ak9 (a c:Int)(vs:List Int):Stp->Int
 | .let_ _=>a
 | .pair i j=>vs.getD i 0+vs.getD j 0
 | .sharp i=>vs.getD i 0*c
noncomputable def vl (a c:Int)(l:List Stp):List Int:=l.foldl (λ vs x=>vs++[ak9 a c vs x]) []
theorem by6 {a c:Int}{l:List Stp}{x:Stp}:vl a c (l++[x])=vl a c l++[ak9 a c (vl a c l) x]:=by unfold vl;rw[eh];rfl
theorem ah3 {α:Type}{l:List α}{k:Nat}{x:α}(h:l[k]?=some x):l.take (k+1)=l.take k++[x]:=by
 rw[List.take_succ,h];rfl
theorem aH5 {a c:Int}{l:List Stp}{k:Nat}{x:Stp}(h:l[k]?=some x):vl a c (l.take (k+1))=vl a c (l.take k)++[ak9 a c (vl a c (l.take k)) x]:=by
 rw[ah3 h,by6]
theorem ap2 {a c:Int}{l:List Stp}:∀ k,k<=l.length->(vl a c (l.take k)).length=k
 | 0,_=>by simp[vl]
 | k+1,h=>by
  rw[aH5 (ag (show k<l.length by omega)),aQ,ap2 k (by omega)];rfl
noncomputable def TB:Int:=2^(2+104*99)
theorem aJ8 (k:Nat):(2:Int)^(2+104*(k+1))=2^(2+104*k)*2^104:=by rw[show 2+104*(k+1)=2+104*k+104 by omega,Int.pow_add]
theorem ji {a b:Nat}(h:a<=b):(2:Int)^a<=2^b:=by
 have y:(2:Nat)^a<=2^b:=eJ (by decide) h
 have:((2^a:Nat):Int)<=((2^b:Nat):Int):=by exact_mod_cast y
 simpa using this
theorem aO9 (a:Nat):(0:Int)<2^a:=Int.pow_pos (by decide)
theorem bK5 {a c:Int}(ha:0<=a)(a1:a<=3)(hc:0<=c)(J:c<=2^103){l:List Stp}(hl:af0 l):∀ k:Nat,k<=l.length->∀(i:Nat) (v:Int),(vl a c (l.take k))[i]?=some v->0<=v/\(i<100->v<=2^(2+104*i))/\v<=TB+3*i/\(i=0->v=a)
 | 0,_,i,v,h=>by simp[vl]at h
 | k+1,hk,i,v,h=>by
  have ih:=bK5 ha a1 hc J hl k (by omega)
  have hx:=ag (show k<l.length by omega)
  have G:=ap2 (a:=a) (c:=c) (l:=l) k (by omega)
  rw[aH5 hx]at h
  by_cases hi:i<k
  ·rw[aw (by omega)]at h
   exact ih i v h
  ·have a0:=(ab.mp h).1
   simp[G]at a0
   have:i=k:=by omega
   subst this
   rw[af (by omega),G,ef]at h
   have hw:ak9 a c (vl a c (l.take i)) l[i]=v:=av h
   clear h
   have hok:=hl i _ hx
   have g:∀ j,j<i->0<=(vl a c (l.take i)).getD j 0/\(j<100->(vl a c (l.take i)).getD j 0<=2^(2+104*j))/\(vl a c (l.take i)).getD j 0<=TB+3*j/\(j=0->(vl a c (l.take i)).getD j 0=a):=λ j hj=>by
    have e:(vl a c (l.take i))[j]?=some ((vl a c (l.take i)).getD j 0):=by
     rw[aE,ag (by omega)];rfl
    exact ih j _ e
   have hT:∀ j,j<100->(2:Int)^(2+104*j)<=TB:=λ j hj=>by unfold TB;exact ji (by omega)
   have hp:(3:Int)<=2^(2+104*i):=cc (show(3:Int)<=2^2 by decide) (ji (by omega))
   have a2:(4:Int)<=TB:=by unfold TB;exact cc (show(4:Int)<=2^2 by decide) (ji (by omega))
   generalize vl a c (l.take i)=vs at hw g
   generalize l[i]=x at hw hok
   cases x with
   | let_ ch =>
    have hz:a=v:=hw
    exact⟨by omega,λ _=>by omega,by omega,λ _=>hz.symm⟩
   | pair p q =>
    have hz:vs.getD p 0+vs.getD q 0=v:=hw
    obtain⟨Y,h2,h3⟩:=hok
    obtain⟨p1,Z,p3,_⟩:=g p Y
    obtain⟨q1,q2,q3,q4⟩:=g q h2
    obtain⟨y,rfl⟩:∃ y,i=y+1:=⟨i - 1,by omega⟩
    by_cases hi100:y+1<100
    ·have p5:vs.getD p 0<=2^(2+104*y):=cc (Z (by omega)) (ji (by omega))
     have q5:vs.getD q 0<=2^(2+104*y):=cc (q2 (by omega)) (ji (by omega))
     have e:=aJ8 y
     have b:v<=2^(2+104*(y+1)):=by
      rw[e,<-hz]
      have:(2:Int)^(2+104*y)*2<=2^(2+104*y)*2^104:=cT (by decide) (kF (aO9 _))
      omega
     have:=hT (y+1) hi100
     exact⟨by omega,λ _=>b,by omega,λ e=>by omega⟩
    ·rcases h3 with h3|⟨h3,h4⟩
     ·omega
     ·have:=q4 h4
      subst h4
      have e:p=y:=by omega
      subst e
      refine⟨by omega,λ e=>absurd e hi100,?_,λ e=>by omega⟩
      rw[<-hz,this]
      push_cast
      omega
   | sharp p =>
    have hz:vs.getD p 0*c=v:=hw
    obtain⟨Y,h2⟩:=hok
    obtain⟨p1,Z,p3,_⟩:=g p Y
    obtain⟨y,rfl⟩:∃ y,i=y+1:=⟨i - 1,by omega⟩
    have p5:vs.getD p 0<=2^(2+104*y):=cc (Z (by omega)) (ji (by omega))
    have b:v<=2^(2+104*(y+1)):=by
     rw[aJ8 y,<-hz]
     exact kg p5 (cc J (by decide)) hc (kF (aO9 _))
    have:=hT (y+1) h2
    have:0<=v:=by rw[<-hz];exact kh p1 hc
    exact⟨this,λ _=>b,by omega,λ e=>by omega⟩
theorem bt0 {v:Int}(h0:0<=v)(h:v<=TB+100000):v.natAbs<BIG:=by
 have G:TB+100000<2^11000:=by unfold TB;decide +kernel
 have y:(2:Nat)^11000<=BIG:=by unfold BIG;exact eJ (by decide) (by decide)
 have h3:((2^11000:Nat):Int)=(2:Int)^11000:=by push_cast;rfl
 omega
theorem ca5 {c:Int}(h0:0<=c)(h:c<=2^103):c.natAbs<BIG:=bt0 h0 (cc h (by
 have:(2:Int)^103<=TB:=by unfold TB;exact ji (by omega)
 omega))
theorem bH3 {a b:Int}(h:a.natAbs<BIG)(y:b.natAbs<BIG):mulOk a b=true:=by
 unfold mulOk;simp[h,y]
theorem dl0 {c:Nat}{s:Sto}:ixM (Stp.let_ c).d (.int 0) s=.ok (.str by9) s:=rfl
theorem dl1 {c:Nat}{s:Sto}:ixM (Stp.let_ c).d (.int 1) s=.ok (.str [c]) s:=rfl
theorem dp0 {i j:Nat}{s:Sto}:ixM (Stp.pair i j).d (.int 0) s=.ok (.str ar8) s:=rfl
theorem dp1 {i j:Nat}{s:Sto}:ixM (Stp.pair i j).d (.int 1) s=.ok (.int i) s:=rfl
theorem dp2 {i j:Nat}{s:Sto}:ixM (Stp.pair i j).d (.int 2) s=.ok (.int j) s:=rfl
theorem ds0 {i:Nat}{s:Sto}:ixM (Stp.sharp i).d (.int 0) s=.ok (.str aL7) s:=rfl
theorem ds1 {i:Nat}{s:Sto}:ixM (Stp.sharp i).d (.int 1) s=.ok (.int i) s:=rfl
section
variable {F:Fns} {ρ:Env} {s:Sto}
noncomputable def apV (F:Fns)(d:D)(l:List D)(s:Sto):R D:=match d with
 | .fn f=>F.call f l s
 | .clo id cs=>F.lam id cs l s
 | _=>.bad
theorem qB {i:Nat}{d:D}(es:Es)(h:ρ[i]?=some (some d)):ev F (.callV i es) ρ s=(evs F es ρ s).bind λ l s=>apV F d l s:=by
 show(evs F es ρ s).bind (λ l s=>match ρ[i]? with
  | some (some (.fn f))=>F.call f l s
  | some (some (.clo id cs))=>F.lam id cs l s
  | _=>.bad)=_
 rw[h]
 cases d<;>rfl
theorem qD {id:String}{y:List Nat}{cs:List D}(G:As)(h:ag4 ρ y=some cs):aq9 F (.lam id y G) ρ s=(aq9 F G ρ s).bind λ l s=>.ok (.clo id cs::l) s:=by
 show(match ag4 ρ y with
  | some cs=>(aq9 F G ρ s).bind λ l s=>R.ok (D.clo id cs::l) s
  | none=>.bad)=_
 rw[h]
end
theorem qE {s:Sto}{o:O}(h:s.all O.ncl=true)(ho:o.ncl=true):(s++[o]).all O.ncl=true:=by rw[c7,h];simp[ho]
noncomputable def Stp.t (c:Int):Stp->D
 | .sharp i=>.tup [.str [116,105,109,101,115],.int i,.int c]
 | x=>x.d
theorem Stp.t_bnd (c:Int)(x:Stp)(n:Nat):(x.t c).bnd n=true:=by cases x<;>rfl
theorem Stp.t_ncl (c:Int)(x:Stp):(x.t c).ncl=true:=by cases x<;>rfl
theorem ba2 {l:List Stp}{c:Int}{n:Nat}:(O.lst (l.map (Stp.t c))).bnd n=true:=by
 unfold O.bnd
 exact zQ (λ d hd n=>by obtain⟨x,_,rfl⟩:=aB.mp hd;exact x.t_bnd c n) n
theorem aU8 {l:List Stp}{c:Int}:(O.lst (l.map (Stp.t c))).ncl=true:=by
 unfold O.ncl
 exact zP λ d hd=>by obtain⟨x,_,rfl⟩:=aB.mp hd;exact x.t_ncl c
theorem jb {s:Sto}{o:O}(ho:o.bnd s.length=true):zT s (.ref s.length) (s++[o])=.ok (.ref s.length) (s++[o]):=by
 have:=ap0 (s:=s) (t:=[]) (u:=[]) ho
 simpa using this
theorem aV8 {s:Sto}{o p:O}(ho:o.bnd s.length=true):zT s (.ref (s.length+1)) (s++[p,o])=.ok (.ref s.length) (s++[o]):=ap0 (s:=s) (t:=[p]) (u:=[]) ho
theorem aq8 {P:Pr}[Has P ac6](n:Nat){l:List Stp}(hl:l.length<=5100)(c:Int)(s:Sto) :
  (aa1 P (n+1)).call "as_times" [.tup (l.map Stp.d),.int c] s=.ok (.ref s.length) (s++[.lst (l.map (Stp.t c))]):=by
 have h:(aa1 P (n+1)).call "as_times" [.tup (l.map Stp.d),.int c] s=_:=zn ac6 (n:=n) rfl
 rw[h,show(bB some [D.tup (l.map Stp.d),.int c]++ar ac6.vs none)=[some (D.tup (l.map Stp.d)),some (.int c)]from rfl]
 simp -implicitDefEqProofs only[ac6,za,zg,qP,ev_mk,av2,evI_seq,zb,zd,ze,R.bind_ok,ai9]
 rw[if_pos (by unfold LIM;rw[ax];omega)]
 obtain⟨ρ1,s1,e1,h1⟩:∃ ρ' s',jc (λ s1=>chk s s1 []) (qM (aa1 P n) (.one 0) (.ite (.cmp .eq (.ix (.var 0) (.cst (.int 0))) (.cst (.str [115,104,97,114,112]))) (.tup (.cons (.cst (.str [116,105,109,101,115])) (.cons (.ix (.var 0) (.cst (.int 1))) (.cons (.var 1) .nil)))) (.var 0))) (l.map Stp.d) (z0 [some (D.tup (l.map Stp.d)),some (.int c)] [none,some 1]) s=R.ok (l.map (Stp.t c)) s'/\s'=s/\∃ x:Option D,ρ'=[x,some (D.int c)]:=by
  have key:∀(l:List Stp) (ρ:Env),(∃ x:Option D,ρ=[x,some (D.int c)])->∃ ρ' s',jc (λ s1=>chk s s1 []) (qM (aa1 P n) (.one 0) (.ite (.cmp .eq (.ix (.var 0) (.cst (.int 0))) (.cst (.str [115,104,97,114,112]))) (.tup (.cons (.cst (.str [116,105,109,101,115])) (.cons (.ix (.var 0) (.cst (.int 1))) (.cons (.var 1) .nil)))) (.var 0))) (l.map Stp.d) ρ s=.ok (l.map (Stp.t c)) s'/\s'=s/\∃ x:Option D,ρ'=[x,some (D.int c)]:=by
   intro l
   induction l with
   | nil=>rintro ρ ⟨x,rfl⟩;exact⟨[x,some (D.int c)],s,rfl,rfl,x,rfl⟩
   | cons y l ih =>
    rintro ρ ⟨x,rfl⟩
    obtain⟨ρ2,s2,e2,rfl,G⟩:=ih [some y.d,some (.int c)] ⟨_,rfl⟩
    refine⟨ρ2,_,?_,rfl,G⟩
    have st:qM (aa1 P n) (.one 0) (.ite (.cmp .eq (.ix (.var 0) (.cst (.int 0))) (.cst (.str [115,104,97,114,112]))) (.tup (.cons (.cst (.str [116,105,109,101,115])) (.cons (.ix (.var 0) (.cst (.int 1))) (.cons (.var 1) .nil)))) (.var 0)) y.d [x,some (.int c)] s2=.ok (some (y.t c),[some y.d,some (.int c)]) s2:=by
     unfold qM
     cases y with
     | let_ ch=>simp -implicitDefEqProofs only[zh,zA,ev_ite,zO,qt,zb,zw,zz,qQ,zd,ze,R.bind_ok,dl0,qx,show(by9=[115,104,97,114,112])=False by decide,decide_false,zH,if_false,aK];rfl
     | pair i j=>simp -implicitDefEqProofs only[zh,zA,ev_ite,zO,qt,zb,zw,zz,qQ,zd,ze,R.bind_ok,dp0,qx,show(ar8=[115,104,97,114,112])=False by decide,decide_false,zH,if_false,aK];rfl
     | sharp i=>simp -implicitDefEqProofs only[zh,zA,ev_ite,zO,qt,zb,zw,zz,qQ,zd,ze,R.bind_ok,ds0,ds1,qx,show(aL7=[115,104,97,114,112])=True from eq_self _,decide_true,zH,if_true,ev_tup,zq,zr];rfl
    rw[aJ,aJ]
    unfold jc
    simp only[aY9,if_true]
    rw[st,R.bind_ok]
    simp only[aY9]at e2
    rw[e2];rfl
  exact key l _ ⟨none,rfl⟩
 obtain⟨rfl,_⟩:=h1
 rw[e1]
 simp -implicitDefEqProofs only[R.bind_ok,mk,qT,qb,qe]
 exact jb ba2
theorem tl0 {c:Int}{ch:Nat}{s:Sto}:ixM ((Stp.let_ ch).t c) (.int 0) s=.ok (.str by9) s:=rfl
theorem tl1 {c:Int}{ch:Nat}{s:Sto}:ixM ((Stp.let_ ch).t c) (.int 1) s=.ok (.str [ch]) s:=rfl
theorem tp0 {c:Int}{i j:Nat}{s:Sto}:ixM ((Stp.pair i j).t c) (.int 0) s=.ok (.str ar8) s:=rfl
theorem tp1 {c:Int}{i j:Nat}{s:Sto}:ixM ((Stp.pair i j).t c) (.int 1) s=.ok (.int i) s:=rfl
theorem tp2 {c:Int}{i j:Nat}{s:Sto}:ixM ((Stp.pair i j).t c) (.int 2) s=.ok (.int j) s:=rfl
theorem th0 {c:Int}{i:Nat}{s:Sto}:ixM ((Stp.sharp i).t c) (.int 0) s=.ok (.str as5) s:=rfl
theorem th1 {c:Int}{i:Nat}{s:Sto}:ixM ((Stp.sharp i).t c) (.int 1) s=.ok (.int i) s:=rfl
theorem th2 {c:Int}{i:Nat}{s:Sto}:ixM ((Stp.sharp i).t c) (.int 2) s=.ok (.int c) s:=rfl
theorem bb5 {P:Pr}[Has P ab7](n:Nat){l:List Stp}{c:Int}(hl:l.length<=5100)(hk:af0 l){s:Sto}{p:Nat}(hp:s[p]?=some (.lst (l.map (Stp.t c))))(d1 G J:D)(W:Nat->D)(hW:∀ k n,(W k).bnd n=true)
  (h1:∀ k ch,l[k]?=some (.let_ ch)->apV (aa1 P n) d1 [.str [ch]] (s++[.lst ((ac k).map W)])=.ok (W k) (s++[.lst ((ac k).map W)]))
  (h2:∀ k i j,l[k]?=some (.pair i j)->apV (aa1 P n) G [W i,W j] (s++[.lst ((ac k).map W)])=.ok (W k) (s++[.lst ((ac k).map W)]))
  (h3:∀ k i,l[k]?=some (.sharp i)->apV (aa1 P n) J [W i,.int c] (s++[.lst ((ac k).map W)])=.ok (W k) (s++[.lst ((ac k).map W)])) :
  (aa1 P (n+1)).call "folded" [.ref p,d1,G,J] s=.ok (.ref s.length) (s++[.lst ((ac l.length).map W)]):=by
 have e0:(aa1 P (n+1)).call "folded" [.ref p,d1,G,J] s=_:=zn ab7 (n:=n) rfl
 have Z:p<s.length:=(ab.mp hp).1
 rw[e0,show(bB some [D.ref p,d1,G,J]++ar ab7.vs none)=[some (D.ref p),some d1,some G,some J,none,none]from rfl]
 simp -implicitDefEqProofs only[ab7]
 simp -implicitDefEqProofs only[za,zg,qf,ev_lst,zr,R.bind_ok,qT,zh,zF,zA,aF,zx,zl,ex_for,evI_seq,zb,zd,ze]
 rw[show an9 (.ref p) (s++[O.lst []])=.ok ⟨l.map (Stp.t c),[p]⟩ (s++[O.lst []])by simp only[an9,jo hp]]
 simp only[R.bind_ok]
 rw[R.bind_assoc]
 refine je (λ k ρ t=>∃(x:Option D),ρ=[some (D.ref p),some d1,some G,some J,some (.ref s.length),x]/\t=s++[.lst ((ac k).map W)]) ⟨none,rfl,rfl⟩ (λ _ _ _ _ h=>?_) ?_ ?_
 ·obtain⟨_,_,rfl⟩:=h
  simp[chk,aw Z]
 ·rintro k d ρ t hkk ⟨x,rfl,rfl⟩
  rw[ao]at hkk
  obtain⟨v,hv,hd⟩:∃ v,l[k]?=some v/\Stp.t c v=d:=by
   cases e:l[k]? with
   | none=>rw[e]at hkk;cases hkk
   | some v=>rw[e]at hkk;exact⟨v,rfl,av hkk⟩
  subst hd
  have a0:=(ab.mp hv).1
  have hok:=hk k v hv
  have L1:((ac k).map W).length<LIM:=by unfold LIM;rw[ax,b7];omega
  have g0:(s++[O.lst ((ac k).map W)])[s.length]?=some (.lst ((ac k).map W)):=by rw[af (ai _)];simp
  have gW:∀ i,i<k->ixM (.ref s.length) (.int (i:Int)) (s++[O.lst ((ac k).map W)])=.ok (W i) (s++[O.lst ((ac k).map W)]):=λ i Y=>qu g0 (by rw[ao,aV Y];rfl)
  refine av8 (ρ:=[some (D.ref p),some d1,some G,some J,some (.ref s.length),some (v.t c)]) (s:=s++[.lst ((ac (k+1)).map W)]) ?_ ⟨_,rfl,rfl⟩
  rw[bL,bE]
  unfold turn
  cases v with
  | let_ ch =>
   have y:=h1 k ch hv
   simp -implicitDefEqProofs only[zh,zF,zA,aF,za,zg,qg,zO,qt,zb,zw,zz,qQ,zd,ze,R.bind_ok,tl0,qx,show(by9=[108,101,116,116,101,114])=True from eq_self _,decide_true,zH,if_true,jC,z9,zq,zr]
   rw[qB (d:=d1) _ rfl]
   simp -implicitDefEqProofs only[zq,zr,qt,zb,zw,zz,zd,ze,R.bind_ok,tl1,y]
   rw[qC L1];rfl
  | pair i j =>
   obtain⟨Y,hj,_⟩:=hok
   have y:=h2 k i j hv
   simp -implicitDefEqProofs only[zh,zF,zA,aF,za,zg,qg,zO,qt,zb,zw,zz,qQ,zd,ze,R.bind_ok,tp0,qx,show(ar8=[108,101,116,116,101,114])=False by decide,show(ar8=[112,97,105,114])=True from eq_self _,decide_true,decide_false,aK,zH,if_true,if_false,jC,z9,zq,zr]
   rw[qB (d:=G) _ rfl]
   simp -implicitDefEqProofs only[zq,zr,qt,zb,zw,zz,zd,ze,R.bind_ok,tp1,tp2,gW i Y,gW j hj,y]
   rw[qC L1];rfl
  | sharp i =>
   obtain⟨Y,_⟩:=hok
   have y:=h3 k i hv
   simp -implicitDefEqProofs only[zh,zF,zA,aF,za,zg,qg,zO,qt,zb,zw,zz,qQ,zd,ze,R.bind_ok,th0,qx,show(as5=[108,101,116,116,101,114])=False by decide,show(as5=[112,97,105,114])=False by decide,decide_false,aK,zH,if_false,jC,z9,zq,zr]
   rw[qB (d:=J) _ rfl]
   simp -implicitDefEqProofs only[zq,zr,qt,zb,zw,zz,zd,ze,R.bind_ok,th1,th2,gW i Y,y]
   rw[qC L1];rfl
 ·rintro ρ t ⟨x,rfl,rfl⟩
  rw[ax]
  simp -implicitDefEqProofs only[zl,za,zg,qP,zb,zd,ze,R.bind_ok,qb,qe]
  exact jb (by unfold O.bnd;exact zQ (λ d hd n=>by obtain⟨x,_,rfl⟩:=aB.mp hd;exact hW x n) _)
noncomputable def gdD (m:Nat)(W:Nat->Nat->D):D:=.tup ((ac m).map λ i=>.tup ((ac m).map λ j=>W i j))
theorem aX6 {m:Nat}{W:Nat->Nat->D}(h:∀ i j n,(W i j).bnd n=true)(n:Nat):(gdD m W).bnd n=true:=by
 unfold gdD D.bnd
 refine zQ (λ d hd n=>?_) n
 obtain⟨i,_,rfl⟩:=aB.mp hd
 unfold D.bnd
 refine zQ (λ d hd n=>?_) n
 obtain⟨j,_,rfl⟩:=aB.mp hd
 exact h i j n
theorem aH3 {P : Pr} [Has P ad1] (n : Nat) {m : Nat} (hm : m <= 1000) {d : D} {s : Sto} {W : Nat -> Nat -> D} (hW : ∀ i j n, (W i j).bnd n = true)
    (h : ∀ i j, i < m -> j < m -> apV (aa1 P n) d [.int i, .int j] (s ++ [.lst ((ac i).map λ i => .tup ((ac m).map λ j => W i j))]) = .ok (W i j) (s ++ [.lst ((ac i).map λ i => .tup ((ac m).map λ j => W i j))])) :
    (aa1 P (n + 1)).call "grid" [.int m, d] s = .ok (gdD m W) s := by
  have e0 : (aa1 P (n + 1)).call "grid" [.int m, d] s = _ := zn ad1 (n := n) rfl
  rw[e0, show(bB some [D.int m, d] ++ ar ad1.vs none) = [some (D.int m), some d, none, none]from rfl]
  simp -implicitDefEqProofs only[ad1]
  simp -implicitDefEqProofs only[za, zg, qf, ev_lst, zr, R.bind_ok, qT, zh, zF, zA, aF, zx, zl, ex_for, qS, zb, zd, ze]
  rw[zL (by unfold W62; omega) (by unfold W62; omega)]
  simp only[R.bind_ok]
  rw[R.bind_assoc]
  refine je (λ i ρ t => ∃(x : Option D), ρ = [some (D.int m), some d, some (.ref s.length), x] /\ t = s ++ [.lst ((ac i).map λ i => .tup ((ac m).map λ j => W i j))]) ⟨none, rfl, rfl⟩ (λ _ _ _ _ _ => rfl) ?_ ?_
  · rintro i dd ρ t hi ⟨x, rfl, rfl⟩
    have hi5 := (qc hi).1
    rw[(qc hi).2]
    generalize hS : s ++ [O.lst ((ac i).map λ i => D.tup ((ac m).map λ j => W i j))] = S
    have e1 : jc (λ s1 => chk S s1 []) (qM (aa1 P n) (.one 0) (.callV 1 (.cons (.var 2) (.cons (.var 0) .nil)))) (jy 0 (m : Int)) (z0 [some (D.int m), some d, some (.ref s.length), some (.int (i : Int))] [none, some 1, some 3]) S = .ok ((ac m).map λ j => W i j) S := by
     obtain⟨ρ1, s1, e1, h1⟩ := ah7 (ok := λ s1 => chk S s1 []) (g := qM (aa1 P n) (.one 0) (.callV 1 (.cons (.var 2) (.cons (.var 0) .nil)))) (λ ρ u => u = S /\ ∃ x, ρ = [x, some d, some (.int i)]) (λ j => W i j) m (z0 [some (D.int m), some d, some (.ref s.length), some (.int (i : Int))] [none, some 1, some 3]) S ⟨rfl, none, rfl⟩ (λ _ _ _ => rfl) (by
      rintro j hj ρ u ⟨rfl, x, rfl⟩
      refine⟨[some (.int j), some d, some (.int i)], u, ?_, rfl, _, rfl⟩
      have hc := h i j hi5 hj
      rw[hS]at hc
      unfold qM
      simp -implicitDefEqProofs only[zh, zA]
      rw[qB (d := d) _ rfl]
      simp -implicitDefEqProofs only[zq, zr, zb, zd, ze, R.bind_ok, hc])
     obtain⟨rfl, _⟩ := h1
     exact e1
    have e2 : turn (aa1 P n) (.one 3) (.cons (.ex (.meth .append (.var 2) (.cons (.mk .tuple (.comp (.one 0) (.rng1 (.var 0)) (.callV 1 (.cons (.var 2) (.cons (.var 0) .nil))) [none, some 1, some 3])) .nil))) .nil) (.int i) [some (D.int m), some d, some (.ref s.length), x] S = .ok (.next [some (D.int m), some d, some (.ref s.length), some (.int i)]) (s ++ [.lst ((ac (i + 1)).map λ i => .tup ((ac m).map λ j => W i j))]) := by
      unfold turn
      simp -implicitDefEqProofs only[zh, zF, zA, aF, za, zg, jC, z9, zq, zr, ev_mk, av2, qS, zb, zd, ze, R.bind_ok]
      rw[zL (by unfold W62; omega) (by unfold W62; omega)]
      simp only[R.bind_ok]
      rw[if_pos (by rw[zK]; unfold LIM; omega), e1, <- hS]
      simp -implicitDefEqProofs only[R.bind_ok, mk]
      rw[qC (by unfold LIM; simp; omega), bL, bE]
      rfl
    rw[e2]
    show ∃ x, _
    exact⟨some (.int i), rfl, rfl⟩
  · rintro ρ t ⟨x, rfl, rfl⟩
    rw[zK]
    have h0 : (s ++ [O.lst ((ac m).map λ i => D.tup ((ac m).map λ j => W i j))])[s.length]? = some (.lst ((ac m).map λ i => D.tup ((ac m).map λ j => W i j))) := by rw[af (ai _)]; simp
    simp -implicitDefEqProofs only[zl, za, zg, qP, ev_mk, evL_seq, zb, zd, ze, R.bind_ok, ay7, h0, mk, qb, qe]
    exact zG (d := gdD m W) (aX6 hW) (by nofun)
def InG (m:Nat)(f:Nat->Nat->Int):Prop:=∀ i j,i<m->j<m->0<=f i j/\f i j<=3
section
variable {P:Pr} [Has P ad1] [Has P zN] [HasL P zB]
end
noncomputable def ae9 (S:Int->Prop):Option Int->Prop
 | none=>∀ c,¬ S c
 | some c=>S c/\∀ c',S c'->c<=c'
theorem ae9.eq {S S':Int->Prop}{o y:Option Int}(h:ae9 S o)(h':ae9 S' y)(e:∀ c,S c↔S' c):o=y:=by
 cases o with
 | none =>
  cases y with
  | none=>rfl
  | some c=>exact absurd ((e c).mpr h'.1) (h c)
 | some c =>
  cases y with
  | none=>exact absurd ((e c).mp h.1) (h' c)
  | some c' =>
   have J:=h.2 c' ((e c').mpr h'.1)
   have G:=h'.2 c ((e c).mp h.1)
   rw[show c=c' by omega]
theorem ae9.congr {S S':Int->Prop}{o:Option Int}(h:ae9 S o)(e:∀ c,S c↔S' c):ae9 S' o:=by
 cases o with
 | none=>exact λ c hc=>h c ((e c).mpr hc)
 | some c=>exact⟨(e c).mp h.1,λ y hc=>h.2 y ((e y).mpr hc)⟩
noncomputable def minO:Option Int->Option Int->Option Int
 | none,x=>x
 | some a,none=>some a
 | some a,some b=>if b<a then some b else some a
noncomputable def Wk (ds:List Dr):List Nat->Nat->Nat->Int->Prop
 | [],p,q,c=>p=q/\c=0
 | x::w,p,q,c=>∃ d∈ds,d.a=p/\d.l=x/\∃ c':Int,Wk ds w d.b q c'/\c=(d.t:Int)+c'
noncomputable def Dr.turn (x:Dr):Dr:=⟨x.b,x.l,x.a,x.t⟩
def Mc.Wk (m:Mc)(w:List Nat)(c:Int):Prop:=∃ p∈m.bg,∃ q∈m.en,DV.Wk m.ds w p q c
noncomputable def Mc.turn (m:Mc):Mc:=⟨m.L,m.R,m.en,m.bg,m.ds.map Dr.turn⟩
noncomputable def aS4 (row:List (Option Int)):List D:=row.map zV
theorem bm1 (row:List (Option Int)):(aS4 row).length=row.length:=ax ..
theorem au5:∀ l:List Int,ja (l.map D.int)=some l
 | []=>rfl
 | a::l=>by rw[aJ];unfold ja;rw[au5 l];rfl
theorem az6:∀(l:List Int) (a:Int),(l.foldl min a=a\/l.foldl min a∈l)/\l.foldl min a<=a/\∀ y∈l,l.foldl min a<=y
 | [],a=>⟨.inl rfl,eF _,λ y hy=>by cases hy⟩
 | b::l,a=>by
  obtain⟨G,J,h3⟩:=az6 l (min a b)
  rw[cj]
  refine⟨?_,by omega,λ y hy=>?_⟩
  ·rcases G with h|h
   ·rw[h]
    rcases kC a b with z|z
    ·left;omega
    ·right;rw[show min a b=b by omega];exact aH ..
   ·exact .inr (az _ h)
  ·rcases aI.mp hy with z|z
   ·rw[z];omega
   ·exact h3 y z
theorem aS0 (l:List Int):ae9 (λ c=>c∈l) (minI l):=by
 cases l with
 | nil=>exact λ c hc=>by cases hc
 | cons a l =>
  obtain⟨J,G,h3⟩:=az6 l a
  refine⟨?_,λ y hy=>?_⟩
  ·rcases J with h|h
   ·rw[h];exact aH ..
   ·exact az _ h
  ·rcases aI.mp hy with z|z
   ·rw[z];exact G
   ·exact h3 y z
theorem bG1 (l:List Int)(s:Sto):mkD .min (l.map D.int) .non s=.ok (zV (minI l)) s:=by
 unfold mkD
 simp only[au5]
 cases minI l<;>rfl
theorem aj9 {α β:Type}{f g:α->Option β}:∀ {l:List α},(∀ x∈l,f x=g x)->l.filterMap f=l.filterMap g
 | [],_=>rfl
 | a::l,h=>by rw[bv,bv,h a (aH ..),aj9 λ x hx=>h x (az _ hx)]
end DV
end
local macro_rules | `(tactic| tbr_iter [$xs,*]) => `(tactic| simp -implicitDefEqProofs only [DV.za, DV.zg, DV.qf, DV.qg, DV.qP, DV.jC, DV.ex_for, DV.ex_whl, DV.ex_setIx, DV.ex_cont, DV.ex_pass, DV.ex_und, DV.zb, DV.zw, DV.qi, DV.ev_not, DV.zO, DV.ev_and, DV.ev_or, DV.ev_ite, DV.ev_tup, DV.ev_lst, DV.qt, DV.zU, DV.ev_bi, DV.ev_mk, DV.ev_mkD, DV.ev_mks, DV.ev_mkDs, DV.z9, DV.ev_isN, DV.ev_notN, DV.zr, DV.zq, DV.zD, DV.zI, DV.evI_seq, DV.qS, DV.evL_seq, DV.Cn_bl, DV.zz, DV.Cn_non, DV.qQ, DV.R.bind_ok, DV.zh, DV.bindT_tup, DV.setVs_nil, DV.jv, DV.zF, DV.zA, DV.unsetV_s, DV.unsetV_0, DV.zd, DV.ze, Option.map_some, Option.bind_some, DV.zx, DV.zl, DV.qb, DV.nxt_cont, DV.qe, DV.fin_next, DV.add_int, DV.sub_int, DV.lt_int, DV.le_int, DV.gt_int, DV.ge_int, DV.eq_int, DV.ne_int, DV.qT, DV.zH, if_true, if_false, Bool.false_eq_true, decide_true, decide_false, Bool.not_true, Bool.not_false, $[$xs:term],*])
noncomputable section
namespace DV
noncomputable def gdO (m:Nat)(f:Nat->Nat->Option Int):D:=gdD m λ i j=>zV (f i j)
theorem al3 (o:Option Int):(zV o).ncl=true:=by cases o<;>rfl
theorem jF {m:Nat}{f:Nat->Nat->Option Int}(n:Nat):(gdO m f).bnd n=true:=aX6 (λ i j n=>jd _ n) n
theorem ai7 {m:Nat}{f:Nat->Nat->Option Int}:(gdO m f).ncl=true:=by
 unfold gdO gdD D.ncl
 refine zP λ d hd=>?_
 obtain⟨i,_,rfl⟩:=aB.mp hd
 unfold D.ncl
 refine zP λ d hd=>?_
 obtain⟨j,_,rfl⟩:=aB.mp hd
 exact al3 _
noncomputable def rowO (m:Nat)(f:Nat->Option Int):List D:=(ac m).map λ j=>zV (f j)
theorem am4 {m:Nat}{f:Nat->Option Int}:(rowO m f).length=m:=by unfold rowO;simp
theorem al9 {m j:Nat}{f:Nat->Option Int}(h:j<m):(rowO m f)[j]?=some (zV (f j)):=by unfold rowO;rw[ao,aV h];rfl
theorem bc3 {m i:Nat}{f:Nat->Nat->Option Int}(h:i<m)(s:Sto):ixM (gdO m f) (.int (i:Int)) s=.ok (.tup (rowO m (f i))) s:=ix_tup (by rw[ao,aV h];rfl)
theorem ay8 {m j:Nat}{f:Nat->Option Int}(h:j<m)(s:Sto):ixM (.tup (rowO m f)) (.int (j:Int)) s=.ok (zV (f j)) s:=ix_tup (al9 h)
theorem aF9 {m:Nat}{f:Nat->Nat->Option Int}{s:Sto}:bi .len [gdO m f] s=.ok (.int m) s:=by unfold gdO gdD;rw[bu6];simp
theorem bg6 {m:Nat}{f g:Nat->Nat->Option Int}(h:∀ i j,i<m->j<m->f i j=g i j):gdO m f=gdO m g:=by
 unfold gdO gdD
 congr 1
 refine b8 λ i y=>?_
 congr 1
 exact b8 λ j hj=>by show zV (f i j)=zV (g i j);rw[h i j (bA.mp y) (bA.mp hj)]
noncomputable def addO:Option Int->Option Int->Option Int
 | some a,some b=>some (a+b)
 | _,_=>none
theorem aq5:∀ l:List (Option Int),(aS4 l).filterMap (λ d=>if d=D.non then none else some d)=(l.filterMap id).map D.int
 | []=>rfl
 | o::l=>by
  have h:=aq5 l
  unfold aS4 at h ⊢
  cases o with
  | none=>rw[aJ,bv,bv];simpa using h
  | some i=>rw[aJ,bv,bv];simpa using h
theorem aP0 {P:Pr}[Has P ad0](n:Nat){s:Sto}{q:Nat}{l:List (Option Int)}(hq:s[q]?=some (.lst (aS4 l)))(hl:l.length<=1000):(aa1 P (n+1)).call "least" [.ref q] s=.ok (zV (minI (l.filterMap id))) s:=by
 have y:(aa1 P (n+1)).call "least" [.ref q] s=_:=zn ad0 (n:=n) rfl
 rw[y,show(bB some [D.ref q]++ar ad0.vs none)=[some (D.ref q)]from rfl]
 have G:an9 (.ref q) s=.ok ⟨aS4 l,[q]⟩ s:=by simp only[an9,hq]
 obtain⟨ρ1,s1,e1,rfl,_⟩:=ah9 (ok:=λ s1=>chk s s1 [q]) (g:=aC7 (aa1 P n) (.one 0) (.notN (.var 0)) (.var 0)) (λ ρ u=>u=s/\∃ x,ρ=[x]) (λ d=>if d=D.non then none else some d) (aS4 l) [none] s ⟨rfl,none,rfl⟩ (λ _ u h=>by obtain⟨rfl,_⟩:=h;simp[chk]) (by
  rintro d hd ρ u ⟨rfl,x,rfl⟩
  refine⟨[some d],u,?_,rfl,_,rfl⟩
  unfold aC7
  by_cases hn:d=.non
  ·tbr_iter [hn]
  ·tbr_iter [hn])
 rw[aq5]at e1
 simp -implicitDefEqProofs only[ad0]
 tbr_iter [jz,G,if_pos (show(aS4 l).length<=LIM by rw[bm1];unfold LIM;omega),show z0 [some (D.ref q)] [none]=[none]from rfl,e1,bG1]
 exact aQ3
theorem bk9 {P:Pr}[Has P ad3](n:Nat)(a b:Option Int)(s:Sto):(aa1 P (n+1)).call "added" [zV a,zV b] s=.ok (zV (addO a b)) s:=by
 have h:(aa1 P (n+1)).call "added" [zV a,zV b] s=_:=zn ad3 (n:=n) rfl
 rw[h,show(bB some [zV a,zV b]++ar ad3.vs none)=[some (zV a),some (zV b)]from rfl]
 simp -implicitDefEqProofs only[ad3]
 cases a with
 | none=>tbr_iter [aq2,show(D.non=D.non)=True from eq_self _];exact aq4
 | some a=>cases b with
  | none=>tbr_iter [aq2,aq6,show(D.non=D.non)=True from eq_self _,show(D.int a=D.non)=False from eq_false (by nofun)];exact aq4
  | some b=>tbr_iter [aq6,show(D.int a=D.non)=False from eq_false (by nofun),show(D.int b=D.non)=False from eq_false (by nofun)];exact qh
noncomputable def prO (m:Nat)(f g:Nat->Nat->Option Int)(i j:Nat):Option Int:=minI (((ac m).map λ k=>addO (f i k) (g k j)).filterMap id)
theorem ay5 {s:Sto}(hs:s.all O.ncl=true){m i:Nat}{W:Nat->Nat->D}(h:∀ i j,(W i j).ncl=true):(s++[O.lst ((ac i).map λ i=>D.tup ((ac m).map λ j=>W i j))]).all O.ncl=true:=by
 refine qE hs (zP λ d hd=>?_)
 obtain⟨x,_,rfl⟩:=aB.mp hd
 unfold D.ncl
 exact zP λ d hd=>by obtain⟨x,_,rfl⟩:=aB.mp hd;exact h _ _
section
variable {P:Pr} [Has P ad1]
theorem aJ5 [Has P ad7][HasL P aa8](n:Nat){m:Nat}(hm:m<=5){s:Sto}(hs:s.all O.ncl=true) :
  (aa1 P (n+3)).call "plain" [.int m] s=.ok (gdO m λ i j=>if i=j then some 0 else none) s:=by
 have y:(aa1 P (n+3)).call "plain" [.int m] s=_:=zn ad7 (n:=n+2) rfl
 have J:=aH3 (P:=P) (n+1) (m:=m) (by omega) (d:=.clo "plain.0" []) (s:=s) (W:=λ i j=>zV (if i=j then some 0 else none)) (λ _ _ n=>jd _ n) (λ i j Z hj=>by
  generalize G:s++[O.lst ((ac i).map λ i=>D.tup ((ac m).map λ j=>zV (if i=j then some 0 else none)))]=S
  have Y:S.all O.ncl=true:=by rw[<-G];exact ay5 hs (W:=λ i j=>zV (if i=j then some 0 else none)) (λ _ _=>al3 _)
  refine(jk aa8 (n:=n) rfl rfl (by rw[Y];rfl)).trans ?_
  show(ev (aa1 P n) aa8.body [some (.int i),some (.int j)] S).bind (zT S)=_
  simp -implicitDefEqProofs only[aa8]
  by_cases h:i=j
  ·tbr_iter [show((i:Int)=(j:Int))=True from eq_true (by omega),if_pos h,aq6];exact qh
  ·tbr_iter [show((i:Int)=(j:Int))=False from eq_false (by omega),if_neg h,aq2];exact aq4)
 rw[y,show(bB some [D.int m]++ar ad7.vs none)=[some (D.int m)]from rfl]
 simp -implicitDefEqProofs only[ad7]
 tbr_iter [jw]
 rw[qD (cs:=[]) _ rfl]
 have e:gdD m (λ i j=>zV (if i=j then some 0 else none))=gdO m (λ i j=>if i=j then some 0 else none):=rfl
 tbr_iter [J,e,if_pos (show((gdO m λ i j=>if i=j then some 0 else none).ncl&&s.all O.ncl)=true by rw[ai7,hs];rfl)]
 exact zv jF (by nofun)
theorem jg [Has P ad0][Has P ad3][Has P ab5][HasL P aa4](n:Nat){m:Nat}(hm:m<=5)(f g:Nat->Nat->Option Int){s:Sto}(hs:s.all O.ncl=true) :
  (aa1 P (n+4)).call "product" [gdO m f,gdO m g] s=.ok (gdO m (prO m f g)) s:=by
 have y:(aa1 P (n+4)).call "product" [gdO m f,gdO m g] s=_:=zn ab5 (n:=n+3) rfl
 have hg:=aH3 (P:=P) (n+2) (m:=m) (by omega) (d:=.clo "product.0" [.int m,gdO m f,gdO m g]) (s:=s) (W:=λ i j=>zV (prO m f g i j)) (λ _ _ n=>jd _ n) (λ i j J hj=>by
  generalize Y:s++[O.lst ((ac i).map λ i=>D.tup ((ac m).map λ j=>zV (prO m f g i j)))]=S
  have nS:S.all O.ncl=true:=by rw[<-Y];exact ay5 hs (W:=λ i j=>zV (prO m f g i j)) (λ _ _=>al3 _)
  refine(jk aa4 (n:=n+1) rfl rfl (by rw[nS];simp[D.nclL,D.ncl,ai7])).trans ?_
  show(ev (aa1 P (n+1)) aa4.body [some (.int i),some (.int j),some (.int m),some (gdO m f),some (gdO m g)] S).bind (zT S)=_
  obtain⟨ρ1,s1,e1,rfl,_⟩:=ah7 (ok:=λ s1=>chk S s1 []) (g:=qM (aa1 P (n+1)) (.one 0) (.call "added" (.ex (.ix (.ix (.var 1) (.var 2)) (.var 0)) (.ex (.ix (.ix (.var 3) (.var 0)) (.var 4)) .nil)))) (λ ρ u=>u=S/\∃ x,ρ=[x,some (gdO m f),some (.int i),some (gdO m g),some (.int j)]) (λ k=>zV (addO (f i k) (g k j))) m [none,some (gdO m f),some (.int i),some (gdO m g),some (.int j)] S ⟨rfl,none,rfl⟩ (λ _ _ _=>rfl) (by
   rintro k hk ρ u ⟨rfl,x,rfl⟩
   refine⟨[some (.int k),some (gdO m f),some (.int i),some (gdO m g),some (.int j)],u,?_,rfl,_,rfl⟩
   unfold qM
   tbr_iter [bc3 J,bc3 hk,ay8 hk,ay8 hj,bk9 n])
  have Z:((ac m).map λ k=>zV (addO (f i k) (g k j)))=aS4 ((ac m).map λ k=>addO (f i k) (g k j)):=by unfold aS4;rw[cI];rfl
  rw[Z]at e1
  have h:∀ q (s:Sto),mk .list q s=.ok (.ref s.length) (s++[.lst q]):=λ _ _=>rfl
  have G:=aP0 (P:=P) n (s:=s1++[O.lst (aS4 ((ac m).map λ k=>addO (f i k) (g k j)))]) (q:=s1.length) (l:=(ac m).map λ k=>addO (f i k) (g k j)) (by rw[af (ai _)];simp) (by simp;omega)
  simp -implicitDefEqProofs only[aa4]
  tbr_iter [av2,zL (s:=s1) (i:=(m:Int)) (by unfold W62;omega) (by unfold W62;omega),if_pos (show(jy 0 (m:Int)).length<=LIM by rw[zK];unfold LIM;omega),show z0 [some (D.int (i:Int)),some (D.int (j:Int)),some (D.int (m:Int)),some (gdO m f),some (gdO m g)] [none,some 3,some 0,some 4,some 1]=[none,some (gdO m f),some (.int i),some (gdO m g),some (.int j)]from rfl,e1,h,G]
  exact zG (jd _) (ay2 _))
 rw[y,show(bB some [gdO m f,gdO m g]++ar ab5.vs none)=[some (gdO m f),some (gdO m g),none]from rfl]
 simp -implicitDefEqProofs only[ab5]
 tbr_iter [aF9,jw]
 rw[qD (cs:=[.int m,gdO m f,gdO m g]) _ rfl]
 have e:gdD m (λ i j=>zV (prO m f g i j))=gdO m (prO m f g):=rfl
 tbr_iter [hg,e,if_pos (show((gdO m (prO m f g)).ncl&&s.all O.ncl)=true by rw[ai7,hs];rfl)]
 exact zv jF (by nofun)
end
theorem ae9.low {S:Int->Prop}{l:List Int}(J:∀ x∈l,S x)(G:∀ c,S c->∃ x∈l,x<=c):ae9 S (minI l):=by
 have h:=aS0 l
 cases e:minI l with
 | none =>
  rw[e]at h
  exact λ c hc=>by obtain⟨x,hx,_⟩:=G c hc;exact h x hx
 | some i =>
  rw[e]at h
  refine⟨J i h.1,λ c hc=>?_⟩
  obtain⟨x,hx,y⟩:=G c hc
  exact cc (h.2 x hx) y
theorem be5 {m:Nat}{A B:Nat->Nat->Int->Prop}{f g:Nat->Nat->Option Int}(J:∀ i j,i<m->j<m->ae9 (A i j) (f i j))(Y:∀ i j,i<m->j<m->ae9 (B i j) (g i j)){i j:Nat}(G:i<m)(hj:j<m) :
  ae9 (λ c=>∃ k,k<m/\∃ a b,A i k a/\B k j b/\c=a+b) (prO m f g i j):=by
 unfold prO
 refine ae9.low (λ x hx=>?_) λ c hc=>?_
 ·obtain⟨o,ho,e⟩:=bN.mp hx
  obtain⟨k,hk,rfl⟩:=aB.mp ho
  have hk:=bA.mp hk
  have y:=J i k G hk
  have h:=Y k j hk hj
  cases e1:f i k with
  | none=>rw[e1]at e;cases e
  | some a =>
   cases e2:g k j with
   | none=>rw[e1,e2]at e;cases e
   | some b =>
    rw[e1]at y;rw[e2]at h
    rw[e1,e2]at e
    cases e
    exact⟨k,hk,a,b,y.1,h.1,rfl⟩
 ·obtain⟨k,hk,a,b,ha,hb,rfl⟩:=hc
  have y:=J i k G hk
  have h:=Y k j hk hj
  cases e1:f i k with
  | none=>rw[e1]at y;exact absurd ha (y a)
  | some a' =>
   cases e2:g k j with
   | none=>rw[e2]at h;exact absurd hb (h b)
   | some b' =>
    rw[e1]at y;rw[e2]at h
    refine⟨a'+b',bN.mpr ⟨some (a'+b'),aB.mpr ⟨k,bA.mpr hk,by rw[e1,e2];rfl⟩,rfl⟩,?_⟩
    have:=y.2 a ha
    have:=h.2 b hb
    omega
def al1 (m:Mc)(w:List Nat)(f:Nat->Nat->Option Int):Prop:=∀ i j,i<m.R->j<m.R->ae9 (Wk m.ds w i j) (f i j)
theorem al1.eq {m:Mc}{w:List Nat}{f g:Nat->Nat->Option Int}(h:al1 m w f)(h':al1 m w g):gdO m.R f=gdO m.R g:=bg6 λ i j y hj=>(h i j y hj).eq (h' i j y hj) λ _=>Iff.rfl
theorem be3 {y:List Dr}:∀ {v w:List Nat} {p q:Nat} {c:Int},Wk y (v++w) p q c↔∃ k a b,Wk y v p k a/\Wk y w k q b/\c=a+b
 | [],w,p,q,c=>by
  constructor
  ·intro h;exact⟨p,0,c,⟨rfl,rfl⟩,h,by omega⟩
  ·rintro⟨k,a,b,⟨rfl,rfl⟩,h,e⟩
   have:c=b:=by omega
   rw[this];exact h
 | x::v,w,p,q,c=>by
  show(∃ d∈y,_)↔_
  constructor
  ·rintro⟨d,hd,J,Z,c',h3,e⟩
   obtain⟨k,a,b,G,Y,e2⟩:=be3.mp h3
   exact⟨k,a+d.t,b,⟨d,hd,J,Z,a,G,by omega⟩,Y,by omega⟩
  ·rintro⟨k,a,b,⟨d,hd,J,Z,a',G,e⟩,Y,e2⟩
   exact⟨d,hd,J,Z,a'+b,be3.mpr ⟨k,a',b,G,Y,rfl⟩,by omega⟩
theorem bS0 {m:Mc}(y:m.Ok):∀ {w:List Nat} {p q:Nat} {c:Int},p<m.R->Wk m.ds w p q c->q<m.R
 | [],p,q,c,hp,h=>by obtain⟨rfl,_⟩:=h;exact hp
 | x::w,p,q,c,hp,h=>by
  obtain⟨d,hd,_,_,G,h3,_⟩:=h
  exact bS0 y (y.ds.1 d hd).b h3
theorem al1.nil {m:Mc}:al1 m [] λ i j=>if i=j then some 0 else none:=λ i j y hj=>by
 show ae9 (Wk m.ds [] i j) (if i=j then some 0 else none)
 by_cases h:i=j
 ·rw[if_pos h];exact⟨⟨h,rfl⟩,λ c hc=>by have:=hc.2;omega⟩
 ·rw[if_neg h];exact λ c hc=>h hc.1
theorem al1.mul {m:Mc}(Y:m.Ok){v w:List Nat}{f g:Nat->Nat->Option Int}(h:al1 m v f)(h':al1 m w g):al1 m (v++w) (prO m.R f g):=λ i j J hj=>(be5 h h' J hj).congr λ c=>by
 rw[be3]
 constructor
 ·rintro⟨k,_,a,b,y,G,e⟩;exact⟨k,a,b,y,G,e⟩
 ·rintro⟨k,a,b,y,G,e⟩;exact⟨k,bS0 Y J y,a,b,y,G,e⟩
noncomputable def ltF (ds:List Dr)(c i j:Nat):Option Int:=minI (ds.filterMap λ d=>if d.a=i/\d.l=c/\d.b=j then some (d.t:Int)else none)
theorem aU7 {G:List Dr}{x p q:Nat}{c:Int}:Wk G [x] p q c↔∃ d∈G,d.l=x/\d.a=p/\d.b=q/\c=d.t:=by
 constructor
 ·rintro⟨d,hd,y,h,Y,⟨h3,J⟩,e⟩;exact⟨d,hd,h,y,h3,by omega⟩
 ·rintro⟨d,hd,y,h,h3,e⟩;exact⟨d,hd,h,y,0,⟨h3,rfl⟩,by omega⟩
theorem al1.letter {m:Mc}(c:Nat):al1 m [c] (ltF m.ds c):=λ i j J hj=>by
 unfold ltF
 refine ae9.low (λ x hx=>?_) λ x hx=>?_
 ·obtain⟨d,hd,e⟩:=bN.mp hx
  split at e
  ·rename_i h;cases e;exact aU7.mpr ⟨d,hd,h.2.1,h.1,h.2.2,rfl⟩
  ·cases e
 ·obtain⟨d,hd,G,y,h3,e⟩:=aU7.mp hx
  exact⟨x,bN.mpr ⟨d,hd,by rw[if_pos ⟨y,G,h3⟩,e]⟩,eF _⟩
theorem aW5 {a b i j l c:Nat}{s:Sto}:qz .eq (.tup [.int (a:Int),.str [l],.int (b:Int)]) (.tup [.int (i:Int),.str [c],.int (j:Int)]) s=.ok (.bl (decide (a=i/\l=c/\b=j))) s:=by
 have:eqv s DEEP (.tup [.int (a:Int),.str [l],.int (b:Int)]) (.tup [.int (i:Int),.str [c],.int (j:Int)])=some (((a:Int)==(i:Int))&&(([l]==[c])&&(((b:Int)==(j:Int))&&true))):=rfl
 show(match eqv s DEEP (.tup [.int (a:Int),.str [l],.int (b:Int)]) (.tup [.int (i:Int),.str [c],.int (j:Int)])with|some r=>R.ok (D.bl r) s|none=>.bad)=_
 rw[this]
 show R.ok (D.bl _) s=_
 congr 2
 rw[dN]
 simp
 omega
section
variable {P:Pr} [Has P ad1] [Has P ad0] [Has P aa6] [Has P ab3] [Has P aa3] [HasL P aa2]
theorem br8 {m:Mc}:m.d.ncl=true:=by
 unfold Mc.d Mc.ps D.ncl
 simp only[D.nclL,D.ncl,aK5,dI,cL]
 exact zP λ d hd=>by obtain⟨x,_,rfl⟩:=aB.mp hd;rfl
theorem jq (n:Nat){m:Mc}(hm:m.Ok)(c:Nat){s:Sto}(hs:s.all O.ncl=true) :
  (aa1 P (n+4)).call "letter_table" [m.d,.str [c]] s=.ok (gdO m.R (ltF m.ds c)) s:=by
 have e0:(aa1 P (n+4)).call "letter_table" [m.d,.str [c]] s=_:=zn aa3 (n:=n+3) rfl
 have hR:=hm.R5
 have hD:=hm.ds.2
 have hg:=aH3 (P:=P) (n+2) (m:=m.R) (by omega) (d:=.clo "letter_table.least_fee" [m.d,.str [c]]) (s:=s) (W:=λ i j=>zV (ltF m.ds c i j)) (λ _ _ n=>jd _ n) (λ i j hi hj=>by
  generalize hS:s++[O.lst ((ac i).map λ i=>D.tup ((ac m.R).map λ j=>zV (ltF m.ds c i j)))]=S
  have nS:S.all O.ncl=true:=by rw[<-hS];exact ay5 hs (W:=λ i j=>zV (ltF m.ds c i j)) (λ _ _=>al3 _)
  refine(jk aa2 (n:=n+1) rfl rfl (by rw[nS];simp[D.nclL,D.ncl,br8])).trans ?_
  show(ev (aa1 P (n+1)) aa2.body [some (.int i),some (.int j),some m.d,some (.str [c])] S).bind (zT S)=_
  obtain⟨ρ1,s1,e1,rfl,_⟩:=ah9 (ok:=λ s1=>chk S s1 []) (g:=aC7 (aa1 P (n+1)) (.tup [0,1,2,3]) (.cmp .eq (.tup (.cons (.var 0) (.cons (.var 1) (.cons (.var 2) .nil)))) (.tup (.cons (.var 4) (.cons (.var 5) (.cons (.var 6) .nil))))) (.var 3)) (λ ρ u=>u=S/\∃ G x1 Z x3,ρ=[G,x1,Z,x3,some (.int (i:Int)),some (.str [c]),some (.int (j:Int))]) (λ d=>match d with|.tup [.int a,.str [l],.int b,.int t]=>if a=i/\l=c/\b=j then some (.int t)else none|_=>none) (m.ds.map Dr.d) [none,none,none,none,some (.int (i:Int)),some (.str [c]),some (.int (j:Int))] S ⟨rfl,none,none,none,none,rfl⟩ (λ _ _ _=>rfl) (by
   rintro d hd ρ u ⟨rfl,G,x1,Z,x3,rfl⟩
   obtain⟨x,_,rfl⟩:=aB.mp hd
   refine⟨[some (.int x.a),some (.str [x.l]),some (.int x.b),some (.int x.t),some (.int i),some (.str [c]),some (.int j)],u,?_,rfl,_,_,_,_,rfl⟩
   unfold aC7 Dr.d
   by_cases h:x.a=i/\x.l=c/\x.b=j
   ·tbr_iter [aW5,h]
    simp
   ·have h2:¬((x.a:Int)=(i:Int)/\x.l=c/\(x.b:Int)=(j:Int)):=by omega
    tbr_iter [aW5,h,if_neg h2])
  have er:(m.ds.map Dr.d).filterMap (λ d=>match d with|.tup [.int a,.str [l],.int b,.int t]=>if a=i/\l=c/\b=j then some (D.int t)else none|_=>none)=aS4 ((m.ds.filterMap λ d=>if d.a=i/\d.l=c/\d.b=j then some (d.t:Int)else none).map some):=by
   unfold aS4
   rw[cI,dQ,List.map_filterMap]
   refine aj9 λ x _=>?_
   unfold Dr.d
   simp only[iq]
   by_cases h:x.a=i/\x.l=c/\x.b=j
   ·rw[if_pos h,if_pos (by omega)];rfl
   ·rw[if_neg h,if_neg (by omega)];rfl
  rw[er]at e1
  generalize Y:(m.ds.filterMap λ d=>if d.a=i/\d.l=c/\d.b=j then some (d.t:Int)else none)=L at e1
  have a0:L.length<=75:=by rw[<-Y];exact am (fL _ _) hD
  have y:∀ q (s:Sto),mk .list q s=.ok (.ref s.length) (s++[.lst q]):=λ _ _=>rfl
  have J:=aP0 (P:=P) n (s:=s1++[O.lst (aS4 (L.map some))]) (q:=s1.length) (l:=L.map some) (by rw[af (ai _)];simp) (by simp;omega)
  have eL:(L.map some).filterMap id=L:=by rw[dQ];exact List.filterMap_some
  rw[eL]at J
  simp -implicitDefEqProofs only[aa2]
  tbr_iter [aF6 n,ai9,jz,if_pos (show(m.ds.map Dr.d).length<=LIM by rw[ax];unfold LIM;omega),show z0 [some (D.int (i:Int)),some (D.int (j:Int)),some m.d,some (D.str [c])] [none,none,none,none,some 0,some 3,some 1]=[none,none,none,none,some (.int (i:Int)),some (.str [c]),some (.int (j:Int))]from rfl,e1,y,J]
  rw[<-Y]
  exact zG (jd _) (ay2 _))
 rw[e0,show(bB some [m.d,D.str [c]]++ar aa3.vs none)=[some m.d,some (D.str [c]),none]from rfl]
 simp -implicitDefEqProofs only[aa3]
 tbr_iter [jw,jh (n+2)]
 rw[qD (cs:=[m.d,.str [c]]) _ rfl]
 have e:gdD m.R (λ i j=>zV (ltF m.ds c i j))=gdO m.R (ltF m.ds c):=rfl
 tbr_iter [hg,e,if_pos (show((gdO m.R (ltF m.ds c)).ncl&&s.all O.ncl)=true by rw[ai7,hs];rfl)]
 exact zv jF (by nofun)
end
theorem bj8 {s:Sto}{o:O}:(s++[o])[s.length]?=some o:=by rw[af (ai _)];simp
theorem bT5 (a:List Nat):(sg a).length=a.length:=by unfold sg;exact ax _
theorem ay4 (k a v:D):∀ l:List (D×D),look k (l++[(a,v)])=match look k l with|some x=>some x|none=>if a=k then some v else none
 | []=>by unfold look;rfl
 | (b,u)::l=>by
  rw[cw]
  unfold look
  by_cases h:b=k
  ·rw[if_pos h,if_pos h]
  ·rw[if_neg h,if_neg h];exact ay4 k a v l
theorem aC2 {s:Sto}{r:Nat}{l:List (D×D)}{k:D}(h:s[r]?=some (.dic l))(hk:k.key=true):qz .notin k (.ref r) s=.ok (.bl (!(look k l).isSome)) s:=by
 show(inM k (.ref r) s).bind (λ r s=>R.ok (D.bl (!r)) s)=_
 simp only[inM,h,hk,if_true,R.bind_ok]
theorem br0 {s:Sto}{r:Nat}{l:List (D×D)}{k v:D}(h:s[r]?=some (.dic l))(hk:k.key=true)(hv:look k l=some v):ixM (.ref r) k s=.ok v s:=by
 simp only[ixM,h,hk,if_true,hv]
theorem bI9 {s:Sto}{r:Nat}{l:List (D×D)}{k v:D}(h:s[r]?=some (.dic l))(hk:k.key=true)(hl:l.length<LIM):setIx (.ref r) k v s=.ok () (s.set r (.dic (aT3 k v l))):=by
 simp[setIx,h,hk,hl]
theorem bv0 {F:Fns}{ρ:Env}{s:Sto}:ev F (.dic .nil .nil) ρ s=.ok (.ref s.length) (s++[.dic []]):=rfl
theorem bB6 {k v:D}{l:List (D×D)}(h:look k l=none):aT3 k v l=l++[(k,v)]:=by unfold aT3;rw[h];rfl
theorem bp0 {s:Sto}{o p:O}:(s++[o]).set s.length p=s++[p]:=by rw[br _ _ (ai _)];simp
section
variable {P:Pr} [Has P ad1] [Has P ad0] [Has P ad3] [Has P aa6] [Has P ab3] [Has P aa3] [HasL P aa2] [Has P ad7] [HasL P aa8] [Has P ab5] [HasL P aa4] [Has P ab0]
def bJ0 (m:Mc)(l:List (D×D)):Prop:=(∀ c v,look (.str [c]) l=some v->v=gdO m.R (ltF m.ds c))/\∀ p∈l,p.2.ncl=true
theorem bJ0.nil {m:Mc}:bJ0 m []:=⟨λ c v h=>(by cases h),λ p y=>(by cases y)⟩
theorem ax8 (n:Nat){m:Mc}(hm:m.Ok)(w:List Nat)(hw:w.length<=5000){s:Sto}(hs:s.all O.ncl=true) :
  ∃ f,al1 m w f/\(aa1 P (n+5)).call "word_table" [m.d,.str w] s=.ok (gdO m.R f) s:=by
 have e0:(aa1 P (n+5)).call "word_table" [m.d,.str w] s=_:=zn ab0 (n:=n+4) rfl
 have Y:=hm.R5
 have nd:∀ l:List (D×D),bJ0 m l->(s++[O.dic l]).all O.ncl=true:=λ l h=>qE hs (zP λ d hd=>by
  obtain⟨p,hp,rfl⟩:=aB.mp hd;exact h.2 p hp)
 have key:=jj (ok:=λ s1=>chk (s++[O.dic []]) s1 []) (g:=turn (aa1 P (n+4)) (.one 4) (.cons (.ite (.cmp .notin (.var 4) (.var 2)) (.cons (.setIx (.var 2) (.var 4) (.call "letter_table" (.ex (.var 0) (.ex (.var 4) .nil)))) .nil) .nil) (.cons (.asg (.one 3) (.call "product" (.ex (.var 3) (.ex (.ix (.var 2) (.var 4)) .nil)))) .nil)))
  (λ k ρ t=>∃ f l x,al1 m (w.take k) f/\bJ0 m l/\l.length<=k/\ρ=[some m.d,some (.str w),some (.ref s.length),some (gdO m.R f),x]/\t=s++[.dic l]) (sg w) 0 [some m.d,some (.str w),some (.ref s.length),some (gdO m.R λ i j=>if i=j then some 0 else none),none] (s++[O.dic []])
  ⟨_,[],none,by rw[List.take_zero];exact al1.nil,bJ0.nil,ai _,rfl,rfl⟩ (λ _ _ _ _ _=>rfl) (by
  rintro k d ρ t hk ⟨f,l,x,y,hl,Z,rfl,rfl⟩
  rw[bq]at y Z ⊢
  unfold sg at hk
  rw[ao]at hk
  obtain⟨c,hc,rfl⟩:=bZ.mp hk
  have a0:=(ab.mp hc).1
  have G:∀ l:List (D×D),(s++[O.dic l])[s.length]?=some (.dic l):=λ l=>by rw[af (ai _)];simp
  have e1:=jq (P:=P) n hm c (nd l hl)
  have hT:al1 m (w.take (k+1)) (prO m.R f (ltF m.ds c)):=by
   rw[ah3 hc];exact al1.mul hm y (al1.letter c)
  cases hlk:look (.str [c]) l with
  | none =>
   have hl2:bJ0 m (l++[(.str [c],gdO m.R (ltF m.ds c))]):=by
    refine⟨λ c' v hv=>?_,λ p hp=>?_⟩
    ·rw[ay4]at hv
     cases q:look (.str [c']) l with
     | none =>
      rw[q]at hv
      simp only at hv
      split at hv
      ·rename_i e;cases e;cases hv;rfl
      ·cases hv
     | some v'=>rw[q]at hv;cases hv;exact hl.1 c' v q
    ·rcases bV.mp hp with h|h
     ·exact hl.2 p h
     ·rw[bJ.mp h];exact ai7
   have e2:=jg (P:=P) n Y f (ltF m.ds c) (nd _ hl2)
   have J:=br0 (G (l++[(.str [c],gdO m.R (ltF m.ds c))])) (k:=.str [c]) rfl (v:=gdO m.R (ltF m.ds c)) (by rw[ay4,hlk];simp)
   have e4:=bI9 (v:=gdO m.R (ltF m.ds c)) (G l) (k:=.str [c]) rfl (by unfold LIM;omega)
   rw[bB6 hlk,bp0]at e4
   refine⟨_,_,.inl ?_,_,_,some (.str [c]),hT,hl2,by simp;omega,rfl,rfl⟩
   unfold turn
   tbr_iter [aC2 (G l) (k:=.str [c]) rfl,hlk,iG,e1,e4,J,e2]
  | some v =>
   have hv:=hl.1 c v hlk
   have e2:=jg (P:=P) n Y f (ltF m.ds c) (nd _ hl)
   have J:=br0 (G l) (k:=.str [c]) rfl hlk
   rw[hv]at J
   refine⟨_,_,.inl ?_,_,_,some (.str [c]),hT,hl,by omega,rfl,rfl⟩
   unfold turn
   tbr_iter [aC2 (G l) (k:=.str [c]) rfl,hlk,fe,J,e2])
 obtain⟨ρ',s',ek,f,l,x,y,hl,_,rfl,rfl⟩:=key
 rw[bq,bT5,cR]at y
 refine⟨f,y,?_⟩
 have e1:=aJ5 (P:=P) (n+1) Y (nd [] bJ0.nil)
 have h2:∀ t,an9 (.str w) t=.ok ⟨sg w,[]⟩ t:=λ _=>rfl
 rw[e0,show(bB some [m.d,D.str w]++ar ab0.vs none)=[some m.d,some (D.str w),none,none,none]from rfl]
 simp -implicitDefEqProofs only[ab0]
 tbr_iter [bv0,jh (n+3),e1,h2]
 rw[ek]
 tbr_iter []
 exact zG jF (by nofun)
end
theorem ax4 {f:D->D->Option Bool}:∀ {l:List D},(∀ d∈l,f d d=some true)->eqL f l l=some true
 | [],_=>rfl
 | d::l,h=>by
  show(match f d d,eqL f l l with|some x,some y=>some (x&&y)|_,_=>none)=_
  rw[h d (aH ..),ax4 λ x hx=>h x (az _ hx)];rfl
theorem bo2 {s:Sto}{n:Nat}(o:Option Int):eqv s n (zV o) (zV o)=some true:=by
 cases o<;>cases n<;>simp[eqv,ae6,aI4]
theorem bC4 {s:Sto}{m:Nat}{f:Nat->Nat->Option Int}:eqv s DEEP (gdO m f) (gdO m f)=some true:=by
 show eqL (eqv s 29) _ _=_
 refine ax4 λ d hd=>?_
 obtain⟨i,_,rfl⟩:=aB.mp hd
 show eqL (eqv s 28) _ _=_
 refine ax4 λ d hd=>?_
 obtain⟨j,_,rfl⟩:=aB.mp hd
 exact bo2 _
theorem bU8 {s:Sto}{m:Nat}{f:Nat->Nat->Option Int}:qz .ne (gdO m f) (gdO m f) s=.ok (.bl false) s:=by
 show(match eqv s DEEP (gdO m f) (gdO m f)with|some r=>R.ok (D.bl (!r)) s|none=>.bad)=_
 rw[bC4];rfl
section
variable {P:Pr} [Has P ad1] [Has P ad0] [Has P ad3] [Has P aa6] [Has P ab3] [Has P aa3] [HasL P aa2] [Has P ad7] [HasL P aa8] [Has P ab5] [HasL P aa4] [Has P ab0]
 [Has P cg5] [Has P bQ4] [Has P by8] [Has P aX5] [Has P bY4] [Has P bo3] [Has P aI1] [Has P aX8]
end
section
variable {P:Pr} [Has P jH] [Has P an3] [Has P zY]
variable [Has P ad1] [Has P ad0] [Has P ad3] [Has P aa6] [Has P ab3] [Has P aa3] [HasL P aa2] [Has P ad7] [HasL P aa8] [Has P ab5] [HasL P aa4] [Has P ab0] [Has P bc8]
end
def Stdy (m:Nat)(f:Nat->Nat->Int):Prop:=EqG m (pr m f f) f
section
variable {P:Pr} [Has P ad1] [Has P zN] [HasL P zB] [Has P jE]
variable [Has P as9] [Has P ap6] [HasL P jB] [HasC P "FREE" (.int 0)] [HasC P "UNBOUND" (.int 2)] [HasC P "NONE" (.int 3)]
end
section
variable {P:Pr} [Has P ad1] [Has P zN] [HasL P zB] [Has P jE] [Has P jA]
end
section
variable {P:Pr} [Has P ae7]
variable [Has P aH1]
end
section
variable {m:Nat} (hm:1<=m) {g:Nat->Nat->Int} (hg:InG m g) (hst:Stdy m g)
include hm hg hst
end
theorem be0 {m j:Nat}{f:Nat->D}{d:D}(h:((ac m).map f)[j]?=some d):j<m/\d=f j:=by
 have hj:=(ab.mp h).1
 simp at hj
 rw[ao,aV hj]at h
 exact⟨hj,(av h).symm⟩
section
variable {P:Pr} [Has P ae7] [Has P ad1] [Has P zN] [HasL P zB] [Has P jE] [Has P as9] [Has P ap6] [HasL P jB] [HasC P "FREE" (.int 0)] [HasC P "UNBOUND" (.int 2)] [HasC P "NONE" (.int 3)] [Has P jA] [Has P aG0] [Has P bw6]
variable [Has P an2] [Has P aH1] [Has P aU4]
end
theorem jG {P:Pr}{n:Nat}{x:String}{d:D}[HasC P x d](ρ:Env)(s:Sto):ev (aa1 P n) (.glob x) ρ s=.ok d s:=by
 show(match(aa1 P n).con x with|some d=>R.ok d s|none=>.bad)=_
 rw[bv3 (v:=d)]
noncomputable def un (i j:Nat):Int:=if i=j then 0 else 3
section
variable {m:Nat} (hm:1<=m)
end
section
variable {P:Pr} [Has P ad1] [Has P ah1] [HasL P jl] [HasC P "FREE" (.int 0)] [HasC P "NONE" (.int 3)]
variable [Has P ad6] [Has P zN] [HasL P zB]
variable [Has P ak0] [HasC P "sign_product" (.fn "sign_product")]
end
section
variable {P:Pr} [Has P ab1] [Has P aW7] [Has P aV1]
end
section
variable {P:Pr} [Has P an2] [Has P ae7] [Has P aH1] [Has P bt1] [Has P ab1] [Has P aW7] [Has P aV1] [Has P bF4] [Has P aW4] [Has P ad1] [Has P ad6] [Has P ah1] [HasL P jl] [Has P zN] [HasL P zB] [Has P ak0] [HasC P "FREE" (.int 0)] [HasC P "NONE" (.int 3)] [HasC P "sign_product" (.fn "sign_product")]
end
section
variable {P:Pr} [HasC P "FREE" (.int 0)] [HasC P "SOME" (.int 1)] [HasC P "NONE" (.int 3)] [Has P aA9]
variable [Has P ad1] [Has P aE4] [HasL P ak3]
variable [Has P ad0] [Has P ad3] [Has P aa6] [Has P ab3] [Has P aa3] [HasL P aa2] [Has P ad7] [HasL P aa8] [Has P ab5] [HasL P aa4] [Has P ab0] [Has P ak2]
variable [Has P jH] [Has P an3] [Has P zY] [Has P at1]
end
inductive Rst where
 | let_ (c:Nat)|pair (i j:Nat)|times (i n:Nat)
noncomputable def Rst.d:Rst->D
 | .let_ c=>.tup [.str [108,101,116,116,101,114],.str [c]]
 | .pair i j=>.tup [.str [112,97,105,114],.int i,.int j]
 | .times i n=>.tup [.str [116,105,109,101,115],.int i,.int n]
theorem rl0 {ch:Nat}{s:Sto}:ixM (Rst.let_ ch).d (.int 0) s=.ok (.str by9) s:=rfl
theorem rl1 {ch:Nat}{s:Sto}:ixM (Rst.let_ ch).d (.int 1) s=.ok (.str [ch]) s:=rfl
theorem rp0 {i j:Nat}{s:Sto}:ixM (Rst.pair i j).d (.int 0) s=.ok (.str ar8) s:=rfl
theorem rp1 {i j:Nat}{s:Sto}:ixM (Rst.pair i j).d (.int 1) s=.ok (.int i) s:=rfl
theorem rp2 {i j:Nat}{s:Sto}:ixM (Rst.pair i j).d (.int 2) s=.ok (.int j) s:=rfl
theorem rt0 {i n:Nat}{s:Sto}:ixM (Rst.times i n).d (.int 0) s=.ok (.str as5) s:=rfl
theorem rt1 {i n:Nat}{s:Sto}:ixM (Rst.times i n).d (.int 1) s=.ok (.int i) s:=rfl
theorem rt2 {i n:Nat}{s:Sto}:ixM (Rst.times i n).d (.int 2) s=.ok (.int n) s:=rfl
section
variable {P:Pr} [Has P ab7] [Has P ad2] [HasL P ac3] [HasL P ac2] [HasL P ac1]
end
theorem ao6 {F:Fns}{ρ:Env}{s:Sto}:ev F (.neg (.cst (.int 1))) ρ s=.ok (.int (-1)) s:=rfl
theorem am1 {s:Sto}{r:Nat}{l:List D}{d:D}(h:s[r]?=some (.lst l))(hd:l[l.length - 1]?=some d):ixM (.ref r) (.int (-1)) s=.ok d s:=by
 have hl:=(ab.mp hd).1
 have hx:ixn l.length (-1)=some (l.length - 1):=by
  unfold ixn
  rw[if_neg (by decide),if_pos (by omega)]
  congr 1;omega
 simp only[ixM,h,hx,dD,hd]
section
variable {P:Pr} [Has P ab7] [Has P ad2] [HasL P ac3] [HasL P ac2] [HasL P ac1] [Has P aH6] [Has P ay9]
end
noncomputable def cg4:Ss:=(.cons (.ex (.meth .append (.var 3) (.cons (.tup (.cons (.cst (.str [112,97,105,114])) (.cons (.var 4) (.cons (.bin .sub (.var 4) (.call "_law_draw" (.ex (.var 0) (.ex (.bin .add (.bi .min2 (.cons (.var 4) (.cons (.cst (.int 1)) .nil))) (.cst (.int 1))) .nil)))) .nil)))) .nil))) .nil)
section
variable {α:Type} (d:α) (fl:Nat->α) (fp:α->α->α) (ft:α->Nat->α)
noncomputable def foV (vs:List α):Rst->α
 | .let_ c=>fl c
 | .pair i j=>fp (vs.getD i d) (vs.getD j d)
 | .times i n=>ft (vs.getD i d) n
noncomputable def foR (l:List Rst):List α:=l.foldl (λ vs x=>vs++[foV d fl fp ft vs x]) []
theorem aO4 {l:List Rst}{k:Nat}{x:Rst}(h:l[k]?=some x):foR d fl fp ft (l.take (k+1))=foR d fl fp ft (l.take k)++[foV d fl fp ft (foR d fl fp ft (l.take k)) x]:=by
 rw[ah3 h];unfold foR;rw[eh];rfl
theorem aG8 {l:List Rst}:∀ k,k<=l.length->(foR d fl fp ft (l.take k)).length=k
 | 0,_=>by simp[foR]
 | k+1,h=>by
  rw[aO4 d fl fp ft (ag (show k<l.length by omega)),aQ,aG8 k (by omega)];rfl
theorem aL8:∀(l:List Rst) (vs:List α),∃ t,l.foldl (λ vs x=>vs++[foV d fl fp ft vs x]) vs=vs++t
 | [],vs=>⟨[],by simp⟩
 | x::l,vs=>by
  obtain⟨t,e⟩:=aL8 l (vs++[foV d fl fp ft vs x])
  exact⟨foV d fl fp ft vs x::t,by rw[cj,e];simp⟩
theorem ax5 {l:List Rst}{k i:Nat}(hk:k<=l.length)(h:i<k):(foR d fl fp ft (l.take k)).getD i d=(foR d fl fp ft l).getD i d:=by
 obtain⟨t,e⟩:=aL8 d fl fp ft (l.drop k) (foR d fl fp ft (l.take k))
 have:foR d fl fp ft l=foR d fl fp ft (l.take k)++t:=by
  rw[<-e]
  conv=>lhs;rw[<-gI k l]
  unfold foR;rw[eh]
 have hl:=aG8 d fl fp ft (l:=l) k hk
 rw[this,aE,aE,aw (by omega)]
theorem aY5 {l:List Rst}{k:Nat}{x:Rst}(h:l[k]?=some x):(foR d fl fp ft l).getD k d=foV d fl fp ft (foR d fl fp ft (l.take k)) x:=by
 have hk:=(ab.mp h).1
 rw[<-ax5 d fl fp ft (k:=k+1) (by omega) (dB k),aO4 d fl fp ft h]
 have hl:=aG8 d fl fp ft (l:=l) k (by omega)
 rw[aE,af (by omega),hl,ef];rfl
theorem cf9 {l:List Rst}{k c:Nat}(h:l[k]?=some (.let_ c)):(foR d fl fp ft l).getD k d=fl c:=aY5 d fl fp ft h
theorem cd4 {l:List Rst}{k i j:Nat}(h:l[k]?=some (.pair i j))(y:i<k)(hj:j<k):(foR d fl fp ft l).getD k d=fp ((foR d fl fp ft l).getD i d) ((foR d fl fp ft l).getD j d):=by
 have hk:=(ab.mp h).1
 rw[aY5 d fl fp ft h,<-ax5 d fl fp ft (k:=k) (by omega) y,<-ax5 d fl fp ft (k:=k) (by omega) hj];rfl
theorem ce1 {l:List Rst}{k i n:Nat}(h:l[k]?=some (.times i n))(y:i<k):(foR d fl fp ft l).getD k d=ft ((foR d fl fp ft l).getD i d) n:=by
 have hk:=(ab.mp h).1
 rw[aY5 d fl fp ft h,<-ax5 d fl fp ft (k:=k) (by omega) y];rfl
end
noncomputable def wds (l:List Rst):List (List Nat):=foR [] (λ c=>[c]) (·++·) (λ w n=>rep n w) l
noncomputable def wd (l:List Rst)(k:Nat):List Nat:=(wds l).getD k []
theorem bV3 {l:List Rst}{k c:Nat}(h:l[k]?=some (.let_ c)):wd l k=[c]:=cf9 _ _ _ _ h
theorem bT0 {l:List Rst}{k i j:Nat}(h:l[k]?=some (.pair i j))(y:i<k)(hj:j<k):wd l k=wd l i++wd l j:=cd4 _ _ _ _ h y hj
theorem bT8 {l:List Rst}{k i n:Nat}(h:l[k]?=some (.times i n))(y:i<k):wd l k=rep n (wd l i):=ce1 _ _ _ _ h y
theorem aT0 {P:Pr}[Has P ad6](n:Nat)(W:Nat->D)(y:String){s:Sto}(hb:∀ k n,(W k).bnd n=true)(hr:∀ k r,W k≠.ref r)(Z:∀ a b,(aa1 P n).call y [W a,W b] s=.ok (W (a+b)) s)(h:Nat) :
  (aa1 P (n+1)).call "raised" [W 1,.int h,W 0,.fn y] s=.ok (W h) s:=by
 have e0:(aa1 P (n+1)).call "raised" [W 1,.int h,W 0,.fn y] s=_:=zn ad6 (n:=n) rfl
 have key:∀ a b,apV (aa1 P n) (.fn y) [W a,W b] s=.ok (W (a+b)) s:=Z
 rw[e0,show(bB some [W 1,.int h,W 0,.fn y]++ar ad6.vs none)=[some (W 1),some (.int h),some (W 0),some (.fn y),none,none,none]from rfl]
 simp -implicitDefEqProofs only[ad6]
 simp -implicitDefEqProofs only[za,zg,qf,zb,zd,ze,R.bind_ok,zh,zF,zA,aF,zx,zl,ex_whl]
 rw[R.bind_assoc]
 refine aM0 (λ k ρ t=>∃(a b left:Nat),left=k/\a+b*left=h/\ρ=[some (W 1),some (.int h),some (W 0),some (.fn y),some (W a),some (W b),some (.int left)]/\t=s) (λ ρ t=>∃(b:Nat) (x:Option D),ρ=[some (W 1),some (.int h),some (W 0),some (.fn y),some (W h),some (W b),x]/\t=s) h ⟨0,1,h,rfl,by omega,rfl,rfl⟩ ?_ ?_
 ·rintro k ρ t ⟨a,b,left,rfl,hab,rfl,rfl⟩
  simp -implicitDefEqProofs only[zO,zb,zw,zz,zd,ze,R.bind_ok,gt_int,br1]
  by_cases hl:(0:Int)<(left:Int)
  ·simp only[hl,decide_true,if_true]
   have G:qN .fdiv (.int left) (.int 2) t=.ok (.int ((left / 2:Nat):Int)) t:=by rw[ai1 (by decide) (by decide)];simp
   have J:qN .mod (.int left) (.int 2) t=.ok (.int ((left % 2:Nat):Int)) t:=by rw[jm (by decide)];simp
   obtain⟨Y,ha',e1⟩:∃ Y:Nat,Y+b*(2*(left / 2))=h/\ex (aa1 P n) (.ite (.cmp .eq (.bin .mod (.var 6) (.cst (.int 2))) (.cst (.int 1))) (.cons (.asg (.one 4) (.callV 3 (.cons (.var 4) (.cons (.var 5) .nil)))) .nil) .nil) [some (W 1),some (.int h),some (W 0),some (.fn y),some (W a),some (W b),some (.int left)] t=.ok (.next [some (W 1),some (.int h),some (W 0),some (.fn y),some (W Y),some (W b),some (.int left)]) t:=by
    by_cases ho:((left % 2:Nat):Int)=1
    ·refine⟨a+b,?_,?_⟩
     ·have:left=2*(left / 2)+1:=by omega
      rw[this,dY]at hab
      have e2:2*((2*(left / 2)+1) / 2)=2*(left / 2):=by omega
      omega
     ·simp -implicitDefEqProofs only[qg,zO,qi,zb,zw,zz,zd,ze,R.bind_ok,J,eq_int,ho,decide_true,zH,if_true,za,zg,qf]
      rw[qB (d:=.fn y) _ rfl]
      simp -implicitDefEqProofs only[zq,zr,zb,zd,ze,R.bind_ok,key a b,zh,zF,zA,aF,zx,zl,zg]
    ·refine⟨a,?_,?_⟩
     ·have:left=2*(left / 2):=by omega
      rw[<-this];exact hab
     ·simp -implicitDefEqProofs only[qg,zO,qi,zb,zw,zz,zd,ze,R.bind_ok,J,eq_int,ho,decide_false,zH,if_false,aK,zg]
   have e2:∃ b':Nat,Y+b'*(left / 2)=h/\exs (aa1 P n) (.cons (.asg (.one 6) (.bin .fdiv (.var 6) (.cst (.int 2)))) (.cons (.ite (.cmp .gt (.var 6) (.cst (.int 0))) (.cons (.asg (.one 5) (.callV 3 (.cons (.var 5) (.cons (.var 5) .nil)))) .nil) .nil) .nil)) [some (W 1),some (.int h),some (W 0),some (.fn y),some (W Y),some (W b),some (.int left)] t=.ok (.next [some (W 1),some (.int h),some (W 0),some (.fn y),some (W Y),some (W b'),some (.int ((left / 2:Nat):Int))]) t:=by
    by_cases hl2:(0:Int)<((left / 2:Nat):Int)
    ·refine⟨b+b,?_,?_⟩
     ·rw[<-ha',Nat.add_mul,<-fN,iW b 2,fN];omega
     ·simp -implicitDefEqProofs only[za,qf,qi,zb,zw,zz,zd,ze,R.bind_ok,G,zh,zF,zA,aF,zx,zl,qg,zO,gt_int,hl2,decide_true,zH,if_true,zg]
      rw[qB (d:=.fn y) _ rfl]
      simp -implicitDefEqProofs only[zq,zr,zb,zd,ze,R.bind_ok,key b b,zh,zF,zA,aF,zx,zl,zg]
    ·refine⟨b,?_,?_⟩
     ·have:left / 2=0:=by omega
      rw[this]at ha' ⊢
      exact ha'
     ·simp -implicitDefEqProofs only[za,qf,qi,zb,zw,zz,zd,ze,R.bind_ok,G,zh,zF,zA,aF,zx,zl,qg,zO,gt_int,hl2,decide_false,zH,if_false,aK,zg]
   obtain⟨b',a0,e2⟩:=e2
   have e3:exs (aa1 P n) (.cons (.ite (.cmp .eq (.bin .mod (.var 6) (.cst (.int 2))) (.cst (.int 1))) (.cons (.asg (.one 4) (.callV 3 (.cons (.var 4) (.cons (.var 5) .nil)))) .nil) .nil) (.cons (.asg (.one 6) (.bin .fdiv (.var 6) (.cst (.int 2)))) (.cons (.ite (.cmp .gt (.var 6) (.cst (.int 0))) (.cons (.asg (.one 5) (.callV 3 (.cons (.var 5) (.cons (.var 5) .nil)))) .nil) .nil) .nil))) [some (W 1),some (.int h),some (W 0),some (.fn y),some (W a),some (W b),some (.int left)] t=.ok (.next [some (W 1),some (.int h),some (W 0),some (.fn y),some (W Y),some (W b'),some (.int ((left / 2:Nat):Int))]) t:=by
    rw[za,e1,R.bind_ok,zl,e2]
   rw[e3]
   exact⟨left / 2,by omega,Y,b',left / 2,rfl,a0,rfl,rfl⟩
  ·simp only[hl,decide_false,if_false,aK]
   have h0:left=0:=by omega
   subst h0
   have:a=h:=by omega
   subst this
   exact⟨b,_,rfl,trivial⟩
 ·rintro ρ t ⟨b,x,rfl,rfl⟩
  simp -implicitDefEqProofs only[zl,za,zg,qP,zb,zd,ze,R.bind_ok,qb,qe]
  exact zv (hb h) (hr h)
theorem ai8 (w:List Nat)(b:Nat):∀ a,rep (a+b) w=rep a w++rep b w
 | 0=>by rw[bq];rfl
 | a+1=>by rw[Nat.succ_add];show w++rep (a+b) w=(w++rep a w)++rep b w;rw[ai8 w b a,cg]
theorem bn9 (w:List Nat):rep 1 w=w:=bD w
noncomputable def tbO (m:Mc):List Nat->Nat->Nat->Option Int
 | []=>λ i j=>if i=j then some 0 else none
 | c::w=>prO m.R (ltF m.ds c) (tbO m w)
theorem aJ4 {m:Mc}(h:m.Ok):∀ w,al1 m w (tbO m w)
 | []=>al1.nil
 | c::w=>al1.mul h (al1.letter c) (aJ4 h w)
noncomputable def tbD (m:Mc)(w:List Nat):D:=gdO m.R (tbO m w)
theorem jn {m:Mc}{w:List Nat}(n:Nat):(tbD m w).bnd n=true:=jF n
theorem bG2 {m:Mc}{w:List Nat}:(tbD m w).ncl=true:=ai7
theorem aK3 {m:Mc}(y:m.Ok){w:List Nat}{f:Nat->Nat->Option Int}(h:al1 m w f):gdO m.R f=tbD m w:=h.eq (aJ4 y w)
theorem aF2 {m:Mc}(h:m.Ok)(v w:List Nat):gdO m.R (prO m.R (tbO m v) (tbO m w))=tbD m (v++w):=aK3 h ((aJ4 h v).mul h (aJ4 h w))
section
variable {P:Pr} [Has P ad1] [Has P ad0] [Has P ad3] [Has P ad7] [HasL P aa8] [Has P ab5] [HasL P aa4] [Has P ad6] [Has P ae8] [HasC P "product" (.fn "product")]
theorem aZ8 (n:Nat){m:Mc}(G:m.Ok)(w:List Nat)(y:Nat){s:Sto}(hs:s.all O.ncl=true) :
  (aa1 P (n+6)).call "power" [tbD m w,.int y] s=.ok (tbD m (rep y w)) s:=by
 have J:(aa1 P (n+6)).call "power" [tbD m w,.int y] s=_:=zn ae8 (n:=n+5) rfl
 have e1:=aT0 (P:=P) (n+4) (λ a=>tbD m (rep a w)) "product" (s:=s) (λ _ n=>jn n) (λ _ _ h=>by cases h) (λ a b=>by
  rw[tbD,tbD,jg (P:=P) n G.R5 _ _ hs,aF2 G,<-ai8]) y
 rw[show rep 1 w=w from bn9 w]at e1
 have e2:=aJ5 (P:=P) (n+2) G.R5 hs
 have g1:=λ ρ s=>jG (P:=P) (n:=n+5) (x := "product") (d:=.fn "product") ρ s
 have Y:bi .len [tbD m w] s=.ok (.int m.R) s:=aF9
 rw[J,show(bB some [tbD m w,D.int y]++ar ae8.vs none)=[some (tbD m w),some (.int y)]from rfl,show ae8.body=(.cons (.ret (.call "raised" (.ex (.var 0) (.ex (.var 1) (.ex (.call "plain" (.ex (.bi .len (.cons (.var 0) .nil)) .nil)) (.ex (.glob "product") .nil)))))) .nil)from rfl]
 tbr_iter [Y,e2,g1]
 rw[show(gdO m.R λ i j=>if i=j then some 0 else none)=tbD m (rep 0 w)from rfl,e1]
 tbr_iter []
 exact zv jn (by nofun)
end
noncomputable def RsB (k:Nat):Rst->Prop
 | .let_ _=>True
 | .pair i j=>i<k/\j<k
 | .times i _=>i<k
def bT3 (l:List Rst):Prop:=∀ k x,l[k]?=some x->RsB k x
theorem au6 {P:Pr}[Has P ab7](n:Nat){l:List Rst}(hl:l.length<=5100)(hk:bT3 l){s:Sto}{Y:D}{src:List Nat}(hsr:∀ r∈src,r<s.length)(a0:∀ t,an9 Y (s++t)=.ok ⟨l.map Rst.d,src⟩ (s++t))(d1 G J:D)(W:Nat->D)(hW:∀ k n,(W k).bnd n=true)
  (h1:∀ k ch,l[k]?=some (.let_ ch)->apV (aa1 P n) d1 [.str [ch]] (s++[.lst ((ac k).map W)])=.ok (W k) (s++[.lst ((ac k).map W)]))
  (h2:∀ k i j,l[k]?=some (.pair i j)->apV (aa1 P n) G [W i,W j] (s++[.lst ((ac k).map W)])=.ok (W k) (s++[.lst ((ac k).map W)]))
  (h3:∀ k i m,l[k]?=some (.times i m)->apV (aa1 P n) J [W i,.int (m:Nat)] (s++[.lst ((ac k).map W)])=.ok (W k) (s++[.lst ((ac k).map W)])) :
  (aa1 P (n+1)).call "folded" [Y,d1,G,J] s=.ok (.ref s.length) (s++[.lst ((ac l.length).map W)]):=by
 have e0:(aa1 P (n+1)).call "folded" [Y,d1,G,J] s=_:=zn ab7 (n:=n) rfl
 rw[e0,show(bB some [Y,d1,G,J]++ar ab7.vs none)=[some Y,some d1,some G,some J,none,none]from rfl]
 simp -implicitDefEqProofs only[ab7]
 simp -implicitDefEqProofs only[za,zg,qf,ev_lst,zr,R.bind_ok,qT,zh,zF,zA,aF,zx,zl,ex_for,evI_seq,zb,zd,ze]
 rw[a0]
 simp only[R.bind_ok]
 rw[R.bind_assoc]
 refine je (λ k ρ t=>∃(x:Option D),ρ=[some Y,some d1,some G,some J,some (.ref s.length),x]/\t=s++[.lst ((ac k).map W)]) ⟨none,rfl,rfl⟩ (λ _ _ _ _ h=>?_) ?_ ?_
 ·obtain⟨_,_,rfl⟩:=h
  unfold chk
  exact aO.mpr λ r hr=>by rw[aw (hsr r hr),aw (hsr r hr)];simp
 ·rintro k d ρ t hkk ⟨x,rfl,rfl⟩
  rw[ao]at hkk
  obtain⟨v,hv,hd⟩:∃ v,l[k]?=some v/\Rst.d v=d:=by
   cases e:l[k]? with
   | none=>rw[e]at hkk;cases hkk
   | some v=>rw[e]at hkk;exact⟨v,rfl,av hkk⟩
  subst hd
  have a1:=(ab.mp hv).1
  have hok:=hk k v hv
  have L1:((ac k).map W).length<LIM:=by unfold LIM;rw[ax,b7];omega
  have g0:(s++[O.lst ((ac k).map W)])[s.length]?=some (.lst ((ac k).map W)):=by rw[af (ai _)];simp
  have gW:∀ i,i<k->ixM (.ref s.length) (.int (i:Int)) (s++[O.lst ((ac k).map W)])=.ok (W i) (s++[O.lst ((ac k).map W)]):=λ i Z=>qu g0 (by rw[ao,aV Z];rfl)
  refine av8 (ρ:=[some Y,some d1,some G,some J,some (.ref s.length),some v.d]) (s:=s++[.lst ((ac (k+1)).map W)]) ?_ ⟨_,rfl,rfl⟩
  rw[bL,bE]
  unfold turn
  cases v with
  | let_ ch =>
   have y:=h1 k ch hv
   simp -implicitDefEqProofs only[zh,zF,zA,aF,za,zg,qg,zO,qt,zb,zw,zz,qQ,zd,ze,R.bind_ok,rl0,qx,show(by9=[108,101,116,116,101,114])=True from eq_self _,decide_true,zH,if_true,jC,z9,zq,zr]
   rw[qB (d:=d1) _ rfl]
   simp -implicitDefEqProofs only[zq,zr,qt,zb,zw,zz,zd,ze,R.bind_ok,rl1,y]
   rw[qC L1];rfl
  | pair i j =>
   obtain⟨Z,hj⟩:=hok
   have y:=h2 k i j hv
   simp -implicitDefEqProofs only[zh,zF,zA,aF,za,zg,qg,zO,qt,zb,zw,zz,qQ,zd,ze,R.bind_ok,rp0,qx,show(ar8=[108,101,116,116,101,114])=False by decide,show(ar8=[112,97,105,114])=True from eq_self _,decide_true,decide_false,aK,zH,if_true,if_false,jC,z9,zq,zr]
   rw[qB (d:=G) _ rfl]
   simp -implicitDefEqProofs only[zq,zr,qt,zb,zw,zz,zd,ze,R.bind_ok,rp1,rp2,gW i Z,gW j hj,y]
   rw[qC L1];rfl
  | times i m =>
   have Z:=hok
   have y:=h3 k i m hv
   simp -implicitDefEqProofs only[zh,zF,zA,aF,za,zg,qg,zO,qt,zb,zw,zz,qQ,zd,ze,R.bind_ok,rt0,qx,show(as5=[108,101,116,116,101,114])=False by decide,show(as5=[112,97,105,114])=False by decide,decide_false,aK,zH,if_false,jC,z9,zq,zr]
   rw[qB (d:=J) _ rfl]
   simp -implicitDefEqProofs only[zq,zr,qt,zb,zw,zz,zd,ze,R.bind_ok,rt1,rt2,gW i Z,y]
   rw[qC L1];rfl
 ·rintro ρ t ⟨x,rfl,rfl⟩
  rw[ax]
  simp -implicitDefEqProofs only[zl,za,zg,qP,zb,zd,ze,R.bind_ok,qb,qe]
  exact jb (by unfold O.bnd;exact zQ (λ d hd n=>by obtain⟨x,_,rfl⟩:=aB.mp hd;exact hW x n) _)
theorem bc6 {a c:Int}:∀(l:List Stp) (vs:List Int),∃ t,l.foldl (λ vs x=>vs++[ak9 a c vs x]) vs=vs++t
 | [],vs=>⟨[],by simp⟩
 | x::l,vs=>by
  obtain⟨t,e⟩:=bc6 l (vs++[ak9 a c vs x])
  exact⟨ak9 a c vs x::t,by rw[cj,e];simp⟩
theorem am9 {a c:Int}{l:List Stp}{k i:Nat}(hk:k<=l.length)(h:i<k):(vl a c (l.take k)).getD i 0=(vl a c l).getD i 0:=by
 obtain⟨t,e⟩:=bc6 (a:=a) (c:=c) (l.drop k) (vl a c (l.take k))
 have:vl a c l=vl a c (l.take k)++t:=by
  rw[<-e]
  conv=>lhs;rw[<-gI k l]
  unfold vl;rw[eh]
 have hl:=ap2 (a:=a) (c:=c) (l:=l) k hk
 rw[this,aE,aE,aw (by omega)]
theorem bi8 {a c:Int}{l:List Stp}{k:Nat}{x:Stp}(h:l[k]?=some x):(vl a c l).getD k 0=ak9 a c (vl a c (l.take k)) x:=by
 have hk:=(ab.mp h).1
 rw[<-am9 (k:=k+1) (by omega) (dB k),aH5 h]
 have hl:=ap2 (a:=a) (c:=c) (l:=l) k (by omega)
 rw[aE,af (by omega),hl,ef];rfl
theorem bA6 {a c:Int}{l:List Stp}:(ac l.length).map (λ k=>D.int ((vl a c l).getD k 0))=aV4 (vl a c l):=by
 have hl:=ap2 (a:=a) (c:=c) (l:=l) l.length (ai _)
 rw[cR]at hl
 apply dm
 intro i
 by_cases hi:i<l.length
 ·rw[ao,aV hi]
  unfold aV4
  rw[ao,ag (show i<(vl a c l).length by omega)]
  simp[aE,ag (show i<(vl a c l).length by omega)]
 ·rw[aZ (by simp;omega),aZ (by unfold aV4;simp;omega)]
theorem aR4 {P:Pr}[Has P ab7][Has P ad2][HasL P ac3][HasL P ac2][HasL P ac1](n:Nat){l:List Stp}{c:Int}(hl:l.length<=5100)(hk:af0 l){s:Sto}{p:Nat}(hp:s[p]?=some (.lst (l.map (Stp.t c))))(hs:s.all O.ncl=true)
  {a:Int} (ha:0<=a) (Z:a<=3) (hc:0<=c) (h:c<=2^103) :
  (aa1 P (n+3)).call "counted" [.ref p,.int a] s=.ok (.ref s.length) (s++[.lst (aV4 (vl a c l))]):=by
 have e0:(aa1 P (n+3)).call "counted" [.ref p,.int a] s=_:=zn ad2 (n:=n+2) rfl
 have hB:=bK5 ha Z hc h hk l.length (ai _)
 rw[cR]at hB
 have y:=ap2 (a:=a) (c:=c) (l:=l) l.length (ai _)
 rw[cR]at y
 have G:∀ k,(s++[O.lst ((ac k).map λ k=>D.int ((vl a c l).getD k 0))]).all O.ncl=true:=λ k=>by
  rw[c7,hs]
  simp only[cK,eV,O.ncl,dI,cL]
  exact zP λ d hd=>by obtain⟨x,_,rfl⟩:=aB.mp hd;rfl
 have hf:=bb5 (P:=P) (n+1) (c:=c) hl hk hp (.clo "counted.2" [.int a]) (.clo "counted.1" []) (.clo "counted.0" []) (λ k=>.int ((vl a c l).getD k 0)) (λ _ _=>rfl)
  (λ k ch hv=>by
   refine(jk ac1 (n:=n) rfl rfl (by rw[G k];rfl)).trans ?_
   rw[bi8 hv]
   exact qh)
  (λ k i j hv=>by
   refine(jk ac2 (n:=n) rfl rfl (by rw[G k];rfl)).trans ?_
   have J:=(ab.mp hv).1
   obtain⟨Y,h2,_⟩:=hk k _ hv
   rw[bi8 hv,show ak9 a c (vl a c (l.take k)) (.pair i j)=(vl a c (l.take k)).getD i 0+(vl a c (l.take k)).getD j 0 from rfl,am9 (by omega) Y,am9 (by omega) h2]
   exact qh)
  (λ k i hv=>by
   refine(jk ac3 (n:=n) rfl rfl (by rw[G k];rfl)).trans ?_
   have J:=(ab.mp hv).1
   obtain⟨Y,_⟩:=hk k _ hv
   rw[bi8 hv,show ak9 a c (vl a c (l.take k)) (.sharp i)=(vl a c (l.take k)).getD i 0*c from rfl,am9 (by omega) Y]
   have hb:=hB i ((vl a c l).getD i 0) (by rw[aE,ag (by omega)];rfl)
   have mo:mulOk ((vl a c l).getD i 0) c=true:=bH3 (bt0 hb.1 (cc hb.2.2.1 (by omega))) (ca5 hc h)
   show(ev (aa1 P n) (.bin .mul (.var 0) (.var 1)) [some (.int ((vl a c l).getD i 0)),some (.int c)] _).bind (zT _)=_
   simp -implicitDefEqProofs only[qi,zb,zd,ze,R.bind_ok,ae3 mo]
   exact qh)
 rw[e0,show(bB some [D.ref p,.int a]++ar ad2.vs none)=[some (D.ref p),some (.int a)]from rfl]
 simp -implicitDefEqProofs only[ad2,za,zg,qP,jw,zI,zb,zd,ze,R.bind_ok]
 rw[qD (cs:=[.int a]) _ rfl,qD (cs:=[]) _ rfl,qD (cs:=[]) _ rfl]
 simp -implicitDefEqProofs only[zD,R.bind_ok,hf]
 have:=G l.length
 rw[if_pos (by rw[this];rfl)]
 rw[bA6]
 simp -implicitDefEqProofs only[R.bind_ok,qb,qe]
 exact jb (by unfold O.bnd;exact zQ aJ7 _)
section
variable {P:Pr} [Has P ab7] [Has P ad2] [HasL P ac3] [HasL P ac2] [HasL P ac1] [Has P ac6]
theorem aP8 [Has P aa6][Has P ab9][Has P ae4](n:Nat){l:List Stp}(hl:l.length<=5100)(hk:af0 l){s:Sto}(hs:s.all O.ncl=true){m:Mc}(Y:m.Ok){q:Int}(hq:0<=q)(y:q<=10^30) :
  (aa1 P (n+4)).call "lengths" [m.d,.tup (l.map Stp.d),.int q] s=.ok (.ref s.length) (s++[.lst (aV4 (vl 1 ((q+1)*m.R) l))]):=by
 have G:(aa1 P (n+4)).call "lengths" [m.d,.tup (l.map Stp.d),.int q] s=_:=zn ae4 (n:=n+3) rfl
 have hR:=Y.R5
 have hc:0<=(q+1)*(m.R:Int):=kh (by omega) (by omega)
 have h:(q+1)*(m.R:Int)<=2^103:=cc (kg (show q+1<=10^30+1 by omega) (show(m.R:Int)<=5 by omega) (by omega) (by decide)) (by decide)
 have e1:(aa1 P (n+3)).call "unrolled" [m.d,.tup (l.map Stp.d),.int q] s=.ok (.ref s.length) (s++[.lst (l.map (Stp.t ((q+1)*m.R)))]):=by
  have e2:(aa1 P (n+3)).call "unrolled" [m.d,.tup (l.map Stp.d),.int q] s=_:=zn ab9 (n:=n+2) rfl
  have Z:mulOk (q+1) (m.R:Int)=true:=aq7 (by omega)
  rw[e2,show(bB some [m.d,D.tup (l.map Stp.d),D.int q]++ar ab9.vs none)=[some m.d,some (D.tup (l.map Stp.d)),some (.int q)]from rfl]
  simp -implicitDefEqProofs only[ab9,za,zg,qP,zU,zI,zD,zb,qi,zw,zz,zd,ze,R.bind_ok,add_int,jh (n+1),ae3 Z,aq8 (n+1) hl,qb,qe]
  exact jb ba2
 have J:=aR4 (P:=P) n (c:=(q+1)*m.R) hl hk (s:=s++[.lst (l.map (Stp.t ((q+1)*m.R)))]) (p:=s.length) (by rw[af (ai _)];simp) (qE hs aU8) (a:=1) (by decide) (by decide) hc h
 rw[G,show(bB some [m.d,D.tup (l.map Stp.d),D.int q]++ar ae4.vs none)=[some m.d,some (D.tup (l.map Stp.d)),some (.int q)]from rfl]
 simp -implicitDefEqProofs only[ae4,za,zg,qP,zU,zI,zD,zb,zw,zz,zd,ze,R.bind_ok,e1,J,qb,qe,aQ,aU,c5,bq,cg,cw,dL]
 exact aV8 (by unfold O.bnd;exact zQ aJ7 _)
end
section
variable {P:Pr} [Has P ad1] [Has P ad0] [Has P ad3] [Has P aa6] [Has P ab3] [Has P aa3] [HasL P aa2] [Has P ad7] [HasL P aa8] [Has P ab5] [HasL P aa4] [Has P ad6] [Has P ae8] [HasC P "product" (.fn "product")] [HasC P "power" (.fn "power")] [Has P ab7] [Has P ac4] [HasL P ac0]
theorem av3 {α:Type}{n:Nat}(h:1<=n)(W:Nat->α):((ac n).map W)[((ac n).map W).length - 1]?=some (W (n - 1)):=by
 rw[ax,b7,ao,aV (by omega)];rfl
theorem aB2 {s:Sto}(hs:s.all O.ncl=true){W:Nat->D}(h:∀ k,(W k).ncl=true)(k:Nat):(s++[O.lst ((ac k).map W)]).all O.ncl=true :=
 qE hs (zP λ d hd=>by obtain⟨x,_,rfl⟩:=aB.mp hd;exact h x)
theorem au9 (n:Nat){m:Mc}(G:m.Ok){l:List Rst}(hl:l.length<=5100)(h1:1<=l.length)(hk:bT3 l){s:Sto}(hs:s.all O.ncl=true){y:D}{src:List Nat}(hsr:∀ r∈src,r<s.length)(Y:∀ t,an9 y (s++t)=.ok ⟨l.map Rst.d,src⟩ (s++t)) :
  (aa1 P (n+8)).call "last_table" [m.d,y] s=.ok (tbD m (wd l (l.length - 1))) s:=by
 have e0:(aa1 P (n+8)).call "last_table" [m.d,y] s=_:=zn ac4 (n:=n+7) rfl
 have h:=aB2 hs (W:=λ k=>tbD m (wd l k)) (λ k=>bG2)
 have Z:=au6 (P:=P) (n+6) hl hk hsr Y (.clo "last_table.0" [m.d]) (.fn "product") (.fn "power") (λ k=>tbD m (wd l k)) (λ _ n=>jn n)
  (λ k ch hv=>by
   refine(jk ac0 (n:=n+5) rfl rfl (by rw[h k];unfold D.nclL;rw[br8];rfl)).trans ?_
   have e1:=jq (P:=P) (n+1) G ch (h k)
   rw[aK3 G (al1.letter ch)]at e1
   rw[show wd l k=[ch]from bV3 hv]
   show(ev (aa1 P (n+5)) (.call "letter_table" (.ex (.var 1) (.ex (.var 0) .nil))) [some (.str [ch]),some m.d] _).bind (zT _)=_
   tbr_iter [e1]
   exact zv jn (by nofun))
  (λ k i j hv=>by
   obtain⟨J,hj⟩:=hk k _ hv
   rw[bT0 hv J hj,<-aF2 G]
   exact jg (P:=P) (n+2) G.R5 _ _ (h k))
  (λ k i q hv=>by
   have J:=hk k _ hv
   rw[bT8 hv J]
   exact aZ8 (P:=P) n G _ q (h k))
 have g1:=λ ρ s=>jG (P:=P) (n:=n+7) (x := "product") (d:=.fn "product") ρ s
 have g2:=λ ρ s=>jG (P:=P) (n:=n+7) (x := "power") (d:=.fn "power") ρ s
 have il:=am1 (bj8 (s:=s)) (av3 h1 λ k=>tbD m (wd l k))
 rw[e0,show(bB some [m.d,y]++ar ac4.vs none)=[some m.d,some y]from rfl,show ac4.body=(.cons (.ret (.ix (.callC "folded" (.ex (.var 1) (.lam "last_table.0" [0] (.ex (.glob "product") (.ex (.glob "power") .nil))))) (.neg (.cst (.int 1))))) .nil)from rfl]
 simp -implicitDefEqProofs only[za,zg,qP,qt,jw,zI,zb,zd,ze,R.bind_ok]
 rw[qD (cs:=[m.d]) _ rfl]
 simp -implicitDefEqProofs only[zI,zD,g1,g2,R.bind_ok,Z]
 rw[if_pos (by rw[h l.length];rfl)]
 simp -implicitDefEqProofs only[R.bind_ok,ao6,il,qb,qe]
 exact zG jn (by nofun)
end
noncomputable def Stp.r (c:Nat):Stp->Rst
 | .let_ x=>.let_ x
 | .pair i j=>.pair i j
 | .sharp i=>.times i c
theorem Stp.t_r (c:Nat)(l:List Stp):l.map (Stp.t (c:Int))=(l.map (Stp.r c)).map Rst.d:=by
 rw[cI]
 exact b8 λ x _=>by cases x<;>rfl
theorem af0.b {l:List Stp}(h:af0 l)(c:Nat):bT3 (l.map (Stp.r c)):=λ k x e=>by
 rw[ao,bZ]at e
 obtain⟨y,hy,rfl⟩:=e
 have:=h k y hy
 cases y with
 | let_ x=>trivial
 | pair i j=>exact⟨this.1,this.2.1⟩
 | sharp i=>exact this.1
section
variable {P:Pr} [Has P ac6] [Has P aa6] [Has P ab9]
theorem ao4 (n:Nat){l:List Stp}(hl:l.length<=5100){m:Mc}(h:m.Ok)(q:Nat)(s:Sto) :
  (aa1 P (n+2)).call "unrolled" [m.d,.tup (l.map Stp.d),.int (q:Int)] s=.ok (.ref s.length) (s++[.lst ((l.map (Stp.r ((q+1)*m.R))).map Rst.d)]):=by
 have G:=h.R5
 have e2:(aa1 P (n+2)).call "unrolled" [m.d,.tup (l.map Stp.d),.int (q:Int)] s=_:=zn ab9 (n:=n+1) rfl
 have y:mulOk ((q:Int)+1) (m.R:Int)=true:=aq7 (by omega)
 have e:((q:Int)+1)*(m.R:Int)=(((q+1)*m.R:Nat):Int):=by rw[dM];rfl
 rw[e2,show(bB some [m.d,D.tup (l.map Stp.d),D.int (q:Int)]++ar ab9.vs none)=[some m.d,some (D.tup (l.map Stp.d)),some (.int (q:Int))]from rfl]
 simp -implicitDefEqProofs only[ab9,za,zg,qP,zU,zI,zD,zb,qi,zw,zz,zd,ze,R.bind_ok,add_int,jh n,ae3 y,aq8 n hl,qb,qe]
 rw[e,<-Stp.t_r]
 exact jb ba2
theorem aX7 {L:List D}{s:Sto}:∀ t,an9 (.ref s.length) (s++[.lst L]++t)=.ok ⟨L,[s.length]⟩ (s++[.lst L]++t):=λ t=>by
 simp only[an9,show(s++[O.lst L]++t)[s.length]?=some (.lst L)from jo bj8]
variable [Has P ad1] [Has P ad0] [Has P ad3] [Has P ab3] [Has P aa3] [HasL P aa2] [Has P ad7] [HasL P aa8] [Has P ab5] [HasL P aa4] [Has P ad6] [Has P ae8] [HasC P "product" (.fn "product")] [HasC P "power" (.fn "power")] [Has P ab7] [Has P ac4] [HasL P ac0] [Has P aa9]
theorem aj1 (n:Nat){l:List Stp}(hl:l.length<=5100)(J:1<=l.length)(hk:af0 l){m:Mc}(h:m.Ok)(q:Nat){s:Sto}(hs:s.all O.ncl=true) :
  (aa1 P (n+9)).call "table_unrolled" [m.d,.tup (l.map Stp.d),.int (q:Int)] s=.ok (tbD m (wd (l.map (Stp.r ((q+1)*m.R))) (l.length - 1))) s:=by
 have G:(aa1 P (n+9)).call "table_unrolled" [m.d,.tup (l.map Stp.d),.int (q:Int)] s=_:=zn aa9 (n:=n+8) rfl
 have e1:=ao4 (P:=P) (n+6) hl h q s
 have y:(s++[O.lst ((l.map (Stp.r ((q+1)*m.R))).map Rst.d)]).all O.ncl=true:=by rw[<-Stp.t_r];exact qE hs aU8
 have e2:=au9 (P:=P) n h (l:=l.map (Stp.r ((q+1)*m.R))) (by rw[ax];exact hl) (by rw[ax];exact J) (hk.b _) y (src:=[s.length]) (by simp) (aX7 (s:=s))
 rw[ax]at e2
 rw[G,show(bB some [m.d,D.tup (l.map Stp.d),D.int (q:Int)]++ar aa9.vs none)=[some m.d,some (D.tup (l.map Stp.d)),some (.int (q:Int))]from rfl,show aa9.body=(.cons (.ret (.call "last_table" (.ex (.var 0) (.ex (.call "unrolled" (.ex (.var 0) (.ex (.var 1) (.ex (.var 2) .nil)))) .nil)))) .nil)from rfl]
 tbr_iter [e1,e2]
 exact zG jn (by nofun)
end
noncomputable def bg (w:List Nat):List Nat:=w.take 2001
theorem cd0 (w:List Nat):bg (bg w)=bg w:=by unfold bg;rw[gZ];rfl
theorem bX3 (v w:List Nat):bg (bg v++bg w)=bg (v++w):=by
 unfold bg
 rw[jM,jM,gZ,gZ,bG]
 by_cases h:v.length<=2001
 ·rw[show min (2001 - min 2001 v.length) 2001=2001 - v.length by omega];simp
 ·rw[show min (2001 - min 2001 v.length) 2001=2001 - v.length by omega];simp
theorem bM7 {w:List Nat}(h:1<=w.length){y:Nat}(G:1<=y):bg (rep (min y (2000 / (bg w).length+1)) (bg w))=bg (rep y w):=by
 by_cases hw:w.length<=2000
 ·have e:bg w=w:=cr (by omega)
  rw[e]
  by_cases hm:y<=2000 / w.length+1
  ·rw[jW hm]
  ·rw[fZ (by omega)]
   obtain⟨t,rfl⟩:∃ t,y=(2000 / w.length+1)+t:=⟨y - (2000 / w.length+1),by omega⟩
   rw[ai8 w t (2000 / w.length+1)]
   unfold bg
   rw[cU]
   rw[rep_len,dY,jP]
   have:=Nat.div_add_mod 2000 w.length
   have:=ke 2000 (show w.length > 0 by omega)
   omega
 ·have e:(bg w).length=2001:=by unfold bg;rw[bG];omega
  rw[e,show 2000 / 2001+1=1 from rfl,fZ G,bn9,cd0]
  obtain⟨t,rfl⟩:∃ t,y=1+t:=⟨y - 1,by omega⟩
  rw[ai8,bn9]
  unfold bg
  rw[cU (by omega)]
section
variable {P:Pr} [HasC P "MOST_WRITTEN" (.int 2000)] [Has P ag1] [Has P ab8]
theorem aK0 (n:Nat)(w:List Nat)(s:Sto):(aa1 P (n+1)).call "begun" [.str w] s=.ok (.str (bg w)) s:=by
 have G:(aa1 P (n+1)).call "begun" [.str w] s=_:=zn ag1 (n:=n) rfl
 have g1:=λ ρ s=>jG (P:=P) (n:=n) (x := "MOST_WRITTEN") (d:=.int 2000) ρ s
 have y:∀ s,slM (.str w) none (some ((2000:Int)+1)) s=.ok (.str (bg w)) s:=λ s=>by
  show R.ok (D.str (aT6 w none (some ((2000:Int)+1)))) s=_
  congr 2
  unfold aT6 loB hiB sbd
  dsimp only
  rw[if_pos (by decide),iY,gS]
  unfold bg
  rw[show((2000:Int)+1).toNat=2001 from rfl]
  by_cases h:w.length<=2001
  ·rw[fZ h,cr (ai _),cr h]
  ·rw[jW (by omega)]
 rw[G,show(bB some [D.str w]++ar ag1.vs none)=[some (.str w)]from rfl,show ag1.body=(.cons (.ret (.slU (.var 0) (.bin .add (.glob "MOST_WRITTEN") (.cst (.int 1))))) .nil)from rfl]
 tbr_iter [bQ7,g1,y]
 exact zv (λ _=>rfl) (by nofun)
theorem ar5 (n:Nat){w:List Nat}(h:1<=w.length){y:Nat}(Z:1<=y)(s:Sto):(aa1 P (n+2)).call "begun_times" [.str (bg w),.int (y:Int)] s=.ok (.str (bg (rep y w))) s:=by
 have e0:(aa1 P (n+2)).call "begun_times" [.str (bg w),.int (y:Int)] s=_:=zn ab8 (n:=n+1) rfl
 have g1:=λ ρ s=>jG (P:=P) (n:=n+1) (x := "MOST_WRITTEN") (d:=.int 2000) ρ s
 have a0:1<=(bg w).length:=by unfold bg;rw[bG];omega
 have Y:(bg w).length<=2001:=by unfold bg;rw[bG];omega
 have hd:qN .fdiv (.int 2000) (.int ((bg w).length:Int)) s=.ok (.int ((2000 / (bg w).length:Nat):Int)) s:=by
  rw[ai1 (by omega) (Int.lt_of_le_of_lt (show((bg w).length:Int)<=2001 by omega) (by decide))];rfl
 have G:(if(2000 / (bg w).length:Nat)+1<(y:Int)then((2000 / (bg w).length:Nat):Int)+1 else(y:Int))=((min y (2000 / (bg w).length+1):Nat):Int):=by
  split<;>omega
 have hq:2000 / (bg w).length<=2000:=Nat.div_le_self _ _
 have J:∀ s,qN .mul (.str (bg w)) (.int ((min y (2000 / (bg w).length+1):Nat):Int)) s=.ok (.str (rep (min y (2000 / (bg w).length+1)) (bg w))) s:=λ s=>by
  have hx:(bg w).length*min y (2000 / (bg w).length+1)<=10000:=by
   refine am (Nat.mul_le_mul_left _ (fT _ _)) ?_
   rw[dY,jP]
   have:=Nat.mul_div_le 2000 (bg w).length
   omega
  have hM:min y (2000 / (bg w).length+1)<=2001:=am (fT _ _) (Nat.succ_le_succ hq)
  generalize min y (2000 / (bg w).length+1)=M at hx hM ⊢
  rw[by2 ⟨by omega,by omega,by rw[cH];unfold LIM;omega⟩,cH]
 have e1:=aK0 (P:=P) n (rep (min y (2000 / (bg w).length+1)) (bg w)) s
 rw[bM7 h Z]at e1
 rw[e0,show(bB some [D.str (bg w),D.int (y:Int)]++ar ab8.vs none)=[some (.str (bg w)),some (.int (y:Int)),none]from rfl,show ab8.body=(.cons (.asg (.one 2) (.bin .add (.bin .fdiv (.glob "MOST_WRITTEN") (.bi .len (.cons (.var 0) .nil))) (.cst (.int 1)))) (.cons (.ret (.call "begun" (.ex (.bin .mul (.var 0) (.bi .min2 (.cons (.var 1) (.cons (.var 2) .nil)))) .nil))) .nil))from rfl]
 tbr_iter [g1,aI2,hd,jt,G,J,e1]
 exact zv (λ _=>rfl) (by nofun)
def ce4 (l:List Rst):Prop:=∀(k i n:Nat),l[k]?=some (Rst.times i n)->1<=n
theorem ce7 {l:List Rst}(hk:bT3 l)(hn:ce4 l):∀ k,k<l.length->1<=(wd l k).length:=by
 intro k
 induction k using gD with
 | _ k ih =>
  intro h
  cases e:l[k]? with
  | none=>rw[ag h]at e;cases e
  | some x =>
   have hb:=hk k x e
   cases x with
   | let_ c=>rw[bV3 e];simp
   | pair i j=>rw[bT0 e hb.1 hb.2,aQ];have:=ih i hb.1 (cG hb.1 h);omega
   | times i n =>
    have G:=hn k i n e
    have y:=ih i hb (cG hb h)
    rw[bT8 e hb,rep_len]
    exact am y (Nat.le_mul_of_pos_right _ G)
variable [HasC P "begun_times" (.fn "begun_times")] [Has P ab7] [Has P ad5] [HasL P ac8] [HasL P ac9]
theorem aE5 (n:Nat){l:List Rst}(hl:l.length<=5100)(h1:1<=l.length)(hk:bT3 l)(hn:ce4 l){s:Sto}(hs:s.all O.ncl=true){h:D}{src:List Nat}(hsr:∀ r∈src,r<s.length)(Y:∀ t,an9 h (s++t)=.ok ⟨l.map Rst.d,src⟩ (s++t))(hw:(wd l (l.length - 1)).length<=2000) :
  (aa1 P (n+4)).call "last_word" [h] s=.ok (.str (wd l (l.length - 1))) s:=by
 have e0:(aa1 P (n+4)).call "last_word" [h] s=_:=zn ad5 (n:=n+3) rfl
 have J:=aB2 hs (W:=λ k=>.str (bg (wd l k))) (λ k=>rfl)
 have hf:=au6 (P:=P) (n+2) hl hk hsr Y (.clo "last_word.1" []) (.clo "last_word.0" []) (.fn "begun_times") (λ k=>.str (bg (wd l k))) (λ _ n=>rfl)
  (λ k ch hv=>by
   refine(jk ac9 (n:=n+1) rfl rfl (by rw[J k];rfl)).trans ?_
   rw[show wd l k=[ch]from bV3 hv]
   exact zv (λ _=>rfl) (by nofun))
  (λ k i j hv=>by
   refine(jk ac8 (n:=n+1) rfl rfl (by rw[J k];rfl)).trans ?_
   obtain⟨y,hj⟩:=hk k _ hv
   have e1:=aK0 (P:=P) n (bg (wd l i)++bg (wd l j)) (s++[.lst ((ac k).map λ k=>D.str (bg (wd l k)))])
   rw[bX3]at e1
   have hb:∀ v:List Nat,(bg v).length<=2001:=λ v=>by unfold bg;rw[bG];omega
   have ea:∀ s,qN .add (.str (bg (wd l i))) (.str (bg (wd l j))) s=.ok (.str (bg (wd l i)++bg (wd l j))) s:=λ s=>aX1 (by have:=hb (wd l i);have:=hb (wd l j);unfold LIM;omega)
   rw[bT0 hv y hj]
   show(ev (aa1 P (n+1)) (.call "begun" (.ex (.bin .add (.var 0) (.var 1)) .nil)) [some (.str (bg (wd l i))),some (.str (bg (wd l j)))] _).bind (zT _)=_
   tbr_iter [ea,e1]
   exact zv (λ _=>rfl) (by nofun))
  (λ k i q hv=>by
   have y:=hk k _ hv
   rw[bT8 hv y]
   have G:=(ab.mp hv).1
   exact ar5 (P:=P) n (ce7 hk hn i (cG y G)) (hn k i q hv) _)
 have g1:=λ ρ s=>jG (P:=P) (n:=n+3) (x := "begun_times") (d:=.fn "begun_times") ρ s
 have g2:=λ ρ s=>jG (P:=P) (n:=n+3) (x := "MOST_WRITTEN") (d:=.int 2000) ρ s
 have Z:=am1 (bj8 (s:=s)) (av3 h1 λ k=>D.str (bg (wd l k)))
 have eb:bg (wd l (l.length - 1))=wd l (l.length - 1):=cr (by omega)
 rw[eb]at Z
 rw[e0,show(bB some [h]++ar ad5.vs none)=[some h,none]from rfl,show ad5.body=(.cons (.asg (.one 1) (.ix (.callC "folded" (.ex (.var 0) (.lam "last_word.1" [] (.lam "last_word.0" [] (.ex (.glob "begun_times") .nil))))) (.neg (.cst (.int 1))))) (.cons (.ite (.cmp .gt (.bi .len (.cons (.var 1) .nil)) (.glob "MOST_WRITTEN")) (.cons .raise .nil) .nil) (.cons (.ret (.var 1)) .nil)))from rfl]
 simp -implicitDefEqProofs only[za,zg,qf,qt,jw,zI,zb,zd,ze,R.bind_ok]
 rw[qD (cs:=[]) _ rfl,qD (cs:=[]) _ rfl]
 simp -implicitDefEqProofs only[zI,zD,g1,R.bind_ok,hf]
 rw[if_pos (by rw[J l.length];rfl)]
 tbr_iter [ao6,Z,aI2,g2,show((2000:Int)<((wd l (l.length - 1)).length:Int))=False from eq_false (by omega)]
 exact zG (λ _=>rfl) (by nofun)
variable [Has P ac6] [Has P aa6] [Has P ab9] [Has P ab4]
theorem ak6 (n:Nat){l:List Stp}(hl:l.length<=5100)(Z:1<=l.length)(hk:af0 l){m:Mc}(G:m.Ok)(q:Nat){s:Sto}(hs:s.all O.ncl=true)(hw:(wd (l.map (Stp.r ((q+1)*m.R))) (l.length - 1)).length<=2000) :
  (aa1 P (n+5)).call "word_unrolled" [m.d,.tup (l.map Stp.d),.int (q:Int)] s=.ok (.str (wd (l.map (Stp.r ((q+1)*m.R))) (l.length - 1))) s:=by
 have Y:(aa1 P (n+5)).call "word_unrolled" [m.d,.tup (l.map Stp.d),.int (q:Int)] s=_:=zn ab4 (n:=n+4) rfl
 have e1:=ao4 (P:=P) (n+2) hl G q s
 have J:(s++[O.lst ((l.map (Stp.r ((q+1)*m.R))).map Rst.d)]).all O.ncl=true:=by rw[<-Stp.t_r];exact qE hs aU8
 have hn:ce4 (l.map (Stp.r ((q+1)*m.R))):=λ k i n e=>by
  rw[ao,bZ]at e
  obtain⟨y,_,h⟩:=e
  cases y<;>cases h
  exact Nat.mul_pos (by omega) G.R1
 have e2:=aE5 (P:=P) n (l:=l.map (Stp.r ((q+1)*m.R))) (by rw[ax];exact hl) (by rw[ax];exact Z) (hk.b _) hn J (src:=[s.length]) (by simp) (aX7 (s:=s)) (by rw[ax];exact hw)
 rw[ax]at e2
 rw[Y,show(bB some [m.d,D.tup (l.map Stp.d),D.int (q:Int)]++ar ab4.vs none)=[some m.d,some (D.tup (l.map Stp.d)),some (.int (q:Int))]from rfl,show ab4.body=(.cons (.ret (.call "last_word" (.ex (.call "unrolled" (.ex (.var 0) (.ex (.var 1) (.ex (.var 2) .nil)))) .nil))) .nil)from rfl]
 tbr_iter [e1,e2]
 exact zG (λ _=>rfl) (by nofun)
end
noncomputable def lsO (a b:Option Int):Option Int:=match a,b with
 | none,b=>b
 | some x,none=>some x
 | some x,some y=>if y<x then some y else some x
theorem aD6 {P:Pr}[Has P ac5](n:Nat)(a b:Option Int)(s:Sto):(aa1 P (n+1)).call "_law_least" [zV a,zV b] s=.ok (zV (lsO a b)) s:=by
 have G:(aa1 P (n+1)).call "_law_least" [zV a,zV b] s=_:=zn ac5 (n:=n) rfl
 rw[G,show(bB some [zV a,zV b]++ar ac5.vs none)=[some (zV a),some (zV b)]from rfl]
 simp -implicitDefEqProofs only[ac5]
 have J:∀ i:Int,∀ s,qz .lt (.int i) (.int i) s=.ok (.bl false) s:=λ i s=>by simp
 cases a with
 | none =>
  cases b with
  | none=>exact zv (λ _=>rfl) (by nofun)
  | some y=>exact qh
 | some x =>
  cases b with
  | none=>exact qh
  | some y =>
   by_cases h:y<x
   ·simp -implicitDefEqProofs only[za,zg,qg,ev_or,ev_and,ev_isN,ev_notN,zb,zd,ze,R.bind_ok,zV,zH,zO,lt_int,h,decide_true,if_true,if_false,aK,qP,qb,qe,lsO]
    exact qh
   ·simp -implicitDefEqProofs only[za,zg,qg,ev_or,ev_and,ev_isN,ev_notN,zb,zd,ze,R.bind_ok,zV,zH,zO,lt_int,h,decide_false,if_true,if_false,aK,qP,qb,zl,qe,lsO]
    exact qh
noncomputable def tmN (f g:Nat->Nat->Option Int)(i j:Nat):Nat->Option Int
 | 0=>none
 | k+1=>match f i k,g k j with
  | some a,some b=>lsO (tmN f g i j k) (some (a+b))
  | _,_=>tmN f g i j k
def TmS (f g:Nat->Nat->Option Int)(i j k:Nat)(c:Int):Prop:=∃ l,l<k/\∃ a b,f i l=some a/\g l j=some b/\c=a+b
theorem aD1 {S:Int->Prop}{o:Option Int}(h:ae9 S o)(y:Int):ae9 (λ c=>S c\/c=y) (lsO o (some y)):=by
 cases o with
 | none=>exact⟨.inr rfl,λ c hc=>by rcases hc with hc|hc;exact absurd hc (h c);omega⟩
 | some x =>
  unfold lsO
  dsimp only
  split
  ·exact⟨.inr rfl,λ c hc=>by rcases hc with hc|hc;have:=h.2 c hc;omega;omega⟩
  ·exact⟨.inl h.1,λ c hc=>by rcases hc with hc|hc;exact h.2 c hc;omega⟩
theorem az5 (f g:Nat->Nat->Option Int)(i j:Nat):∀ k,ae9 (TmS f g i j k) (tmN f g i j k)
 | 0=>λ c hc=>by obtain⟨l,hl,_⟩:=hc;omega
 | k+1=>by
  have Y:=az5 f g i j k
  have same:(∀ a b,¬(f i k=some a/\g k j=some b))->ae9 (TmS f g i j (k+1)) (tmN f g i j k):=λ J=>Y.congr λ c=>by
   constructor
   ·rintro⟨l,hl,r⟩;exact⟨l,by omega,r⟩
   ·rintro⟨l,hl,a,b,G,y,h3⟩
    by_cases e:l=k
    ·subst e;exact absurd ⟨G,y⟩ (J a b)
    ·exact⟨l,by omega,a,b,G,y,h3⟩
  show ae9 (TmS f g i j (k+1)) (match f i k,g k j with|some a,some b=>lsO (tmN f g i j k) (some (a+b))|_,_=>tmN f g i j k)
  cases e1:f i k with
  | none=>exact same λ a b h=>by rw[e1]at h;cases h.1
  | some a =>
   cases e2:g k j with
   | none=>exact same λ a b h=>by rw[e2]at h;cases h.2
   | some b =>
    refine(aD1 Y (a+b)).congr λ c=>?_
    constructor
    ·rintro(⟨l,hl,r⟩|rfl)
     ·exact⟨l,by omega,r⟩
     ·exact⟨k,by omega,a,b,e1,e2,rfl⟩
    ·rintro⟨l,hl,a',Z,G,y,h3⟩
     by_cases e:l=k
     ·subst e;rw[e1]at G;rw[e2]at y;cases G;cases y;exact .inr h3
     ·exact .inl ⟨l,by omega,a',Z,G,y,h3⟩
theorem bw8 (m:Nat)(f g:Nat->Nat->Option Int)(i j:Nat):tmN f g i j m=prO m f g i j:=by
 refine(az5 f g i j m).eq (S':=TmS f g i j m) (ae9.low ?_ ?_) λ _=>Iff.rfl
 ·intro x hx
  obtain⟨o,ho,e⟩:=bN.mp hx
  obtain⟨k,hk,rfl⟩:=aB.mp ho
  have hk:=bA.mp hk
  refine⟨k,hk,?_⟩
  cases e1:f i k with
  | none=>rw[e1]at e;simp[addO]at e
  | some a=>cases e2:g k j with
   | none=>rw[e1,e2]at e;simp[addO]at e
   | some b=>rw[e1,e2]at e;exact⟨a,b,rfl,rfl,by simpa [addO]using e.symm⟩
 ·rintro c ⟨k,hk,a,b,y,h,rfl⟩
  exact⟨a+b,bN.mpr ⟨addO (f i k) (g k j),aB.mpr ⟨k,bA.mpr hk,rfl⟩,by rw[y,h];rfl⟩,eF _⟩
noncomputable def tmI:Ss:=(.cons (.ite (.and (.notN (.ix (.var 3) (.var 7))) (.notN (.ix (.ix (.var 1) (.var 7)) (.var 5)))) (.cons (.asg (.one 6) (.call "_law_least" (.ex (.var 6) (.ex (.bin .add (.ix (.var 3) (.var 7)) (.ix (.ix (.var 1) (.var 7)) (.var 5))) .nil)))) .nil) .nil) .nil)
noncomputable def tmJ:Ss:=(.cons (.asg (.one 6) (.cst .non)) (.cons (.for_ (.one 7) (.rng1 (.bi .len (.cons (.var 0) .nil))) tmI) (.cons (.ex (.meth .append (.var 4) (.cons (.var 6) .nil))) .nil)))
noncomputable def tmL:Ss:=(.cons (.asg (.one 4) (.lst .nil)) (.cons (.for_ (.one 5) (.rng1 (.bi .len (.cons (.var 0) .nil))) tmJ) (.cons (.ex (.meth .append (.var 2) (.cons (.mk .tuple (.seq (.var 4))) .nil))) .nil)))
theorem bu7:af4.body=(.cons (.asg (.one 2) (.lst .nil)) (.cons (.for_ (.one 3) (.seq (.var 0)) tmL) (.cons (.ret (.mk .tuple (.seq (.var 2)))) .nil))):=rfl
section
variable {P:Pr} [Has P ac5] [Has P af4]
theorem aW8 (a:Int):(D.int a=D.non)=False:=eq_false (by nofun)
theorem bR9 (n:Nat){m:Nat}(f g:Nat->Nat->Option Int){i j:Nat}(hj:j<m)(t:Sto)(J Y Z:Option D) :
  ∃ y,aN8 (λ s1=>chk t s1 []) (turn (aa1 P (n+1)) (.one 7) tmI) (jy 0 (m:Int)) [some (gdO m f),some (gdO m g),J,some (.tup (rowO m (f i))),Y,some (.int (j:Int)),some .non,Z] t=.ok (.next [some (gdO m f),some (gdO m g),J,some (.tup (rowO m (f i))),Y,some (.int (j:Int)),some (zV (prO m f g i j)),y]) t:=by
 have key:=jj (ok:=λ s1=>chk t s1 []) (g:=turn (aa1 P (n+1)) (.one 7) tmI) (λ k ρ u=>u=t/\∃ y,ρ=[some (gdO m f),some (gdO m g),J,some (.tup (rowO m (f i))),Y,some (.int (j:Int)),some (zV (tmN f g i j k)),y]) (jy 0 (m:Int)) 0 [some (gdO m f),some (gdO m g),J,some (.tup (rowO m (f i))),Y,some (.int (j:Int)),some .non,Z] t ⟨rfl,Z,rfl⟩ (λ _ _ _ _ _=>rfl) (by
  rintro k d ρ u hk ⟨rfl,y,rfl⟩
  obtain⟨G,rfl⟩:=qc hk
  rw[bq]
  refine⟨[some (gdO m f),some (gdO m g),J,some (.tup (rowO m (f i))),Y,some (.int (j:Int)),some (zV (tmN f g i j (k+1))),some (.int (k:Int))],u,.inl ?_,rfl,_,rfl⟩
  have r1:=ay8 (f:=f i) G u
  have r2:=bc3 (f:=g) G u
  have h:=ay8 (f:=g k) hj u
  unfold turn tmI
  cases e1:f i k with
  | none =>
   rw[e1]at r1
   rw[show tmN f g i j (k+1)=tmN f g i j k by show(match f i k,g k j with|some a,some b=>lsO (tmN f g i j k) (some (a+b))|_,_=>tmN f g i j k)=_;rw[e1]]
   rw[show zV none=.non from rfl]at r1
   tbr_iter [r1]
  | some a =>
   rw[e1]at r1
   cases e2:g k j with
   | none =>
    rw[e2]at h
    rw[show tmN f g i j (k+1)=tmN f g i j k by show(match f i k,g k j with|some a,some b=>lsO (tmN f g i j k) (some (a+b))|_,_=>tmN f g i j k)=_;rw[e1,e2]]
    rw[show zV (some a)=.int a from rfl]at r1
    rw[show zV none=.non from rfl]at h
    tbr_iter [r1,r2,h,aW8]
   | some b =>
    rw[e2]at h
    rw[show tmN f g i j (k+1)=lsO (tmN f g i j k) (some (a+b))by show(match f i k,g k j with|some a,some b=>lsO (tmN f g i j k) (some (a+b))|_,_=>tmN f g i j k)=_;rw[e1,e2]]
    have el:=aD6 (P:=P) n (tmN f g i j k) (some (a+b)) u
    rw[show zV (some (a+b))=.int (a+b)from rfl]at el
    rw[show zV (some a)=.int a from rfl]at r1
    rw[show zV (some b)=.int b from rfl]at h
    tbr_iter [r1,r2,h,el,aW8])
 obtain⟨ρ',u',ek,rfl,y,rfl⟩:=key
 rw[bq,zK,bw8]at ek
 exact⟨y,ek⟩
theorem bo7 (n:Nat){m:Nat}(hm:m<=5)(f g:Nat->Nat->Option Int)(s:Sto):(aa1 P (n+2)).call "_law_times" [gdO m f,gdO m g] s=.ok (gdO m (prO m f g)) s:=by
 have e0:(aa1 P (n+2)).call "_law_times" [gdO m f,gdO m g] s=_:=zn af4 (n:=n+1) rfl
 have Y:∀ s,bi .len [gdO m f] s=.ok (.int m) s:=λ s=>aF9
 have hJ:∀(U:Sto) (i:Nat) (Z x5 x6 x7:Option D),∃ G y h,aN8 (λ s1=>chk (U++[O.lst []]) s1 []) (turn (aa1 P (n+1)) (.one 5) tmJ) (jy 0 (m:Int)) [some (gdO m f),some (gdO m g),Z,some (.tup (rowO m (f i))),some (.ref U.length),x5,x6,x7] (U++[O.lst []])=.ok (.next [some (gdO m f),some (gdO m g),Z,some (.tup (rowO m (f i))),some (.ref U.length),G,y,h]) (U++[.lst (rowO m (prO m f g i))]):=λ U i Z x5 x6 x7=>by
  have key:=jj (ok:=λ s1=>chk (U++[O.lst []]) s1 []) (g:=turn (aa1 P (n+1)) (.one 5) tmJ) (λ j ρ u=>u=U++[.lst ((ac j).map λ j=>zV (prO m f g i j))]/\∃ G y h,ρ=[some (gdO m f),some (gdO m g),Z,some (.tup (rowO m (f i))),some (.ref U.length),G,y,h]) (jy 0 (m:Int)) 0 [some (gdO m f),some (gdO m g),Z,some (.tup (rowO m (f i))),some (.ref U.length),x5,x6,x7] (U++[O.lst []]) ⟨rfl,_,_,_,rfl⟩ (λ _ _ _ _ _=>rfl) (by
   rintro j d ρ u hj ⟨rfl,G,y,h,rfl⟩
   obtain⟨a0,rfl⟩:=qc hj
   rw[bq]
   obtain⟨z7,J⟩:=bR9 (P:=P) n f g (i:=i) a0 (U++[.lst ((ac j).map λ j=>zV (prO m f g i j))]) Z (some (.ref U.length)) h
   have ha:meth .append (.ref U.length) [zV (prO m f g i j)] (U++[.lst ((ac j).map λ j=>zV (prO m f g i j))])=.ok .non (U++[.lst ((ac (j+1)).map λ j=>zV (prO m f g i j))]):=by
    rw[qC (by unfold LIM;rw[ax,b7];omega),bL,bE];rfl
   refine⟨_,_,.inl ?_,rfl,some (.int (j:Int)),some (zV (prO m f g i j)),z7,rfl⟩
   unfold turn tmJ
   tbr_iter [Y]
   rw[zL (by unfold W62;omega) (by unfold W62;omega)]
   simp -implicitDefEqProofs only[R.bind_ok]
   rw[J]
   tbr_iter [ha])
  obtain⟨ρ',u',J,rfl,G,y,h,rfl⟩:=key
  rw[bq,zK]at J
  exact⟨G,y,h,J⟩
 rw[e0,bu7,show(bB some [gdO m f,gdO m g]++ar af4.vs none)=[some (gdO m f),some (gdO m g),none,none,none,none,none,none]from rfl]
 have a1:∀ s,an9 (gdO m f) s=.ok ⟨(ac m).map λ i=>.tup (rowO m (f i)),[]⟩ s:=λ s=>rfl
 have key:=jj (ok:=λ s1=>chk (s++[O.lst []]) s1 []) (g:=turn (aa1 P (n+1)) (.one 3) tmL) (λ i ρ u=>∃(T:Sto) (y3 y4 G y h:Option D),u=s++.lst ((ac i).map λ i=>.tup (rowO m (prO m f g i)))::T/\ρ=[some (gdO m f),some (gdO m g),some (.ref s.length),y3,y4,G,y,h]) ((ac m).map λ i=>.tup (rowO m (f i))) 0 [some (gdO m f),some (gdO m g),some (.ref s.length),none,none,none,none,none] (s++[O.lst []]) ⟨[],_,_,_,_,_,rfl,rfl⟩ (λ _ _ _ _ _=>rfl) (by
  rintro i d ρ u hi ⟨T,y3,y4,G,y,h,rfl,rfl⟩
  obtain⟨a2,rfl⟩:=be0 hi
  rw[bq]
  obtain⟨z5,z6,z7,J⟩:=hJ (s++.lst ((ac i).map λ i=>.tup (rowO m (prO m f g i)))::T) i (some (.ref s.length)) G y h
  have hl:ay7 (.ref (s++O.lst ((ac i).map λ i=>D.tup (rowO m (prO m f g i)))::T).length) (s++O.lst ((ac i).map λ i=>D.tup (rowO m (prO m f g i)))::T++[.lst (rowO m (prO m f g i))])=.ok (rowO m (prO m f g i)) (s++O.lst ((ac i).map λ i=>D.tup (rowO m (prO m f g i)))::T++[.lst (rowO m (prO m f g i))]):=by simp only[ay7,bj8]
  have ha:meth .append (.ref s.length) [.tup (rowO m (prO m f g i))] (s++O.lst ((ac i).map λ i=>D.tup (rowO m (prO m f g i)))::T++[.lst (rowO m (prO m f g i))])=.ok .non (s++.lst ((ac (i+1)).map λ i=>.tup (rowO m (prO m f g i)))::(T++[.lst (rowO m (prO m f g i))])):=by
   rw[cg,cw,ay3 (by unfold LIM;rw[ax,b7];omega),bL,bE];rfl
  refine⟨_,_,.inl ?_,T++[.lst (rowO m (prO m f g i))],some (.tup (rowO m (f i))),some (.ref (s++O.lst ((ac i).map λ i=>D.tup (rowO m (prO m f g i)))::T).length),z5,z6,z7,rfl,rfl⟩
  unfold turn tmL
  tbr_iter [Y]
  rw[zL (by unfold W62;omega) (by unfold W62;omega)]
  simp -implicitDefEqProofs only[R.bind_ok]
  rw[J]
  tbr_iter [hl,mk,ha])
 obtain⟨ρ',u',J,T,y3,y4,G,y,h,rfl,rfl⟩:=key
 rw[bq,ax,b7]at J
 have h0:ay7 (.ref s.length) (s++O.lst ((ac m).map λ i=>D.tup (rowO m (prO m f g i)))::T)=.ok ((ac m).map λ i=>D.tup (rowO m (prO m f g i))) (s++O.lst ((ac m).map λ i=>D.tup (rowO m (prO m f g i)))::T):=by
  simp only[ay7,show(s++O.lst ((ac m).map λ i=>D.tup (rowO m (prO m f g i)))::T:Sto)[s.length]?=some (.lst ((ac m).map λ i=>D.tup (rowO m (prO m f g i))))by rw[af (ai _)];simp]
 tbr_iter [a1]
 rw[J]
 tbr_iter [h0,mk]
 exact zG (d:=gdO m (prO m f g)) jF (by nofun)
theorem ap4 (n:Nat){m:Mc}(h:m.Ok)(v w:List Nat)(s:Sto):(aa1 P (n+2)).call "_law_times" [tbD m v,tbD m w] s=.ok (tbD m (v++w)) s:=by
 rw[<-aF2 h];exact bo7 (P:=P) n h.R5 _ _ s
end
noncomputable def bJ5:S:=(.ite (.cmp .eq (.bin .mod (.var 1) (.cst (.int 2))) (.cst (.int 1))) (.cons (.asg (.one 2) (.ite (.isN (.var 2)) (.var 0) (.call "_law_times" (.ex (.var 2) (.ex (.var 0) .nil))))) .nil) .nil)
noncomputable def bM0:S:=(.ite (.cmp .gt (.var 1) (.cst (.int 0))) (.cons (.asg (.one 0) (.call "_law_times" (.ex (.var 0) (.ex (.var 0) .nil)))) .nil) .nil)
theorem bj9:ae1.body=(.cons (.asg (.one 2) (.cst .non)) (.cons (.whl (.cmp .gt (.var 1) (.cst (.int 0))) (.cons bJ5 (.cons (.asg (.one 1) (.bin .fdiv (.var 1) (.cst (.int 2)))) (.cons bM0 .nil)))) (.cons (.ret (.var 2)) .nil))):=rfl
noncomputable def fnd (m:Mc)(w:List Nat)(a:Nat):D:=if a=0 then .non else tbD m (rep a w)
theorem bG0 (m:Mc)(w:List Nat):(tbD m w=D.non)=False:=eq_false (by nofun)
section
variable {P:Pr} [Has P ac5] [Has P af4] [Has P ae1]
theorem bv5 (n:Nat){m:Mc}(G:m.Ok)(w:List Nat)(a b left:Nat)(J:1<=b)(s:Sto):∃ y:Nat,y+b*(2*(left / 2))=a+b*left/\ex (aa1 P (n+2)) bJ5 [some (tbD m (rep b w)),some (.int (left:Int)),some (fnd m w a)] s=.ok (.next [some (tbD m (rep b w)),some (.int (left:Int)),some (fnd m w y)]) s:=by
 have h:qN .mod (.int left) (.int 2) s=.ok (.int ((left % 2:Nat):Int)) s:=by rw[jm (by decide)];simp
 by_cases ho:((left % 2:Nat):Int)=1
 ·have hb:b*left=b*(2*(left / 2))+b:=by
   have:left=2*(left / 2)+1:=by omega
   conv=>lhs;rw[this]
   rw[dY,jP]
  by_cases ha:a=0
  ·refine⟨b,by omega,?_⟩
   subst ha
   unfold bJ5
   rw[show fnd m w b=tbD m (rep b w)from if_neg (by omega),show fnd m w 0=D.non from rfl]
   tbr_iter [h,ho]
  ·refine⟨a+b,by omega,?_⟩
   have e1:=ap4 (P:=P) n G (rep a w) (rep b w) s
   rw[<-ai8]at e1
   unfold bJ5
   rw[show fnd m w a=tbD m (rep a w)from if_neg ha,show fnd m w (a+b)=tbD m (rep (a+b) w)from if_neg (by omega)]
   tbr_iter [h,ho,bG0,e1]
 ·have hb:b*left=b*(2*(left / 2)):=by
   have:left=2*(left / 2):=by omega
   conv=>lhs;rw[this]
  refine⟨a,by omega,?_⟩
  unfold bJ5
  tbr_iter [h,ho]
theorem bD8 (n : Nat) {m : Mc} (hm : m.Ok) (w : List Nat) (b left : Nat) (hb1 : 1 <= b) (x2 : Option D) (s : Sto) : ∃ b' : Nat, 1 <= b' /\ b' * left = b * (2 * left) /\ ex (aa1 P (n + 2)) bM0 [some (tbD m (rep b w)), some (.int (left : Int)), x2] s = .ok (.next [some (tbD m (rep b' w)), some (.int (left : Int)), x2]) s := by
  by_cases hl : (0 : Int) < (left : Int)
  · refine⟨b + b, by omega, by rw[Nat.add_mul, <- fN, iW b 2, fN, Nat.two_mul], ?_⟩
    have e1 := ap4 (P := P) n hm (rep b w) (rep b w) s
    rw[<- ai8]at e1
    unfold bM0
    tbr_iter [hl, e1]
  · refine ⟨b, hb1, by have : left = 0 := by omega
                       rw[this], ?_⟩
    unfold bM0
    tbr_iter [hl]
theorem bg7 (n:Nat){m:Mc}(hm:m.Ok)(w:List Nat)(h:Nat)(h1:1<=h)(s:Sto):(aa1 P (n+3)).call "_law_power" [tbD m w,.int (h:Int)] s=.ok (tbD m (rep h w)) s:=by
 have e0:(aa1 P (n+3)).call "_law_power" [tbD m w,.int (h:Int)] s=_:=zn ae1 (n:=n+2) rfl
 rw[e0,bj9,show(bB some [tbD m w,D.int (h:Int)]++ar ae1.vs none)=[some (tbD m w),some (.int (h:Int)),none]from rfl]
 tbr_iter []
 rw[R.bind_assoc]
 refine aM0 (λ k ρ t=>∃(a b left:Nat),left=k/\1<=b/\a+b*left=h/\ρ=[some (tbD m (rep b w)),some (.int (left:Int)),some (fnd m w a)]/\t=s) (λ ρ t=>∃(x0 x1:Option D),ρ=[x0,x1,some (tbD m (rep h w))]/\t=s) h ⟨0,1,h,rfl,ai _,by omega,by rw[bn9];rfl,rfl⟩ ?_ ?_
 ·rintro k ρ t ⟨a,b,left,rfl,G,hab,rfl,rfl⟩
  simp -implicitDefEqProofs only[zO,zb,zw,zz,zd,ze,R.bind_ok,gt_int,br1]
  by_cases hl:(0:Int)<(left:Int)
  ·simp only[hl,decide_true,if_true]
   have y:qN .fdiv (.int left) (.int 2) t=.ok (.int ((left / 2:Nat):Int)) t:=by rw[ai1 (by decide) (by decide)];simp
   obtain⟨Z,ha',e1⟩:=bv5 (P:=P) n hm w a b left G t
   obtain⟨b',Y,J,e2⟩:=bD8 (P:=P) n hm w b (left / 2) G (some (fnd m w Z)) t
   have e3:exs (aa1 P (n+2)) (.cons bJ5 (.cons (.asg (.one 1) (.bin .fdiv (.var 1) (.cst (.int 2)))) (.cons bM0 .nil))) [some (tbD m (rep b w)),some (.int (left:Int)),some (fnd m w a)] t=.ok (.next [some (tbD m (rep b' w)),some (.int ((left / 2:Nat):Int)),some (fnd m w Z)]) t:=by
    tbr_iter [e1,y,e2]
   rw[e3]
   exact⟨left / 2,by omega,Z,b',left / 2,rfl,Y,by rw[J,ha'];exact hab,rfl,rfl⟩
  ·simp only[hl,decide_false,if_false,aK]
   have h0:left=0:=by omega
   subst h0
   have:a=h:=by omega
   subst this
   exact⟨_,_,by rw[show fnd m w a=tbD m (rep a w)from if_neg (by omega)],trivial⟩
 ·rintro ρ t ⟨x0,x1,rfl,rfl⟩
  tbr_iter []
  exact zv jn (by nofun)
end
noncomputable def qW (m:Nat)(f:Nat->Nat->Option Int):Sto:=(ac m).map λ i=>.lst (rowO m (f i))
@[simp] theorem aS3 {m:Nat} {f:Nat->Nat->Option Int}:(qW m f).length=m:=by unfold qW;simp
theorem ju {m i:Nat}{f:Nat->Nat->Option Int}(h:i<m):(qW m f)[i]?=some (.lst (rowO m (f i))):=by
 unfold qW;rw[ao,aV h];rfl
theorem bn4 {m b:Nat}{f:Nat->Option Int}{v:Option Int}:(rowO m f).set b (zV v)=rowO m λ j=>if j=b then v else f j:=by
 apply dm
 intro j
 by_cases hj:j<m
 ·rw[al9 hj]
  by_cases e:j=b
  ·subst e;rw[aS (by rw[am4];exact hj),if_pos rfl]
  ·rw[aY (λ z=>e z.symm),al9 hj,if_neg e]
 ·rw[aZ (by rw[bw,am4];omega),aZ (by rw[am4];omega)]
theorem aP6 {m a b:Nat}{f:Nat->Nat->Option Int}{v:Option Int}:(qW m f).set a (.lst ((rowO m (f a)).set b (zV v)))=qW m λ i j=>if i=a/\j=b then v else f i j:=by
 apply dm
 intro i
 by_cases hi:i<m
 ·rw[ju hi]
  by_cases e:i=a
  ·subst e;rw[aS (by rw[aS3];exact hi),bn4]
   simp
  ·rw[aY (λ z=>e z.symm),ju hi]
   simp[e]
 ·rw[aZ (by simp;omega),aZ (by simp;omega)]
noncomputable def ltN (ds:List Dr)(c i j:Nat):Nat->Option Int
 | 0=>none
 | k+1=>match ds[k]? with
  | some x=>if x.l=c/\i=x.a/\j=x.b then lsO (ltN ds c i j k) (some (x.t:Int))else ltN ds c i j k
  | none=>ltN ds c i j k
noncomputable def ltM (m:Mc)(c i j:Nat):Option Int:=ltN m.ds c i j m.ds.length
theorem aE8 (G:List Dr)(c i j:Nat):∀ k,k<=G.length->ae9 (λ y=>∃ d∈G.take k,d.l=c/\d.a=i/\d.b=j/\y=(d.t:Int)) (ltN G c i j k)
 | 0,_=>λ y hy=>by obtain⟨d,hd,_⟩:=hy;simp at hd
 | k+1,hk=>by
  have ih:=aE8 G c i j k (by omega)
  have hx:G[k]?=some G[k]:=ag (by omega)
  rw[ltN,hx]
  dsimp only
  rw[ah3 hx]
  split
  ·rename_i h
   obtain⟨h1,h2,h3⟩:=h
   refine(aD1 ih (G[k].t:Int)).congr λ y=>?_
   constructor
   ·rintro(⟨d,hd,r⟩|rfl)
    ·exact⟨d,dr _ hd,r⟩
    ·exact⟨G[k],bf _ (bJ.mpr rfl),h1,h2.symm,h3.symm,rfl⟩
   ·rintro⟨d,hd,J,a2,Y,Z⟩
    rcases bV.mp hd with hd|hd
    ·exact .inl ⟨d,hd,J,a2,Y,Z⟩
    ·rw[bJ.mp hd]at Z;exact .inr Z
  ·rename_i h
   refine ih.congr λ y=>?_
   constructor
   ·rintro⟨d,hd,r⟩;exact⟨d,dr _ hd,r⟩
   ·rintro⟨d,hd,J,a2,Y,Z⟩
    rcases bV.mp hd with hd|hd
    ·exact⟨d,hd,J,a2,Y,Z⟩
    ·rw[bJ.mp hd]at J a2 Y;exact absurd ⟨J,a2.symm,Y.symm⟩ h
theorem bw5 (m:Mc)(c:Nat):al1 m [c] (ltM m c):=λ i j _ _=>by
 have:=aE8 m.ds c i j m.ds.length (ai _)
 rw[cR]at this
 exact this.congr λ y=>aU7.symm
theorem ak8 {P:Pr}[Has P ac5][Has P aa5](n:Nat){m:Mc}(hm:m.Ok)(c:Nat)(s:Sto) :
  (aa1 P (n+2)).call "_law_letter_table" [m.d,.str [c]] s=.ok (gdO m.R (ltM m c)) s:=by
 have e0:(aa1 P (n+2)).call "_law_letter_table" [m.d,.str [c]] s=_:=zn aa5 (n:=n+1) rfl
 have hR:=hm.R5
 rw[e0]
 simp -implicitDefEqProofs [aa5,ixR]
 rw[zL (by unfold W62;omega) (by unfold W62;omega)]
 simp only[R.bind_ok]
 rw[if_pos (by rw[zK];unfold LIM;omega)]
 obtain⟨ρ1,s1,e1,G⟩:=aC3 (ok:=λ s1=>chk s s1 []) (g:=qM (aa1 P (n+1)) (.one 0) (.mk .list (.comp (.one 0) (.rng1 (.var 1)) (.cst .non) [none]))) (λ k ρ u=>u=s++(ac k).map (λ _=>O.lst (rowO m.R λ _=>none))/\∃ x,ρ=[x,some (.int m.R)]) (λ i=>.ref (s.length+i)) m.R (λ _ _ _ _=>rfl) (by
  rintro j hj ρ u ⟨rfl,x,rfl⟩
  refine⟨[some (.int j),some (.int m.R)],_,?_,rfl,_,rfl⟩
  simp -implicitDefEqProofs [qM]
  rw[zL (by unfold W62;omega) (by unfold W62;omega)]
  simp only[R.bind_ok]
  rw[if_pos (by rw[zK];unfold LIM;omega)]
  obtain⟨ρ1,s1,e1,G⟩:=ah7 (ok:=λ s1=>chk (s++(ac j).map (λ _=>O.lst (rowO m.R λ _=>none))) s1 []) (g:=qM (aa1 P (n+1)) (.one 0) (.cst .non)) (λ ρ u=>u=s++(ac j).map (λ _=>O.lst (rowO m.R λ _=>none))/\∃ x,ρ=[x]) (λ _=>.non) m.R (z0 [some (.int (j:Int)),some (.int m.R)] [none]) _ ⟨rfl,none,rfl⟩ (λ _ _ _=>rfl) (by
   rintro i _ ρ u ⟨rfl,x,rfl⟩
   exact⟨_,_,rfl,rfl,_,rfl⟩)
  obtain⟨rfl,_⟩:=G
  rw[e1]
  simp -implicitDefEqProofs [mk,bL]
  rfl) 0 (z0 [some m.d,some (.str [c]),some (.int m.R),none,none,none,none,none] [none,some 2]) s (cS _) ⟨by simp,none,rfl⟩
 obtain⟨rfl,_⟩:=G
 rw[show((0:Nat):Int)=0 from rfl]at e1
 rw[e1]
 have el:(ac m.R).map (λ _=>O.lst (rowO m.R λ _=>none))=qW m.R (λ i j=>ltN m.ds c i j 0):=rfl
 rw[el,iY,<-gX]
 simp -implicitDefEqProofs [mk,ixD,ai9]
 refine je (λ k ρ t=>∃(x y z w:Option D),ρ=[some m.d,some (.str [c]),some (.int m.R),some (.ref (s.length+m.R)),x,y,z,w]/\t=s++(qW m.R (λ i j=>ltN m.ds c i j k)++[.lst (ai6 s.length m.R)])) ⟨none,none,none,none,rfl,rfl⟩ (λ _ _ _ _ _=>rfl) ?_ ?_
 ·rintro k d ρ t hk ⟨x,y,z,w,rfl,rfl⟩
  rw[ao]at hk
  obtain⟨v,hv,rfl⟩:∃ v,m.ds[k]?=some v/\Dr.d v=d:=by
   cases e:m.ds[k]? with
   | none=>rw[e]at hk;cases hk
   | some v=>rw[e]at hk;exact⟨v,rfl,av hk⟩
  have Y:=hm.ds.1 v (aW hv)
  have ha:=Y.a
  have hb:=Y.b
  refine av8 (ρ:=[some m.d,some (.str [c]),some (.int m.R),some (.ref (s.length+m.R)),some (.int v.a),some (.str [v.l]),some (.int v.b),some (.int v.t)]) (s:=s++(qW m.R (λ i j=>ltN m.ds c i j (k+1))++[.lst (ai6 s.length m.R)])) ?_ ⟨_,_,_,_,rfl,rfl⟩
  have e3:(s++(qW m.R (λ i j=>ltN m.ds c i j k)++[.lst (ai6 s.length m.R)]))[s.length+m.R]?=some (.lst (ai6 s.length m.R)):=by
   rw[af (by omega),a7,af (by simp)];simp
  have Z:(s++(qW m.R (λ i j=>ltN m.ds c i j k)++[.lst (ai6 s.length m.R)]))[s.length+v.a]?=some (.lst (rowO m.R λ j=>ltN m.ds c v.a j k)):=by
   rw[af (by omega),a7,aw (by simpa using ha),ju ha]
  have e5:=qu e3 (aO2 ha)
  have e6:=qu Z (al9 hb)
  by_cases hl:v.l=c
  ·simp -implicitDefEqProofs only[turn,Dr.d,bindT_tup,jv,setVs_nil,zF,zA,aF,dD,za,zg,qg,zO,zb,zd,ze,R.bind_ok,au7,hl,decide_true,zH,if_true,ex_setIx,qt,e5,e6,zU,zI,zD,aD6 (P:=P) n (ltN m.ds c v.a v.b k) (some (v.t:Int)),show D.int (v.t:Int)=zV (some (v.t:Int))from rfl]
   rw[bh1 Z (by rw[am4];exact hb)]
   simp -implicitDefEqProofs only[R.bind_ok,zl,zg]
   congr 1
   rw[br _ _ (by omega),a7,gY _ _ (by simpa using ha)]
   congr 2
   rw[aP6 (f:=λ i j=>ltN m.ds c i j k)]
   congr 1
   funext i j
   rw[ltN,hv]
   by_cases h2:i=v.a/\j=v.b
   ·obtain⟨rfl,rfl⟩:=h2
    simp[hl]
   ·simp[hl,h2]
  ·simp -implicitDefEqProofs only[turn,Dr.d,bindT_tup,jv,setVs_nil,zF,zA,aF,dD,za,zg,qg,zO,zb,zd,ze,R.bind_ok,au7,hl,decide_false,zH,if_false,aK,zl]
   congr 3
   congr 1
   funext i j
   rw[ltN,hv]
   simp[hl]
 ·rintro ρ t ⟨x,y,z,w,rfl,rfl⟩
  rw[ax]
  have e3:(s++(qW m.R (ltM m c)++[.lst (ai6 s.length m.R)]))[s.length+m.R]?=some (.lst (ai6 s.length m.R)):=by
   rw[af (by omega),a7,af (by simp)];simp
  show(nxt _ _ _ (s++(qW m.R (ltM m c)++[.lst (ai6 s.length m.R)]))).bind _=_
  simp -implicitDefEqProofs [an9,e3]
  rw[if_pos (by unfold ai6 LIM;simp;omega)]
  generalize hS:s++(qW m.R (ltM m c)++[.lst (ai6 s.length m.R)])=S
  obtain⟨ρ1,s1,e1,G⟩:=am6 (ok:=λ s1=>chk S s1 [s.length+m.R]) (g:=qM (aa1 P (n+1)) (.one 0) (.mk .tuple (.seq (.var 0)))) (λ ρ u=>u=S/\∃ x,ρ=[x]) (λ d=>match d with|.ref p=>.tup (rowO m.R (ltM m c (p - s.length)))|d=>d) (ai6 s.length m.R) (z0 [some m.d,some (.str [c]),some (.int m.R),some (.ref (s.length+m.R)),x,y,z,w] [none]) S ⟨rfl,none,rfl⟩ (λ _ u h=>by obtain⟨rfl,_⟩:=h;simp[chk]) (by
   rintro d hd ρ u ⟨rfl,x,rfl⟩
   obtain⟨i,hi,rfl⟩:=aB.mp hd
   have J:=bA.mp hi
   have Z:u[s.length+i]?=some (.lst (rowO m.R (ltM m c i))):=by
    rw[<-hS,af (by omega),a7,aw (by simpa using J),ju J]
   refine⟨[some (.ref (s.length+i))],u,?_,rfl,_,rfl⟩
   simp -implicitDefEqProofs [qM,ay7,Z,mk])
  obtain⟨rfl,_⟩:=G
  rw[e1]
  simp -implicitDefEqProofs [mk]
  rw[<-hS]
  have:(ai6 s.length m.R).map (λ d=>match d with|.ref p=>D.tup (rowO m.R (ltM m c (p - s.length)))|d=>d)=(ac m.R).map λ i=>.tup (rowO m.R (ltM m c i)):=by
   unfold ai6
   rw[cI]
   exact b8 λ i _=>by simp
  rw[this]
  exact zG (d:=gdO m.R (ltM m c)) jF (by nofun)
theorem ak5 {P:Pr}[Has P ac5][Has P aa5](n:Nat){m:Mc}(h:m.Ok)(c:Nat)(s:Sto):(aa1 P (n+2)).call "_law_letter_table" [m.d,.str [c]] s=.ok (tbD m [c]) s:=by
 rw[ak8 (P:=P) n h c s,aK3 h (bw5 m c)]
noncomputable def du6:Ss:=(.cons (.ite (.cmp .eq (.ix (.var 4) (.cst (.int 0))) (.cst (.str [108,101,116,116,101,114]))) (.cons (.ex (.meth .append (.var 3) (.cons (.call "_law_letter_table" (.ex (.var 0) (.ex (.ix (.var 4) (.cst (.int 1))) .nil))) .nil))) .nil) (.cons (.ite (.cmp .eq (.ix (.var 4) (.cst (.int 0))) (.cst (.str [112,97,105,114]))) (.cons (.ex (.meth .append (.var 3) (.cons (.call "_law_times" (.ex (.ix (.var 3) (.ix (.var 4) (.cst (.int 1)))) (.ex (.ix (.var 3) (.ix (.var 4) (.cst (.int 2)))) .nil))) .nil))) .nil) (.cons (.ex (.meth .append (.var 3) (.cons (.call "_law_power" (.ex (.ix (.var 3) (.ix (.var 4) (.cst (.int 1)))) (.ex (.var 2) .nil))) .nil))) .nil)) .nil)) .nil)
theorem bm9:ag2.body=(.cons (.asg (.one 3) (.lst .nil)) (.cons (.for_ (.one 4) (.seq (.var 1)) du6) (.cons (.ret (.ix (.var 3) (.neg (.cst (.int 1))))) .nil))):=rfl
section
variable {P:Pr} [Has P ac5] [Has P af4] [Has P ae1] [Has P aa5] [Has P ag2]
theorem bE8 (n:Nat){m:Mc}(Y:m.Ok){l:List Stp}(hl:l.length<=5100)(h1:1<=l.length)(hk:af0 l){c:Nat}(hc:1<=c)(s:Sto) :
  (aa1 P (n+4)).call "_law_due" [m.d,.tup (l.map Stp.d),.int (c:Int)] s=.ok (tbD m (wd (l.map (Stp.r c)) (l.length - 1))) s:=by
 have e0:(aa1 P (n+4)).call "_law_due" [m.d,.tup (l.map Stp.d),.int (c:Int)] s=_:=zn ag2 (n:=n+3) rfl
 have hB:=hk.b c
 generalize hL:l.map (Stp.r c)=L at hB
 have h:∀(k:Nat) (x:Stp),l[k]?=some x->L[k]?=some (x.r c):=λ k x e=>by rw[<-hL,ao,e];rfl
 rw[e0,bm9,show(bB some [m.d,D.tup (l.map Stp.d),D.int (c:Int)]++ar ag2.vs none)=[some m.d,some (.tup (l.map Stp.d)),some (.int (c:Int)),none,none]from rfl]
 have key:=jj (ok:=λ s1=>chk (s++[O.lst []]) s1 []) (g:=turn (aa1 P (n+3)) (.one 4) du6) (λ k ρ u=>u=s++[.lst ((ac k).map λ k=>tbD m (wd L k))]/\∃ x,ρ=[some m.d,some (.tup (l.map Stp.d)),some (.int (c:Int)),some (.ref s.length),x]) (l.map Stp.d) 0 [some m.d,some (.tup (l.map Stp.d)),some (.int (c:Int)),some (.ref s.length),none] (s++[O.lst []]) ⟨rfl,_,rfl⟩ (λ _ _ _ _ _=>rfl) (by
  rintro k d ρ u hkk ⟨rfl,x,rfl⟩
  rw[bq]at *
  rw[ao,bZ]at hkk
  obtain⟨y,hy,rfl⟩:=hkk
  have a0:=(ab.mp hy).1
  have hb:=hB k _ (h k y hy)
  have J:∀ i,i<k->ixM (.ref s.length) (.int (i:Int)) (s++[O.lst ((ac k).map λ k=>tbD m (wd L k))])=.ok (tbD m (wd L i)) (s++[O.lst ((ac k).map λ k=>tbD m (wd L k))]):=λ i G=>qu bj8 (by rw[ao,aV G];rfl)
  have ha:meth .append (.ref s.length) [tbD m (wd L k)] (s++[O.lst ((ac k).map λ k=>tbD m (wd L k))])=.ok .non (s++[O.lst ((ac (k+1)).map λ k=>tbD m (wd L k))]):=by
   rw[qC (by unfold LIM;rw[ax,b7];omega),bL,bE];rfl
  refine⟨_,_,.inl ?_,rfl,some y.d,rfl⟩
  unfold turn du6
  cases y with
  | let_ ch =>
   have e1:(aa1 P (n+3)).call "_law_letter_table" [m.d,.str [ch]] (s++[O.lst ((ac k).map λ k=>tbD m (wd L k))])=.ok (tbD m (wd L k)) (s++[O.lst ((ac k).map λ k=>tbD m (wd L k))]):=by
    rw[show tbD m (wd L k)=tbD m [ch]by rw[bV3 (h k _ hy)]];exact ak5 (P:=P) (n+1) Y ch _
   tbr_iter [dl0,dl1,qx,show(by9=[108,101,116,116,101,114])=True from eq_self _,e1,ha]
  | pair i j =>
   obtain⟨G,hj⟩:=hb
   have e1:=ap4 (P:=P) (n+1) Y (wd L i) (wd L j) (s++[O.lst ((ac k).map λ k=>tbD m (wd L k))])
   rw[<-bT0 (h k _ hy) G hj]at e1
   tbr_iter [dp0,dp1,dp2,qx,show(ar8=[108,101,116,116,101,114])=False by decide,show(ar8=[112,97,105,114])=True from eq_self _,J i G,J j hj,e1,ha]
  | sharp i =>
   have G:i<k:=hb
   have e1:=bg7 (P:=P) n Y (wd L i) c hc (s++[O.lst ((ac k).map λ k=>tbD m (wd L k))])
   rw[<-bT8 (h k _ hy) G]at e1
   tbr_iter [ds0,ds1,qx,show(aL7=[108,101,116,116,101,114])=False by decide,show(aL7=[112,97,105,114])=False by decide,J i G,e1,ha])
 obtain⟨ρ',u',Z,rfl,x,rfl⟩:=key
 rw[bq,ax]at Z
 have il:=am1 (bj8 (s:=s)) (av3 h1 λ k=>tbD m (wd L k))
 tbr_iter [ai9]
 rw[Z]
 tbr_iter [ao6,il]
 exact zG jn (by nofun)
end
structure Gx (ns:List Int)(r:Nat)(u:Sto):Prop where
 scr:u[0]?=some (.ro (ns.map D.int))
 ncl:u.all O.ncl=true
 box:∃ b,u[r]?=some (qr b)
 r0:r≠0
theorem Gx.put {ns:List Int}{r:Nat}{u:Sto}(h:Gx ns r u)(b:Int):Gx ns r (u.set r (qr b)):=⟨by rw[aY h.r0];exact h.scr,by7 h.ncl rfl,ap9 (aO7 h.box),h.r0⟩
theorem Gx.snoc {ns:List Int}{r:Nat}{u:Sto}(h:Gx ns r u){o:O}(ho:o.ncl=true):Gx ns r (u++[o]):=⟨jo h.scr,qE h.ncl ho,by obtain⟨b,hb⟩:=h.box;exact⟨b,jo hb⟩,h.r0⟩
section
variable {P:Pr} [HasC P "FREE" (.int 0)] [HasC P "SOME" (.int 1)] [HasC P "NONE" (.int 3)] [Has P aA9] [Has P ad1] [Has P aE4] [HasL P ak3] [Has P ad0] [Has P ad3] [Has P aa6] [Has P ab3] [Has P aa3] [HasL P aa2] [Has P ad7] [HasL P aa8] [Has P ab5] [HasL P aa4] [Has P ab0] [Has P ak2] [Has P jH] [Has P an3] [Has P zY] [Has P at1] [Has P bc8] [Has P zN] [HasL P zB]
 [Has P an2] [Has P ae7] [Has P bt1] [Has P ab1] [Has P aW7] [Has P ad4] [Has P aa7] [Has P aX2]
end
section
variable {P:Pr} [Has P aR9] [Has P ay1] [Has P aI7] [HasC P "LETTERS" (.tup abcD)] [Has P az9] [Has P aP7] [Has P ak4] [Has P as4] [Has P ar1]
end
def TalS (s:Sto)(r most:Nat)(x:R D):Prop:=∃(l:List Stp) (b:Int),af0 l/\1<=l.length/\l.length<=most/\x=.ok (.tup (l.map Stp.d)) (s.set r (qr b))
theorem bo8 {P:Pr}[Has P ae7][Has P af3](n:Nat){s:Sto}{r:Nat}(hs:∃ b,s[r]?=some (qr b)){L:Nat}(a2:1<=L)(a1:L<=3)(most:Nat)(h0:1<=most)(hm:most<=100):TalS s r most ((aa1 P (n+2)).call "_law_tall" [.ref r,.int (L:Int),.int most] s):=by
 have e0:(aa1 P (n+2)).call "_law_tall" [.ref r,.int (L:Int),.int most] s=_:=zn af3 (n:=n+1) rfl
 have body:af3.body=.cons (.asg (.one 3) (.lst (.cons (.tup (.cons (.cst (.str [108,101,116,116,101,114])) (.cons (.ix (.cst (.str [97,98,99])) (.call "_law_draw" (.ex (.var 0) (.ex (.var 1) .nil)))) .nil))) .nil))) (.cons (.for_ (.one 4) (.rng1 (.call "_law_draw" (.ex (.var 0) (.ex (.var 2) .nil)))) cg4) (.cons (.ret (.mk .tuple (.seq (.var 3)))) .nil)):=rfl
 have hr:=aO7 hs
 obtain⟨c,b1,hc,e1⟩:=qX (P:=P) n hs (L:Int) (by omega) (qj (by omega))
 obtain⟨d,b2,hd,e2⟩:=qY (P:=P) n (t:=[.lst ([Stp.let_ (97+c)].map Stp.d)]) hr b1 most (by omega) (qj (by omega))
 have key:=jj (ok:=λ s1=>chk (s.set r (qr b2)++[O.lst ([Stp.let_ (97+c)].map Stp.d)]) s1 []) (g:=turn (aa1 P (n+1)) (.one 4) cg4) (λ k ρ t=>∃(l:List Stp) (b:Int) (x:Option D),af0 l/\l.length=k+1/\ρ=[some (D.ref r),some (.int (L:Int)),some (.int (most:Int)),some (.ref s.length),x]/\t=s.set r (qr b)++[.lst (l.map Stp.d)]) (jy 0 (d:Int)) 0 [some (D.ref r),some (.int (L:Int)),some (.int (most:Int)),some (.ref s.length),none] (s.set r (qr b2)++[O.lst ([Stp.let_ (97+c)].map Stp.d)]) ⟨[.let_ (97+c)],b2,none,af0.nil.snoc (x:=.let_ (97+c)) trivial,rfl,rfl,rfl⟩ (λ _ _ _ _ _=>rfl) (by
  rintro k dd ρ t hk ⟨l,b,x,hl,hlk,rfl,rfl⟩
  have a0:=(qc hk).1
  rw[(qc hk).2]
  rw[bq]at hlk ⊢
  have Y:(if(1:Int)<(k:Int)then(1:Int)else(k:Int))+1=((min k 1+1:Nat):Int):=by omega
  obtain⟨q,G,hq,f1⟩:=qY (P:=P) n (t:=[.lst (l.map Stp.d)]) hr b ((min k 1+1:Nat):Int) (by omega) (qj (by omega))
  have Z:(k:Int) - (q:Int)=((k - q:Nat):Int):=by omega
  have ap:∀ v,meth .append (.ref s.length) [v] (s.set r (qr G)++[.lst (l.map Stp.d)])=.ok .non (s.set r (qr G)++[.lst (l.map Stp.d++[v])]):=λ v=>bD3 (by unfold LIM;rw[ax];omega)
  refine⟨[some (D.ref r),some (.int (L:Int)),some (.int (most:Int)),some (.ref s.length),some (.int (k:Int))],s.set r (qr G)++[.lst ((l++[Stp.pair k (k - q)]).map Stp.d)],.inl ?_,l++[Stp.pair k (k - q)],G,_,hl.snoc (x:=.pair k (k - q)) ⟨by omega,by omega,.inl (by omega)⟩,by simp[hlk],rfl,rfl⟩
  unfold turn cg4
  simp -implicitDefEqProofs only[zh,zF,zA,aF,za,zg,jC,z9,zq,zr,ev_tup,zw,qQ,zz,zb,qi,zU,zI,zD,ev_bi,zd,ze,R.bind_ok,jt,add_int,Y,f1,sub_int,Z,ap,zl,bE]
  rfl)
 obtain⟨ρ',s',ek,l,b,x,hl,hlk,rfl,rfl⟩:=key
 rw[zK,bq]at hlk
 have J:(s.set r (qr b)++[O.lst (l.map Stp.d)])[s.length]?=some (.lst (l.map Stp.d)):=by rw[af (by simp)];simp
 refine⟨l,b,hl,by omega,by omega,?_⟩
 rw[e0,body,show(bB some [D.ref r,.int (L:Int),.int most]++ar af3.vs none)=[some (D.ref r),some (.int (L:Int)),some (.int (most:Int)),none,none]from rfl]
 simp -implicitDefEqProofs only[za,zg,qf,ev_lst,zq,zr,ev_tup,zw,qQ,qt,zU,zI,zD,zb,zd,ze,R.bind_ok,e1,aT7 (show c<3 by omega),qT,bw,zh,zF,zA,aF,zx,zl,ex_for,qS]
 have h:[Stp.let_ (97+c)].map Stp.d=[D.tup [.str [108,101,116,116,101,114],.str [97+c]]]:=by simp only[aJ,cq,Stp.d]
 rw[h]at e2 ek
 rw[e2]
 simp -implicitDefEqProofs only[R.bind_ok]
 rw[zL (by unfold W62;omega) (by unfold W62;omega)]
 simp -implicitDefEqProofs only[R.bind_ok]
 rw[ek]
 simp -implicitDefEqProofs only[R.bind_ok,zl,za,zg,qP,ev_mk,evL_seq,zb,zd,ze,ay7,J,mk,qb,qe]
 refine ao1 (λ m=>?_) (by nofun) rfl
 unfold D.bnd
 exact zQ (λ x hx n=>by obtain⟨y,_,rfl⟩:=aB.mp hx;exact y.bnd n) m
section
variable {P:Pr} [Has P ad1] [Has P ad0] [Has P ad3] [Has P aa6] [Has P ab3] [Has P aa3] [HasL P aa2] [Has P ad7] [HasL P aa8] [Has P ab5] [HasL P aa4] [Has P ad6] [Has P ae8] [HasC P "product" (.fn "product")] [HasC P "power" (.fn "power")] [Has P ab7] [Has P ac4] [HasL P ac0] [Has P ab0]
 [Has P ac6] [Has P ab9] [Has P aa9] [Has P ad2] [HasL P ac3] [HasL P ac2] [HasL P ac1] [Has P ae4]
 [HasC P "MOST_WRITTEN" (.int 2000)] [Has P ag1] [Has P ab8] [HasC P "begun_times" (.fn "begun_times")] [Has P ad5] [HasL P ac8] [HasL P ac9] [Has P ab4]
 [Has P an2] [Has P ae7] [Has P ab1] [Has P ad4] [Has P aa7] [Has P ae0] [Has P ae5] [Has P ac5] [Has P af4] [Has P ae1] [Has P aa5] [Has P ag2] [Has P af3] [Has P ad8]
noncomputable def bY6:Ss:=(.cons (.asg (.one 7) (.call "_law_due" (.ex (.var 3) (.ex (.var 4) (.ex (.bin .mul (.bin .add (.var 6) (.cst (.int 1))) (.ix (.var 3) (.cst (.int 1)))) .nil))))) (.cons (.asg (.one 8) (.call "table_unrolled" (.ex (.var 3) (.ex (.var 4) (.ex (.var 6) .nil))))) (.cons (.ite (.or (.not (.bi .isTup (.cons (.var 8) .nil))) (.cmp .ne (.var 8) (.var 7))) (.cons (.ret (.cst (.bl false))) .nil) .nil) (.cons (.ite (.cmp .le (.ix (.call "lengths" (.ex (.var 3) (.ex (.var 4) (.ex (.var 6) .nil)))) (.neg (.cst (.int 1)))) (.cst (.int 200))) (.cons (.ite (.cmp .ne (.call "word_table" (.ex (.var 3) (.ex (.call "word_unrolled" (.ex (.var 3) (.ex (.var 4) (.ex (.var 6) .nil)))) .nil))) (.var 7)) (.cons (.ret (.cst (.bl false))) .nil) .nil) .nil) .nil) .nil))))
theorem ce6 {l:List Stp}(hk:af0 l)(c:Nat):∀ k,k<l.length->(vl 1 (c:Int) l).getD k 0=((wd (l.map (Stp.r c)) k).length:Int):=by
 intro k
 induction k using gD with
 | _ k ih =>
  intro G
  have hx:l[k]?=some l[k]:=ag G
  have h:(l.map (Stp.r c))[k]?=some (l[k].r c):=by rw[ao,hx];rfl
  have ho:=hk k _ hx
  rw[bi8 hx]
  generalize l[k]=y at hx h ho
  cases y with
  | let_ ch=>rw[bV3 h];rfl
  | pair i j =>
   rw[bT0 h ho.1 ho.2.1,aQ,show ak9 1 (c:Int) (vl 1 (c:Int) (l.take k)) (.pair i j)=(vl 1 (c:Int) (l.take k)).getD i 0+(vl 1 (c:Int) (l.take k)).getD j 0 from rfl,am9 (by omega) ho.1,am9 (by omega) ho.2.1,ih i ho.1 (by have:=ho.1;omega),ih j ho.2.1 (by have:=ho.2.1;omega)]
   omega
  | sharp i =>
   rw[bT8 h ho.1,rep_len,show ak9 1 (c:Int) (vl 1 (c:Int) (l.take k)) (.sharp i)=(vl 1 (c:Int) (l.take k)).getD i 0*(c:Int)from rfl,am9 (by omega) ho.1,ih i ho.1 (by have:=ho.1;omega),dM]
theorem br9 {m:Mc}{w:List Nat}(s:Sto):qz .ne (tbD m w) (tbD m w) s=.ok (.bl false) s:=bU8
theorem bA5 (n:Nat){u:Sto}(hn:u.all O.ncl=true){m:Mc}(h:m.Ok){l:List Stp}(hl:l.length<=100)(J:1<=l.length)(hk:af0 l){q:Nat}(hq:q<=10^30)(x0 x1 x2 x5 x7 x8:Option D) :
  ∃(T:Sto) (y7 y8:Option D),T.all O.ncl=true/\exs (aa1 P (n+9)) bY6 [x0,x1,x2,some m.d,some (.tup (l.map Stp.d)),x5,some (.int (q:Int)),x7,x8] u=.ok (.next [x0,x1,x2,some m.d,some (.tup (l.map Stp.d)),x5,some (.int (q:Int)),y7,y8]) (u++T):=by
 have hR:=h.R5
 have Z:=h.R1
 have ec:((q:Int)+1)*(m.R:Int)=(((q+1)*m.R:Nat):Int):=by rw[dM];rfl
 have a0:1<=(q+1)*m.R:=Nat.mul_pos (by omega) Z
 have mo:mulOk ((q:Int)+1) (m.R:Int)=true:=aq7 (by omega)
 have e1:=bE8 (P:=P) (n+5) h (l:=l) (by omega) J hk a0 u
 have e2:=aj1 (P:=P) n (l:=l) (by omega) J hk h q hn
 have Y:=aP8 (P:=P) (n+5) (l:=l) (by omega) hk hn h (q:=(q:Int)) (by omega) (by omega)
 rw[ec]at Y
 have G:=ap2 (a:=1) (c:=(((q+1)*m.R:Nat):Int)) (l:=l) l.length (ai _)
 rw[cR]at G
 have y:=ce6 hk ((q+1)*m.R) (l.length - 1) (by omega)
 have il:ixM (.ref u.length) (.int (-1)) (u++[O.lst (aV4 (vl 1 (((q+1)*m.R:Nat):Int) l))])=.ok (.int ((wd (l.map (Stp.r ((q+1)*m.R))) (l.length - 1)).length:Int)) (u++[O.lst (aV4 (vl 1 (((q+1)*m.R:Nat):Int) l))]):=am1 bj8 (by
  rw[<-y]
  unfold aV4
  rw[ax,G,ao,aE,ag (by omega)];rfl)
 have nT:(u++[O.lst (aV4 (vl 1 (((q+1)*m.R:Nat):Int) l))]).all O.ncl=true:=qE hn (show(O.lst _).ncl=true from ax6)
 have it:∀(w:List Nat) (s:Sto),bi .isTup [tbD m w] s=.ok (.bl true) s:=λ _ _=>rfl
 generalize hW:wd (l.map (Stp.r ((q+1)*m.R))) (l.length - 1)=W at *
 refine⟨[O.lst (aV4 (vl 1 (((q+1)*m.R:Nat):Int) l))],some (tbD m W),some (tbD m W),by simp only[cK,eV,cL];exact ax6,?_⟩
 unfold bY6
 by_cases hw:((W.length:Int)<=200)
 ·have e4:=ak6 (P:=P) (n+4) (l:=l) (by omega) J hk h q nT (by rw[hW];omega)
  rw[hW]at e4
  obtain⟨f,hf,e5⟩:=ax8 (P:=P) (n+4) h W (by omega) nT
  rw[aK3 h hf]at e5
  tbr_iter [ixR,ae3 mo,ec,e1,e2,it,br9,Y,ao6,il,hw,e4,e5]
 ·tbr_iter [ixR,ae3 mo,ec,e1,e2,it,br9,Y,ao6,il,hw]
theorem Gx.more {ns:List Int}{r:Nat}{u:Sto}(h:Gx ns r u){T:Sto}(hT:T.all O.ncl=true):Gx ns r (u++T):=⟨jo h.scr,by rw[c7,h.ncl,hT];rfl,by obtain⟨b,hb⟩:=h.box;exact⟨b,jo hb⟩,h.r0⟩
noncomputable def bZ7:S:=(.ite (.cmp .eq (.call "_law_draw" (.ex (.var 2) (.ex (.cst (.int 8)) .nil))) (.cst (.int 3))) (.cons (.asg (.one 4) (.call "_law_tall" (.ex (.var 2) (.ex (.ix (.var 3) (.cst (.int 0))) (.ex (.cst (.int 100)) .nil))))) .nil) .nil)
noncomputable def bZ5:S:=(.ite (.cmp .gt (.var 1) (.cst (.int 0))) (.cons (.asg (.one 5) (.bin .mod (.var 5) (.bin .pow (.cst (.int 10)) (.cst (.int 9))))) .nil) .nil)
noncomputable def cb3:S:=(.for_ (.one 6) (.seq (.lst (.cons (.call "_law_draw" (.ex (.var 2) (.ex (.cst (.int 4)) .nil))) (.cons (.var 5) .nil)))) bY6)
theorem bO5:ad8.body=(.cons (.for_ (.one 1) (.rng1 (.bin .add (.bi .min2 (.cons (.cst (.int 4)) (.cons (.bi .len (.cons (.var 0) .nil)) .nil))) (.cst (.int 1)))) (.cons (.asg (.one 2) (.call "_law_box" (.ex (.var 0) (.ex (.var 1) .nil)))) (.cons (.asg (.one 3) (.call "_law_machine" (.ex (.var 2) .nil))) (.cons (.asg (.one 4) (.ix (.call "_law_makings" (.ex (.var 2) (.ex (.var 3) (.ex (.cst (.int 8)) (.ex (.cst (.int 3)) .nil))))) (.cst (.int 0)))) (.cons bZ7 (.cons (.asg (.one 5) (.call "_law_draw" (.ex (.var 2) (.ex (.bin .add (.bin .pow (.cst (.int 10)) (.cst (.int 30))) (.cst (.int 1))) .nil)))) (.cons bZ5 (.cons cb3 .nil)))))))) (.cons (.ret (.cst (.bl true))) .nil)):=rfl
theorem bx4 (n:Nat){ns:List Int}{r:Nat}{u:Sto}(h:Gx ns r u){m:Mc}(hm:m.Ok){l:List Stp}(hl:l.length<=100)(h1:1<=l.length)(hk:af0 l)(x0 x1 x5 x6 x7 x8:Option D) :
  ∃(y:List Stp) (u':Sto),y.length<=100/\1<=y.length/\af0 y/\Gx ns r u'/\ex (aa1 P (n+2)) bZ7 [x0,x1,some (.ref r),some m.d,some (.tup (l.map Stp.d)),x5,x6,x7,x8] u=.ok (.next [x0,x1,some (.ref r),some m.d,some (.tup (y.map Stp.d)),x5,x6,x7,x8]) u':=by
 obtain⟨q,b1,hq,e1⟩:=qX (P:=P) (n+1) h.box 8 (by decide) (by decide)
 have Y:=h.put b1
 by_cases h3:(q:Int)=3
 ·obtain⟨y,b,Z,J,G,e2⟩:=bo8 (P:=P) n Y.box hm.L1 hm.L3 100 (by decide) (by decide)
  refine⟨y,_,G,J,Z,Y.put b,?_⟩
  rw[show((100:Nat):Int)=100 from rfl]at e2
  unfold bZ7
  tbr_iter [e1,h3,ixL,e2]
 ·refine⟨l,_,hl,h1,hk,Y,?_⟩
  unfold bZ7
  tbr_iter [e1,h3]
theorem bx9 {F:Fns}{q:Nat}(hq:q<=10^30)(j:Nat)(u:Sto)(x0 Z G x4 x6 J x8:Option D):∃ Y:Nat,Y<=10^30/\ex F bZ5 [x0,some (.int (j:Int)),Z,G,x4,some (.int (q:Int)),x6,J,x8] u=.ok (.next [x0,some (.int (j:Int)),Z,G,x4,some (.int (Y:Int)),x6,J,x8]) u:=by
 have h:qN .pow (.int 10) (.int 9) u=.ok (.int (10^9)) u:=au8 (by decide)
 have y:qN .mod (.int (q:Int)) (.int (10^9)) u=.ok (.int ((q % 10^9:Nat):Int)) u:=by rw[jm (by decide)];simp
 by_cases hj:(0:Int)<(j:Int)
 ·refine⟨q % 10^9,am (Nat.mod_le _ _) hq,?_⟩
  unfold bZ5
  tbr_iter [hj,h,y]
 ·refine⟨q,hq,?_⟩
  unfold bZ5
  tbr_iter [hj]
theorem bB7 (n:Nat){ns:List Int}{r:Nat}{u:Sto}(h:Gx ns r u){m:Mc}(hm:m.Ok){l:List Stp}(hl:l.length<=100)(h1:1<=l.length)(hk:af0 l){q:Nat}(hq:q<=10^30)(Z x1 x6 x7 x8:Option D) :
  ∃(u':Sto) (Y J G:Option D),Gx ns r u'/\ex (aa1 P (n+9)) cb3 [Z,x1,some (.ref r),some m.d,some (.tup (l.map Stp.d)),some (.int (q:Int)),x6,x7,x8] u=.ok (.next [Z,x1,some (.ref r),some m.d,some (.tup (l.map Stp.d)),some (.int (q:Int)),Y,J,G]) u':=by
 obtain⟨y,b1,a2,e1⟩:=qX (P:=P) (n+8) h.box 4 (by decide) (by decide)
 have G1:=(h.put b1).snoc (o:=.lst [.int (y:Int),.int (q:Int)]) rfl
 generalize u.set r (qr b1)=V at e1 G1
 have a1:an9 (.ref V.length) (V++[O.lst [.int (y:Int),.int (q:Int)]])=.ok ⟨[.int (y:Int),.int (q:Int)],[V.length]⟩ (V++[O.lst [.int (y:Int),.int (q:Int)]]):=by simp only[an9,bj8]
 have key:=jj (ok:=λ s1=>chk (V++[O.lst [.int (y:Int),.int (q:Int)]]) s1 [V.length]) (g:=turn (aa1 P (n+9)) (.one 6) bY6) (λ k ρ t=>∃(T:Sto) (Y J G:Option D),T.all O.ncl=true/\ρ=[Z,x1,some (.ref r),some m.d,some (.tup (l.map Stp.d)),some (.int (q:Int)),Y,J,G]/\t=V++[O.lst [.int (y:Int),.int (q:Int)]]++T) [.int (y:Int),.int (q:Int)] 0 [Z,x1,some (.ref r),some m.d,some (.tup (l.map Stp.d)),some (.int (q:Int)),x6,x7,x8] (V++[O.lst [.int (y:Int),.int (q:Int)]]) ⟨[],_,_,_,rfl,rfl,by simp⟩ (by
   rintro _ _ _ _ ⟨T,_,_,_,_,_,rfl⟩
   simp only[chk,cK,eV,cL,decide_eq_true_eq]
   rw[aw (by simp)]) (by
   rintro j d ρ t hj ⟨T,Y,J,G,hT,rfl,rfl⟩
   have hd:∃ p:Nat,p<=10^30/\d=.int (p:Int):=by
    have hm:=aW hj
    simp only[aI,bz,or_false]at hm
    rcases hm with rfl|rfl
    ·exact⟨y,by omega,rfl⟩
    ·exact⟨q,hq,rfl⟩
   obtain⟨p,hp,rfl⟩:=hd
   have G2:=G1.more hT
   obtain⟨T',z7,z8,a0,e⟩:=bA5 (P:=P) n G2.ncl hm hl h1 hk hp Z x1 (some (.ref r)) (some (.int (q:Int))) J G
   refine⟨_,V++[O.lst [.int (y:Int),.int (q:Int)]]++T++T',.inl ?_,T++T',some (.int (p:Int)),z7,z8,by rw[c7,hT,a0];rfl,rfl,by rw[cg]⟩
   unfold turn
   simp -implicitDefEqProofs only[zh,zF,zA,aF]
   exact e)
 obtain⟨ρ',t',ek,T,Y,J,G,hT,rfl,rfl⟩:=key
 refine⟨_,Y,J,G,G1.more hT,?_⟩
 unfold cb3
 simp -implicitDefEqProofs only[ex_for,evI_seq,ev_lst,zq,zr,zU,zI,zD,zb,zw,zz,zd,ze,R.bind_ok,e1,qT,a1]
 exact ek
theorem ce8 (n:Nat):ch7 P (n+10):=by
 intro ns hl
 have e0:(aa1 P (n+10)).call "law" [.ref 0] [.ro (ns.map D.int)]=_:=zn ad8 (n:=n+9) rfl
 rw[e0,bO5,show(bB some [D.ref 0]++ar ad8.vs none)=[some (.ref 0),none,none,none,none,none,none,none,none]from rfl]
 have a3:([.ro (ns.map D.int)]:Sto)[0]?=some (.ro (ns.map D.int)):=rfl
 have Z:bi .len [.ref 0] [.ro (ns.map D.int)]=.ok (.int ns.length) [.ro (ns.map D.int)]:=by rw[bu1 a3,ax]
 have hk:(if(ns.length:Int)<4 then(ns.length:Int)else 4)+1=((min ns.length 4+1:Nat):Int):=by omega
 tbr_iter [Z,jt,hk]
 rw[zL (by unfold W62;omega) (by unfold W62;omega)]
 simp only[R.bind_ok]
 rw[R.bind_assoc]
 refine qU (W:=Yes) (λ j ρ t=>t[0]?=some (.ro (ns.map D.int))/\t.all O.ncl=true/\∃ x1 x2 x3 x4 x5 G J x8,ρ=[some (.ref 0),x1,x2,x3,x4,x5,G,J,x8]) ⟨rfl,by
   simp only[cK,eV,cL];exact ax6,_,_,_,_,_,_,_,_,rfl⟩ (λ _ _ _ _ _=>rfl) ?_ ?_
 ·rintro j d ρ t hj ⟨ht,hn,x1,x2,x3,x4,x5,G,J,x8,rfl⟩
  have hd:=(qc hj).2
  subst hd
  have b0:0<t.length:=(ab.mp ht).1
  obtain⟨N0,h⟩:=bX6 (P:=P) (n+8) ns j ht
  have G0:Gx ns t.length (t++[qr N0]):=⟨jo ht,qE hn rfl,⟨_,bj8⟩,by omega⟩
  generalize t++[qr N0]=S at h G0
  generalize t.length=r at h G0
  obtain⟨m,b1,hm,em⟩:=aJ2 (P:=P) (n+7) G0.box
  have G1:=G0.put b1
  obtain⟨l,fs,b2,T,p,a6,h1,h2,hp,hT,y⟩:=aP4 (P:=P) (n+7) G1.box hm 8 (by decide) (by decide) 3
  have G3:=(G1.put b2).more hT
  generalize (S.set r (qr b1)).set r (qr b2)++T=U at y G3
  obtain⟨l',u4,a1,a5,a0,G4,e4⟩:=bx4 (P:=P) (n+7) G3 hm (l:=l) (by omega) h1 (a6.ok (by omega)) (some (.ref 0)) (some (.int (j:Int))) x5 G J x8
  obtain⟨q,b5,hq,e5⟩:=qX (P:=P) (n+8) G4.box (10^30+1) (by decide) (by decide)
  have G5:=G4.put b5
  obtain⟨q',a4,e6⟩:=bx9 (F:=aa1 P (n+9)) (q:=q) (by omega) j (u4.set r (qr b5)) (some (.ref 0)) (some (.ref r)) (some m.d) (some (.tup (l'.map Stp.d))) G J x8
  obtain⟨u7,y6,y7,y8,G7,e7⟩:=bB7 (P:=P) n G5 hm a1 a5 a0 a4 (some (.ref 0)) (some (.int (j:Int))) G J x8
  have Y:∀ s:Sto,qN .pow (.int 10) (.int 30) s=.ok (.int (10^30)) s:=λ s=>au8 (by decide)
  have a2:∀(a b:D) (s:Sto),ixM (.tup [a,b]) (.int 0) s=.ok a s:=λ _ _ _=>rfl
  refine av8 (ρ:=[some (.ref 0),some (.int (j:Int)),some (.ref r),some m.d,some (.tup (l'.map Stp.d)),some (.int (q':Int)),y6,y7,y8]) (s:=u7) ?_ ⟨G7.scr,G7.ncl,_,_,_,_,_,_,_,_,rfl⟩
  rw[show((8:Nat):Int)=8 from rfl]at y
  unfold turn
  simp -implicitDefEqProofs only[zh,zF,zA,aF,za,zg,qf,qt,zU,zI,zD,zb,qi,zd,ze,R.bind_ok,h,em,zx,zl,zw,zz,y,a2,e4,Y,add_int,e5,e6,e7]
 ·rintro ρ t ⟨ht,hn,x1,x2,x3,x4,x5,G,J,x8,rfl⟩
  tbr_iter []
  exact ba0 _ _
end
end DV
end
local macro_rules | `(tactic| walk_at "sc") => `(tactic| exact ⟨rfl, rfl, rfl, by decide +kernel, rfl, by decide +kernel, by decide +kernel⟩)
local macro_rules | `(tactic| walk_at "df") => `(tactic| (dsimp only; exact ⟨_, _, _, _, _, _, _, _, _, _, by k_is, by k_is, by k_is, by k_is⟩))
noncomputable section
namespace My
open PySem L2
noncomputable def top (i:Nat):Stmt:=PySem.Challenge.pw_leasttolls_k32_tables_unrolled.main.body.getD i (.Pass ⟨0,0,0,0⟩)
theorem cd2:aE1 ["i", "j"]:=λ params h _ _ _ _ _ _ _ _ us hl=>by
 obtain⟨args,rfl,ha⟩:=qK h
 revert us
 refine bd2 ?_
 intro J y
 rcases args with _|⟨⟨Y,_,_⟩,_|⟨⟨G,_,_⟩,_|⟨_,_⟩⟩⟩
 all_goals simp only[aJ,cq,eO,and_true,and_false,reduceCtorEq]at ha
 obtain⟨rfl,rfl⟩:=ha
 exact⟨rfl,λ _ _=>rfl⟩
theorem ca9:aE1 ["letter"]:=λ params h _ _ _ _ _ _ _ _ us hl=>by
 obtain⟨args,rfl,ha⟩:=qK h
 revert us
 refine bd1 ?_
 intro G
 rcases args with _|⟨⟨y,_,_⟩,_|⟨_,_⟩⟩
 all_goals simp only[aJ,cq,eO,and_true,and_false,reduceCtorEq]at ha
 obtain rfl:=ha
 exact⟨rfl,λ _ _=>rfl⟩
theorem bd_2:aE1 ["one", "many"]:=λ params h _ _ _ _ _ _ _ _ us hl=>by
 obtain⟨args,rfl,ha⟩:=qK h
 revert us
 refine bd2 ?_
 intro J y
 rcases args with _|⟨⟨Y,_,_⟩,_|⟨⟨G,_,_⟩,_|⟨_,_⟩⟩⟩
 all_goals simp only[aJ,cq,eO,and_true,and_false,reduceCtorEq]at ha
 obtain⟨rfl,rfl⟩:=ha
 exact⟨rfl,λ _ _=>rfl⟩
theorem bd_3:aE1 ["one", "other"]:=λ params h _ _ _ _ _ _ _ _ us hl=>by
 obtain⟨args,rfl,ha⟩:=qK h
 revert us
 refine bd2 ?_
 intro J y
 rcases args with _|⟨⟨Y,_,_⟩,_|⟨⟨G,_,_⟩,_|⟨_,_⟩⟩⟩
 all_goals simp only[aJ,cq,eO,and_true,and_false,reduceCtorEq]at ha
 obtain⟨rfl,rfl⟩:=ha
 exact⟨rfl,λ _ _=>rfl⟩
noncomputable def af1:List Str:=["plain", "product", "letter_table", "counted", "last_word", "last_table"]
noncomputable abbrev au1:Stmt:=top 4
noncomputable abbrev as8:Stmt:=top 5
noncomputable abbrev br3:Stmt:=top 7
noncomputable abbrev aL6:Stmt:=top 8
noncomputable abbrev aV5:Stmt:=top 10
noncomputable abbrev aY8:Stmt:=top 11
noncomputable abbrev bh0:Stmt:=top 12
noncomputable abbrev an8:Stmt:=top 13
noncomputable abbrev aI9:Stmt:=top 14
noncomputable abbrev s_letter_table:Stmt:=top 15
noncomputable abbrev ak1:Stmt:=top 16
noncomputable abbrev au3:Stmt:=top 18
noncomputable abbrev aN9:Stmt:=top 19
noncomputable abbrev aC5:Stmt:=top 20
noncomputable abbrev at9:Stmt:=top 23
noncomputable abbrev az3:Stmt:=top 24
noncomputable abbrev aY3:Stmt:=top 25
noncomputable abbrev af7:Stmt:=top 26
noncomputable abbrev ap1:Stmt:=top 27
noncomputable abbrev aj6:Stmt:=top 28
noncomputable abbrev ag0:Stmt:=top 29
noncomputable abbrev af9:Stmt:=top 30
noncomputable abbrev at8:Stmt:=top 32
noncomputable abbrev ao5:Stmt:=top 33
noncomputable abbrev ah0:Stmt:=top 34
noncomputable abbrev ag6:Stmt:=top 35
noncomputable abbrev s__law_letter_signs:Stmt:=top 36
noncomputable abbrev aj4:Stmt:=top 37
noncomputable abbrev ag5:Stmt:=top 38
noncomputable abbrev aj7:Stmt:=top 39
noncomputable abbrev aj2:Stmt:=top 40
noncomputable abbrev aj8:Stmt:=top 41
noncomputable abbrev s__law_letter_table:Stmt:=top 42
noncomputable abbrev au0:Stmt:=top 43
noncomputable abbrev an0:Stmt:=top 44
noncomputable abbrev aB9:Stmt:=top 45
noncomputable def tb:List (String×lR×Stmt):=[("rooms_of",DV.aa6,au1),("doors_of",DV.ab3,as8),("grid",DV.ad1,br3),("raised",DV.ad6,aL6),("least",DV.ad0,aV5),("added",DV.ad3,aY8),("plain",DV.ad7,bh0),("product",DV.ab5,an8),("power",DV.ae8,aI9),("letter_table",DV.aa3,s_letter_table),("word_table",DV.ab0,ak1),("as_times",DV.ac6,au3),("folded",DV.ab7,aN9),("counted",DV.ad2,aC5),("unrolled",DV.ab9,at9),("lengths",DV.ae4,az3),("begun",DV.ag1,aY3),("begun_times",DV.ab8,af7),("last_word",DV.ad5,ap1),("last_table",DV.ac4,aj6),("word_unrolled",DV.ab4,ag0),("table_unrolled",DV.aa9,af9),("_law_box",DV.an2,at8),("_law_draw",DV.ae7,ao5),("_law_product",DV.ab1,ah0),("_law_machine",DV.ad4,ag6),("_law_letter_signs",DV.aa7,s__law_letter_signs),("_law_sharp",DV.ae0,aj4),("_law_makings",DV.ae5,ag5),("_law_least",DV.ac5,aj7),("_law_times",DV.af4,aj2),("_law_power",DV.ae1,aj8),("_law_letter_table",DV.aa5,s__law_letter_table),("_law_due",DV.ag2,au0),("_law_tall",DV.af3,an0),("law",DV.ad8,aB9)]
noncomputable def cc7:List (String×kP):=[("MOST_WRITTEN",.int (2000)),("product",.fn "product"),("power",.fn "power"),("begun_times",.fn "begun_times")]
noncomputable def ltbl:List (String×lQ):=[("plain.0",DV.aa8),("product.0",DV.aa4),("letter_table.least_fee",DV.aa2),("counted.0",DV.ac3),("counted.1",DV.ac2),("counted.2",DV.ac1),("last_word.0",DV.ac8),("last_word.1",DV.ac9),("last_table.0",DV.ac0)]
noncomputable def tbl:List (String×lR):=tb.map λ p=>(p.1,p.2.1)
noncomputable def P:lb:=⟨λ f=>tbl.lookup f,λ f=>ltbl.lookup f,λ x=>cc7.lookup x⟩
instance:DV.HasL P DV.aa8:=⟨rfl⟩
instance:DV.HasL P DV.aa4:=⟨rfl⟩
instance:DV.HasL P DV.aa2:=⟨rfl⟩
instance:DV.HasL P DV.ac3:=⟨rfl⟩
instance:DV.HasL P DV.ac2:=⟨rfl⟩
instance:DV.HasL P DV.ac1:=⟨rfl⟩
instance:DV.HasL P DV.ac8:=⟨rfl⟩
instance:DV.HasL P DV.ac9:=⟨rfl⟩
instance:DV.HasL P DV.ac0:=⟨rfl⟩
instance:DV.HasC P "MOST_WRITTEN" (.int (2000)):=⟨rfl⟩
instance:DV.HasC P "product" (.fn "product"):=⟨rfl⟩
instance:DV.HasC P "power" (.fn "power"):=⟨rfl⟩
instance:DV.HasC P "begun_times" (.fn "begun_times"):=⟨rfl⟩
instance:DV.Has P DV.aa6:=⟨rfl⟩
instance:DV.Has P DV.ab3:=⟨rfl⟩
instance:DV.Has P DV.ad1:=⟨rfl⟩
instance:DV.Has P DV.ad6:=⟨rfl⟩
instance:DV.Has P DV.ad0:=⟨rfl⟩
instance:DV.Has P DV.ad3:=⟨rfl⟩
instance:DV.Has P DV.ad7:=⟨rfl⟩
instance:DV.Has P DV.ab5:=⟨rfl⟩
instance:DV.Has P DV.ae8:=⟨rfl⟩
instance:DV.Has P DV.aa3:=⟨rfl⟩
instance:DV.Has P DV.ab0:=⟨rfl⟩
instance:DV.Has P DV.ac6:=⟨rfl⟩
instance:DV.Has P DV.ab7:=⟨rfl⟩
instance:DV.Has P DV.ad2:=⟨rfl⟩
instance:DV.Has P DV.ab9:=⟨rfl⟩
instance:DV.Has P DV.ae4:=⟨rfl⟩
instance:DV.Has P DV.ag1:=⟨rfl⟩
instance:DV.Has P DV.ab8:=⟨rfl⟩
instance:DV.Has P DV.ad5:=⟨rfl⟩
instance:DV.Has P DV.ac4:=⟨rfl⟩
instance:DV.Has P DV.ab4:=⟨rfl⟩
instance:DV.Has P DV.aa9:=⟨rfl⟩
instance:DV.Has P DV.an2:=⟨rfl⟩
instance:DV.Has P DV.ae7:=⟨rfl⟩
instance:DV.Has P DV.ab1:=⟨rfl⟩
instance:DV.Has P DV.ad4:=⟨rfl⟩
instance:DV.Has P DV.aa7:=⟨rfl⟩
instance:DV.Has P DV.ae0:=⟨rfl⟩
instance:DV.Has P DV.ae5:=⟨rfl⟩
instance:DV.Has P DV.ac5:=⟨rfl⟩
instance:DV.Has P DV.af4:=⟨rfl⟩
instance:DV.Has P DV.ae1:=⟨rfl⟩
instance:DV.Has P DV.aa5:=⟨rfl⟩
instance:DV.Has P DV.ag2:=⟨rfl⟩
instance:DV.Has P DV.af3:=⟨rfl⟩
instance:DV.Has P DV.ad8:=⟨rfl⟩
theorem aS1:DT af1 P "rooms_of" DV.aa6 au1:=⟨["machine"],["machine"],by walk_at "sc",rfl,rfl,λ _ _ _ _ _ _=>bd1 (λ _=>rfl),.inl (by decide +kernel)⟩
theorem aQ1:DT af1 P "doors_of" DV.ab3 as8:=⟨["machine"],["machine"],by walk_at "sc",rfl,rfl,λ _ _ _ _ _ _=>bd1 (λ _=>rfl),.inl (by decide +kernel)⟩
theorem bJ8:DT af1 P "grid" DV.ad1 br3:=⟨["size", "entry", "rows", "i"],["size", "entry"],by walk_at "sc",rfl,rfl,λ _ _ _ _ _ _=>bd2 (λ _ _=>rfl),.inl (by decide +kernel)⟩
theorem bn6:DT af1 P "raised" DV.ad6 aL6:=⟨["one", "many", "plain_one", "times", "answer", "square", "left"],["one", "many", "plain_one", "times"],by walk_at "sc",rfl,rfl,λ _ _ _ _ _ _=>bd4 (λ _ _ _ _=>rfl),.inl (by decide +kernel)⟩
theorem bF2:DT af1 P "least" DV.ad0 aV5:=⟨["prices"],["prices"],by walk_at "sc",rfl,rfl,λ _ _ _ _ _ _=>bd1 (λ _=>rfl),.inl (by decide +kernel)⟩
theorem bA2:DT af1 P "added" DV.ad3 aY8:=⟨["one", "other"],["one", "other"],by walk_at "sc",rfl,rfl,λ _ _ _ _ _ _=>bd2 (λ _ _=>rfl),.inl (by decide +kernel)⟩
theorem bw1:DT af1 P "plain" DV.ad7 bh0:=⟨["n"],["n"],by walk_at "sc",rfl,rfl,λ _ _ _ _ _ _=>bd1 (λ _=>rfl),.inr ⟨by decide,[("plain.0",DV.aa8,["i", "j"],[])],by decide +kernel,by decide +kernel,λ p h=>by
 simp only[aI,bz,or_false]at h
 rcases h with rfl
 ·exact⟨rfl,cd2⟩⟩⟩
theorem bg5:DT af1 P "product" DV.ab5 an8:=⟨["one", "other", "size"],["one", "other"],by walk_at "sc",rfl,rfl,λ _ _ _ _ _ _=>bd2 (λ _ _=>rfl),.inr ⟨by decide,[("product.0",DV.aa4,["i", "j"],["size", "one", "other"])],by decide +kernel,by decide +kernel,λ p h=>by
 simp only[aI,bz,or_false]at h
 rcases h with rfl
 ·exact⟨rfl,cd2⟩⟩⟩
theorem bz4:DT af1 P "power" DV.ae8 aI9:=⟨["table", "many"],["table", "many"],by walk_at "sc",rfl,rfl,λ _ _ _ _ _ _=>bd2 (λ _ _=>rfl),.inl (by decide +kernel)⟩
theorem ar3:DT af1 P "letter_table" DV.aa3 s_letter_table:=⟨["machine", "letter", "least_fee"],["machine", "letter"],by walk_at "sc",rfl,rfl,λ _ _ _ _ _ _=>bd2 (λ _ _=>rfl),.inr ⟨by decide,[("letter_table.least_fee",DV.aa2,["i", "j"],["machine", "letter"])],by decide +kernel,by decide +kernel,λ p h=>by
 simp only[aI,bz,or_false]at h
 rcases h with rfl
 ·exact⟨rfl,cd2⟩⟩⟩
theorem aD9:DT af1 P "word_table" DV.ab0 ak1:=⟨["machine", "word", "made", "table", "letter"],["machine", "word"],by walk_at "sc",rfl,rfl,λ _ _ _ _ _ _=>bd2 (λ _ _=>rfl),.inl (by decide +kernel)⟩
theorem aR7:DT af1 P "as_times" DV.ac6 au3:=⟨["makings", "many"],["makings", "many"],by walk_at "sc",rfl,rfl,λ _ _ _ _ _ _=>bd2 (λ _ _=>rfl),.inl (by decide +kernel)⟩
theorem bq3:DT af1 P "folded" DV.ab7 aN9:=⟨["steps", "of_letter", "of_pair", "of_times", "values", "step"],["steps", "of_letter", "of_pair", "of_times"],by walk_at "sc",rfl,rfl,λ _ _ _ _ _ _=>bd4 (λ _ _ _ _=>rfl),.inl (by decide +kernel)⟩
theorem ba5:DT af1 P "counted" DV.ad2 aC5:=⟨["steps", "for_letter"],["steps", "for_letter"],by walk_at "sc",rfl,rfl,λ _ _ _ _ _ _=>bd2 (λ _ _=>rfl),.inr ⟨by decide,[("counted.0",DV.ac3,["one", "many"],[]),("counted.1",DV.ac2,["one", "other"],[]),("counted.2",DV.ac1,["letter"],["for_letter"])],by decide +kernel,by decide +kernel,λ p h=>by
 simp only[aI,bz,or_false]at h
 rcases h with rfl|rfl|rfl
 ·exact⟨rfl,bd_2⟩
 ·exact⟨rfl,bd_3⟩
 ·exact⟨rfl,ca9⟩⟩⟩
theorem aP2:DT af1 P "unrolled" DV.ab9 at9:=⟨["machine", "makings", "n"],["machine", "makings", "n"],by walk_at "sc",rfl,rfl,λ _ _ _ _ _ _=>bd3 (λ _ _ _=>rfl),.inl (by decide +kernel)⟩
theorem aY6:DT af1 P "lengths" DV.ae4 az3:=⟨["machine", "makings", "n"],["machine", "makings", "n"],by walk_at "sc",rfl,rfl,λ _ _ _ _ _ _=>bd3 (λ _ _ _=>rfl),.inl (by decide +kernel)⟩
theorem bx2:DT af1 P "begun" DV.ag1 aY3:=⟨["word"],["word"],by walk_at "sc",rfl,rfl,λ _ _ _ _ _ _=>bd1 (λ _=>rfl),.inl (by decide +kernel)⟩
theorem ax7:DT af1 P "begun_times" DV.ab8 af7:=⟨["word", "many", "enough"],["word", "many"],by walk_at "sc",rfl,rfl,λ _ _ _ _ _ _=>bd2 (λ _ _=>rfl),.inl (by decide +kernel)⟩
theorem aF7:DT af1 P "last_word" DV.ad5 ap1:=⟨["steps", "word"],["steps"],by walk_at "sc",rfl,rfl,λ _ _ _ _ _ _=>bd1 (λ _=>rfl),.inr ⟨by decide,[("last_word.0",DV.ac8,["one", "other"],[]),("last_word.1",DV.ac9,["letter"],[])],by decide +kernel,by decide +kernel,λ p h=>by
 simp only[aI,bz,or_false]at h
 rcases h with rfl|rfl
 ·exact⟨rfl,bd_3⟩
 ·exact⟨rfl,ca9⟩⟩⟩
theorem aD0:DT af1 P "last_table" DV.ac4 aj6:=⟨["machine", "steps"],["machine", "steps"],by walk_at "sc",rfl,rfl,λ _ _ _ _ _ _=>bd2 (λ _ _=>rfl),.inr ⟨by decide,[("last_table.0",DV.ac0,["letter"],["machine"])],by decide +kernel,by decide +kernel,λ p h=>by
 simp only[aI,bz,or_false]at h
 rcases h with rfl
 ·exact⟨rfl,ca9⟩⟩⟩
theorem an6:DT af1 P "word_unrolled" DV.ab4 ag0:=⟨["machine", "makings", "n"],["machine", "makings", "n"],by walk_at "sc",rfl,rfl,λ _ _ _ _ _ _=>bd3 (λ _ _ _=>rfl),.inl (by decide +kernel)⟩
theorem al0:DT af1 P "table_unrolled" DV.aa9 af9:=⟨["machine", "makings", "n"],["machine", "makings", "n"],by walk_at "sc",rfl,rfl,λ _ _ _ _ _ _=>bd3 (λ _ _ _=>rfl),.inl (by decide +kernel)⟩
theorem aS6:DT af1 P "_law_box" DV.an2 at8:=⟨["_law_script", "_law_at", "_law_cell", "_law_number", "_law_j", "_law_part"],["_law_script", "_law_at"],by walk_at "sc",rfl,rfl,λ _ _ _ _ _ _=>bd2 (λ _ _=>rfl),.inl (by decide +kernel)⟩
theorem aG9:DT af1 P "_law_draw" DV.ae7 ao5:=⟨["_law_box_here", "_law_many", "_law_found"],["_law_box_here", "_law_many"],by walk_at "sc",rfl,rfl,λ _ _ _ _ _ _=>bd2 (λ _ _=>rfl),.inl (by decide +kernel)⟩
theorem as0:DT af1 P "_law_product" DV.ab1 ah0:=⟨["_law_one", "_law_other", "_law_found", "_law_line", "_law_new", "_law_k"],["_law_one", "_law_other"],by walk_at "sc",rfl,rfl,λ _ _ _ _ _ _=>bd2 (λ _ _=>rfl),.inl (by decide +kernel)⟩
theorem ar6:DT af1 P "_law_machine" DV.ad4 ag6:=⟨["_law_box_here", "_law_letters", "_law_rooms", "_law_many", "_law_high", "_law_doors", "_law_k", "_law_start", "_law_goal", "_law_letter", "_law_bits", "_law_begins", "_law_ends"],["_law_box_here"],by walk_at "sc",rfl,rfl,λ _ _ _ _ _ _=>bd1 (λ _=>rfl),.inl (by decide +kernel)⟩
theorem jD:DT af1 P "_law_letter_signs" DV.aa7 s__law_letter_signs:=⟨["_law_machine_here", "_law_letter", "_law_rooms", "_law_lines", "_law_start", "_law_sign", "_law_goal", "_law_cost"],["_law_machine_here", "_law_letter"],by walk_at "sc",rfl,rfl,λ _ _ _ _ _ _=>bd2 (λ _ _=>rfl),.inl (by decide +kernel)⟩
theorem aB1:DT af1 P "_law_sharp" DV.ae0 aj4:=⟨["_law_signs", "_law_size", "_law_found", "_law_i", "_law_line", "_law_j", "_law_best", "_law_k", "_law_here"],["_law_signs"],by walk_at "sc",rfl,rfl,λ _ _ _ _ _ _=>bd1 (λ _=>rfl),.inl (by decide +kernel)⟩
theorem ar9:DT af1 P "_law_makings" DV.ae5 ag5:=⟨["_law_box_here", "_law_machine_here", "_law_most", "_law_sharps", "_law_steps", "_law_tables", "_law_steady", "_law_k", "_law_way", "_law_one", "_law_other", "_law_letter"],["_law_box_here", "_law_machine_here", "_law_most", "_law_sharps"],by walk_at "sc",rfl,rfl,λ _ _ _ _ _ _=>bd4 (λ _ _ _ _=>rfl),.inl (by decide +kernel)⟩
theorem aC9:DT af1 P "_law_least" DV.ac5 aj7:=⟨["_law_one", "_law_other"],["_law_one", "_law_other"],by walk_at "sc",rfl,rfl,λ _ _ _ _ _ _=>bd2 (λ _ _=>rfl),.inl (by decide +kernel)⟩
theorem aD8:DT af1 P "_law_times" DV.af4 aj2:=⟨["_law_one", "_law_other", "_law_found", "_law_line", "_law_new", "_law_j", "_law_best", "_law_k"],["_law_one", "_law_other"],by walk_at "sc",rfl,rfl,λ _ _ _ _ _ _=>bd2 (λ _ _=>rfl),.inl (by decide +kernel)⟩
theorem aA4:DT af1 P "_law_power" DV.ae1 aj8:=⟨["_law_table", "_law_many", "_law_found"],["_law_table", "_law_many"],by walk_at "sc",rfl,rfl,λ _ _ _ _ _ _=>bd2 (λ _ _=>rfl),.inl (by decide +kernel)⟩
theorem jJ:DT af1 P "_law_letter_table" DV.aa5 s__law_letter_table:=⟨["_law_machine_here", "_law_letter", "_law_rooms", "_law_lines", "_law_start", "_law_sign", "_law_goal", "_law_cost"],["_law_machine_here", "_law_letter"],by walk_at "sc",rfl,rfl,λ _ _ _ _ _ _=>bd2 (λ _ _=>rfl),.inl (by decide +kernel)⟩
theorem aQ2:DT af1 P "_law_due" DV.ag2 au0:=⟨["_law_machine_here", "_law_makings_here", "_law_copies", "_law_tables", "_law_step"],["_law_machine_here", "_law_makings_here", "_law_copies"],by walk_at "sc",rfl,rfl,λ _ _ _ _ _ _=>bd3 (λ _ _ _=>rfl),.inl (by decide +kernel)⟩
theorem aF8:DT af1 P "_law_tall" DV.af3 an0:=⟨["_law_box_here", "_law_letters", "_law_most", "_law_steps", "_law_k"],["_law_box_here", "_law_letters", "_law_most"],by walk_at "sc",rfl,rfl,λ _ _ _ _ _ _=>bd3 (λ _ _ _=>rfl),.inl (by decide +kernel)⟩
theorem bt9:FnScope ["_law_script", "_law_k", "_law_box_here", "_law_machine_here", "_law_makings_here", "_law_great", "_law_n", "_law_due_here", "_law_found"] ["_law_script"] (defScope aB9):=by walk_at "sc"
theorem bV5:mSs ⟨["_law_script", "_law_k", "_law_box_here", "_law_machine_here", "_law_makings_here", "_law_great", "_law_n", "_law_due_here", "_law_found"],defScope aB9,λ _ _ _=>false⟩ DV.ad8.body (qa aB9)=true:=by decide +kernel
theorem bR5:BdOk "law" aB9 ["_law_script"]:=λ _ _ _ _ _ _=>bd1 λ _=>rfl
theorem cf5:DT af1 P "law" DV.ad8 aB9:=⟨_,_,bt9,rfl,rfl,bR5,.inl bV5⟩
theorem cb8:∀ p∈tb,DT af1 P p.1 p.2.1 p.2.2:=by
 intro p h
 unfold tb at h
 simp only[aI,bz,or_false]at h
 rcases h with rfl|rfl|rfl|rfl|rfl|rfl|rfl|rfl|rfl|rfl|rfl|rfl|rfl|rfl|rfl|rfl|rfl|rfl|rfl|rfl|rfl|rfl|rfl|rfl|rfl|rfl|rfl|rfl|rfl|rfl|rfl|rfl|rfl|rfl|rfl|rfl
 ·exact aS1
 ·exact aQ1
 ·exact bJ8
 ·exact bn6
 ·exact bF2
 ·exact bA2
 ·exact bw1
 ·exact bg5
 ·exact bz4
 ·exact ar3
 ·exact aD9
 ·exact aR7
 ·exact bq3
 ·exact ba5
 ·exact aP2
 ·exact aY6
 ·exact bx2
 ·exact ax7
 ·exact aF7
 ·exact aD0
 ·exact an6
 ·exact al0
 ·exact aS6
 ·exact aG9
 ·exact as0
 ·exact ar6
 ·exact jD
 ·exact aB1
 ·exact ar9
 ·exact aC9
 ·exact aD8
 ·exact aA4
 ·exact jJ
 ·exact aQ2
 ·exact aF8
 ·exact cf5
theorem bW3 {l:c6}{w:World}{K:ae}{h:Heap}{mg:Str->Option Value}{fa:Addr}(X:K.In h)(G:h.Ns bj mg)(Z:mg "law"=some (.ref fa))(hD:∀ p∈tb,DfIn K p.1 p.2.2)(hz:∀ x∈bNames,dC K bj x=some none)
  {y:Tok} (gc_MOST_WRITTEN:dC K bj "MOST_WRITTEN"=some (some (.int (2000) y)))
  (hT:∀ x∈af1,(bh K x).isSome=true) (tnd:decide (((bx0 af1 K).map (·.1)).Nodup)=true)
  : ∃ fd:bI,(∀(s:ah) (v:Value),jX s fd ⟨[v],[]⟩ [("_law_script",v)])/\∀ J:Heap,K.In J->J.Ns bj mg->BM mg J->bA4 K af1 J->FnOk l.prog w K mg J CX0 48 fa fd ["_law_script"] (spB af1 K):=by
 have hP:PrOk (bh7 af1 P K) (bJ3 af1 K) P mg:=by
  refine⟨λ f d h=>aM9 (tbl:=tbl) (λ p Y=>?_) f d h,λ x d h=>aT9 (tbl:=cc7) ?_ x d h,λ x hx=>PySem.W.mg_none_of X G (hz x hx),cc8 X G,cg7,of_decide_eq_true tnd⟩
  ·obtain⟨r,hr,rfl⟩:=aB.mp Y
   exact good_of X G hT (hD r hr) (cb8 r hr)
  ·intro p Y
   unfold cc7 at Y
   simp only[aI,bz,or_false]at Y
   rcases Y with rfl|rfl|rfl|rfl
   ·exact bE3 (db X G gc_MOST_WRITTEN)
   ·obtain⟨_,_,_,_,_,_,_,_,_,_,a,l,_⟩:=hD ("product",DV.ab5,an8) (by unfold tb;simp)
    exact aU2 X G a l
   ·obtain⟨_,_,_,_,_,_,_,_,_,_,a,l,_⟩:=hD ("power",DV.ae8,aI9) (by unfold tb;simp)
    exact aU2 X G a l
   ·obtain⟨_,_,_,_,_,_,_,_,_,_,a,l,_⟩:=hD ("begun_times",DV.ab8,af7) (by unfold tb;simp)
    exact aU2 X G a l
 obtain⟨f,od,an,sl,oc,kV,dc,pm,cd,ct,a,l0,c,k⟩:=hD ("law",DV.ad8,aB9) (by unfold tb;simp)
 have e:=Z.symm.trans (db X G a)
 cases e
 have F:=bs0 (st:=aB9) l0 c k
 refine⟨_,λ s v=>.of_eq rfl,λ J _ _ bm hk=>(bL8 hP (br2 hT bm hk) 16 (bg1 hP (br2 hT bm hk) 16) (d:=DV.ad8) (f := "law") rfl ⟨F,db X G a,F.binds bR5⟩ bt9 rfl rfl bV5 aV2).imp (λ vs H Q E q=>bX0 (λ ns h=>DV.ce8 (P:=P) 7 ns h) vs H Q E (bn0 hT q))⟩
noncomputable def nmS:Stmt->Bool
 | .Assign [.Name x _] _ _=>decide (x=("__name__":Str))
 | _=>false
noncomputable def vq:aN:={ PySem.Challenge.pw_leasttolls_k32_tables_unrolled with main:={ (PySem.Challenge.pw_leasttolls_k32_tables_unrolled).main with body:=(PySem.Challenge.pw_leasttolls_k32_tables_unrolled).main.body.filter λ s=>!nmS s } }
inductive IsL:c6->Prop|mk:IsL PySem.Challenge.rw_leasttolls_k32_tables_unrolled
theorem bM4 {l:c6}(h:IsL l):PySem.Challenge.rw_leasttolls_k32_tables_unrolled=l:=by cases h;rfl
noncomputable def lwp:{ l:c6 // IsL l }:=by
 refine⟨?p,?h⟩
 case h =>
  have e:PySem.Challenge.rw_leasttolls_k32_tables_unrolled=?p:=by
   conv=>lhs;reduce
  exact e▸IsL.mk
theorem ws1:fO lwp.1=true:=by k_qdec
theorem ws:fO PySem.Challenge.rw_leasttolls_k32_tables_unrolled=true:=by
 rw[bM4 lwp.2];exact ws1
end My
end
open PySem PySem.W PyProof.Rows
local macro_rules | `(tactic| o_head $H) => `(tactic| refine L2.head_of (q := My.vq) (loose := []) (H := $H) (N := 4000) (λ w => by kernel_rfl) (by rfl) (by rfl) (by rfl) rfl (by assumption) (by decide +kernel) ⟨rfl, rfl, rfl, rfl, rfl, by decide +kernel⟩ ?_ ?_)
set_option maxRecDepth 100000 in
set_option maxHeartbeats 0 in
theorem PySem.Challenge.cw_leasttolls_k32_tables_unrolled_holds : PySem.Challenge.rw_leasttolls_k32_tables_unrolled.Holds := by
 w_on;refine holds_law My.ws λ said=>?_;k_head;(focus w_witness2)
 k_fill
 refine L2.aW1 (l:=PySem.Challenge.rw_leasttolls_k32_tables_unrolled) (n:=63) (k:=48) (x := "_law_script") (sp:=L2.spB My.af1) My.af1 rfl (by decide) rfl ⟨rfl,by decide,by decide⟩ (λ w h Y=>⟨PySem.W.km_in_of Y,PySem.W.km_tabs_of Y⟩) (λ w=>?R) (λ w=>?NT) ?F (λ K H a ns hl hB hS hF=>L2.bW9 hl hB hS hF)
 case R=>kernel_rfl
 case NT=>kernel_rfl
 case F =>
  intro w mg fa h KX G hmg
  refine' My.bW3 KX G hmg ?hD ?hz ?gc_MOST_WRITTEN ?hT ?tnd
  case hD =>
   intro p hp
   unfold My.tb at hp
   simp only[aI,bz,or_false]at hp
   rcases hp with rfl|rfl|rfl|rfl|rfl|rfl|rfl|rfl|rfl|rfl|rfl|rfl|rfl|rfl|rfl|rfl|rfl|rfl|rfl|rfl|rfl|rfl|rfl|rfl|rfl|rfl|rfl|rfl|rfl|rfl|rfl|rfl|rfl|rfl|rfl|rfl
   ·walk_at "df"
   ·walk_at "df"
   ·walk_at "df"
   ·walk_at "df"
   ·walk_at "df"
   ·walk_at "df"
   ·walk_at "df"
   ·walk_at "df"
   ·walk_at "df"
   ·walk_at "df"
   ·walk_at "df"
   ·walk_at "df"
   ·walk_at "df"
   ·walk_at "df"
   ·walk_at "df"
   ·walk_at "df"
   ·walk_at "df"
   ·walk_at "df"
   ·walk_at "df"
   ·walk_at "df"
   ·walk_at "df"
   ·walk_at "df"
   ·walk_at "df"
   ·walk_at "df"
   ·walk_at "df"
   ·walk_at "df"
   ·walk_at "df"
   ·walk_at "df"
   ·walk_at "df"
   ·walk_at "df"
   ·walk_at "df"
   ·walk_at "df"
   ·walk_at "df"
   ·walk_at "df"
   ·walk_at "df"
   ·walk_at "df"
  case hz =>
   intro x hx
   unfold L2.bNames at hx
   simp only[aI,bz,or_false]at hx
   rcases hx with rfl|rfl|rfl|rfl|rfl|rfl|rfl|rfl|rfl|rfl|rfl|rfl|rfl|rfl|rfl|rfl|rfl|rfl<;>k_is
  (case gc_MOST_WRITTEN=>k_is)
  case hT =>
   intro x hx
   simp only[My.af1,aI,bz,or_false]at hx
   rcases hx with rfl|rfl|rfl|rfl|rfl|rfl<;>kernel_rfl
  (case tnd=>kernel_rfl)
