import PyProof.Rows.All
import Wide.All
import OpenK.AllK
import Wide.FinOn
import Lean
import PyProof.EqAt
import PyProof.EqKinds
import PyProof.TupleCall
import PyProof.MinMaxWalk
import PyProof.WalkInts
import PyProof.NeKinds
import PyProof.SliceStr2
import PyProof.StrBlockI
import PyProof.MaxThree
import PyProof.ZipIter
import PyProof.Draws
import PyProof.EnumMake
import PyProof.ListMulRoad
import PyProof.Rows.StrRev
import KE.IntBitsLaws
import PySem.Challenge.RW_leasttolls_k40_tables_and_prices_of_long
set_option Elab.async false
set_option linter.all false
set_option maxRecDepth 100000
set_option maxHeartbeats 4000000
open PySem.W renaming Frag->ab,tabIn->bh,kia_one->bL,kla_fn->bR,CodeHd->bS,keepIn->cb,fnX->cu,kitOne->cy,fnOf->cO,envX->cQ,OpenLaw->cV,mg_of->cZ,nsIn->dv,tabObj->d4,codeIn->eY,methodObj->fi,cellsFrom_some->f9,instObj->gz,lookIn->gO,findIn->gP,kitx_tuple->iA,callWith_K->iB,kitx_list->iP,kitx_dict->iQ,plainGet->i0,codeHdIn->i8,TabsAt->j7,noTabs->j8,WalkO->ki
open List renaming getElem?_eq_some_iff->ac,range->ae,getElem?_eq_getElem->ag,getElem?_append_right->ak,replicate->ao,size_toArray->au,getElem?_map->av,mem_cons_of_mem->ax,length_map->az,mem_map->aB,getElem?_append_left->aD,mem_cons_self->aF,getD_eq_getElem?_getD->aG,mem_cons->aH,map_cons->aN,all_eq_true->aP,length_append->aR,mem_of_getElem?->aS,length_cons->aW,mem_append_right->aX,getElem?_set_self->aY,mem_singleton->aZ,getElem?_range->a7,lookup_cons->a8,getElem?_set_ne->be,mem_filterMap->bj,mem_map_of_mem->bp,mem_range->bq,filterMap_cons->bv,map->bw,length_take->bz,length_set->bA,map_append->bB,getElem?_eq_none->bD,append_nil->bE,not_mem_nil->bG,mem_append->bK,replicate_succ->bM,mem_append_left->bU,length_range->bZ,take_length->b9,foldl_cons->ci,range_succ->cj,map_nil->cq,take_of_length_le->cr,getElem?_toArray->cA,mem_iff_getElem->cE,map_congr_left->cI,length_eq_zero_iff->cL,take_append_of_le_length->cN,map_map->cR,nodup_cons->cS,find?_cons->cU,length_singleton->c8,set_append_right->c9,flatten_cons->dg,mem_flatMap->dw,of_mem_zip->dE,filterMap_map->dH,reverse_cons->dX,foldl_append->d6,cons_append->d8,all_cons->eA,length_nil->eK,set_set->eV,drop_eq_getElem_cons->fg,mem_or_eq_of_mem_set->fh,append_assoc->fv,ext_getElem?->fC,length_filterMap_le->fL,any_cons->fM,getElem?_replicate->fS,length_drop->fV,range_succ_eq_map->gr,drop_eq_nil_of_le->gv,mem_filter->gA,nil_append->gC,take_append_drop->gM,forIn_nil->gS,filterMap->gU,drop_zero->gY,getElem?_of_mem->g6,take_take->g7,getElem?_take->iI,all_nil->iY,any_eq_true->i7,getElem_mem->jG,take_append->jH,forIn_cons->jN,set_append->jQ,all_append->jS,foldl->j1,take_zero->j9,length->kD,lookup->kE
open PySem renaming Shared->af,wpAny_bind->aj,mem_of_lookup->aA,wpAny_pure->aE,sizeLine->aI,cellsFrom->aL,Program->aM,Around->aV,Arguments->a9,bootBuiltins->bf,mainGlobals->bn,starEach->bo,wpAny_newObj_type->bH,FuncData->bI,NameKind->bN,wpAny_truthy_bool->bW,binaryOp->b7,wpAny_Call_Name_kw->b8,wpAny_mono->cg,assignEach->cx,wpAny_passesOwn->cC,rawInt->cJ,wpAny_callSpecial?_slot->cK,codeAmong->cM,pushCells_keeps->cT,compareOp->cW,behindInMarks->cX,wpAny_holding->cY,wpAny_pyIter_list->da,foldedSetIterable->db,sysModules->dh,wpAny_call_entry->dr,argBest->dt,isTrue->dG,tupleKind_room_in1->dJ,wpAny_field->dM,sliceBounds->dN,backTo->dU,wpAny_seqItems->dY,wpAny_tryCatch->dZ,pushCells->d9,relabel->ef,bindArgs->eB,letOwnedTupleGo->eG,codeAny_mono->eQ,newFunctionEnv->e9,wpAny_binaryOp_repeat_ref->fe,sizeLine_eq->fm,codeAny->fq,InCallC->fu,Paired->fD,IsPart->fH,attributeBase->fI,wpAny_comprehension_free->fJ,plainId_quiet->fK,storeName->fQ,swapsWith->fR,noFill_tuple_add->fT,builtinsNs->f7,assign->f8,name_of_addr->ga,getItem->gb,wpAny_typeOf->gd,typeIs_int->gi,call_meets->gk,codeAny_compStart_list->gq,wpAny_execs_nil->gB,codeAny_builtin->gD,wpAny_updateSeq->gE,wpAny_storeName_local->gH,wpAny_isTrue_Compare1->gI,codeAny_call_function->gJ,wpAny_storeName_cell->gN,wpAny_letGo->gT,strIterType->gX,tupleKind->g8,callerA->g9,seqItems?->hG,TriplesOk->hU,valueAt->hV,wpAny_standAt->ik,seq_tuple_add->io,annotationsOf->iq,wpAny_pyIter_tuple->iz,wpAny_rule->iE,holding->iL,wpAny_assign_Name->iO,concat_meets->iR,wpAny_sequenceKey->iT,seqIndex_neg->iU,slot_list_getitem->iV,notedBy->iX,pyNext->iZ,seqSlot_of->i9,seqIndex_of->jI,BindsTo->jU,Keyword->jV,wpAny_Name->jX,wpAny_call->jY,typeIs_str->jZ,PlainAttrs->j0,call->j2,defaultsOf->j4,qualnameIn->j5,Within->kn,pyIter->ko
open Nat renaming le_refl->ah,le_trans->am,lt_of_lt_of_le->ar,ne_of_lt->ay,zero_add->aU,lt_irrefl->bu,pow_le_pow_right->bV,add_sub_cancel_left->cf,lt_trans->cF,zero_le->dj,le_succ->dk,le_of_lt->dm,ne_of_gt->dq,lt_succ_self->du,mul_add->dQ,strongRecOn->eM,le_of_succ_le->fw,lt_succ_of_lt->fx,lt_trichotomy->fA,mul_assoc->fN,min_le_right->fU,min_eq_right->fZ,add_comm->gm,sub_self->gx,mul_le_mul_left->ig,mul_comm->iW,le_of_not_lt->i6,add_mul->jK,mul_one->jL,min_eq_left->jT,lt_or_ge->kt,add_zero->kx,sub_zero->kB
open PySem.Heap renaming get?_push_of_some->ai,lt_size->aC,get?_push_size->aO,get?_update_other->bP,size_push->bX,get?_update_self->c7,SameBut->dS,ExtBut->jJ
open Bool renaming and_eq_true->aq,false_eq_true->aK,false_ne_true->aQ,or_eq_true->bO,and_true->dC,true_and->dD,eq_iff_iff->dF,or_eq_false_iff->eD,not_eq_true'->fB,and_eq_true_iff->gZ,false_or->kg
open Option.some renaming inj->aw
open Option renaming map_some->aJ,map_eq_some_iff->bJ,isSome_some->fb,isSome_map->fy,isSome_iff_exists->fG,bind_some->fY,isSome_none->iG,getD_none->i5
open PyProof.Rows renaming slot_tuple_getitem->br,kindOf->d7,callWith_type1->eP,AllBare->fj,envOfC->fF,subscriptTail_builtinR->gf,entry_tuple_getitem->hX,Constant_none->ij,tupleItemsOf_->ip,args_tuple_getitem->iC,IntsAre->jW
open PySem.Builtin.Str renaming strSliceIndices->bC,tooLong->kb
open False renaming elim->bF
open PySem.Builtin.SmallTypes renaming nextOf->bQ
open Ne renaming symm->bT
open Int renaming toNat_natCast->cc,le_refl->dP,mul_le_mul_of_nonneg_left->eF,le_trans->eU,fdiv_eq_ediv_of_nonneg->eX,zero_add->gy,natCast_mul->gF,toNat_of_nonneg->ie,emod_lt_of_pos->iK,le_antisymm->jO,emod_nonneg->jR,sub_zero->kr,le_total->ku
open PySem.F renaming plain_min_loop->cw,slot_tuple_iterator_next->cz,args_tuple_add_2->dB,slot_int_rmul->dI,entry_tuple_add->dL,plainAttrs_list->dR,slot_tuple_add->dW,slot_tuple_mul->d5,args_tuple_iterator_next_1->eJ,entry_tuple_iterator_next->eT,entry_min_loop->fW,slot_tuple_rmul->fX,slot_list_append->gK,slot_list_extend->gL,args_int_rmul_2->gR,slot_int_index->hZ,entry_int_rmul->ib,fills_int_mul->iD
open PySem.Builtin.Slice renaming slicePlaces->cB,sliceAdjust->dz,sliceApplied->eZ,slicePartIndex->jM,sliceFields->ka
open PySem.Str renaming ofString->cD
open PySem.Builtin.Tuple renaming tupleExact->cG,tupleItemsOf->di,tupleTooMany->fc,tupleIsExact->j6
open PySem.Builtin.List renaming listTooLong->cH
open Array renaming toList_append->dA,length_toList->eO,append_assoc->iy,toList->iM
open List.Nodup renaming length_le_of_subset->ee
open PySem.Around renaming under_plainId->eC,frames_deeper->gQ
open PySem.Txt renaming slice->eI
open List.cons renaming injEq->eN
open PySem.Builtin.Builtins renaming bindParams->eR
open PySem.Calls renaming Name_function_global->eW,callWith_builtin->gj
open PySem.W.OpenLaw renaming wellSaid->fO
open PySem.Obj renaming mapSeq->gh,data_mapFields->iH
open PySem.SeqAt renaming EqAt->gu,RcNeAt->kq,RcAt->kJ
open PySem.SeqAt.EqAt renaming same->gG,int_str->iu,str_int->iw,of_refs->iJ
open PySem.Heap.SameBut renaming update->ic
open PySem.Paired renaming length->ii,snoc->kG
open Function renaming comp->ir
open PyProof.Rows.IsTup renaming new->i4
open PySem.PassesOwn renaming never->jP
open PySem.Walks renaming list->j3
open PySem.Value renaming isStrOf->ke,isInt->kC
open PySem.CmpOf renaming ints_lt->kh
open PySem.Builtin.Range renaming rangeSize->kj
open PySem.StrLaws renaming found_one->km
open PySem.W.OpenRow renaming toRowW->kz
open Iff renaming rfl->kA
open PySem.Heap.Ns renaming new->kF
open List.Pairwise renaming filter->kH
open PySem.Heap.IsSliceOf renaming new->kI
noncomputable section
namespace L2
open PySem PySem.Spec PyProof.Rows
noncomputable abbrev Key:=Sum Int Str
noncomputable def keyIs:Key->Value->Bool
 | .inl k,v=>kC k v
 | .inr x,v=>ke x v
noncomputable def keyH (w:World):Key->Int
 | .inl k=>hashInt k
 | .inr x=>hashStr w x
theorem zL:∀ {k:Key} {v:Value},keyIs k v=true->(∃ i t,k=Sum.inl i/\v=Value.int i t)\/(∃ x t,k=Sum.inr x/\v=Value.str x t)
 | .inl i,v,h=>by
  obtain⟨t,e⟩:=Value.isInt_shape (k:=i) (v:=v) h
  exact .inl ⟨i,t,rfl,e⟩
 | .inr x,v,h=>by
  obtain⟨t,e⟩:=Value.isStrOf_shape (x:=x) (v:=v) h
  exact .inr ⟨x,t,rfl,e⟩
theorem keyIs_int (i:Int)(t:Tok):keyIs (.inl i) (.int i t)=true:=by simp[keyIs,kC]
theorem keyIs_str (x:Str)(t:Tok):keyIs (.inr x) (.str x t)=true:=by simp[keyIs,ke]
theorem key_ll (a b:Int):decide ((Sum.inl a:Key)=Sum.inl b)=(a==b):=by
 by_cases e:a=b
 ·subst e;simp
 ·have h:¬(Sum.inl a:Key)=Sum.inl b:=λ q=>e (Sum.inl.inj q)
  rw[decide_eq_false h]
  exact(beq_eq_false_iff_ne.mpr e).symm
theorem key_rr (a b:Str):decide ((Sum.inr a:Key)=Sum.inr b)=decide (a=b):=by
 by_cases e:a=b
 ·subst e;simp
 ·have h:¬(Sum.inr a:Key)=Sum.inr b:=λ q=>e (Sum.inr.inj q)
  rw[decide_eq_false h,decide_eq_false e]
theorem key_lr (a:Int)(b:Str):decide ((Sum.inl a:Key)=Sum.inr b)=false:=decide_eq_false (λ q=>nomatch q)
theorem key_rl (a:Str)(b:Int):decide ((Sum.inr a:Key)=Sum.inl b)=false:=decide_eq_false (λ q=>nomatch q)
noncomputable def zY (prog:aM)(w:World):PySem.KeyKind prog w Key where
 is:=keyIs
 hash:=keyH w
 inj:=λ v a b ha hb=>by
  rcases zL ha with⟨i,t,rfl,rfl⟩|⟨x,t,rfl,rfl⟩
  ·rcases zL hb with⟨j,u,rfl,e⟩|⟨y,u,rfl,e⟩
   ·injection e with e1 _;rw[e1]
   ·exact nomatch e
  ·rcases zL hb with⟨j,u,rfl,e⟩|⟨y,u,rfl,e⟩
   ·exact nomatch e
   ·injection e with e1 _;rw[e1]
 byValue:=λ k v h=>by
  rcases zL h with⟨i,t,rfl,rfl⟩|⟨x,t,rfl,rfl⟩<;>rfl
 pyHash:=λ hv h=>by
  rcases zL hv with⟨i,t,rfl,rfl⟩|⟨x,t,rfl,rfl⟩
  ·exact wpAny_pyHash_int h
  ·exact wpAny_pyHash_str h
 eqBool:=λ hu hv h=>by
  rcases zL hu with⟨i,t,rfl,rfl⟩|⟨x,t,rfl,rfl⟩
  ·rcases zL hv with⟨j,u,rfl,rfl⟩|⟨y,u,rfl,rfl⟩
   ·rw[key_ll]at h;exact wpAny_eqBool_int h
   ·rw[key_lr]at h;exact iu i t y u _ _ _ _ h
  ·rcases zL hv with⟨j,u,rfl,rfl⟩|⟨y,u,rfl,rfl⟩
   ·rw[key_rl]at h;exact iw x t j u _ _ _ _ h
   ·rw[key_rr]at h;exact wpAny_eqBool_str h
 «strs»:=λ k x t v h=>by
  rcases zL h with⟨i,u,rfl,e⟩|⟨y,u,rfl,e⟩
  ·exact nomatch e
  ·injection e with e1 _
   subst e1
   cases v<;>rfl
theorem mixKind_int (prog:aM)(w:World)(i:Int)(t:Tok):(zY prog w).is (.inl i) (.int i t)=true:=keyIs_int i t
theorem mixKind_str (prog:aM)(w:World)(x:Str)(t:Tok):(zY prog w).is (.inr x) (.str x t)=true:=keyIs_str x t
inductive V where
 | non|bl (b:Bool)|int (i:Int)|str (x:Str)|byt (b:Array UInt8)|flt (b:UInt64)|ref (a:Addr)|ty (n:String)
 deriving DecidableEq
noncomputable def RelV:V->Value->Prop
 | .non,u=>u=Value.none
 | .bl b,u=>u=Value.bool b
 | .int i,u=>∃ t,u=Value.int i t
 | .str x,u=>∃ t,u=Value.str x t
 | .byt b,u=>∃ t,u=Value.bytes b t
 | .flt b,u=>∃ t,u=Value.float b t
 | .ref a,u=>u=Value.ref a
 | .ty n,u=>u=Value.type n
noncomputable abbrev Vals:List V->List Value->Prop:=fD RelV
theorem Vals.length {h:List V}{us:List Value}(r:Vals h us):h.length=us.length:=ii r
theorem Vals.get:∀ {h:List V} {us:List Value} {i:Nat} {x:V},Vals h us->h[i]?=some x->∃ u,us[i]?=some u/\RelV x u
 | _,_,_,_,.nil,e=>by simp at e
 | _,_,0,_,.cons r _,e=>by simp at e;subst e;exact⟨_,rfl,r⟩
 | _,_,i+1,x,.cons _ t,e=>by
  obtain⟨u,C,y⟩:=Vals.get (i:=i) (x:=x) t (by simpa using e)
  exact⟨u,by simpa using C,y⟩
theorem Vals.set {x:V}{u:Value}(r:RelV x u):∀ {h:List V} {us:List Value} (i:Nat),Vals h us->Vals (h.set i x) (us.set i u)
 | _,_,_,.nil=>.nil
 | _,_,0,.cons _ t=>.cons r t
 | _,_,i+1,.cons q t=>.cons q (Vals.set r i t)
theorem Vals.append:∀ {h ys:List V} {us ws:List Value},Vals h us->Vals ys ws->Vals (h++ys) (us++ws)
 | _,_,_,_,.nil,s=>s
 | _,_,_,_,.cons r t,s=>.cons r (Vals.append t s)
theorem Vals.take:∀ {h:List V} {us:List Value} (n:Nat),Vals h us->Vals (h.take n) (us.take n)
 | _,_,0,_=>.nil
 | _,_,_+1,.nil=>.nil
 | _,_,n+1,.cons r t=>.cons r (Vals.take n t)
theorem Vals.drop:∀ {h:List V} {us:List Value} (n:Nat),Vals h us->Vals (h.drop n) (us.drop n)
 | _,_,0,r=>r
 | _,_,_+1,.nil=>.nil
 | _,_,n+1,.cons _ t=>Vals.drop n t
noncomputable def RelO:Option V->Option Value->Prop
 | some v,some u=>RelV v u
 | none,none=>True
 | _,_=>False
noncomputable def KV {κ:Type}:List (κ×V)->List (κ×Value)->Prop:=fD λ(p:κ×V) (q:κ×Value)=>p.1=q.1/\RelV p.2 q.2
noncomputable def kV:Key->V
 | .inl i=>.int i
 | .inr x=>.str x
inductive HO where
 | lst (xs:List V)
 | tup (xs:List V)
 | dK (kvs:List (Key×V))|dT (kvs:List (List Key×V))
 | set (S:Int->Bool) (n:Nat)
 | ins (C dx:Addr) (fs:List (Str×V))
 | own (x:Addr)
 | xd (fs:List (Str×V))
 | met (f x:Addr)
 | rng (lo hi:Int)
 | frz (o:Obj) (u:HO)
 | tbl (ps:Array Value)
 | ext (φ:Heap->Prop)
noncomputable abbrev Hp:=Addr->Option HO
noncomputable def upd (H:Hp)(a:Addr)(o:HO):Hp:=λ b=>if b=a then some o else H b
theorem zn {H:Hp}{a:Addr}{o:HO}:upd H a o a=some o:=by unfold upd;rw[if_pos rfl]
theorem zb {H:Hp}{a b:Addr}{o:HO}(h:b≠a):upd H a o b=H b:=by unfold upd;rw[if_neg h]
theorem ne_of {H:Hp}{a b:Addr}{o u:HO}(h:H a=some o)(h':H b=some u)(d:o≠u):a≠b:=by
 intro e;subst e;rw[h]at h';exact d (aw h')
theorem zE {H:Hp}{a b:Addr}{o:HO}(h:H a=some o)(h':H b=none):a≠b:=by
 intro e;subst e;rw[h]at h';cases h'
section
variable (P:aM) (w:World)
noncomputable def ObjOk (H:Hp)(h:Heap)(a:Addr):HO->Prop
 | .lst xs=>xs.length<=aI/\∃(its:List Value) (n:Nat),Vals xs its/\h.get? a=some { cls:=.type "list",data:=.seq its.toArray n }
 | .tup xs=>xs.length<=aI/\∃ its:List Value,Vals xs its/\IsTup h a its.toArray
 | .dK kvs=>kvs.length<=aI/\(a==dh)=false/\∃ vs,KV kvs vs/\h.DictOf (zY P w) a vs
 | .dT kvs=>kvs.length<=aI/\(a==dh)=false/\∃ xs:List (List Key×Addr×Value),
   fD (λ(p:List Key×V) (q:List Key×Addr×Value)=>p.1=q.1/\H q.2.1=some (.tup (p.1.map kV))/\RelV p.2 q.2.2) kvs xs /\
   ∃ o es ep,h.get? a=some o/\o.ExactDict/\o.data=.dict es ep/\es.toList=xs.map (entryOfKey (g8 (zY P w)))/\(xs.map (·.1)).Nodup
 | .set S n=>h.SetOf (intKind P w) a S n
 | .ins C dx fs=>H dx=some (.own a)/\fs.length<=1000/\dx≠a/\h.get? a=some (gz C dx) /\
   ∃ mA,h.Ns1 dx mA/\(∀ f,RelO (fs.lookup f) (mA f))/\kn mA (fs.map (·.1))
 | .own _=>∃ o,h.get? a=some o
 | .xd fs=>∃ mA,h.Ns1 a mA/\∀ f,RelO (fs.lookup f) (mA f)
 | .rng lo hi=>∃ t u v,h.get? a=some { cls:=.type "range",data:=.fields #[.int lo t,.int hi u,.int 1 v] }
 | .frz o u=>h.get? a=some o/\ObjOk H h a u
 | .tbl ps=>h.get? a=some { cls:=.none,data:=.fields ps }
 | .met f x=>h.get? a=some (fi (.ref f) (.ref x))
 | .ext φ=>φ h/\(∃ o,h.get? a=some o)/\∀ h1 h2:Heap,φ h1->(∀ o,h1.get? a=some o->h2.get? a=some o)->φ h2
noncomputable def HOk (H:Hp)(h:Heap):Prop:=∀ a o,H a=some o->ObjOk P w H h a o
end
section
variable {P:aM} {w:World} {H H':Hp} {h h':Heap} {a:Addr} {o:HO}
theorem ObjOk.lt (x:ObjOk P w H h a o):a<h.objs.size:=by
 cases o with
 | lst xs=>obtain⟨_,_,_,_,e⟩:=x;exact aC e
 | tup xs=>obtain⟨_,_,_,p⟩:=x;exact p.lt
 | dK kvs=>obtain⟨_,_,_,_,o,_,_,e,_⟩:=x;exact aC e
 | dT kvs=>obtain⟨_,_,_,_,o,_,_,e,_⟩:=x;exact aC e
 | set S n=>obtain⟨o,_,_,_,e,_⟩:=x;exact aC e
 | ins C dx fs=>obtain⟨_,_,_,e,_⟩:=x;exact aC e
 | own y=>obtain⟨_,e⟩:=x;exact aC e
 | xd fs=>obtain⟨_,⟨_,_,_,e,_⟩,_⟩:=x;exact aC e
 | rng lo hi=>obtain⟨_,_,_,e⟩:=x;exact aC e
 | frz ob u=>obtain⟨e,_⟩:=x;exact aC e
 | tbl ps=>exact aC (show h.get? a=some _ from x)
 | met f y=>exact aC (show h.get? a=some _ from x)
 | ext φ=>obtain⟨_,⟨_,e⟩,_⟩:=x;exact aC e
theorem fD.mapP {α β:Type}{F G:α->β->Prop}:∀ {h:List α} {l₂:List β},fD F h l₂->(∀ a b,F a b->G a b)->fD G h l₂
 | _,_,.nil,_=>.nil
 | _,_,.cons r t,f=>.cons (f _ _ r) (fD.mapP t f)
theorem ObjOk.stay (x:ObjOk P w H h a o)(k:∀ b u,(b=a\/H b=some (.own a))->h.get? b=some u->h'.get? b=some u)
  (ho:∀ b,H b=some (.own a)->H' b=some (.own a)) (Z:∀ b J,H b=some (.tup J)->H' b=some (.tup J)):ObjOk P w H' h' a o:=by
 induction o with
 | lst J=>obtain⟨z,its,n,r,e⟩:=x;exact⟨z,its,n,r,k _ _ (.inl rfl) e⟩
 | tup J=>obtain⟨z,its,r,ob,e,c⟩:=x;exact⟨z,its,r,ob,k _ _ (.inl rfl) e,c⟩
 | dK kvs=>obtain⟨z,y,vs,r,ob,es,G,e,c⟩:=x;exact⟨z,y,vs,r,ob,es,G,k _ _ (.inl rfl) e,c⟩
 | dT kvs =>
  obtain⟨z,y,J,r,ob,es,G,e,c⟩:=x
  exact⟨z,y,J,fD.mapP r λ p q z=>⟨z.1,Z _ _ z.2.1,z.2.2⟩,ob,es,G,k _ _ (.inl rfl) e,c⟩
 | set S n=>obtain⟨ob,es,G,t,e,c⟩:=x;exact⟨ob,es,G,t,k _ _ (.inl rfl) e,c⟩
 | ins C dx fs =>
  obtain⟨d,z,ne,e,Y,⟨od,es,G,e2,c⟩,r⟩:=x
  exact⟨ho _ d,z,ne,k _ _ (.inl rfl) e,Y,⟨od,es,G,k _ _ (.inr d) e2,c⟩,r⟩
 | own y=>obtain⟨ob,e⟩:=x;exact⟨ob,k _ _ (.inl rfl) e⟩
 | xd fs=>obtain⟨Y,⟨od,es,G,e,c⟩,r⟩:=x;exact⟨Y,⟨od,es,G,k _ _ (.inl rfl) e,c⟩,r⟩
 | rng lo hi=>obtain⟨t,u,v,e⟩:=x;exact⟨t,u,v,k _ _ (.inl rfl) e⟩
 | frz ob u ih=>obtain⟨e,q⟩:=x;exact⟨k _ _ (.inl rfl) e,ih q⟩
 | tbl ps =>
  have e:h.get? a=some { cls:=.none,data:=.fields ps }:=x
  show h'.get? a=some { cls:=.none,data:=.fields ps }
  exact k a _ (.inl rfl) e
 | met f y =>
  have e:h.get? a=some (fi (.ref f) (.ref y)):=x
  show h'.get? a=some (fi (.ref f) (.ref y))
  exact k a _ (.inl rfl) e
 | ext φ=>obtain⟨p,⟨o,e⟩,st⟩:=x;exact⟨st _ _ p λ o q=>k _ _ (.inl rfl) q,⟨o,k _ _ (.inl rfl) e⟩,st⟩
theorem HOk.lt (x:HOk P w H h)(e:H a=some o):a<h.objs.size:=(x a o e).lt
theorem HOk.fresh (x:HOk P w H h)(e:h.objs.size<=a):H a=none:=by
 cases q:H a with
 | none=>rfl
 | some u=>exact absurd (ar (x.lt q) e) (bu _)
theorem HOk.kept (x:HOk P w H h)(k:∀ b u,h.get? b=some u->h'.get? b=some u):HOk P w H h':=λ a o e =>
 (x a o e).stay (λ b u _ q=>k b u q) (λ _ q=>q) λ _ _ q=>q
theorem HOk.laid (x:HOk P w H h)(k:∀ b u,h.get? b=some u->h'.get? b=some u)(y:h.objs.size<=a)(new:ObjOk P w (upd H a o) h' a o):HOk P w (upd H a o) h':=λ b u e=>by
 have hn:=x.fresh y
 by_cases hb:b=a
 ·subst hb;rw[zn]at e;cases e;exact new
 ·rw[zb hb]at e
  exact(x b u e).stay (λ c v _ q=>k c v q) (λ c q=>by rw[zb (zE q hn)];exact q) λ c C q=>by rw[zb (zE q hn)];exact q
end
noncomputable def Rd (H:Hp)(a:Addr)(u:HO):Prop:=H a=some u\/∃ o,H a=some (.frz o u)
theorem Rd.ok {P:aM}{w:World}{H:Hp}{h:Heap}{a:Addr}{u:HO}(r:Rd H a u)(x:HOk P w H h):ObjOk P w H h a u:=by
 rcases r with r|⟨o,r⟩
 ·exact x a u r
 ·obtain⟨_,q⟩:=x a _ r
  exact q
noncomputable def Mut:Option HO->Prop
 | some (.lst _)=>True
 | some (.dK _)=>True
 | some (.dT _)=>True
 | some (.set _ _)=>True
 | some (.ins _ _ _)=>True
 | some (.ext _)=>True
 | _=>False
section
variable {P:aM} {w:World} {H:Hp} {h h':Heap} {x e:Addr} {o':HO}
theorem HOk.write (ok:HOk P w H h)(mu:Mut (H x))(Z:e=x\/H e=some (.own x))(k:∀ b u,b≠e->h.get? b=some u->h'.get? b=some u)(Y:∃ u,h'.get? e=some u)
  (new:ObjOk P w (upd H x o') h' x o'):HOk P w (upd H x o') h':=λ b u q=>by
 have C:∀ c y,H c=some (.own y)->c≠x:=λ c y r z=>by subst z;rw[r]at mu;exact mu
 have G:∀ c J,H c=some (.tup J)->c≠x:=λ c J r z=>by subst z;rw[r]at mu;exact mu
 by_cases hb:b=x
 ·subst hb;rw[zn]at q;cases q;exact new
 ·rw[zb hb]at q
  by_cases hbe:b=e
  ·have q':H b=some (.own x):=by
    rcases Z with z|z
    ·exact absurd (hbe.trans z) hb
    ·rw[hbe];exact z
   rw[q]at q';cases q'
   obtain⟨v,hv⟩:=Y
   exact⟨v,by rw[hbe];exact hv⟩
  ·refine(ok b u q).stay (λ c v hc r=>k c v ?_ r) (λ c r=>by rw[zb (C c b r)];exact r) λ c J r=>by rw[zb (G c J r)];exact r
   rcases hc with rfl|hc
   ·exact hbe
   ·rintro rfl
    rcases Z with z|z
    ·exact C c b hc z
    ·rw[hc]at z;cases z;exact hb rfl
end
structure Un (fs ex:List Addr)(H H':Hp)(h h':Heap):Prop where
 keep:∀ b o,h.get? b=some o->H b=none->b ∉ fs->b ∉ ex->h'.get? b=some o
 slot:∀ b o,h.get? b=some o->H b=none->b∈fs->b ∉ ex->∃ sl,h'.get? b=some { o with slots:=sl }
 free:∀ b o,h.get? b=some o->H b=none->b ∉ ex->H' b=none
 there:∀ b o,h.get? b=some o->b ∉ ex->∃ o',h'.get? b=some o'
 tups:∀ b xs,H b=some (.tup xs)->H' b=some (.tup xs)
 frzs:∀ b o u,H b=some (.frz o u)->H' b=some (.frz o u)
 tbls:∀ b ps,H b=some (.tbl ps)->∃ more,H' b=some (.tbl (ps++more))
section
variable {fs fs' ex ex':List Addr} {H H1 H2:Hp} {h h1 h2 h':Heap} {a x e:Addr} {o:HO}
theorem Un.any (u:Un fs ex H H1 h h1){b:Addr}{ob:Obj}(q:h.get? b=some ob)(n:H b=none)(hx:b ∉ ex):∃ sl,h1.get? b=some { ob with slots:=sl }:=by
 by_cases hb:b∈fs
 ·exact u.slot b ob q n hb hx
 ·exact⟨ob.slots,u.keep b ob q n hb hx⟩
theorem Un.kept (k:∀ b u,h.get? b=some u->h'.get? b=some u):Un fs ex H H h h' :=
 ⟨λ b ob q _ _ _=>k b ob q,λ b ob q _ _ _=>⟨ob.slots,k b ob q⟩,λ _ _ _ n _=>n,λ b ob q _=>⟨ob,k b ob q⟩,λ _ _ q=>q,λ _ _ _ q=>q,λ _ ps q=>⟨#[],by rw[q];simp⟩⟩
theorem Un.refl:Un fs ex H H h h:=Un.kept λ _ _ q=>q
theorem Un.laid (k:∀ b u,h.get? b=some u->h'.get? b=some u)(y:h.objs.size<=a)(hn:H a=none):Un fs ex H (upd H a o) h h' where
 keep:=λ b u q _ _ _=>k b u q
 slot:=λ b u q _ _ _=>⟨u.slots,k b u q⟩
 free:=λ b u q n _=>by rw[zb (ay (ar (aC q) y))];exact n
 there:=λ b u q _=>⟨u,k b u q⟩
 tups:=λ b C q=>by rw[zb (zE q hn)];exact q
 frzs:=λ b u C q=>by rw[zb (zE q hn)];exact q
 tbls:=λ b ps q=>⟨#[],by rw[zb (zE q hn),q];simp⟩
theorem Un.write (mu:Mut (H x))(J:e=x\/H e=some (.own x))(k:∀ b u,b≠e->h.get? b=some u->h'.get? b=some u)(y:∃ u,h'.get? e=some u):Un fs ex H (upd H x o) h h':=by
 have hx:∀ b,H b=none->b≠x:=λ b n z=>by subst z;rw[n]at mu;exact mu
 have hb:∀ b,H b=none->b≠e:=λ b n z=>by
  subst z
  rcases J with r|r
  ·exact hx b n r
  ·rw[n]at r;cases r
 have C:∀ b u,H b=some u->¬ Mut (some u)->b≠x:=λ b u q G z=>by subst z;rw[q]at mu;exact G mu
 refine⟨λ b u q n _ _=>k b u (hb b n) q,λ b u q n _ _=>⟨u.slots,k b u (hb b n) q⟩,λ b u q n _=>by rw[zb (hx b n)];exact n,λ b u q _=>?_,
  λ b Y q=>by rw[zb (C b _ q λ z=>z)];exact q,λ b u Y q=>by rw[zb (C b _ q λ z=>z)];exact q,λ b ps q=>⟨#[],by rw[zb (C b _ q λ z=>z),q];simp⟩⟩
 by_cases hbe:b=e
 ·subst hbe;exact y
 ·exact⟨u,k b u hbe q⟩
end
noncomputable def trk (h:Heap)(H:Hp):List Addr:=(ae h.objs.size).filter λ a=>(H a).isSome
noncomputable def hidT (h:Heap)(H:Hp):Heap:=PySem.W.hideAll h (trk h H)
theorem hidT_size (h:Heap)(H:Hp):(hidT h H).objs.size=h.objs.size:=PySem.W.hideAll_size _ _
theorem hidT_get {h:Heap}{H:Hp}{b:Addr}{o:Obj}(e:h.get? b=some o)(n:H b=none):(hidT h H).get? b=some o :=
 PySem.W.hideAll_get _ e λ y=>by
  have q:(H b).isSome=true:=(gA.mp y).2
  rw[n]at q;simp at q
theorem of_hidT {h:Heap}{H:Hp}{b:Addr}{o:Obj}(e:(hidT h H).get? b=some o):h.get? b=some o/\H b=none:=by
 have e':h.get? b=some o:=PySem.W.of_hideAll (trk h H) e
 refine⟨e',?_⟩
 cases q:H b with
 | none=>rfl
 | some x =>
  have y:b∈trk h H:=gA.mpr ⟨bq.mpr (aC e'),by simp[q]⟩
  have z:(hidT h H).get? b=none:=PySem.W.hideAll_none (trk h H) y
  rw[z]at e;cases e
noncomputable def allNews (g h:Heap)(L:Addr):List (Addr×Obj):=(ae h.objs.size).filterMap λ a=>if a=L\/(g.get? a).isSome=true then none else(h.get? a).map λ o=>(a,o)
noncomputable def rest (g h:Heap)(L d:Addr):List (Addr×Obj):=(allNews g h L).filter λ p=>decide (p.1≠d)
structure Mod (K:ab)(mg:Str->Option Value)(base:Heap):Prop where
 kin:K.In base
 glob:base.Ns bn mg
 blt:∃ mb,base.Ns f7 mb/\∀ x:Str,x ≠ "__name__"->mb x=bf x
 nolimit:base.NoLimit
structure Cx where
 prog:aM
 w:World
 K:ab
 mg:Str->Option Value
 base:Heap
 A:aV
 N:List Str
 s₀:af
 H₀:Hp
 env:Env
 outer:List Env
 stack:List Env
 ex:List Addr
 fn:Str->Bool
 calm:Bool
 pn:List (Addr×Obj)
 xe:Value->af->Prop
noncomputable def frs (l:List Env):List Addr:=l.filterMap (·.frame)
noncomputable abbrev Cx.fs (X:Cx):List Addr:=frs X.outer
noncomputable def Vis (sc:Scope)(x:Str):Prop:=sc.names.lookup x=some .local\/sc.names.lookup x=some .cell\/sc.names.lookup x=some .free
noncomputable def Loc (sc:Scope)(x:Str):Prop:=sc.names.lookup x=some .local\/sc.names.lookup x=some .cell
noncomputable def Look (env:Env)(h:Heap)(m:Str->Option Value)(x:Str)(u:Value):Prop :=
 (env.kindOf x=some .local/\m x=some u)\/((env.kindOf x=some .cell\/env.kindOf x=some .free)/\∃ c,env.cells.lookup x=some c/\h.IsCell c (some u))
structure Cx.Ok (X:Cx):Prop where
 mod:Mod X.K X.mg X.base
 kind:X.env.scope.kind=.function
 glob:X.env.globals=bn
 blt:X.env.builtins=f7
 above:X.s₀.heap.objs.size<=X.env.locals
 inj:∀ x y c,X.env.cells.lookup x=some c->X.env.cells.lookup y=some c->x=y
 has:∀ x,(X.env.kindOf x=some .cell\/X.env.kindOf x=some .free)->∃ c,X.env.cells.lookup x=some c
 cab:∀ x c,X.fn x=true->X.env.cells.lookup x=some c->X.s₀.heap.objs.size<=c
 hd:X.calm=true->X.A.handled=none
 frames:X.A.frames=some X.stack
 stk:X.stack=X.outer\/(X.stack=X.env::X.outer/\X.env.frame=some X.env.locals)
 exf:∀ b∈X.ex,b≠X.env.locals/\∀ x c,X.env.cells.lookup x=some c->c≠b
 bs:∀ b o,X.base.get? b=some o->X.s₀.heap.get? b=some o/\X.H₀ b=none
 bsz:X.base.objs.size<=X.s₀.heap.objs.size
 noex:∀ b o,X.base.get? b=some o->b ∉ X.ex
 exfs:∀ b∈X.ex,b ∉ X.fs
 funs:X.s₀.heap.FunFrames X.base X.outer
 frf:∀ b∈X.fs,X.H₀ b=none
structure Inv (X:Cx)(pins:List (Addr×Obj))(σ:List (Option V))(H:Hp)(s:af):Prop where
 ok:X.Ok
 os:s.os=X.s₀.os
 bare:fj s.gens
 base:Un X.fs X.ex X.H₀ H X.s₀.heap s.heap
 loc:∃ m,s.heap.Ns X.env.locals m/\∀(i:Nat) (x:Str) (v:V),X.N[i]?=some x->σ[i]?=some (some v)->Vis X.env.scope x->∃ u,RelV v u/\Look X.env s.heap m x u
 cell:∀ x c,X.env.cells.lookup x=some c->∃ v,s.heap.IsCell c v
 free:H X.env.locals=none
 freeC:∀ x c,X.env.cells.lookup x=some c->H c=none
 pin:∀ p∈X.pn++pins,s.heap.get? p.1=some p.2/\H p.1=none/\p.1≠X.env.locals/\p.1 ∉ X.fs/\∀ v,p.2.data≠.cell v
 hok:HOk X.prog X.w H s.heap
 len:σ.length=X.N.length
section
variable {X:Cx} {pins:List (Addr×Obj)} {σ:List (Option V)} {H H':Hp} {s:af} {h':Heap}
theorem Cx.Ok.nofr (ok:X.Ok){b:Addr}{o:Obj}(e:X.base.get? b=some o):b ∉ X.fs:=λ hb=>by
 have:=(ok.funs.mem hb).1
 rw[e]at this;cases this
theorem Inv.bs (I:Inv X pins σ H s):∀ b o,X.base.get? b=some o->s.heap.get? b=some o/\H b=none:=λ b o e =>
 ⟨I.base.keep b o (I.ok.bs b o e).1 (I.ok.bs b o e).2 (I.ok.nofr e) (I.ok.noex b o e),I.base.free b o (I.ok.bs b o e).1 (I.ok.bs b o e).2 (I.ok.noex b o e)⟩
theorem Inv.bk (I:Inv X pins σ H s):∀ b o,X.base.get? b=some o->s.heap.get? b=some o:=λ b o e=>(I.bs b o e).1
theorem Inv.mod (I:Inv X pins σ H s):Mod X.K X.mg X.base:=I.ok.mod
theorem Inv.kIn (I:Inv X pins σ H s):X.K.In s.heap:=I.ok.mod.kin.keeps I.bk
theorem Inv.lt (I:Inv X pins σ H s):X.env.locals<s.heap.objs.size:=let⟨_,hn,_⟩:=I.loc;hn.lt
theorem Inv.sz (I:Inv X pins σ H s):X.s₀.heap.objs.size<=s.heap.objs.size:=am I.ok.above (dm I.lt)
theorem Inv.nofs (I:Inv X pins σ H s){a:Addr}(h:s.heap.objs.size<=a):a ∉ X.fs:=λ hb=>by
 obtain⟨_,o,ho,_⟩:=I.ok.funs.mem hb
 exact absurd (ar (aC ho) (am I.sz h)) (bu _)
theorem Inv.cne (I:Inv X pins σ H s):∀ x c,X.env.cells.lookup x=some c->c≠X.env.locals:=λ x c e z=>by
 obtain⟨v,o,ho,hd⟩:=I.cell x c e
 obtain⟨m,⟨G,es,C,y,h,_⟩,_⟩:=I.loc
 rw[z,y]at ho;cases ho;rw[h]at hd;cases hd
theorem Inv.funs (I:Inv X pins σ H s):s.heap.FunFrames X.base X.outer:=by
 have all:∀(l:List Env),(∀ b∈frs l,b∈X.fs)->X.s₀.heap.FunFrames X.base l->s.heap.FunFrames X.base l:=by
  intro l
  induction l with
  | nil=>intro _ _;trivial
  | cons env r ih =>
   intro hs hl
   obtain⟨hk,⟨L,o,y,hn,ho,hd⟩,C⟩:=hl
   have h:L∈X.fs:=hs L (by unfold frs;rw[bv,y];exact aF)
   obtain⟨sl,e⟩:=I.base.slot L o ho (I.ok.frf L h) h λ z=>I.ok.exfs L z h
   exact⟨hk,⟨L,_,y,hn,e,hd⟩,ih (λ b hb=>hs b (by unfold frs;rw[bv,y];exact ax _ hb)) C⟩
 exact all X.outer (λ _ hb=>hb) I.ok.funs
theorem Inv.stack (I:Inv X pins σ H s):s.heap.FunFrames X.base X.stack:=by
 rcases I.ok.stk with e|⟨e,h⟩
 ·rw[e];exact I.funs
 ·rw[e]
  obtain⟨m,hn,_⟩:=I.loc
  refine .cons (by rw[I.ok.kind];decide) h hn ?_ I.funs
  exact Heap.get?_none_of_le (am I.ok.bsz I.ok.above)
theorem Inv.stkSub (I:Inv X pins σ H s):∀ b∈frs X.stack,b∈X.env.locals::X.fs:=λ b hb=>by
 rcases I.ok.stk with e|⟨e,h⟩
 ·rw[e]at hb;exact ax _ hb
 ·rw[e]at hb
  unfold frs at hb
  rw[bv,h]at hb
  exact hb
theorem Inv.stkFree (I:Inv X pins σ H s):∀ b∈frs X.stack,H b=none:=λ b hb=>by
 rcases aH.mp (I.stkSub b hb)with e|hb
 ·rw[e];exact I.free
 ·obtain⟨_,o,ho,_⟩:=I.ok.funs.mem hb
  exact I.base.free b o ho (I.ok.frf b hb) λ z=>I.ok.exfs b z hb
theorem Inv.step {g':Array GenState}{t':Nat}{d':Drawn}{ch:List Addr}(I:Inv X pins σ H s)
  (y:∀ b∈ch,(b∈X.ex\/X.s₀.heap.objs.size<=b)/\b≠X.env.locals/\(∀ x c,X.env.cells.lookup x=some c->c≠b)/\∀ p∈X.pn++pins,p.1≠b)
  (keep:∀ b o,b≠X.env.locals->b ∉ X.fs->b ∉ ch->s.heap.get? b=some o->H b=none->h'.get? b=some o)
  (slot:∀ b o,b≠X.env.locals->b∈X.fs->b ∉ ch->s.heap.get? b=some o->H b=none->∃ sl,h'.get? b=some { o with slots:=sl }) (free:∀ b o,b ∉ ch->s.heap.get? b=some o->H b=none->H' b=none)
  (there:∀ b o,b ∉ ch->s.heap.get? b=some o->∃ Y,h'.get? b=some Y)
  (tups:∀ b J,H b=some (.tup J)->H' b=some (.tup J)) (frzs:∀ b o u,H b=some (.frz o u)->H' b=some (.frz o u)) (tbls:∀ b ps,H b=some (.tbl ps)->∃ a0,H' b=some (.tbl (ps++a0)))
  (ns:∀ m,s.heap.Ns X.env.locals m->h'.Ns X.env.locals m) (hok:HOk X.prog X.w H' h') (hg:fj g') :
  Inv X pins σ H' { s with heap:=h',gens:=g',drawn:=d',toks:=t' }:=by
 have Z:∀ b o,X.s₀.heap.get? b=some o->b≠X.env.locals:=λ b o e=>ay (ar (aC e) I.ok.above)
 have G:∀ b o,X.s₀.heap.get? b=some o->b ∉ X.ex->b ∉ ch:=λ b o e hx hb=>by
  rcases(y b hb).1 with z|z
  ·exact hx z
  ·exact absurd (ar (aC e) z) (bu _)
 have C:∀ x c,X.env.cells.lookup x=some c->∀ v,s.heap.IsCell c v->h'.IsCell c v:=λ x c e v ⟨o,ho,hd⟩=>by
  have h:c ∉ ch:=λ z=>(y c z).2.2.1 x c e rfl
  by_cases hc:c∈X.fs
  ·obtain⟨sl,q⟩:=slot c o (I.cne x c e) hc h ho (I.freeC x c e)
   exact⟨_,q,hd⟩
  ·exact⟨o,keep c o (I.cne x c e) hc h ho (I.freeC x c e),hd⟩
 refine⟨I.ok,I.os,hg,⟨λ b o e n hb hx=>?_,λ b o e n hb hx=>?_,λ b o e n hx=>?_,λ b o e hx=>?_,λ b J e=>tups b J (I.base.tups b J e),λ b o J e=>frzs b o J (I.base.frzs b o J e),λ b ps e=>?_⟩,?_,λ x c e=>?_,?_,λ x c e=>?_,λ p hp=>?_,hok,I.len⟩
 ·exact keep b o (Z b o e) hb (G b o e hx) (I.base.keep b o e n hb hx) (I.base.free b o e n hx)
 ·obtain⟨sl,e1⟩:=I.base.slot b o e n hb hx
  obtain⟨a1,e2⟩:=slot b _ (Z b o e) hb (G b o e hx) e1 (I.base.free b o e n hx)
  exact⟨a1,e2⟩
 ·obtain⟨Y,e1⟩:=I.base.there b o e hx
  exact free b Y (G b o e hx) e1 (I.base.free b o e n hx)
 ·obtain⟨Y,e1⟩:=I.base.there b o e hx
  exact there b Y (G b o e hx) e1
 ·obtain⟨m1,e1⟩:=I.base.tbls b ps e
  obtain⟨m2,e2⟩:=tbls b _ e1
  exact⟨m1++m2,by rw[e2,iy]⟩
 ·obtain⟨m,hn,hl⟩:=I.loc
  refine⟨m,ns m hn,λ i x v e1 e2 e3=>?_⟩
  obtain⟨u,r,l⟩:=hl i x v e1 e2 e3
  refine⟨u,r,?_⟩
  rcases l with l|⟨k,c,e,z⟩
  ·exact .inl l
  ·exact .inr ⟨k,c,e,C x c e _ z⟩
 ·obtain⟨v,z⟩:=I.cell x c e
  exact⟨v,C x c e v z⟩
 ·obtain⟨m,⟨o,_,_,ho,_⟩,_⟩:=I.loc
  exact free _ o (λ z=>(y _ z).2.1 rfl) ho I.free
 ·obtain⟨v,o,ho,hd⟩:=I.cell x c e
  exact free c o (λ z=>(y c z).2.2.1 x c e rfl) ho (I.freeC x c e)
 ·obtain⟨e,n,ne,nf,d⟩:=I.pin p hp
  have h:p.1 ∉ ch:=λ z=>(y p.1 z).2.2.2 p hp rfl
  exact⟨keep p.1 p.2 ne nf h e n,free p.1 p.2 h e n,ne,nf,d⟩
theorem Inv.un {t':Nat}(I:Inv X pins σ H s)(u:Un X.fs [] H H' s.heap h')(hok:HOk X.prog X.w H' h'):Inv X pins σ H' { s with heap:=h',toks:=t' }:=by
 obtain⟨m,⟨o,es,Z,ho,r⟩,_⟩:=id I.loc
 obtain⟨sl,G⟩:=u.any ho I.free (by simp)
 exact I.step (g':=s.gens) (d':=s.drawn) (ch:=[]) (λ _ z=>nomatch z) (λ b o _ hb _ e n=>u.keep b o e n hb (by simp)) (λ b o _ hb _ e n=>u.slot b o e n hb (by simp)) (λ b o _ e n=>u.free b o e n (by simp)) (λ b o _ e=>u.there b o e (by simp)) u.tups u.frzs u.tbls (λ m' Y=>by
  obtain⟨o',C,y,h,J⟩:=Y
  rw[ho]at h;cases h
  exact⟨_,C,y,G,J⟩) hok I.bare
theorem Inv.call {g':Array GenState}{t':Nat}{d':Drawn}{ch:List Addr}(I:Inv X pins σ H s)(u:Un (frs X.stack) ch H H' s.heap h')(hok:HOk X.prog X.w H' h')(Z:fj g')
  (h:∀ b∈ch,(b∈X.ex\/X.s₀.heap.objs.size<=b)/\b≠X.env.locals/\(∀ x c,X.env.cells.lookup x=some c->c≠b)/\∀ p∈X.pn++pins,p.1≠b) :
  Inv X pins σ H' { s with heap:=h',gens:=g',drawn:=d',toks:=t' }:=by
 obtain⟨m,⟨o,es,ep,ho,r⟩,_⟩:=id I.loc
 obtain⟨sl,C⟩:=u.any ho I.free λ z=>(h _ z).2.1 rfl
 exact I.step (ch:=ch) h (λ b o C hb hc e n=>u.keep b o e n (λ z=>(aH.mp (I.stkSub b z)).elim C hb) hc) (λ b o _ _ hc e n=>u.any e n hc) (λ b o hc e n=>u.free b o e n hc) (λ b o hc e=>u.there b o e hc) u.tups u.frzs u.tbls (λ m' Y=>by
  obtain⟨o',J,G,y,r'⟩:=Y
  rw[ho]at y;cases y
  exact⟨_,J,G,C,r'⟩) hok Z
theorem Inv.turned {t':Nat}{h:Addr}(I:Inv X pins σ H s)(k:∀ b o,b≠h->s.heap.get? b=some o->h'.get? b=some o)(hn:H h=none)(C:h≠X.env.locals)
  (G:h∈X.ex\/X.s₀.heap.objs.size<=h) (Y:∀ x c,X.env.cells.lookup x=some c->c≠h) (h3:∀ p∈X.pn++pins,p.1≠h):Inv X pins σ H { s with heap:=h',toks:=t' }:=by
 have y:∀ b u,H b=some u->b≠h:=λ b u e z=>by rw[z,hn]at e;cases e
 refine I.step (g':=s.gens) (d':=s.drawn) (ch:=[h]) (λ b hb=>?_) (λ b o _ _ hc e _=>k b o (λ z=>hc (by simp[z])) e) (λ b o _ _ hc e _=>⟨o.slots,k b o (λ z=>hc (by simp[z])) e⟩) (λ _ _ _ _ n=>n)
  (λ b o hc e=>⟨o,k b o (λ z=>hc (by simp[z])) e⟩) (λ _ _ e=>e) (λ _ _ _ e=>e) (λ b ps e=>⟨#[],by rw[e];simp⟩) (λ m J=>?_) (λ b u e=>?_) I.bare
 ·have e:b=h:=by simpa using hb
  subst e
  exact⟨G,C,Y,h3⟩
 ·obtain⟨o,es,Z,ho,r⟩:=J
  exact⟨o,es,Z,k _ o (bT C) ho,r⟩
 ·refine(I.hok b u e).stay (λ c v hc q=>k c v ?_ q) (λ _ q=>q) λ _ _ q=>q
  rcases hc with z|z
  ·rw[z];exact y b u e
  ·exact y c _ z
theorem Inv.tok (I:Inv X pins σ H s)(t:Nat):Inv X pins σ H { s with toks:=t }:=I.un (h':=s.heap) (t':=t) Un.refl I.hok
theorem Inv.kept {t':Nat}(I:Inv X pins σ H s)(k:∀ b u,s.heap.get? b=some u->h'.get? b=some u):Inv X pins σ H { s with heap:=h',toks:=t' }:=I.un (Un.kept k) (I.hok.kept k)
theorem Inv.laid {a:Addr}{o:HO}{t':Nat}(I:Inv X pins σ H s)(k:∀ b u,s.heap.get? b=some u->h'.get? b=some u)(h:s.heap.objs.size<=a)(new:ObjOk X.prog X.w (upd H a o) h' a o) :
  Inv X pins σ (upd H a o) { s with heap:=h',toks:=t' }:=I.un (Un.laid k h (I.hok.fresh h)) (I.hok.laid k h new)
theorem Inv.write {x e:Addr}{o:HO}{t':Nat}(I:Inv X pins σ H s)(mu:Mut (H x))(y:e=x\/H e=some (.own x))(k:∀ b u,b≠e->s.heap.get? b=some u->h'.get? b=some u)(h:∃ u,h'.get? e=some u)
  (new:ObjOk X.prog X.w (upd H x o) h' x o):Inv X pins σ (upd H x o) { s with heap:=h',toks:=t' }:=I.un (Un.write mu y k h) (I.hok.write mu y k h new)
theorem Inv.pins_of {y:List (Addr×Obj)}(I:Inv X pins σ H s)(h:∀ p∈y,s.heap.get? p.1=some p.2/\H p.1=none/\p.1≠X.env.locals/\p.1 ∉ X.fs/\∀ v,p.2.data≠.cell v):Inv X y σ H s :=
 ⟨I.ok,I.os,I.bare,I.base,I.loc,I.cell,I.free,I.freeC,λ p C=>(bK.mp C).elim (λ z=>I.pin p (bU _ z)) (h p),I.hok,I.len⟩
theorem nodup_ix {N:List Str}(hN:N.Nodup){i j:Nat}{x:Str}(a:N[i]?=some x)(b:N[j]?=some x):i=j:=by
 obtain⟨y,e1⟩:=ac.mp a
 obtain⟨h,e2⟩:=ac.mp b
 exact(List.getElem_inj hN).mp (e1.trans e2.symm)
theorem store_ok2 {M:Model}{A:aV}{E:Value->af->Prop}{i:Nat}{x:Str}{v:V}{u:Value}{Q:Unit->af->Prop}(I:Inv X pins σ H s)(hN:X.N.Nodup)(hi:X.N[i]?=some x)(hx:Loc X.env.scope x)(r:RelV v u)
  (h:∀ s',Inv X pins (σ.set i (some v)) H s'->(∃ a,dS a s.heap s'.heap/\(a=X.env.locals\/X.env.cells.lookup x=some a))->Q () s') (hf:X.fn x=true\/X.env.scope.names.lookup x=some .local:=by first|exact .inl rfl|exact .inr rfl|assumption):wpAny M A (fQ X.env x u) Q E s:=by
 obtain⟨m,hn,hl⟩:=id I.loc
 have a1:(X.env.scope.kind==.class||(X.env.scope.kind==.module&&X.env.locals != X.env.globals))=false:=by rw[I.ok.kind];rfl
 have Y:i < σ.length:=by rw[I.len];exact(ac.mp hi).1
 have cne:=I.cne
 have C:∀ {a:Addr} {h':Heap},(∃ o,s.heap.get? a=some o/\H a=none)->dS a s.heap h'->HOk X.prog X.w H h':=λ {a h'} ha hs b ob e=>by
  obtain⟨_,_,G⟩:=ha
  refine(I.hok b ob e).stay (λ c w' hc q=>(hs.2 c ?_).trans q) (λ _ q=>q) λ _ _ q=>q
  rintro rfl
  rcases hc with rfl|hc
  ·rw[G]at e;cases e
  ·rw[G]at hc;cases hc
 rcases hx with hk|hk
 ·refine gH hk hn (λ h' a4 hs=>?_) a1
  obtain⟨oL,_,_,a3,_⟩:=id hn
  refine h _ ⟨I.ok,I.os,I.bare,⟨λ b o e n hb hx=>?_,λ b o e n hb hx=>?_,I.base.free,λ b o e hx=>?_,I.base.tups,I.base.frzs,I.base.tbls⟩,⟨_,a4,λ j y v' e1 e2 e3=>?_⟩,λ y c e=>?_,I.free,I.freeC,λ p hp=>?_,C ⟨oL,a3,I.free⟩ hs,by simpa using I.len⟩ ⟨_,hs,.inl rfl⟩
  ·exact(hs.2 b (ay (ar (aC e) I.ok.above))).trans (I.base.keep b o e n hb hx)
  ·obtain⟨sl,e1⟩:=I.base.slot b o e n hb hx
   exact⟨sl,(hs.2 b (ay (ar (aC e) I.ok.above))).trans e1⟩
  ·obtain⟨o',e1⟩:=I.base.there b o e hx
   exact⟨o',(hs.2 b (ay (ar (aC e) I.ok.above))).trans e1⟩
  ·by_cases hj:j=i
   ·subst hj
    rw[hi]at e1;cases e1
    rw[aY Y]at e2
    cases e2
    exact⟨u,r,.inl ⟨hk,by simp⟩⟩
   ·rw[be (bT hj)]at e2
    obtain⟨u',r',q⟩:=hl j y v' e1 e2 e3
    refine⟨u',r',?_⟩
    rcases q with⟨k,e⟩|⟨k,c,e,z⟩
    ·refine .inl ⟨k,?_⟩
     have:y≠x:=λ e=>hj (nodup_ix hN e1 (e▸hi))
     simp[this,e]
    ·exact .inr ⟨k,c,e,z.sameBut hs (cne y c e)⟩
  ·obtain⟨w',z⟩:=I.cell y c e
   exact⟨w',z.sameBut hs (cne y c e)⟩
  ·obtain⟨e,n,ne,nf,d⟩:=I.pin p hp
   exact⟨(hs.2 p.1 ne).trans e,n,ne,nf,d⟩
 ·have J:X.fn x=true:=by
   rcases hf with z|z
   ·exact z
   ·rw[z]at hk;cases hk
  obtain⟨c,hc⟩:=I.ok.has x (.inl hk)
  obtain⟨w',z⟩:=I.cell x c hc
  refine gN I.ok.kind hk hc z (λ h' Z hs=>?_)
  obtain⟨oc,a2,a0⟩:=id z
  refine h { s with heap:=h' } ⟨I.ok,I.os,I.bare,⟨λ b o e n hb hx=>?_,λ b o e n hb hx=>?_,I.base.free,λ b o e hx=>?_,I.base.tups,I.base.frzs,I.base.tbls⟩,⟨m,hn.sameBut hs (bT (cne x c hc)),λ j y v' e1 e2 e3=>?_⟩,λ y c' e=>?_,I.free,I.freeC,λ p hp=>?_,C ⟨oc,a2,I.freeC x c hc⟩ hs,by simpa using I.len⟩ ⟨c,hs,.inr hc⟩
  ·exact(hs.2 b (ay (ar (aC e) (I.ok.cab x c J hc)))).trans (I.base.keep b o e n hb hx)
  ·obtain⟨sl,e1⟩:=I.base.slot b o e n hb hx
   exact⟨sl,(hs.2 b (ay (ar (aC e) (I.ok.cab x c J hc)))).trans e1⟩
  ·obtain⟨o',e1⟩:=I.base.there b o e hx
   exact⟨o',(hs.2 b (ay (ar (aC e) (I.ok.cab x c J hc)))).trans e1⟩
  ·by_cases hj:j=i
   ·subst hj
    rw[hi]at e1;cases e1
    rw[aY Y]at e2
    cases e2
    exact⟨u,r,.inr ⟨.inl hk,c,hc,Z⟩⟩
   ·rw[be (bT hj)]at e2
    obtain⟨u',r',q⟩:=hl j y v' e1 e2 e3
    refine⟨u',r',?_⟩
    rcases q with q|⟨k,c',e,z'⟩
    ·exact .inl q
    ·refine .inr ⟨k,c',e,z'.sameBut hs ?_⟩
     rintro rfl
     exact hj (nodup_ix hN e1 (I.ok.inj _ _ _ e hc▸hi))
  ·by_cases hcc:c'=c
   ·subst hcc;exact⟨_,Z⟩
   ·obtain⟨w2,z2⟩:=I.cell y c' e
    exact⟨w2,z2.sameBut hs hcc⟩
  ·obtain⟨e,n,ne,nf,d⟩:=I.pin p hp
   refine⟨(hs.2 p.1 ?_).trans e,n,ne,nf,d⟩
   intro q
   rw[q,a2]at e
   have q':oc=p.2:=aw e
   exact d w' (by rw[<-q'];exact a0)
theorem store_ok {M:Model}{A:aV}{E:Value->af->Prop}{i:Nat}{x:Str}{v:V}{u:Value}{Q:Unit->af->Prop}(I:Inv X pins σ H s)(hN:X.N.Nodup)(y:X.N[i]?=some x)(hx:Loc X.env.scope x)(r:RelV v u)
  (h:∀ s',Inv X pins (σ.set i (some v)) H s'->Q () s') (G:X.fn x=true\/X.env.scope.names.lookup x=some .local:=by first|exact .inl rfl|exact .inr rfl|assumption):wpAny M A (fQ X.env x u) Q E s :=
 store_ok2 I hN y hx r (λ s' C _=>h s' C) G
theorem Inv.call' {s':af}{ch:List Addr}(I:Inv X pins σ H s)(ho:s'.os=s.os)(u:Un (frs X.stack) ch H H' s.heap s'.heap)(hok:HOk X.prog X.w H' s'.heap)(C:fj s'.gens)
  (h:∀ b∈ch,(b∈X.ex\/X.s₀.heap.objs.size<=b)/\b≠X.env.locals/\(∀ x c,X.env.cells.lookup x=some c->c≠b)/\∀ p∈X.pn++pins,p.1≠b):Inv X pins σ H' s':=by
 obtain⟨h',g',d',t',y⟩:=s'
 have e:y=s.os:=ho
 subst e
 exact I.call (g':=g') (t':=t') (d':=d') u hok C h
end
noncomputable abbrev XK:=Value->Option Addr->Hp->Prop
noncomputable abbrev St:=List (Option V)
noncomputable abbrev VK:=V->Hp->Prop
noncomputable abbrev TE:=St->Hp->VK->Prop
noncomputable abbrev TT:=St->Hp->(Bool->Hp->Prop)->Prop
noncomputable abbrev TA:=St->Hp->(List V->Hp->Prop)->Prop
structure Ends where
 nx:St->Hp->Prop
 rt:VK
 bk:St->Hp->Prop:=λ _ _=>False
 ct:St->Hp->Prop:=λ _ _=>False
noncomputable abbrev TS:=Ends->St->Hp->Prop
noncomputable def EP (X:Cx)(pins:List (Addr×Obj))(σ:St)(Q:VK)(u:Value)(s':af):Prop:=∃ v H',Inv X pins σ H' s'/\RelV v u/\Q v H'
noncomputable def TP (X:Cx)(pins:List (Addr×Obj))(σ:St)(Q:Bool->Hp->Prop)(b:Bool)(s':af):Prop:=∃ H',Inv X pins σ H' s'/\Q b H'
noncomputable def AP (X:Cx)(pins:List (Addr×Obj))(σ:St)(Q:List V->Hp->Prop)(us:List Value)(s':af):Prop:=∃ vs H',Inv X pins σ H' s'/\Vals vs us/\Q vs H'
noncomputable def SP (X:Cx)(pins:List (Addr×Obj))(D:Ends)(f:Flow)(s':af):Prop :=
 match f with
 | .next=>∃ σ' H',Inv X pins σ' H' s'/\D.nx σ' H'
 | .brk=>∃ σ' H',Inv X pins σ' H' s'/\D.bk σ' H'
 | .cont=>∃ σ' H',Inv X pins σ' H' s'/\D.ct σ' H'
 | .ret u=>∃ v σ' H',Inv X pins σ' H' s'/\RelV v u/\D.rt v H'
noncomputable def PE (X:Cx)(e:Expr)(t:TE):Prop :=
 ∀(pins:List (Addr×Obj)) (s:af) (σ:St) (H:Hp) (Q:VK),Inv X pins σ H s->t σ H Q->wpAny (model X.prog X.w) X.A (eval e X.env) (EP X pins σ Q) X.xe s
noncomputable def PT (X:Cx)(e:Expr)(t:TT):Prop :=
 ∀(pins:List (Addr×Obj)) (s:af) (σ:St) (H:Hp) (Q:Bool->Hp->Prop),Inv X pins σ H s->t σ H Q->wpAny (model X.prog X.w) X.A (dG e X.env (eval e X.env)) (TP X pins σ Q) X.xe s
noncomputable def PW (X:Cx)(e:Expr)(t:TT):Prop :=
 ∀(whole:Sem Value) (pins:List (Addr×Obj)) (s:af) (σ:St) (H:Hp) (Q:Bool->Hp->Prop),Inv X pins σ H s->t σ H Q->wpAny (model X.prog X.w) X.A (dG e X.env whole) (TP X pins σ Q) X.xe s
theorem PW.pt {X:Cx}{e:Expr}{t:TT}(h:PW X e t):PT X e t:=h _
noncomputable def PA (X:Cx)(es:List Expr)(t:TA):Prop :=
 ∀(pos:Pos) (pins:List (Addr×Obj)) (s:af) (σ:St) (H:Hp) (Q:List V->Hp->Prop),Inv X pins σ H s->t σ H Q->wpAny (model X.prog X.w) X.A (spliced (dU pos (bo es X.env))) (AP X pins σ Q) X.xe s
noncomputable def PS (X:Cx)(st:Stmt)(t:TS):Prop :=
 ∀(pins:List (Addr×Obj)) (s:af) (σ:St) (H:Hp) (D:Ends),Inv X pins σ H s->t D σ H->wpAny (model X.prog X.w) X.A (exec st X.env) (SP X pins D) X.xe s
noncomputable def PSs (X:Cx)(st:List Stmt)(t:TS):Prop :=
 ∀(pins:List (Addr×Obj)) (s:af) (σ:St) (H:Hp) (D:Ends),Inv X pins σ H s->t D σ H->wpAny (model X.prog X.w) X.A (execs st X.env) (SP X pins D) X.xe s
theorem thn {α:Type}{t:Sem α}{Q y:α->af->Prop}{M:Model}{A:aV}{E:Value->af->Prop}{s:af}(h:wpAny M A t Q E s)(C:∀ a s,Q a s->y a s):wpAny M A t y E s:=cg h C λ _ _ x=>x
section
variable {X:Cx}
theorem bin {a b:Expr}{J tb:TE}(ha:PE X a J)(hb:PE X b tb){C:List (Addr×Obj)}{s:af}{σ:St}{H:Hp}{R:V->V->Hp->Prop}(I:Inv X C σ H s)(h:J σ H λ x G=>tb σ G λ y H2=>R x y H2)
  {α:Type} {Q:α->af->Prop} {f:Value->Value->Sem α}
  (hf:∀ v u s2 x y H2,Inv X C σ H2 s2->RelV x v->RelV y u->R x y H2->wpAny (model X.prog X.w) X.A (f v u) Q X.xe s2) :
  wpAny (model X.prog X.w) X.A (eval a X.env) (λ v Y=>wpAny (model X.prog X.w) X.A (eval b X.env) (λ u s₂=>wpAny (model X.prog X.w) X.A (f v u) Q X.xe s₂) X.xe Y) X.xe s:=by
 refine thn (ha C s σ H _ I h) λ v s1 ⟨x,G,I1,r1,q1⟩=>?_
 refine thn (hb C s1 σ G _ I1 q1) λ u s2 ⟨y,H2,I2,Z,q2⟩=>?_
 exact hf v u s2 x y H2 I2 r1 Z q2
noncomputable def tVar (i:Nat):TE:=λ σ H Q=>∃ v,σ[i]?=some (some v)/\Q v H
noncomputable def tC (v:V):TE:=λ _ H Q=>Q v H
theorem pe_var {i:Nat}{x:Str}{pos:Pos}(hN:X.N[i]?=some x)(hv:Vis X.env.scope x)(hd:(x==("__debug__":Str))=false:=by decide)(C:(x==("__classdict__":Str))=false:=by decide):PE X (.Name x pos) (tVar i):=by
 intro y s σ H Q I h
 obtain⟨v,e,h⟩:=h
 obtain⟨m,hn,hl⟩:=I.loc
 obtain⟨u,r,l⟩:=hl i x v hN e hv
 have fin:EP X y σ Q u s:=⟨v,H,I,r,h⟩
 rcases l with⟨hk,G⟩|⟨hk,c,hc,hcell⟩
 ·exact jX (wpAny_loadName_local I.ok.kind hk hn G fin) hd
 ·rcases hk with hk|hk
  ·exact jX (wpAny_loadName_cell I.ok.kind hk hc hcell fin) hd
  ·exact jX (wpAny_loadName_free I.ok.kind hk hc hcell fin C) hd
theorem pe_int {i j pos}:PE X (.Constant (.int i) j pos) (tC (.int i)):=λ _ _ _ H _ I h=>wpAny_Constant_int ⟨.int i,H,I.tok _,⟨_,rfl⟩,h⟩
theorem pe_bl {b j pos}:PE X (.Constant (.bool b) j pos) (tC (.bl b)):=λ _ _ _ H _ I h=>Constant_bool ⟨.bl b,H,I,rfl,h⟩
theorem pe_non {j pos}:PE X (.Constant .none j pos) (tC .non):=λ _ _ _ H _ I h=>ij ⟨.non,H,I,rfl,h⟩
theorem pe_str {x j pos}:PE X (.Constant (.str x) j pos) (tC (.str x)):=λ _ _ _ H _ I h=>Calls.Constant_str ⟨.str x,H,I.tok _,⟨_,rfl⟩,h⟩
noncomputable def Gl (X:Cx)(x:Str):Prop:=X.env.kindOf x=some .globalImplicit
theorem ld_glob {E:Value->af->Prop}{y:List (Addr×Obj)}{s:af}{σ:St}{H:Hp}{x:Str}{u:Value}{pos:Pos}{Q:Value->af->Prop}(I:Inv X y σ H s)(G:Gl X x)(C:X.mg x=some u)(h:Q u s)
  (hd:(x==("__debug__":Str))=false:=by decide):wpAny (model X.prog X.w) X.A (eval (.Name x pos) X.env) Q E s :=
 eW I.ok.kind G (Calls.loadGlobal_global (by rw[I.ok.glob];exact I.mod.glob.keeps I.bk) C h) hd
theorem ld_blt {E:Value->af->Prop}{y:List (Addr×Obj)}{s:af}{σ:St}{H:Hp}{x:Str}{u:Value}{pos:Pos}{Q:Value->af->Prop}(I:Inv X y σ H s)(Y:Gl X x)(J:X.mg x=none)(hv:bf x=some u)(h:Q u s)
  (hn:x ≠ "__name__":=by decide) (hd:(x==("__debug__":Str))=false:=by decide):wpAny (model X.prog X.w) X.A (eval (.Name x pos) X.env) Q E s:=by
 obtain⟨Z,G,C⟩:=I.mod.blt
 exact eW I.ok.kind Y (Calls.loadGlobal_builtin (by rw[I.ok.glob];exact I.mod.glob.keeps I.bk) J (by rw[I.ok.blt];exact G.keeps I.bk) ((C x hn).trans hv) h) hd
theorem pe_glob {x:Str}{v:V}{u:Value}{pos:Pos}(C:Gl X x)(y:X.mg x=some u)(r:RelV v u)(hd:(x==("__debug__":Str))=false:=by decide):PE X (.Name x pos) (tC v) :=
 λ _ _ _ H _ I h=>ld_glob I C y ⟨v,H,I,r,h⟩ hd
theorem pe_bltn {x:Str}{v:V}{u:Value}{pos:Pos}(C:Gl X x)(y:X.mg x=none)(hv:bf x=some u)(r:RelV v u)(hn:x ≠ "__name__":=by decide)(hd:(x==("__debug__":Str))=false:=by decide):PE X (.Name x pos) (tC v) :=
 λ _ _ _ H _ I h=>ld_blt I C y hv ⟨v,H,I,r,h⟩ hn hd
variable {a b:Expr} {ta tb:TE} {pos:Pos}
noncomputable def PC (X:Cx)(op:CmpOp)(a b:Expr)(t:TE):Prop :=
 ∀(pins:List (Addr×Obj)) (s:af) (σ:St) (H:Hp) (Q:VK),Inv X pins σ H s->t σ H Q ->
  wpAny (model X.prog X.w) X.A (eval a X.env) (λ v s₁=>wpAny (model X.prog X.w) X.A (eval b X.env) (λ u s₂=>wpAny (model X.prog X.w) X.A (cW op v u) (EP X pins σ Q) X.xe s₂) X.xe s₁) X.xe s
theorem nobehind (b:Expr){op:CmpOp}(h:op≠.In)(y:op≠.NotIn):cX op b=false:=by
 have e1:(op==CmpOp.In)=false:=by cases op<;>first|rfl|exact absurd rfl h
 have e2:(op==CmpOp.NotIn)=false:=by cases op<;>first|rfl|exact absurd rfl y
 cases b<;>simp[cX,e1,e2]
noncomputable def tIsN (ta:TE):TE:=λ σ H Q=>ta σ H λ x H1=>Q (.bl (decide (x=.non))) H1
noncomputable def tNotN (ta:TE):TE:=λ σ H Q=>ta σ H λ x H1=>Q (.bl (!decide (x=.non))) H1
theorem RelV.none_iff {x:V}{v:Value}(r:RelV x v):(v==Value.none)=decide (x=.non):=by
 cases x with
 | non=>cases r;rfl
 | bl _=>cases r;rfl
 | int _=>obtain⟨t,rfl⟩:=r;rfl
 | str _=>obtain⟨t,rfl⟩:=r;rfl
 | byt _=>obtain⟨t,rfl⟩:=r;rfl
 | flt _=>obtain⟨t,rfl⟩:=r;rfl
 | ref _=>cases r;rfl
 | ty _=>cases r;rfl
theorem pc_isN {j pos'}(ha:PE X a ta):PC X .Is a (.Constant .none j pos') (tIsN ta):=by
 intro y s σ H Q I h
 refine thn (ha y s σ H _ I h) λ v s1 ⟨x,C,G,r1,J⟩=>?_
 exact ij (is_none_gen ⟨.bl _,C,G,by rw[r1.none_iff];rfl,J⟩)
theorem pc_notN {j pos'}(ha:PE X a ta):PC X .IsNot a (.Constant .none j pos') (tNotN ta):=by
 intro y s σ H Q I h
 refine thn (ha y s σ H _ I h) λ v s1 ⟨x,C,G,r1,J⟩=>?_
 exact ij (isnot_none_gen ⟨.bl _,C,G,by rw[r1.none_iff];rfl,J⟩)
noncomputable def tB (t:TE):TT:=λ σ H Q=>t σ H λ x H1=>∃ c,x=.bl c/\Q c H1
theorem pe_cmp {op:CmpOp}{t:TE}(h:PC X op a b t)(C:cX op b=false:=by first|exact nobehind _ (by decide) (by decide)|rfl):PE X (.Compare a [op] [b] pos) t:=λ y s σ H Q I hw=>wpAny_Compare1 (h y s σ H Q I hw) C
theorem pt_cmp {op:CmpOp}{t:TE}(h:PC X op a b t)(C:cX op b=false:=by first|exact nobehind _ (by decide) (by decide)|rfl):PT X (.Compare a [op] [b] pos) (tB t):=by
 intro y s σ H Q I hw
 refine gI (thn (h y s σ H _ I hw) λ v s1 C=>thn C λ u s2 J=>thn J λ c s3 ⟨x,G,Y,r1,Z⟩=>?_) C
 obtain⟨d,rfl,q⟩:=Z
 cases r1
 exact bW ⟨G,Y,q⟩
theorem pt_val {e:Expr}{t:TE}(h:PE X e t)(Y:∀ y,dG e X.env y=(do let v <- y;standAt e.pos;iL [v] (truthy v)):=by intro _;rfl):PT X e (tB t):=by
 intro C s σ H Q I hw
 refine isTrue_plain (thn (h C s σ H _ I hw) λ v s1 ⟨x,G,J,r1,Z⟩=>?_) (Y _)
 obtain⟨d,rfl,q⟩:=Z
 cases r1
 exact bW ⟨G,J,q⟩
variable {tA tB':TT} {rest:List Expr}
noncomputable def tAnd (t u:TT):TT:=λ σ H Q=>t σ H λ c H1=>if c=true then u σ H1 Q else Q false H1
noncomputable def tOr (t u:TT):TT:=λ σ H Q=>t σ H λ c H1=>if c=true then Q true H1 else u σ H1 Q
noncomputable def tNot (t:TT):TT:=λ σ H Q=>t σ H λ c H1=>Q (!c) H1
theorem pw_and1 (ha:PT X a tA):PW X (.BoolOp .And [a] pos) tA:=by
 intro C y s σ H Q I h
 refine isTrue_and (thn (ha y s σ H Q I h) λ c s1 e=>?_)
 cases c with
 | true=>exact isTrue_and_nil e
 | false=>exact e
theorem pw_or1 (ha:PT X a tA):PW X (.BoolOp .Or [a] pos) tA:=by
 intro C y s σ H Q I h
 refine isTrue_or (thn (ha y s σ H Q I h) λ c s1 e=>?_)
 cases c with
 | false=>exact isTrue_or_nil e
 | true=>exact e
theorem pw_and (ha:PT X a tA)(hb:PW X (.BoolOp .And (b::rest) pos) tB'):PW X (.BoolOp .And (a::b::rest) pos) (tAnd tA tB'):=by
 intro Y y s σ H Q I h
 refine isTrue_and (thn (ha y s σ H _ I h) λ c s1 ⟨C,G,J⟩=>?_)
 cases c with
 | true=>exact hb Y y s1 σ C Q G J
 | false=>exact⟨C,G,J⟩
theorem pw_or (ha:PT X a tA)(hb:PW X (.BoolOp .Or (b::rest) pos) tB'):PW X (.BoolOp .Or (a::b::rest) pos) (tOr tA tB'):=by
 intro Y y s σ H Q I h
 refine isTrue_or (thn (ha y s σ H _ I h) λ c s1 ⟨C,G,J⟩=>?_)
 cases c with
 | true=>exact⟨C,G,J⟩
 | false=>exact hb Y y s1 σ C Q G J
theorem pt_not (ha:PT X a tA):PT X (.UnaryOp .Not a pos) (tNot tA):=by
 intro y s σ H Q I h
 exact isTrue_not (ha y s σ H (λ c C=>Q (!c) C) I h)
noncomputable def tAndV (ta tb:TE):TE:=λ σ H Q=>ta σ H λ x H1=>∃ c,x=.bl c/\if c=true then tb σ H1 Q else Q (.bl false) H1
noncomputable def tOrV (ta tb:TE):TE:=λ σ H Q=>ta σ H λ x H1=>∃ c,x=.bl c/\if c=true then Q (.bl true) H1 else tb σ H1 Q
noncomputable def tNotV (ta:TE):TE:=λ σ H Q=>ta σ H λ x H1=>∃ c,x=.bl c/\Q (.bl (!c)) H1
theorem pe_one {op}{t:TE}(h:PE X a t):PE X (.BoolOp op [a] pos) t:=λ y s σ H Q I hw=>BoolOp_one (h y s σ H Q I hw)
theorem pe_and (ha:PE X a ta)(hb:PE X (.BoolOp .And (b::rest) pos) tb):PE X (.BoolOp .And (a::b::rest) pos) (tAndV ta tb):=by
 intro y s σ H Q I h
 refine BoolOp_and (thn (ha y s σ H _ I h) λ v s1 ⟨x,G,J,r1,C⟩=>?_)
 obtain⟨c,rfl,C⟩:=C
 cases r1
 refine bW ?_
 cases c with
 | true=>exact hb y s1 σ G Q J C
 | false=>exact⟨.bl false,G,J,rfl,C⟩
theorem pe_or (ha:PE X a ta)(hb:PE X (.BoolOp .Or (b::rest) pos) tb):PE X (.BoolOp .Or (a::b::rest) pos) (tOrV ta tb):=by
 intro y s σ H Q I h
 refine BoolOp_or (thn (ha y s σ H _ I h) λ v s1 ⟨x,G,J,r1,C⟩=>?_)
 obtain⟨c,rfl,C⟩:=C
 cases r1
 refine bW ?_
 cases c with
 | false=>exact hb y s1 σ G Q J C
 | true=>exact⟨.bl true,G,J,rfl,C⟩
theorem pe_not (ha:PE X a ta):PE X (.UnaryOp .Not a pos) (tNotV ta):=by
 intro y s σ H Q I h
 refine UnaryOp_ (thn (ha y s σ H _ I h) λ v s1 ⟨x,G,J,r1,C⟩=>?_)
 obtain⟨c,rfl,C⟩:=C
 cases r1
 exact not_of (bW ⟨.bl (!c),G,J,rfl,C⟩)
noncomputable def tIf (t:TT)(ta tb:TE):TE:=λ σ H Q=>t σ H λ c H1=>if c=true then ta σ H1 Q else tb σ H1 Q
theorem pe_ifExp {c:Expr}(hc:PT X c tA)(ha:PE X a ta)(hb:PE X b tb):PE X (.IfExp c a b pos) (tIf tA ta tb):=by
 intro y s σ H Q I h
 refine wpAny_IfExp (thn (hc y s σ H _ I h) λ d s1 ⟨C,G,J⟩=>?_)
 cases d with
 | true=>exact ha y s1 σ C Q G J
 | false=>exact hb y s1 σ C Q G J
end
noncomputable def SqL (K:ab)(H:Hp)(a:Addr)(xs:List V):Prop :=
 Rd H a (.lst xs) \/
  ∃(o:Obj) (its:Array Value) (n:Nat),K.lookup a=some o/\o.cls=.type "list"/\o.dict=none/\o.data=.seq its n/\its.size<=aI/\Vals xs its.toList
noncomputable def SqT (K:ab)(H:Hp)(a:Addr)(xs:List V):Prop :=
 Rd H a (.tup xs) \/
  ∃(o:Obj) (its:Array Value) (n:Nat),K.lookup a=some o/\o.cls=.type "tuple"/\o.data=.seq its n/\its.size<=aI/\Vals xs its.toList
noncomputable def absV:Value->Option V
 | .none=>some .non
 | .bool b=>some (.bl b)
 | .int i _=>some (.int i)
 | .str x _=>some (.str x)
 | .bytes b _=>some (.byt b)
 | .float b _=>some (.flt b)
 | .ref a=>some (.ref a)
 | .type n=>some (.ty n)
 | _=>none
theorem RelV.abs {x:V}{u:Value}(r:RelV x u):absV u=some x:=by
 cases x with
 | non=>cases r;rfl
 | bl _=>cases r;rfl
 | int _=>obtain⟨t,rfl⟩:=r;rfl
 | str _=>obtain⟨t,rfl⟩:=r;rfl
 | byt _=>obtain⟨t,rfl⟩:=r;rfl
 | flt _=>obtain⟨t,rfl⟩:=r;rfl
 | ref _=>cases r;rfl
 | ty _=>cases r;rfl
theorem RelV.inj {x y:V}{u:Value}(r:RelV x u)(q:RelV y u):x=y:=aw (r.abs.symm.trans q.abs)
theorem Vals.inj:∀ {h ys:List V} {us:List Value},Vals h us->Vals ys us->h=ys
 | _,_,_,.nil,.nil=>rfl
 | _,_,_,.cons r t,.cons r' t'=>by rw[r.inj r',Vals.inj t t']
section
variable {X:Cx} {pins:List (Addr×Obj)} {σ:St} {H:Hp} {s:af} {a:Addr} {xs ys:List V}
theorem SqL.of {K:ab}(h:H a=some (.lst xs)):SqL K H a xs:=.inl (.inl h)
theorem SqT.of {K:ab}(h:H a=some (.tup xs)):SqT K H a xs:=.inl (.inl h)
theorem Inv.list (I:Inv X pins σ H s)(h:SqL X.K H a xs):∃ its:List Value,Vals xs its/\PlainL s.heap a its.toArray/\xs.length<=aI:=by
 rcases h with h|⟨o,its,n,hk,hc,hd,hs,hz,r⟩
 ·obtain⟨z,its,n,r,e⟩:=h.ok I.hok
  exact⟨its,r,⟨_,n,e,rfl,rfl,rfl⟩,z⟩
 ·refine⟨its.toList,r,⟨o,n,I.kIn a o hk,hc,hd,by simpa using hs⟩,?_⟩
  have e:=r.length
  simp only[eO]at e
  omega
theorem Inv.tuple (I:Inv X pins σ H s)(h:SqT X.K H a xs):∃ its:List Value,Vals xs its/\IsTup s.heap a its.toArray/\xs.length<=aI:=by
 rcases h with h|⟨o,its,n,hk,hc,hs,hz,r⟩
 ·obtain⟨z,its,r,p⟩:=h.ok I.hok
  exact⟨its,r,p,z⟩
 ·refine⟨its.toList,r,⟨o,I.kIn a o hk,hc,n,by simpa using hs⟩,?_⟩
  have e:=r.length
  simp only[eO]at e
  omega
theorem Inv.list_inj (I:Inv X pins σ H s)(h:SqL X.K H a xs)(h':SqL X.K H a ys):xs=ys:=by
 obtain⟨its,r,⟨o,n,e,_,_,d⟩,_⟩:=I.list h
 obtain⟨its',y,⟨G,C,e',_,_,d'⟩,_⟩:=I.list h'
 rw[e]at e';cases e'
 rw[d]at d'
 injection d' with d1 _
 have:its=its':=by simpa using congrArg iM d1
 subst this
 exact r.inj y
theorem Inv.tuple_inj (I:Inv X pins σ H s)(h:SqT X.K H a xs)(h':SqT X.K H a ys):xs=ys:=by
 obtain⟨its,r,⟨o,e,_,n,d⟩,_⟩:=I.tuple h
 obtain⟨its',y,⟨C,e',_,G,d'⟩,_⟩:=I.tuple h'
 rw[e]at e';cases e'
 rw[d]at d'
 injection d' with d1 _
 have:its=its':=by simpa using congrArg iM d1
 subst this
 exact r.inj y
end
noncomputable abbrev Cx.wish (X:Cx)(E:Value->af->Prop):Cx:={ X with xe:=E }
noncomputable abbrev Cx.nox (X:Cx):Cx:=X.wish λ _ _=>False
theorem Cx.Ok.wish {X:Cx}(ok:X.Ok)(E:Value->af->Prop):(X.wish E).Ok :=
 ⟨ok.mod,ok.kind,ok.glob,ok.blt,ok.above,ok.inj,ok.has,ok.cab,ok.hd,ok.frames,ok.stk,ok.exf,ok.bs,ok.bsz,ok.noex,ok.exfs,ok.funs,ok.frf⟩
theorem Cx.Ok.unwish {X:Cx}{E:Value->af->Prop}(ok:(X.wish E).Ok):X.Ok :=
 ⟨ok.mod,ok.kind,ok.glob,ok.blt,ok.above,ok.inj,ok.has,ok.cab,ok.hd,ok.frames,ok.stk,ok.exf,ok.bs,ok.bsz,ok.noex,ok.exfs,ok.funs,ok.frf⟩
section
variable {X:Cx} {pins:List (Addr×Obj)} {σ:St} {H:Hp} {s:af} {E:Value->af->Prop}
theorem Inv.wish (I:Inv X pins σ H s)(E:Value->af->Prop):Inv (X.wish E) pins σ H s:=⟨I.ok.wish E,I.os,I.bare,I.base,I.loc,I.cell,I.free,I.freeC,I.pin,I.hok,I.len⟩
theorem Inv.unwish (I:Inv (X.wish E) pins σ H s):Inv X pins σ H s:=⟨I.ok.unwish,I.os,I.bare,I.base,I.loc,I.cell,I.free,I.freeC,I.pin,I.hok,I.len⟩
theorem SP.unwish {D:Ends}{f:Flow}{s':af}(h:SP (X.wish E) pins D f s'):SP X pins D f s':=by
 cases f with
 | next=>obtain⟨σ',H',I,q⟩:=h;exact⟨σ',H',I.unwish,q⟩
 | brk=>obtain⟨σ',H',I,q⟩:=h;exact⟨σ',H',I.unwish,q⟩
 | cont=>obtain⟨σ',H',I,q⟩:=h;exact⟨σ',H',I.unwish,q⟩
 | ret u=>obtain⟨v,σ',H',I,r,q⟩:=h;exact⟨v,σ',H',I.unwish,r,q⟩
theorem PSs.nox {st:List Stmt}{t:TS}(h:PSs X.nox st t):PSs X st t:=λ y s σ H D I hw =>
 cg (h y s σ H D (I.wish _) hw) (λ _ _ q=>q.unwish) λ _ _ z=>bF z
end
section
variable {X:Cx} {st:Stmt} {rest:List Stmt} {t u:TS} {e:Expr} {te:TE} {pos:Pos}
noncomputable def tNext:TS:=λ D σ H=>D.nx σ H
noncomputable def tSeq (t u:TS):TS:=λ D σ H=>t { D with nx:=u D } σ H
theorem pss_nil:PSs X [] tNext:=λ _ _ σ H _ I h=>gB ⟨σ,H,I,h⟩
theorem pss_cons (G:PS X st t)(C:PSs X rest u):PSs X (st::rest) (tSeq t u):=by
 intro y s σ H D I h
 refine wpAny_execs_cons (thn (G y s σ H { D with nx:=u D } I h) λ f s1 q=>?_)
 cases f with
 | next =>
  obtain⟨σ',H',J,q⟩:=q
  exact C y s1 σ' H' D J q
 | ret v=>exact q
 | brk=>exact q
 | cont=>exact q
theorem Inv.quiet {h:List (Addr×Obj)}{σ:St}{H:Hp}{s:af}(I:Inv X h σ H s):interactive X.env=false:=by simp[interactive,I.ok.kind]
noncomputable def tDrop (te:TE):TS:=λ D σ H=>te σ H λ _ H1=>D.nx σ H1
theorem ps_expr (J:PE X e te)(hs:fR e none pos.line X.env=pure false:=by rfl):PS X (.Expr e pos) (tDrop te):=by
 intro y s σ H D I h
 exact wpAny_Expr_any (thn (J y s σ H _ I h) λ v s1 ⟨x,C,G,r1,Y⟩=>⟨σ,C,G,Y⟩) I.quiet hs
noncomputable def tRet (te:TE):TS:=λ D σ H=>te σ H D.rt
theorem ps_ret (J:PE X e te):PS X (.Return (some e) pos) (tRet te):=by
 intro y s σ H D I h
 exact wpAny_Return_some (thn (J y s σ H _ I h) λ v s1 ⟨x,C,G,r1,Y⟩=>⟨x,σ,C,G,r1,Y⟩)
noncomputable def tIfS (c:TT)(t u:TS):TS:=λ D σ H=>c σ H λ b H1=>if b=true then t D σ H1 else u D σ H1
theorem ps_if {c:Expr}{a b:List Stmt}{G:TT}(hc:PT X c G)(ha:PSs X a t)(hb:PSs X b u):PS X (.If c a b pos) (tIfS G t u):=by
 intro y s σ H D I h
 refine wpAny_If (thn (hc y s σ H _ I h) λ d s1 ⟨C,J,Y⟩=>?_)
 cases d with
 | true=>exact ha y s1 σ C D J Y
 | false=>exact hb y s1 σ C D J Y
noncomputable def tNever:TS:=λ _ _ _=>False
theorem ps_never:PS X st tNever:=λ _ _ _ _ _ _ h=>h.elim
end
noncomputable abbrev TG:=V->St->Hp->(St->Hp->Prop)->Prop
noncomputable abbrev TGs:=List V->St->Hp->(St->Hp->Prop)->Prop
noncomputable def PG (X:Cx)(target:Expr)(t:TG):Prop :=
 ∀(pins:List (Addr×Obj)) (s:af) (σ:St) (H:Hp) (v:V) (u:Value) (Q:St->Hp->Prop),Inv X pins σ H s->RelV v u->t v σ H Q ->
  wpAny (model X.prog X.w) X.A (f8 target X.env u) (λ _ s'=>∃ σ' H',Inv X pins σ' H' s'/\Q σ' H') X.xe s
noncomputable def PGs (X:Cx)(ts:List Expr)(t:TGs):Prop :=
 ∀(pins:List (Addr×Obj)) (s:af) (σ:St) (H:Hp) (vs:List V) (us:List Value) (Q:St->Hp->Prop),Inv X pins σ H s->Vals vs us->t vs σ H Q ->
  wpAny (model X.prog X.w) X.A (assignInOrder ((cx ts X.env).map (·.2)) us) (λ _ s'=>∃ σ' H',Inv X pins σ' H' s'/\Q σ' H') X.xe s
noncomputable abbrev TSet:=V->V->V->Hp->(Hp->Prop)->Prop
noncomputable def PSet (X:Cx)(t:TSet):Prop :=
 ∀(pins:List (Addr×Obj)) (s:af) (σ:St) (H:Hp) (o i v:V) (ov iv u:Value) (Q:Hp->Prop),Inv X pins σ H s->RelV o ov->RelV i iv->RelV v u->t o i v H Q ->
  wpAny (model X.prog X.w) X.A (setItem ov iv u) (λ _ s'=>∃ H',Inv X pins σ H' s'/\Q H') X.xe s
section
variable {X:Cx} {pos:Pos}
noncomputable def gName (i:Nat):TG:=λ v σ H Q=>Q (σ.set i (some v)) H
theorem pg_name {i:Nat}{x:Str}(hN:X.N.Nodup)(C:X.N[i]?=some x)(hx:Loc X.env.scope x)(J:X.fn x=true\/X.env.scope.names.lookup x=some .local:=by first|exact .inl rfl|exact .inr rfl|assumption):PG X (.Name x pos) (gName i):=by
 intro y s σ H v u Q I r h
 exact iO (store_ok I hN C hx r (λ s' G=>⟨_,H,G,h⟩) J)
noncomputable def gNil:TGs:=λ vs σ H Q=>vs=[]/\Q σ H
noncomputable def gCons (t:TG)(u:TGs):TGs:=λ vs σ H Q=>∃ v r,vs=v::r/\t v σ H λ σ' H'=>u r σ' H' Q
theorem pgs_nil:PGs X [] gNil:=by
 intro y s σ H vs us Q I r h
 obtain⟨e,h⟩:=h
 subst e
 cases r
 exact assignInOrder_nil ⟨σ,H,I,h⟩
theorem pgs_cons {e:Expr}{es:List Expr}{t:TG}{u:TGs}(C:PG X e t)(Y:PGs X es u)
  (hs:(cx (e::es) X.env).map (·.2)=f8 e X.env::(cx es X.env).map (·.2):=by rfl):PGs X (e::es) (gCons t u):=by
 intro y s σ H vs us Q I r h
 obtain⟨v,vr,e1,h⟩:=h
 subst e1
 cases r with
 | cons r rr =>
  rw[hs]
  refine assignInOrder_cons (thn (C y s σ H _ _ _ I r h) λ _ s1 ⟨σ1,G,Z,J⟩=>?_)
  exact Y y s1 σ1 G _ _ Q Z rr J
noncomputable def gTup (K:ab)(n:Nat)(t:TGs):TG:=λ v σ H Q=>∃ a xs,v=.ref a/\SqT K H a xs/\xs.length=n/\t xs σ H Q
theorem pg_tup {es:List Expr}{k:Nat}{t:TGs}{n:Nat}(hc:X.calm=true)(h:PGs X es t)
  (hn:(cx es X.env).length=n:=by rfl) (C:(cx es X.env).findIdx? (·.1)=none:=by rfl):PG X (.Tuple es k pos) (gTup X.K n t):=by
 intro y s σ H v u Q I r hw
 obtain⟨a,Y,e1,hq,hl,hw⟩:=hw
 subst e1
 cases r
 obtain⟨its,G,J,hz⟩:=I.tuple hq
 refine assign_Tuple_tuple (I.ok.hd hc) J (by simp[hn,<-hl,G.length]) C λ h' hx=>?_
 have Z:Inv X y σ H { s with heap:=h' }:=I.kept (t':=s.toks) λ b o e=>hx b o (ay (aC e)) e
 exact h y _ σ H Y _ Q Z (by simpa using G) hw
noncomputable def gSub (to ti:TE)(t:TSet):TG:=λ v σ H Q=>to σ H λ o H1=>ti σ H1 λ i H2=>t o i v H2 λ H3=>Q σ H3
theorem pg_sub {o i:Expr}{Y Z:TE}{t:TSet}(ho:PE X o Y)(hi:PE X i Z)(hs:PSet X t)
  (ha:∀ v,f8 (.Subscript o i pos) X.env v=(do
   let G <- iL [v] (eval o X.env)
   let J <- iL [v,G] (eval i X.env)
   standAt pos
   iL [v,G,J] (setItem G J v)
   release [v,G,J] []):=by intro _;rfl):PG X (.Subscript o i pos) (gSub Y Z t):=by
 intro C s σ H v u Q I r h
 rw[ha]
 refine aj (cY (thn (ho C s σ H _ I h) λ G s1 ⟨x,H1,I1,r1,q1⟩=>?_))
 refine aj (cY (thn (hi C s1 σ H1 _ I1 q1) λ J s2 ⟨y,H2,I2,r2,q2⟩=>?_))
 refine aj (ik (aj (cY (thn (hs C s2 σ H2 x y v G J u _ I2 r1 r2 r q2) λ _ s3 ⟨H3,I3,q3⟩=>?_))))
 exact wpAny_release ⟨σ,H3,I3,q3⟩
noncomputable def tAsg (te:TE)(g:TG):TS:=λ D σ H=>te σ H λ x H1=>g x σ H1 D.nx
theorem ps_asg {tg e:Expr}{C:TE}{g:TG}(Y:PE X e C)(hg:PG X tg g)(hs:swapsWithSole [tg] e pos.line X.env=pure false:=by rfl)(hw:swappedStores [tg] e X.env=pure none:=by rfl)
  (Z:(cx [tg] X.env).map (·.2)=[f8 tg X.env]:=by rfl):PS X (.Assign [tg] e pos) (tAsg C g):=by
 intro y s σ H D I h
 refine wpAny_Assign_stores (thn (Y y s σ H _ I h) λ v s1 ⟨x,G,J,r1,q1⟩=>?_) hs hw
 rw[Z]
 exact thn (hg y s1 σ G x v _ J r1 q1) λ _ s2 q=>q
theorem ps_set {i:Nat}{x:Str}{e:Expr}{J:TE}{C:Pos}(hN:X.N.Nodup)(hi:X.N[i]?=some x)(hx:Loc X.env.scope x)(Y:PE X e J)(hs:fR e (some (.Name x C)) pos.line X.env=pure false:=by rfl)(hf:X.fn x=true\/X.env.scope.names.lookup x=some .local:=by first|exact .inl rfl|exact .inr rfl|assumption) :
  PS X (.Assign [.Name x C] e pos) (tAsg J (gName i)):=by
 intro G s σ H D I h
 refine wpAny_Assign_Name (thn (Y G s σ H _ I h) λ v s1 ⟨y,Z,I1,r1,q1⟩=>?_) hs
 exact store_ok I1 hN hi hx r1 (λ s2 I2=>⟨_,Z,I2,q1⟩) hf
end
section
variable {X:Cx} {pos:Pos}
noncomputable def tWhile (c:TT)(tb:TS):TS:=λ D σ H=>∃ W:Nat->St->Hp->Prop,(∃ m,W m σ H)/\∀ m σ H,W m σ H ->
 c σ H λ b H1=>if b=true then ∃ N:St->Hp->Prop,(∀ σ' H',N σ' H'->∃ m',m'<m/\W m' σ' H')/\tb { D with nx:=N,ct:=N,bk:=D.nx } σ H1 else D.nx σ H1
theorem ps_while {c:Expr}{body:List Stmt}{tc:TT}{tb:TS}(hp:PassesOwn (model X.prog X.w) X.A X.env X.xe)(hc:PT X c tc)(hb:PSs X body tb):PS X (.While c body [] pos) (tWhile tc tb):=by
 intro y s σ H D I h
 obtain⟨W,⟨m0,w0⟩,turn⟩:=h
 refine wpAny_While (codeAny_whileLoop (λ n s'=>∃ σ' H',Inv X y σ' H' s'/\W n σ' H') ?_ m0 ⟨σ,H,I,w0⟩)
 rintro n s1 ⟨σ1,H1,I1,w1⟩
 refine cC hp (thn (hc y s1 σ1 H1 _ I1 (turn n σ1 H1 w1)) λ b s2 ⟨H2,I2,q2⟩=>?_)
 cases b with
 | true =>
  obtain⟨N,hN,q2⟩:=q2
  rw[if_pos rfl]
  refine cC hp (thn (hb y s2 σ1 H2 _ I2 q2) λ f s3 q3=>?_)
  cases f with
  | next =>
   obtain⟨σ3,C,Y,Z⟩:=q3
   obtain⟨m',G,J⟩:=hN σ3 C Z
   exact⟨m',G,σ3,C,Y,J⟩
  | cont =>
   obtain⟨σ3,C,Y,Z⟩:=q3
   obtain⟨m',G,J⟩:=hN σ3 C Z
   exact⟨m',G,σ3,C,Y,J⟩
  | brk=>exact q3
  | ret v=>exact q3
 | false =>
  rw[if_neg aQ]
  exact gB ⟨σ1,H2,I2,q2⟩
end
structure It where
 go:Nat->Hp->Prop
 yld:Nat->Hp->V->Hp->Prop
 stop:Nat->Hp->Prop
noncomputable def FpOk (X:Cx)(pins:List (Addr×Obj))(H:Hp)(b:Addr):Prop :=
 H b=none/\b≠X.env.locals/\b ∉ X.fs/\(b∈X.ex\/X.s₀.heap.objs.size<=b)/\(∀ x c,X.env.cells.lookup x=some c->c≠b)/\∀ p∈X.pn++pins,p.1≠b
theorem Inv.fpOk {X:Cx}{h:List (Addr×Obj)}{σ:St}{H H':Hp}{s:af}{b:Addr}(I:Inv X h σ H s)(hb:s.heap.objs.size<=b)(hn:H' b=none):FpOk X h H' b:=by
 refine⟨hn,dq (ar I.lt hb),I.nofs hb,.inr (am I.sz hb),λ x c e z=>?_,λ p y z=>?_⟩
 ·obtain⟨v,q⟩:=I.cell x c e
  exact absurd (ar q.lt (by rw[z];exact hb)) (bu _)
 ·exact absurd (ar (aC (I.pin p y).1) (by rw[z];exact hb)) (bu _)
structure Turn (P:aM)(w:World)(K:ab)(tg:Expr)(J:It)(fp:List Addr)(it:Addr)(tn:Nat->Heap->Prop):Prop where
 mem:it∈fp
 obj:∀ i h,tn i h->∀ b∈fp,∃ o,h.get? b=some o/\∀ v,o.data≠.cell v
 keep:∀ i h h',tn i h->(∀ b∈fp,∀ o,h.get? b=some o->h'.get? b=some o)->tn i h'
 item:∀(X:Cx),X.prog=P->X.w=w->X.K=K->X.calm=true->∀(i:Nat) (pins:List (Addr×Obj)) (s:af) (σ:St) (H:Hp) (E:Value->af->Prop),Inv X pins σ H s->(∀ b∈fp,FpOk X pins H b)->tn i s.heap->J.go i H ->
  wpAny (model P w) X.A (iZ (.ref it)) (λ r s1=>∃ u,r=some u /\
   wpAny (model P w) X.A (eG tg (.ref it) u) (λ _ s2=>∃ x H',Inv X pins σ H' s2/\RelV x u/\J.yld i H x H'/\tn (i+1) s2.heap/\∀ b∈fp,H' b=none) E s1) E s
 done:∀(X:Cx),X.prog=P->X.w=w->X.K=K->X.calm=true->∀(i:Nat) (pins:List (Addr×Obj)) (s:af) (σ:St) (H:Hp) (E:Value->af->Prop),Inv X pins σ H s->(∀ b∈fp,FpOk X pins H b)->tn i s.heap->J.stop i H ->
  wpAny (model P w) X.A (iZ (.ref it)) (λ r s1=>r=none/\Inv X pins σ H s1) E s
 self:∀(A:aV) (i:Nat) (s:af) (Q:Value->af->Prop) (E:Value->af->Prop),tn i s.heap->Q (.ref it) s->wpAny (model P w) A (ko (.ref it)) Q E s
noncomputable abbrev TI:=St->Hp->(It->Hp->Prop)->Prop
noncomputable def PIE (X:Cx)(pins:List (Addr×Obj))(σ:St)(tg:Expr)(R:It->Hp->Prop)(itv:Value)(s2:af):Prop :=
 ∃(it:Addr) (fp:List Addr) (tn:Nat->Heap->Prop) (J:It) (H':Hp),itv=.ref it/\Inv X pins σ H' s2/\Turn X.prog X.w X.K tg J fp it tn/\tn 0 s2.heap/\(∀ b∈fp,FpOk X pins H' b)/\R J H'
noncomputable def PI (X:Cx)(tg iter:Expr)(wi:TI):Prop :=
 ∀(pins:List (Addr×Obj)) (s:af) (σ:St) (H:Hp) (R:It->Hp->Prop),Inv X pins σ H s->wi σ H R ->
  wpAny (model X.prog X.w) X.A (eval iter X.env) (λ v s1=>wpAny (model X.prog X.w) X.A (ko v) (PIE X pins σ tg R) X.xe s1) X.xe s
theorem go_of {M : Model} {A : Around} {E : Value -> Shared -> Prop} {s : Shared} {tg : Expr} {it : Addr} {u : Value} {o : Obj} {n : String} {vs : Array Value} {Q : Unit -> Shared -> Prop} (ho : s.heap.get? it = some o) (hc : o.cls = .type n) (hd : o.data = .fields vs)
    (hn : ["enumerate", "zip", "dict_itemiterator", "dict_reverseitemiterator", "odict_iterator", "itertools.zip_longest", "itertools.pairwise"].contains n = false) (hQ : Q () s) : wpAny M A (eG tg (.ref it) u) Q E s := by
  unfold eG
  cases tg <;> first
    | exact aE hQ
    | (cases u <;> first
        | exact aE hQ
        | (refine aj (wpAny_load ho ?_)
           rw[hc, hd]
           show wpAny M A (if(["enumerate", "zip", "dict_itemiterator", "dict_reverseitemiterator", "odict_iterator", "itertools.zip_longest", "itertools.pairwise"].contains n && vs[0]? == some (cJ _)) = true then _ else _) Q E s
           rw[if_neg (by intro h; rw[hn, Bool.false_and]at h; cases h)]
           exact aE hQ))
noncomputable def Itl (K:ab)(a:Addr):It :=
 ⟨λ i H=>∃ xs x,SqL K H a xs/\xs[i]?=some x,λ i H x H'=>H'=H/\∀ xs,SqL K H a xs->xs[i]?=some x,λ i H=>∃ xs,SqL K H a xs/\xs.length<=i⟩
noncomputable def Itt (K:ab)(a:Addr):It :=
 ⟨λ i H=>∃ xs x,SqT K H a xs/\xs[i]?=some x,λ i H x H'=>H'=H/\∀ xs,SqT K H a xs->xs[i]?=some x,λ i H=>∃ xs,SqT K H a xs/\xs.length<=i⟩
noncomputable def Itr (lo:Int)(n:Nat):It:=⟨λ i _=>i<n,λ i H x H'=>H'=H/\x=.int (lo+i),λ i _=>n<=i⟩
theorem turn_list {P:aM}{w:World}{K:ab}{tg:Expr}(a C:Addr):Turn P w K tg (Itl K a) [C] C (λ i h=>h.IsListIter C a i) where
 mem:=by simp
 obj:=λ i h st b hb=>by
  have e:b=C:=by simpa using hb
  subst e
  obtain⟨o,e,c,d⟩:=st
  exact⟨o,e,λ v z=>by rw[d]at z;cases z⟩
 keep:=λ i h h' st k=>st.at λ o e=>k C (by simp) o e
 item:=by
  intro X Y hw hK hc i y s σ H E I J st hg
  subst Y hw hK
  obtain⟨xs,x,hq,hx⟩:=hg
  obtain⟨its,rv,p,hz⟩:=I.list hq
  obtain⟨u,hu,ru⟩:=rv.get hx
  obtain⟨f0,f1,f2,f3,Z,f5⟩:=J C (by simp)
  refine wpAny_pyNext_list_item st p.isList (x:=u) (by simpa using hu) λ h' G sb=>?_
  have I1:Inv X y σ H { s with heap:=h' }:=I.turned (t':=s.toks) (λ b o hb e=>(sb.2 b hb).trans e) f0 f1 f3 Z f5
  obtain⟨o,e,c,d⟩:=id G
  exact⟨u,rfl,go_of (s:={ s with heap:=h' }) e c d (by decide) ⟨x,H,I1,ru,⟨rfl,λ ys hy=>by rw[I.list_inj hy hq];exact hx⟩,G,λ b hb=>(J b hb).1⟩⟩
 done:=by
  intro X Y hw hK hc i y s σ H E I J st hg
  subst Y hw hK
  obtain⟨xs,hq,hx⟩:=hg
  obtain⟨its,rv,p,hz⟩:=I.list hq
  obtain⟨f0,f1,f2,f3,Z,f5⟩:=J C (by simp)
  have hl:=rv.length
  exact wpAny_pyNext_list_end (I.ok.hd hc) st p.isList (by simp;omega) λ h' eb=>⟨rfl,I.turned (t':=s.toks) (λ b o hb e=>eb b o hb e) f0 f1 f3 Z f5⟩
 self:=λ _ _ _ _ _ st h=>wpAny_pyIter_listiter st h
theorem turn_tuple {P:aM}{w:World}{K:ab}{tg:Expr}(a C:Addr):Turn P w K tg (Itt K a) [C] C (λ i h=>h.IsTupleIter C a i) where
 mem:=by simp
 obj:=λ i h st b hb=>by
  have e:b=C:=by simpa using hb
  subst e
  obtain⟨o,e,c,d⟩:=st
  exact⟨o,e,λ v z=>by rw[d]at z;cases z⟩
 keep:=λ i h h' st k=>st.at λ o e=>k C (by simp) o e
 item:=by
  intro X Y hw hK hc i y s σ H E I J st hg
  subst Y hw hK
  obtain⟨xs,x,hq,hx⟩:=hg
  obtain⟨its,rv,p,hz⟩:=I.tuple hq
  obtain⟨u,hu,ru⟩:=rv.get hx
  obtain⟨f0,f1,f2,f3,Z,f5⟩:=J C (by simp)
  refine wpAny_pyNext_tuple_item st (show s.heap.IsTuple a its.toArray from p) (x:=u) (by simpa using hu) λ h' G sb=>?_
  have I1:Inv X y σ H { s with heap:=h' }:=I.turned (t':=s.toks) (λ b o hb e=>(sb.2 b hb).trans e) f0 f1 f3 Z f5
  obtain⟨o,e,c,d⟩:=id G
  exact⟨u,rfl,go_of (s:={ s with heap:=h' }) e c d (by decide) ⟨x,H,I1,ru,⟨rfl,λ ys hy=>by rw[I.tuple_inj hy hq];exact hx⟩,G,λ b hb=>(J b hb).1⟩⟩
 done:=by
  intro X Y hw hK hc i y s σ H E I J st hg
  subst Y hw hK
  obtain⟨xs,hq,hx⟩:=hg
  obtain⟨its,rv,p,hz⟩:=I.tuple hq
  obtain⟨f0,f1,f2,f3,Z,f5⟩:=J C (by simp)
  have hl:=rv.length
  exact wpAny_pyNext_tuple_end (I.ok.hd hc) st (show s.heap.IsTuple a its.toArray from p) (by simp;omega) λ h' eb=>⟨rfl,I.turned (t':=s.toks) (λ b o hb e=>eb b o hb e) f0 f1 f3 Z f5⟩
 self:=λ _ _ _ _ _ st h=>wpAny_pyIter_tupleiter st h
theorem turn_range {P:aM}{w:World}{K:ab}{tg:Expr}(y:Addr)(J:Int)(n:Nat):Turn P w K tg (Itr J n) [y] y (λ i h=>IsRangeIter h y (J+(i:Nat)*1) ((n:Int) - (i:Nat)) 1) where
 mem:=by simp
 obj:=λ i h st b hb=>by
  have e:b=y:=by simpa using hb
  subst e
  exact⟨_,st,λ v z=>by
   have z':Data.fields _=Data.cell v:=z
   cases z'⟩
 keep:=λ i h h' st k=>k y (by simp) _ st
 item:=by
  intro X Z hw hK hc i C s σ H E I Y st hg
  subst Z hw hK
  obtain⟨f0,f1,f2,f3,f4,f5⟩:=Y y (by simp)
  have W:=Walks.range (prog:=X.prog) (w:=X.w) (I.ok.hd hc) y J 1 n
  refine W.item i s _ _ hg st λ v h' tk hv G kk=>?_
  obtain⟨t,rfl⟩:=hv
  have I1:Inv X C σ H { s with heap:=h',toks:=tk }:=I.turned (λ b o hb e=>kk b o (by simpa using hb) e) f0 f1 f3 f4 f5
  refine⟨_,rfl,go_of (s:={ s with heap:=h',toks:=tk }) (n := "range_iterator") G rfl rfl (by decide) ⟨.int (J+i),H,I1,⟨t,?_⟩,⟨rfl,rfl⟩,G,λ b hb=>(Y b hb).1⟩⟩
  rw[Int.mul_one]
 done:=by
  intro X Z hw hK hc i C s σ H E I Y st hg
  subst Z hw hK
  obtain⟨f0,f1,f2,f3,f4,f5⟩:=Y y (by simp)
  exact wpAny_pyNext_range_end (I.ok.hd hc) st (by have:n<=i:=hg;omega) λ h' eb=>⟨rfl,I.turned (t':=s.toks) (λ b o hb e=>eb b o hb e) f0 f1 f3 f4 f5⟩
 self:=λ _ _ _ _ _ st h=>wpAny_pyIter_rangeiter st h
section
variable {X:Cx} {tg:Expr}
noncomputable def iList (K:ab)(tl:TE):TI:=λ σ H R=>tl σ H λ x H1=>∃ a,x=.ref a/\(∃ xs,SqL K H1 a xs)/\R (Itl K a) H1
noncomputable def iTup (K:ab)(tl:TE):TI:=λ σ H R=>tl σ H λ x H1=>∃ a,x=.ref a/\(∃ xs,SqT K H1 a xs)/\R (Itt K a) H1
theorem pi_list {l:Expr}{G:TE}(hl:PE X l G):PI X tg l (iList X.K G):=by
 intro y s σ H R I h
 refine thn (hl y s σ H _ I h) λ v s1 ⟨x,J,C,r1,Y⟩=>?_
 obtain⟨a,e,⟨Z,hq⟩,q⟩:=Y
 subst e
 cases r1
 obtain⟨its,rv,p,hz⟩:=C.list hq
 refine da p.isList ?_
 refine⟨s1.heap.objs.size,[s1.heap.objs.size],_,_,J,rfl,C.kept (t':=s1.toks) λ b o e=>ai _ e,turn_list a _,⟨_,aO _ rfl,rfl,rfl⟩,λ b hb=>?_,q⟩
 have e:b=s1.heap.objs.size:=by simpa using hb
 subst e
 exact C.fpOk (ah _) (C.hok.fresh (ah _))
theorem pi_tup {l:Expr}{G:TE}(hl:PE X l G):PI X tg l (iTup X.K G):=by
 intro y s σ H R I h
 refine thn (hl y s σ H _ I h) λ v s1 ⟨x,J,C,r1,Y⟩=>?_
 obtain⟨a,e,⟨Z,hq⟩,q⟩:=Y
 subst e
 cases r1
 obtain⟨its,rv,p,hz⟩:=C.tuple hq
 refine iz (show s1.heap.IsTuple a its.toArray from p) ?_
 refine⟨s1.heap.objs.size,[s1.heap.objs.size],_,_,J,rfl,C.kept (t':=s1.toks) λ b o e=>ai _ e,turn_tuple a _,⟨_,aO _ rfl,rfl,rfl⟩,λ b hb=>?_,q⟩
 have e:b=s1.heap.objs.size:=by simpa using hb
 subst e
 exact C.fpOk (ah _) (C.hok.fresh (ah _))
theorem range_it {C:List (Addr×Obj)}{σ:St}{H:Hp}{s:af}{R:It->Hp->Prop}{E:Value->af->Prop}{h y:Int}{t u v:Tok}{tk:Nat}(I:Inv X C σ H s)(J:-(2^62)<=h)(Y:h<2^62)(h3:-(2^62)<=y)(Z:y<2^62)
  (q:R (Itr h (y - h).toNat) H):wpAny (model X.prog X.w) X.A (ko (.ref s.heap.objs.size)) (PIE X C σ tg R) E { s with heap:=s.heap.push { cls:=.type "range",data:=.fields #[.int h t,.int y u,.int 1 v] },toks:=tk }:=by
 refine wpAny_pyIter_range (IsRange.new ..) (small_one J Y h3 Z) ?_
 have G:Inv X C σ H { s with heap:=s.heap.push { cls:=.type "range",data:=.fields #[.int h t,.int y u,.int 1 v] },toks:=tk }:=I.kept λ b o e=>ai _ e
 refine⟨(s.heap.push { cls:=.type "range",data:=.fields #[.int h t,.int y u,.int 1 v] }).objs.size,[(s.heap.push { cls:=.type "range",data:=.fields #[.int h t,.int y u,.int 1 v] }).objs.size],_,_,H,rfl,
  G.kept (t':=tk) λ b o e=>ai _ e,turn_range _ h (y - h).toNat,?_,λ b hb=>?_,q⟩
 ·have e1:h+((0:Nat):Int)*1=h:=by simp
  have e2:(((y - h).toNat:Nat):Int) - ((0:Nat):Int)=kj h y 1:=by rw[rangeSize_one];split<;>omega
  show IsRangeIter _ _ (h+((0:Nat):Int)*1) ((((y - h).toNat:Nat):Int) - ((0:Nat):Int)) 1
  rw[e1,e2]
  exact aO _ rfl
 ·have e:b=(s.heap.push { cls:=.type "range",data:=.fields #[.int h t,.int y u,.int 1 v] }).objs.size:=by simpa using hb
  subst e
  exact G.fpOk (ah _) (G.hok.fresh (ah _))
noncomputable def iRng1 (ta:TA):TI:=λ σ H R=>ta σ H λ vs H1=>∃ j:Int,vs=[.int j]/\-(2^62)<=j/\j<2^62/\R (Itr 0 j.toNat) H1
theorem pi_range1 {a:Expr}{G:TA}{p pos:Pos}(Z:Gl X "range")(Y:X.mg "range"=none)(ha:PA X [a] G)(hs:bo [a] X.env=[(false,eval a X.env)]:=by rfl):PI X tg (.Call (.Name "range" p) [a] [] pos) (iRng1 G):=by
 intro y s σ H R I h
 refine Call_ (ld_blt I Z Y boot_range (eP (thn (ha pos y s σ H _ I h) λ us s1 ⟨vs,H1,J,r1,C⟩=>?_) hs rfl))
 obtain⟨j,e,C,q2,q⟩:=C
 subst e
 cases r1 with
 | cons r rr =>
  cases rr
  obtain⟨t,rfl⟩:=r
  exact call_range_1 (range_it J (by omega) (by omega) C q2 (by simpa using q))
noncomputable def tFor (wi:TI)(g:TG)(tb:TS):TS:=λ D σ H=>wi σ H λ J H1=>∃ W:Nat->Nat->St->Hp->Prop,(∃ m,W 0 m σ H1)/\∀ i m σ H,W i m σ H ->
 (J.stop i H/\D.nx σ H)\/(J.go i H/\∃ N:St->Hp->Prop,(∀ σ' H',N σ' H'->∃ m',m'<m/\W (i+1) m' σ' H')/\∀ x H',J.yld i H x H'->g x σ H' λ σ2 H2=>tb { D with nx:=N,ct:=N,bk:=D.nx } σ2 H2)
noncomputable def pinsAt (fp:List Addr)(h:Heap):List (Addr×Obj):=fp.filterMap λ b=>(h.get? b).map λ o=>(b,o)
theorem jq {y:List Addr}{h:Heap}{b:Addr}{o:Obj}(hb:b∈y)(e:h.get? b=some o):(b,o)∈pinsAt y h:=bj.mpr ⟨b,hb,by rw[e];rfl⟩
theorem of_pinsAt {y:List Addr}{h:Heap}{p:Addr×Obj}(C:p∈pinsAt y h):p.1∈y/\h.get? p.1=some p.2:=by
 obtain⟨b,hb,e⟩:=bj.mp C
 cases q:h.get? b with
 | none=>rw[q]at e;cases e
 | some o =>
  rw[q]at e
  have e':(b,o)=p:=aw e
  subst e'
  exact⟨hb,q⟩
theorem Inv.pinned {h:List (Addr×Obj)}{σ:St}{H:Hp}{s:af}{y:List Addr}(I:Inv X h σ H s)(Z:∀ b∈y,FpOk X h H b)(ho:∀ b∈y,∃ o,s.heap.get? b=some o/\∀ v,o.data≠.cell v):Inv X (h++pinsAt y s.heap) σ H s :=
 I.pins_of λ p J=>(bK.mp J).elim (λ z=>I.pin p (aX _ z)) λ z=>by
  obtain⟨hb,e⟩:=of_pinsAt z
  obtain⟨G,Y,C,_⟩:=Z p.1 hb
  obtain⟨o,e',d⟩:=ho p.1 hb
  rw[e]at e';cases e'
  exact⟨e,G,Y,C,d⟩
theorem Inv.unpinned {h C:List (Addr×Obj)}{σ:St}{H:Hp}{s:af}(I:Inv X (h++C) σ H s):Inv X h σ H s:=I.pins_of λ p y=>I.pin p (aX _ (bU _ y))
theorem ps_for {iter:Expr}{body:List Stmt}{wi:TI}{g:TG}{tb:TS}{pos:Pos}(hp:PassesOwn (model X.prog X.w) X.A X.env X.xe)(hc:X.calm=true)(hi:PI X tg iter wi)(hg:PG X tg g)(hb:PSs X body tb)
  (hs:∀ x,db iter X.env x=pure x:=by intro _;rfl):PS X (.For tg iter body [] pos) (tFor wi g tb):=by
 intro y s σ H D I h
 refine wpAny_For (thn (hi y s σ H _ I h) λ v s1 h1=>thn h1 λ a6 s2 h2=>?_) hs
 obtain⟨it,fp,tn,J,H2,e,I2,T,a4,f2,W,⟨m0,w0⟩,turn⟩:=h2
 subst e
 have Y:∀ {H':Hp},(∀ b∈fp,H' b=none)->∀ b∈fp,FpOk X y H' b:=λ hn b hb=>⟨hn b hb,(f2 b hb).2⟩
 refine codeAny_forLoop_any (λ n s'=>∃ i σ' H',Inv X y σ' H' s'/\tn i s'.heap/\(∀ b∈fp,H' b=none)/\W i n σ' H') ?_ m0 ⟨0,σ,H2,I2,a4,λ b hb=>(f2 b hb).1,w0⟩
 rintro n s3 ⟨i,σ3,H3,I3,a1,a2,w3⟩
 rcases turn i n σ3 H3 w3 with⟨stop,qn⟩|⟨go,N,hN,step⟩
 ·refine cC hp (thn (T.done X rfl rfl rfl hc i y s3 σ3 H3 X.xe I3 (Y a2) a1 stop) λ r s4 ⟨hr,I4⟩=>?_)
  subst hr
  exact gB ⟨σ3,H3,I4,qn⟩
 ·refine cC hp (thn (T.item X rfl rfl rfl hc i y s3 σ3 H3 X.xe I3 (Y a2) a1 go) λ r s4 ⟨u,hr,h4⟩=>?_)
  subst hr
  refine cC hp (thn h4 λ _ s5 ⟨x,H5,I5,r5,y5,a0,a3⟩=>?_)
  have a5:=I5.pinned (Y a3) (T.obj _ _ a0)
  refine cC hp (thn (hg _ s5 σ3 H5 x u _ a5 r5 (step x H5 y5)) λ _ s6 ⟨σ6,H6,I6,q6⟩=>?_)
  refine cC hp (thn (hb _ s6 σ6 H6 _ I6 q6) λ f s7 q7=>?_)
  have G:∀ {σ7:St} {Z:Hp},Inv X (y++pinsAt fp s5.heap) σ7 Z s7->N σ7 Z->∃ m,m<n/\∃ i σ' H',Inv X y σ' H' s7/\tn i s7.heap/\(∀ b∈fp,H' b=none)/\W i m σ' H':=λ {σ7 Z} C n7=>by
   obtain⟨m',hm,w7⟩:=hN σ7 Z n7
   refine⟨m',hm,i+1,σ7,Z,C.unpinned,T.keep _ _ _ a0 λ b hb o e=>(C.pin (b,o) (aX _ (aX _ (jq hb e)))).1,λ b hb=>?_,w7⟩
   obtain⟨o,e,d⟩:=T.obj _ _ a0 b hb
   exact(C.pin (b,o) (aX _ (aX _ (jq hb e)))).2.1
  cases f with
  | next=>obtain⟨σ7,Z,C,n7⟩:=q7;exact G C n7
  | cont=>obtain⟨σ7,Z,C,n7⟩:=q7;exact G C n7
  | brk=>obtain⟨σ7,Z,C,q7⟩:=q7;exact⟨σ7,Z,C.unpinned,q7⟩
  | ret v=>obtain⟨x7,σ7,Z,C,r7,q7⟩:=q7;exact⟨x7,σ7,Z,C.unpinned,r7,q7⟩
end
noncomputable abbrev R2:=V->V->Hp->VK->Prop
noncomputable def OpR (X:Cx)(f:Value->Value->Sem Value)(r:R2):Prop :=
 ∀(pins:List (Addr×Obj)) (s:af) (σ:St) (H:Hp) (x y:V) (v u:Value) (Q:VK),Inv X pins σ H s->RelV x v->RelV y u->r x y H Q ->
  wpAny (model X.prog X.w) X.A (f v u) (EP X pins σ Q) X.xe s
noncomputable def UnR (X:Cx)(f:Value->Sem Value)(r:V->Hp->VK->Prop):Prop :=
 ∀(pins:List (Addr×Obj)) (s:af) (σ:St) (H:Hp) (x:V) (v:Value) (Q:VK),Inv X pins σ H s->RelV x v->r x H Q ->
  wpAny (model X.prog X.w) X.A (f v) (EP X pins σ Q) X.xe s
noncomputable def CallR (X:Cx)(f:Value)(r:List V->Hp->VK->Prop):Prop :=
 ∀(pins:List (Addr×Obj)) (s:af) (σ:St) (H:Hp) (xs:List V) (us:List Value) (Q:VK),Inv X pins σ H s->Vals xs us->r xs H Q ->
  wpAny (model X.prog X.w) X.A (call f us) (EP X pins σ Q) X.xe s
noncomputable def tOp (r:R2)(ta tb:TE):TE:=λ σ H Q=>ta σ H λ x H1=>tb σ H1 λ y H2=>r x y H2 Q
noncomputable def tUn (r:V->Hp->VK->Prop)(ta:TE):TE:=λ σ H Q=>ta σ H λ x H1=>r x H1 Q
noncomputable def rI (C:Int->Int->Prop)(g:Int->Int->V):R2:=λ x y H Q=>∃ i j,x=.int i/\y=.int j/\C i j/\Q (g i j) H
noncomputable def rI0 (g:Int->Int->V):R2:=λ x y H Q=>∃ i j,x=.int i/\y=.int j/\Q (g i j) H
noncomputable def rU (g:Int->V):V->Hp->VK->Prop:=λ x H Q=>∃ i,x=.int i/\Q (g i) H
section
variable {X:Cx} {a b c:Expr} {ta tb tc:TE} {pos:Pos}
theorem binT (ha:PE X a ta)(hb:PE X b tb){C:List (Addr×Obj)}{s:af}{σ:St}{H:Hp}{R:V->V->Hp->Prop}(I:Inv X C σ H s)
  (h:ta σ H λ x G=>tb σ G λ y H2=>R x y H2) {Q:Value->af->Prop} {f:Value->Value->Sem Value}
  (hf:∀ v u s2 x y H2,Inv X C σ H2 s2->RelV x v->RelV y u->R x y H2->wpAny (model X.prog X.w) X.A (f v u) Q X.xe s2) :
  wpAny (model X.prog X.w) X.A (eval a X.env) (λ v J=>wpAny (model X.prog X.w) X.A (eval b X.env) (λ u s₂=>wpAny (model X.prog X.w) X.A (f v u) Q X.xe s₂) X.xe J) X.xe s:=by
 refine thn (ha C s σ H _ I h) λ v s1 ⟨x,G,I1,r1,Z⟩=>?_
 refine thn (hb C s1 σ G _ I1 Z) λ u s2 ⟨y,H2,I2,Y,q2⟩=>?_
 exact hf v u s2 x y H2 I2 r1 Y q2
theorem pe_op {op:Operator}{r:R2}(ho:OpR X (b7 op) r)(ha:PE X a ta)(hb:PE X b tb):PE X (.BinOp a op b pos) (tOp r ta tb):=by
 intro C s σ H Q I h
 exact wpAny_BinOp (binT ha hb I h λ v u s2 x y H2 I2 J G q=>ho C s2 σ H2 x y v u Q I2 J G q)
theorem pe_un {op:UnaryOp}{r:V->Hp->VK->Prop}(ho:UnR X (unaryOp op) r)(ha:PE X a ta):PE X (.UnaryOp op a pos) (tUn r ta):=by
 intro y s σ H Q I h
 exact UnaryOp_ (thn (ha y s σ H _ I h) λ v s1 ⟨x,C,G,r1,J⟩=>ho y s1 σ C x v Q G r1 J)
theorem opI {f:Value->Value->Sem Value}{C:Int->Int->Prop}{g:Int->Int->Int}
  (rule:∀(i j:Int) (t u:Tok) (s:af) (Q:Value->af->Prop) (E:Value->af->Prop),C i j->Q (.int (g i j) s.toks) { s with toks:=s.toks+1 }->wpAny (model X.prog X.w) X.A (f (.int i t) (.int j u)) Q E s) :
  OpR X f (rI C λ i j=>.int (g i j)):=by
 intro G s σ H x y v u Q I Y J h
 obtain⟨i,j,rfl,rfl,hc,q⟩:=h
 obtain⟨t,rfl⟩:=Y
 obtain⟨t',rfl⟩:=J
 exact rule i j t t' s _ _ hc ⟨.int (g i j),H,I.tok _,⟨_,rfl⟩,q⟩
theorem opI0 {f:Value->Value->Sem Value}{g:Int->Int->Int}
  (rule:∀(i j:Int) (t u:Tok) (s:af) (Q:Value->af->Prop) (E:Value->af->Prop),Q (.int (g i j) s.toks) { s with toks:=s.toks+1 }->wpAny (model X.prog X.w) X.A (f (.int i t) (.int j u)) Q E s) :
  OpR X f (rI0 λ i j=>.int (g i j)):=by
 intro C s σ H x y v u Q I J G h
 obtain⟨i,j,rfl,rfl,q⟩:=h
 obtain⟨t,rfl⟩:=J
 obtain⟨t',rfl⟩:=G
 exact rule i j t t' s _ _ ⟨.int (g i j),H,I.tok _,⟨_,rfl⟩,q⟩
theorem opB0 {f:Value->Value->Sem Value}{g:Int->Int->Bool}
  (rule:∀(i j:Int) (t u:Tok) (s:af) (Q:Value->af->Prop) (E:Value->af->Prop),Q (.bool (g i j)) s->wpAny (model X.prog X.w) X.A (f (.int i t) (.int j u)) Q E s) :
  OpR X f (rI0 λ i j=>.bl (g i j)):=by
 intro C s σ H x y v u Q I J G h
 obtain⟨i,j,rfl,rfl,q⟩:=h
 obtain⟨t,rfl⟩:=J
 obtain⟨t',rfl⟩:=G
 exact rule i j t t' s _ _ ⟨.bl (g i j),H,I,rfl,q⟩
noncomputable def CPow (i j:Int):Prop:=0<=j/\j<=1000000/\i.natAbs<2^64
noncomputable def CMul (i j:Int):Prop:=(-(2^64)<i/\i<2^64)\/(-(2^64)<j/\j<2^64)
theorem CMul.ok {i j:Int}(h:CMul i j):IntMulOk i j:=by
 rcases h with⟨y,C⟩|⟨y,C⟩
 ·exact .of_left (intBits_le_64 y C)
 ·exact .of_right (intBits_le_64 y C)
theorem two_pow_nn (k:Nat):(0:Int)<=2^k:=by
 rw[two_pow_cast]
 exact Int.natCast_nonneg _
theorem op_add:OpR X (b7 .Add) (rI0 λ i j=>.int (i+j)):=opI0 λ _ _ _ _ _ _ _ q=>add_int q
theorem op_sub:OpR X (b7 .Sub) (rI0 λ i j=>.int (i - j)):=opI0 λ _ _ _ _ _ _ _ q=>sub_int q
theorem op_mod:OpR X (b7 .Mod) (rI (λ _ j=>0<j) λ i j=>.int (i % j)):=opI λ i j _ _ _ _ _ hc q=>by
 have h:(0:Int)<j:=hc
 exact mod_int' (by omega) (by rw[Int.fmod_eq_emod_of_nonneg i (by omega)];exact q)
theorem op_pow:OpR X (b7 .Pow) (rI CPow λ i j=>.int (i^j.toNat)):=opI λ _ _ _ _ _ _ _ hc q=>pow_int_small hc.1 hc.2.1 hc.2.2 q
theorem op_shl:OpR X (b7 .LShift) (rI CPow λ i j=>.int (i*2^j.toNat)):=opI λ _ _ _ _ _ _ _ hc q=>lshift_int_small hc.1 hc.2.1 hc.2.2 q
theorem op_shr:OpR X (b7 .RShift) (rI (λ _ j=>0<=j) λ i j=>.int (i / 2^j.toNat)):=opI λ i j _ _ _ _ _ hc q =>
 rshift_int hc (by rw[eX i (two_pow_nn _)];exact q)
theorem unI {f:Value->Sem Value}{g:Int->Int}
  (rule:∀(i:Int) (t:Tok) (s:af) (Q:Value->af->Prop) (E:Value->af->Prop),Q (.int (g i) s.toks) { s with toks:=s.toks+1 }->wpAny (model X.prog X.w) X.A (f (.int i t)) Q E s) :
  UnR X f (rU λ i=>.int (g i)):=by
 intro y s σ H x v Q I C h
 obtain⟨i,rfl,q⟩:=h
 obtain⟨t,rfl⟩:=C
 exact rule i t s _ _ ⟨.int (g i),H,I.tok _,⟨_,rfl⟩,q⟩
theorem un_neg:UnR X (unaryOp .USub) (rU λ i=>.int (-i)):=unI λ _ _ _ _ _ q=>neg_int q
end
section
variable {X:Cx} {a b c:Expr} {ta tb tc:TE} {pos:Pos}
theorem op_lt:OpR X (cW .Lt) (rI0 λ i j=>.bl (decide (i<j))):=opB0 λ _ _ _ _ _ _ _ q=>lt_int q
theorem op_le:OpR X (cW .LtE) (rI0 λ i j=>.bl (decide (i<=j))):=opB0 λ _ _ _ _ _ _ _ q=>le_int q
theorem op_gt:OpR X (cW .Gt) (rI0 λ i j=>.bl (decide (j<i))):=opB0 λ _ _ _ _ _ _ _ q=>gt_int q
theorem op_ge:OpR X (cW .GtE) (rI0 λ i j=>.bl (decide (j<=i))):=opB0 λ _ _ _ _ _ _ _ q=>ge_int q
theorem pe_cmpR {op:CmpOp}{r:R2}(ho:OpR X (cW op) r)(ha:PE X a ta)(hb:PE X b tb)(Y:cX op b=false):PE X (.Compare a [op] [b] pos) (tOp r ta tb):=by
 intro C s σ H Q I h
 exact wpAny_Compare1 (binT ha hb I h λ v u s2 x y H2 I2 J G q=>ho C s2 σ H2 x y v u Q I2 J G q) Y
noncomputable def tTest (t:TE):TT:=λ σ H Q=>t σ H λ x H'=>∃ k,x=.bl k/\Q k H'
theorem pt_cmpR {op:CmpOp}{r:R2}(ho:OpR X (cW op) r)(ha:PE X a ta)(hb:PE X b tb)(Y:cX op b=false):PT X (.Compare a [op] [b] pos) (tTest (tOp r ta tb)):=by
 intro C s σ H Q I h
 refine gI (thn (ha C s σ H _ I h) λ v s1 ⟨x,Z,I1,r1,q1⟩=>thn (hb C s1 σ Z _ I1 q1) λ u s2 ⟨y,H2,I2,r2,q2⟩ =>
  thn (ho C s2 σ H2 x y v u _ I2 r1 r2 q2) λ c s3 ⟨z,G,I3,J,k,e,q3⟩=>?_) Y
 subst e
 cases J
 exact bW ⟨G,I3,q3⟩
theorem line63:(aI:Nat)<2^63:=by rw[fm];decide
theorem op_add_str:OpR X (b7 .Add) (λ x y H Q=>∃ i j,x=.str i/\y=.str j/\i.length+j.length<=aI/\Q (.str (i++j)) H):=by
 intro C s σ H x y v u Q I J G h
 obtain⟨i,j,rfl,rfl,hz,q⟩:=h
 obtain⟨t,rfl⟩:=J
 obtain⟨t',rfl⟩:=G
 exact add_str (λ t' tk=>⟨.str (i++j),H,I.tok _,⟨_,rfl⟩,q⟩) hz
theorem vals1 {x:V}{us:List Value}(r:Vals [x] us):∃ u,us=[u]/\RelV x u:=by
 cases r with
 | cons r1 r2=>cases r2;exact⟨_,rfl,r1⟩
theorem vals2 {x y:V}{us:List Value}(r:Vals [x,y] us):∃ u h,us=[u,h]/\RelV x u/\RelV y h:=by
 cases r with
 | cons r1 r2 =>
  cases r2 with
  | cons r3 r4=>cases r4;exact⟨_,_,rfl,r1,r3⟩
theorem call_abs:CallR X (.builtin "abs") (λ C H Q=>∃ i,C=[.int i]/\Q (.int (if i<0 then -i else i)) H):=by
 intro y s σ H C us Q I r h
 obtain⟨i,rfl,q⟩:=h
 obtain⟨u,rfl,t,rfl⟩:=vals1 r
 exact call_abs_int λ u tk=>⟨.int (if i<0 then -i else i),H,I.tok _,⟨_,rfl⟩,q⟩
theorem call_max2 (hc:X.calm=true):CallR X (.builtin "max") (λ C H Q=>∃ i j,C=[.int i,.int j]/\Q (.int (if j > i then j else i)) H):=by
 intro y s σ H C us Q I r h
 obtain⟨i,j,rfl,q⟩:=h
 obtain⟨u,G,rfl,⟨t,rfl⟩,⟨t',rfl⟩⟩:=vals2 r
 refine max_two_ints (I.ok.hd hc) λ h' tk k=>⟨_,H,I.kept k,?_,q⟩
 by_cases hj:j > i
 ·rw[if_pos hj,if_pos hj];exact⟨_,rfl⟩
 ·rw[if_neg hj,if_neg hj];exact⟨_,rfl⟩
theorem call_min2 (hc:X.calm=true):CallR X (.builtin "min") (λ C H Q=>∃ i j,C=[.int i,.int j]/\Q (.int (if j<i then j else i)) H):=by
 intro y s σ H C us Q I r h
 obtain⟨i,j,rfl,q⟩:=h
 obtain⟨u,G,rfl,⟨t,rfl⟩,⟨t',rfl⟩⟩:=vals2 r
 refine min_two_ints (I.ok.hd hc) λ h' tk k=>⟨_,H,I.kept k,?_,q⟩
 by_cases hj:j<i
 ·rw[if_pos hj,if_pos hj];exact⟨_,rfl⟩
 ·rw[if_neg hj,if_neg hj];exact⟨_,rfl⟩
theorem call_int1:CallR X (.type "int") (λ y H Q=>(∃ i,y=[.int i]/\Q (.int i) H)\/∃ k,y=[.bl k]/\Q (.int (if k then 1 else 0)) H):=by
 intro C s σ H y us Q I r h
 rcases h with⟨i,rfl,q⟩|⟨k,rfl,q⟩
 ·obtain⟨u,rfl,t,rfl⟩:=vals1 r
  exact call_int_int ⟨.int i,H,I,⟨_,rfl⟩,q⟩
 ·obtain⟨u,rfl,r1⟩:=vals1 r
  cases r1
  exact call_int_bool ⟨.int (if k then 1 else 0),H,I.tok _,⟨_,rfl⟩,q⟩
end
structure ObjM (h:Heap)(x dx C:Addr)(mA:Str->Option Value):Prop where
 obj:h.get? x=some (gz C dx)
 ns:h.Ns1 dx mA
 ne:dx≠x
theorem lookIn_ns {h:Heap}{J:Addr}{G:Str->Option Value}(n:h.Ns1 J G):∃ od,h.get? J=some od/\∀ name,gO name od=some (G name):=by
 obtain⟨o,es,ep,ho,hd,hk,_,Z⟩:=n
 refine⟨o,ho,λ name=>?_⟩
 have e:=Z name
 unfold nsFind findBy at e
 rw[<-Array.find?_toList]at e
 unfold gO
 rw[hd]
 dsimp only
 split
 ·rename_i y q
  rw[q]at e
  exact congrArg some e
 ·rename_i q
  rw[q]at e
  have a:es.toList.any (·.refKey)=false:=by
   rw[List.any_eq_false]
   intro y hy
   obtain⟨z,t,C⟩:=hk y (Array.mem_toList_iff.mp hy)
   simp[DictEntry.refKey,C]
  have Y:¬ es.toList.any (·.refKey)=true:=by rw[a];exact aQ
  rw[if_neg Y]
  exact congrArg some e
theorem ObjM.look {h:Heap}{x G C:Addr}{y:Str->Option Value}(I:ObjM h x G C y):∃ od,PySem.W.InstAt h x (gz C G) C (some od)/\∀ name,gO name od=some (y name) :=
 let⟨od,ho,hl⟩:=lookIn_ns I.ns
 ⟨od,⟨I.obj,rfl,rfl,ho⟩,hl⟩
section
variable {prog:aM} {w:World} {A:aV} {E:Value->af->Prop} {s:af} {K:ab} {x dx C f:Addr} {mA:Str->Option Value} {name:Str} {v:Value}
end
theorem RelO.some_of {v:V}{o:Option Value}(r:RelO (some v) o):∃ u,o=some u/\RelV v u:=by
 cases o with
 | none=>exact(show False from r).elim
 | some u=>exact⟨u,rfl,r⟩
section
variable {P:aM} {w:World} {H H':Hp} {h h':Heap} {a C dx:Addr} {fs fs':List (Str×V)}
theorem ins_get (hok:HOk P w H h)(e:H a=some (.ins C dx fs)):∃ y,ObjM h a dx C y/\(∀ f,RelO (fs.lookup f) (y f))/\kn y (fs.map (·.1))/\fs.length<=1000/\H dx=some (.own a):=by
 obtain⟨d,z,ne,ob,y,n,r,q⟩:=(show ObjOk P w H h a (.ins C dx fs)from hok a _ e)
 exact⟨y,⟨ob,n,ne⟩,r,q,z,d⟩
end
structure Cls (K:ab)(C:Addr):Prop where
 pg:i0 K C Str.empty=true
 hd:PySem.W.hasDictIn K C=true
 po:PySem.W.plainOver K C=true
 sa:gP K (.ref C) "__setattr__"=some (some (.builtin "object.__setattr__"))
theorem Cls.get {K:ab}{C:Addr}(c:Cls K C)(f:Str):i0 K C f=true:=c.pg
section
variable {X:Cx} {pins:List (Addr×Obj)} {σ:St} {H:Hp} {s:af} {a C dx:Addr} {fs:List (Str×V)} {f:Str} {v:V} {A:aV} {E:Value->af->Prop}
end
section
variable {X:Cx} {o e value:Expr} {f:Str} {pos pos' tpos:Pos} {ta tv:TE}
end
section
variable {X:Cx} {pins:List (Addr×Obj)} {σ:St} {H:Hp} {s:af} {A:aV} {E:Value->af->Prop} {Q:Value->af->Prop} {c:Value} {b:Bool}
inductive TyOf (K:ab)(H:Hp):V->Value->Prop where
 | non:TyOf K H .non (.type "NoneType")
 | bl (x:Bool):TyOf K H (.bl x) (.type "bool")
 | int (i:Int):TyOf K H (.int i) (.type "int")
 | str (x:Str):TyOf K H (.str x) (.type "str")
 | flt (x:UInt64):TyOf K H (.flt x) (.type "float")
 | lst {a:Addr} {xs:List V} (e:H a=some (.lst xs)):TyOf K H (.ref a) (.type "list")
 | frz {a:Addr} {o:Obj} {xs:List V} (e:H a=some (.frz o (.lst xs))):TyOf K H (.ref a) (.type "list")
 | tup {a:Addr} {xs:List V} (e:H a=some (.tup xs)):TyOf K H (.ref a) (.type "tuple")
 | dK {a:Addr} {kvs:List (Key×V)} (e:H a=some (.dK kvs)):TyOf K H (.ref a) (.type "dict")
 | dT {a:Addr} {kvs:List (List Key×V)} (e:H a=some (.dT kvs)):TyOf K H (.ref a) (.type "dict")
 | ins {a C dx:Addr} {fs:List (Str×V)} (e:H a=some (.ins C dx fs)) (cl:Cls K C) (ha:gP K (.ref C) "__class__"=some (some (.builtin "object.__class__")))
   (hn:PySem.W.specialIn K (.builtin "object.__class__") "__get__"=some (some (.builtin "getset_descriptor.__get__"))) (htk:PySem.W.takesIn K (.builtin "object.__class__")=some true)
   (hm:PySem.W.mroIn K C (.type "object")=some true):TyOf K H (.ref a) (.ref C)
theorem jh {x:V}{u t:Value}(I:Inv X pins σ H s)(G:RelV x u)(ty:TyOf X.K H x t)(e:cy X.K t c=some b)(h:∀ tk,Q (.bool b) { s with toks:=tk }) :
  wpAny (model X.prog X.w) A (call (.builtin "isinstance") [u,c]) Q E s:=by
 cases ty with
 | non=>cases(show u=Value.none from G);exact bL PySem.W.kitx_none I.kIn True.intro e (λ z=>nomatch z) h
 | bl y=>cases(show u=Value.bool y from G);exact bL PySem.W.kitx_bool I.kIn True.intro e (λ z=>nomatch z) h
 | int i=>obtain⟨t,q⟩:=(show ∃ t,u=Value.int i t from G);cases q;exact bL PySem.W.kitx_int I.kIn True.intro e (λ z=>nomatch z) h
 | str y=>obtain⟨t,q⟩:=(show ∃ t,u=Value.str y t from G);cases q;exact bL PySem.W.kitx_str I.kIn True.intro e (λ z=>nomatch z) h
 | flt y=>obtain⟨t,q⟩:=(show ∃ t,u=Value.float y t from G);cases q;exact bL PySem.W.kitx_float I.kIn True.intro e (λ z=>nomatch z) h
 | @lst a Z ea =>
  cases(show u=Value.ref a from G)
  obtain⟨_,_,n,_,Y⟩:=(show ObjOk X.prog X.w H s.heap a (.lst Z)from I.hok a _ ea)
  exact bL iP I.kIn ⟨_,Y,rfl⟩ e (λ z=>nomatch z) h
 | @frz a ob Z ea =>
  cases(show u=Value.ref a from G)
  obtain⟨_,_,_,n,_,Y⟩:=(show ObjOk X.prog X.w H s.heap a (.frz ob (.lst Z))from I.hok a _ ea)
  exact bL iP I.kIn ⟨_,Y,rfl⟩ e (λ z=>nomatch z) h
 | @tup a Z ea =>
  cases(show u=Value.ref a from G)
  obtain⟨_,_,_,p⟩:=(show ObjOk X.prog X.w H s.heap a (.tup Z)from I.hok a _ ea)
  obtain⟨o,Y,h2,_⟩:=p
  exact bL iA I.kIn ⟨o,Y,h2⟩ e (λ z=>nomatch z) h
 | @dK a kvs ea =>
  cases(show u=Value.ref a from G)
  obtain⟨_,_,vs,_,p⟩:=(show ObjOk X.prog X.w H s.heap a (.dK kvs)from I.hok a _ ea)
  obtain⟨o,es,ep,Y,h2,_⟩:=p
  exact bL iQ I.kIn ⟨o,Y,h2.1⟩ e (λ z=>nomatch z) h
 | @dT a kvs ea =>
  cases(show u=Value.ref a from G)
  obtain⟨_,_,Z,_,o,es,ep,Y,h2,_⟩:=(show ObjOk X.prog X.w H s.heap a (.dT kvs)from I.hok a _ ea)
  exact bL iQ I.kIn ⟨o,Y,h2.1⟩ e (λ z=>nomatch z) h
 | @ins a C dx fs ea cl ha hn htk hm =>
  cases(show u=Value.ref a from G)
  obtain⟨mA,O,_⟩:=ins_get I.hok ea
  obtain⟨od,J,_⟩:=O.look
  exact bL (PySem.W.kitx_own (cl.get _) cl.hd ha hn htk hm) I.kIn J e (λ z=>nomatch z) h
end
structure Room (k:Nat)(A:aV):Prop where
 hd:A.handled=none
 dp:A.depth+3*k+5<recursionLimit
 un:A.units+16*k+200<cLine
theorem Room.mono {j k:Nat}{A:aV}(r:Room k A)(h:j<=k):Room j A:=⟨r.hd,by have:=r.dp;omega,by have:=r.un;omega⟩
theorem Room.deeper {k:Nat}{A:aV}(r:Room (k+1) A)(env:Env):Room k (A.deeper env) :=
 ⟨r.hd,by have:=r.dp;show A.depth+1+3*k+5<_;omega,by have:=r.un;show A.units+3+16*k+200<_;omega⟩
theorem Room.in1 {k:Nat}{A:aV}(r:Room (k+1) A):Room k A.in1 :=
 ⟨r.hd,by have:=r.dp;show A.depth+3*k+5<_;omega,by have:=r.un;show A.units+1+16*k+200<_;omega⟩
theorem Room.depth {k:Nat}{A:aV}(r:Room k A):A.depth<recursionLimit:=by have:=r.dp;omega
theorem Room.units {k:Nat}{A:aV}(r:Room k A):A.units+64<cLine:=by have:=r.un;omega
theorem Room.units0 {k:Nat}{A:aV}(r:Room k A):A.units<cLine:=by have:=r.un;omega
noncomputable def tNil:TA:=λ _ H Q=>Q [] H
noncomputable def tCons (ta:TE)(tr:TA):TA:=λ σ H Q=>ta σ H λ x H1=>tr σ H1 λ xs H2=>Q (x::xs) H2
section
variable {X:Cx} {e:Expr} {es:List Expr} {te:TE} {t:TA} {pos:Pos}
theorem pa_nil:PA X [] tNil:=λ _ _ _ _ H Q I h=>Calls.spliced_nil ⟨[],H,I,.nil,h⟩
theorem qe (ha:PE X e te)(G:PA X es t)(hs:bo (e::es) X.env=(false,eval e X.env)::bo es X.env:=by rfl):PA X (e::es) (tCons te t):=by
 intro pos y s σ H Q I h
 rw[hs]
 show wpAny _ _ (spliced ((false,eval e X.env)::dU pos (bo es X.env))) _ _ s
 refine Calls.spliced_cons (thn (ha y s σ H _ I h) λ u s1 ⟨x,C,J,r1,q1⟩=>?_)
 exact thn (G pos y s1 σ C _ J q1) λ us s2 ⟨Z,H2,I2,Y,q2⟩=>⟨x::Z,H2,I2,.cons r1 Y,q2⟩
noncomputable def tTup (t:TA):TE:=λ σ H Q=>t σ H λ xs H1=>xs.length<=aI/\∀ p,H1 p=none->Q (.ref p) (upd H1 p (.tup xs))
noncomputable def tLst (t:TA):TE:=λ σ H Q=>t σ H λ xs H1=>xs.length<=aI/\∀ p,H1 p=none->Q (.ref p) (upd H1 p (.lst xs))
theorem pe_tup {x1}(h:PA X es t):PE X (.Tuple es x1 pos) (tTup t):=by
 intro y s σ H Q I hq
 refine wpAny_Tuple_spliced (thn (h pos y s σ H _ I hq) λ us s1 ⟨J,C,G,r,z,q⟩=>⟨by rw[<-r.length];exact z,?_⟩)
 have Y:C s1.heap.objs.size=none:=G.hok.fresh (ah _)
 refine⟨.ref s1.heap.objs.size,upd C s1.heap.objs.size (.tup J),G.laid (t':=s1.toks) (λ b u e=>ai _ e) (ah _) ?_,rfl,q _ Y⟩
 exact⟨z,us,r,⟨_,aO _ rfl,rfl,_,rfl⟩⟩
theorem pe_lst (h:PA X es t):PE X (.List es pos) (tLst t):=by
 intro y s σ H Q I hq
 refine wpAny_List_spliced (thn (h pos y s σ H _ I hq) λ us s1 ⟨J,C,G,r,z,q⟩=>⟨by rw[<-r.length];exact z,?_⟩)
 have Y:C s1.heap.objs.size=none:=G.hok.fresh (ah _)
 refine⟨.ref s1.heap.objs.size,upd C s1.heap.objs.size (.lst J),G.laid (t':=s1.toks) (λ b u e=>ai _ e) (ah _) ?_,rfl,q _ Y⟩
 exact⟨z,us,0,r,aO _ rfl⟩
end
noncomputable abbrev Sp:=List V->Hp->VK->XK->Prop
noncomputable abbrev CXT:=List Env->Hp->af->XK->Value->af->Prop
structure Env0 (P:aM)(w:World)(K:ab)(mg:Str->Option Value)(base:Heap)(A:aV)(outer:List Env)(s:af)(H:Hp):Prop where
 frames:A.frames=some outer
 mod:Mod K mg base
 bs:∀ b o,base.get? b=some o->s.heap.get? b=some o/\H b=none
 bsz:base.objs.size<=s.heap.objs.size
 funs:s.heap.FunFrames base outer
 frf:∀ b∈frs outer,H b=none
 hok:HOk P w H s.heap
 bare:fj s.gens
noncomputable def CE (outer:List Env)(P:aM)(w:World)(H:Hp)(s:af)(Q:VK)(u:Value)(s':af):Prop :=
 ∃ v H',s'.os=s.os/\fj s'.gens/\Un (frs outer) [] H H' s.heap s'.heap/\HOk P w H' s'.heap/\RelV v u/\Q v H'
noncomputable def CR (CX:CXT)(outer:List Env)(P:aM)(w:World)(H:Hp)(s:af)(Q:VK)(E:XK)(r:Result)(s':af):Prop :=
 match r with
 | .ok (.ret u)=>CE outer P w H s Q u s'
 | .ok _=>False
 | .error e=>CX outer H s E e s'
structure FnOk (P:aM)(w:World)(K:ab)(mg:Str->Option Value)(base:Heap)(CX:CXT)(k:Nat)(f:Addr)(fd:bI)(ps:List Str)(sp:Sp):Prop where
 len:∀ vs H Q E,sp vs H Q E->vs.length=ps.length
 run:∀(A:aV) (outer:List Env) (s:af) (H:Hp) (args:Args) (us:List Value) (vs:List V) (Q:VK) (E:XK),Room k A->Env0 P w K mg base A outer s H->jU s fd args (ps.zip us)->Vals vs us->sp vs H Q E ->
  fq (model P w) A (.call (.ref f) args) (CR CX outer P w H s Q E) s
theorem FnOk.imp {P:aM}{w:World}{K:ab}{mg:Str->Option Value}{y:Heap}{G:CXT}{k:Nat}{f:Addr}{J:bI}{ps:List Str}{sp C:Sp}(F:FnOk P w K mg y G k f J ps sp)
  (h:∀ vs H Q E,C vs H Q E->sp vs H Q E):FnOk P w K mg y G k f J ps C :=
 ⟨λ vs H Q E q=>F.len vs H Q E (h _ _ _ _ q),λ A outer s H args us vs Q E Y Z hb hv hs=>F.run A outer s H args us vs Q E Y Z hb hv (h _ _ _ _ hs)⟩
section
variable {X:Cx} {pins:List (Addr×Obj)} {σ:St} {H:Hp} {s s':af}
theorem Inv.env0 (I:Inv X pins σ H s):Env0 X.prog X.w X.K X.mg X.base X.A X.stack s H :=
 ⟨I.ok.frames,I.ok.mod,I.bs,am I.ok.bsz I.sz,I.stack,I.stkFree,I.hok,I.bare⟩
theorem Inv.after {Q:VK}{u:Value}(I:Inv X pins σ H s)(h:CE X.stack X.prog X.w H s Q u s'):EP X pins σ Q u s':=by
 obtain⟨v,H',os,bare,un,hok,r,q⟩:=h
 obtain⟨C,g,d,t,y⟩:=s'
 obtain rfl:y=s.os:=os
 exact⟨v,H',I.call (h':=C) (g':=g) (d':=d) (t':=t) (ch:=[]) un hok bare (λ b z=>absurd z (by simp)),r,q⟩
end
noncomputable def tCall (sp:Sp)(dvs:List V)(E:XK)(t:TA):TE:=λ σ H Q=>t σ H λ vs H1=>sp (vs++dvs) H1 Q E
noncomputable def Binds (K:ab)(fd:bI)(ps:List Str)(ds:List Value):Prop :=
 ∀(s:af) (us:List Value),K.In s.heap->(us++ds).length=ps.length->jU s fd ⟨us,[]⟩ (ps.zip (us++ds))
theorem Binds.all {K:ab}{y:bI}{ps:List Str}(h:∀ us:List Value,us.length=ps.length->eB y ⟨us,[]⟩=pure (ps.zip us)):Binds K y ps []:=λ s us _ hl=>by
 rw[bE]at hl ⊢
 exact .of_eq (h us hl)
noncomputable def Passes (CX:CXT)(X:Cx)(E:XK):Prop:=∀(pins:List (Addr×Obj)) (σ:St) (H:Hp) (s:af) (e:Value) (s':af),Inv X pins σ H s->CX X.stack H s E e s'->X.xe e s'
section
variable {X:Cx} {CX:CXT} {k:Nat} {f C:Addr} {fd:bI} {ps:List Str} {sp:Sp} {dvs:List V} {ds:List Value} {E:XK} {x m:Str} {p pos apos:Pos} {e o:Expr} {es:List Expr} {ta:TE} {t:TA}
theorem run_fn {y:List (Addr×Obj)}{σ:St}{H:Hp}{s:af}{Q:VK}{us:List Value}{vs:List V}(F:FnOk X.prog X.w X.K X.mg X.base CX k f fd ps sp)(G:Room k X.A)(hb:Binds X.K fd ps ds)(hd:Vals dvs ds)(hx:Passes CX X E)
  (I:Inv X y σ H s) (r:Vals vs us) (h:sp (vs++dvs) H Q E):wpAny (model X.prog X.w) X.A (call (.ref f) us) (EP X y σ Q) X.xe s:=by
 have C:Vals (vs++dvs) (us++ds):=r.append hd
 have hl:(us++ds).length=ps.length:=by rw[<-C.length];exact F.len _ _ _ _ h
 refine jY (eQ (F.run X.A X.stack s H ⟨us,[]⟩ (us++ds) (vs++dvs) Q E G I.env0 (hb s us I.kIn hl) C h) λ r s' hq=>?_)
 cases r with
 | error e=>exact hx y σ H s e s' I hq
 | ok fl =>
  cases fl with
  | ret u=>exact I.after hq
  | next=>exact bF hq
  | brk=>exact bF hq
  | cont=>exact bF hq
theorem pe_call (F:FnOk X.prog X.w X.K X.mg X.base CX k f fd ps sp)(Y:Room k X.A)(hg:Gl X x)(hm:X.mg x=some (.ref f))(hk:cb X.K (.ref f)=true)(hb:Binds X.K fd ps ds)(hd:Vals dvs ds)(hx:Passes CX X E)
  (ha:PA X (e::es) t) (C:(x==("__debug__":Str))=false:=by decide) (Z:bo (e::es) X.env=(false,eval e X.env)::bo es X.env:=by rfl) (G:(dU pos (bo es X.env)).any (·.1)=false:=by rfl) :
  PE X (.Call (.Name x p) (e::es) [] pos) (tCall sp dvs E t):=by
 intro y s σ H Q I h
 refine b8 (ld_glob I hg hm ?_ C)
 refine iB (h₀:=X.base) I.ok.mod.kin hk (thn (ha pos y s σ H _ I h) λ us s1 ⟨vs,H1,J,r,q⟩=>⟨J.kIn,?_⟩) Z G
 exact run_fn F Y hb hd hx J r q
theorem pe_call0 (F:FnOk X.prog X.w X.K X.mg X.base CX k f fd ps sp)(G:Room k X.A)(Y:Gl X x)(J:X.mg x=some (.ref f))(hk:cb X.K (.ref f)=true)(hb:Binds X.K fd ps ds)(hd:Vals dvs ds)(hx:Passes CX X E)
  (y:(x==("__debug__":Str))=false:=by decide):PE X (.Call (.Name x p) [] [] pos) (tCall sp dvs E tNil):=by
 intro C s σ H Q I h
 refine b8 (ld_glob I Y J ?_ y)
 exact PySem.W.callWith_K0 I.kIn hk (run_fn (us:=[]) F G hb hd hx I .nil h)
structure Mk (K:ab)(C f:Addr):Prop where
 makes:PySem.W.makesIn K C=true
 init:gP K (.ref C) "__init__"=some (some (.ref f))
 fn:PySem.W.isFn K (.ref f)=true
 kp:cb K (.ref C)=true
end
section
variable {X:Cx} {CX:CXT} {k:Nat} {f C:Addr} {fd:bI} {ps ks:List Str} {sp:Sp} {E:XK} {x m:Str} {p pos apos kpos:Pos} {e o:Expr} {es:List Expr} {kws:List jV} {te ta:TE} {t tk:TA} {nm:Option Str}
variable {g:List Value->List Value->List Value} {gV:List V->List V->List V}
end
structure FnScope (N P:List Str)(sc:Scope):Prop where
 kind:sc.kind=.function
 co:sc.isCoroutine=false
 gen:sc.isGenerator=false
 nd:N.Nodup
 pre:N.take P.length=P
 par:∀ x∈P,sc.names.lookup x=some .local\/sc.names.lookup x=some .cell
 nofree:∀ y∈sc.names,y.2≠.free
theorem bindL_out {d7:Str->Option bN}{x:Str}:∀ {binds:List (Str×Value)} {m:Str->Option Value},(∀ v,(x,v) ∉ binds)->bindL d7 binds m x=m x
 | [],_,_=>rfl
 | (n,v)::r,m,h=>by
  unfold bindL
  rw[bindL_out λ w hw=>h w (ax _ hw)]
  split
  ·have:x≠n:=by rintro rfl;exact h v aF
   simp[this]
  ·rfl
theorem bindC_out {d7:Str->Option bN}{x:Str}:∀ {binds:List (Str×Value)} {m:Str->Option Value},(∀ v,(x,v) ∉ binds)->bindC d7 binds m x=m x
 | [],_,_=>rfl
 | (n,v)::r,m,h=>by
  unfold bindC
  rw[bindC_out λ w hw=>h w (ax _ hw)]
  split
  ·rfl
  ·have:x≠n:=by rintro rfl;exact h v aF
   simp[this]
theorem bindL_get {d7:Str->Option bN}{x:Str}{v:Value}:∀ {P:List Str} {vs:List Value} {i:Nat} {m:Str->Option Value},P.Nodup->P[i]?=some x->vs[i]?=some v->d7 x=some .local ->
  bindL d7 (P.zip vs) m x=some v
 | [],_,_,_,_,h,_,_=>by simp at h
 | _::_,[],_,_,_,_,h,_=>by simp at h
 | p::P,w::vs,0,m,nd,h1,h2,hk=>by
  simp at h1 h2;subst h1;subst h2
  show bindL d7 ((p,w)::P.zip vs) m p=_
  unfold bindL
  rw[bindL_out λ v hv=>(cS.mp nd).1 (dE hv).1,if_pos hk]
  simp
 | p::P,w::vs,i+1,m,nd,h1,h2,hk=>by
  show bindL d7 ((p,w)::P.zip vs) m x=_
  unfold bindL
  exact bindL_get (i:=i) (cS.mp nd).2 (by simpa using h1) (by simpa using h2) hk
theorem bindC_get {d7:Str->Option bN}{x:Str}{v:Value}:∀ {P:List Str} {vs:List Value} {i:Nat} {m:Str->Option Value},P.Nodup->P[i]?=some x->vs[i]?=some v->d7 x≠some .local ->
  bindC d7 (P.zip vs) m x=some v
 | [],_,_,_,_,h,_,_=>by simp at h
 | _::_,[],_,_,_,_,h,_=>by simp at h
 | p::P,w::vs,0,m,nd,h1,h2,hk=>by
  simp at h1 h2;subst h1;subst h2
  show bindC d7 ((p,w)::P.zip vs) m p=_
  unfold bindC
  rw[bindC_out λ v hv=>(cS.mp nd).1 (dE hv).1,if_neg hk]
  simp
 | p::P,w::vs,i+1,m,nd,h1,h2,hk=>by
  show bindC d7 ((p,w)::P.zip vs) m x=_
  unfold bindC
  exact bindC_get (i:=i) (cS.mp nd).2 (by simpa using h1) (by simpa using h2) hk
noncomputable def start (N:List Str)(vs:List V):St:=vs.map some++ao (N.length - vs.length) none
noncomputable def cxOf (CX:CXT)(P:aM)(w:World)(K:ab)(mg:Str->Option Value)(base:Heap)(N:List Str)(qual:Str)(scope:Scope)(f:Addr)(cd:Value)(A:aV)(outer:List Env)(s:af)(H:Hp)(E:XK):Cx where
 prog:=P
 w:=w
 K:=K
 mg:=mg
 base:=base
 A:=A.deeper (fF qual scope s.heap.objs.size f cd)
 N:=N
 s₀:=s
 H₀:=H
 env:=fF qual scope s.heap.objs.size f cd
 outer:=outer
 stack:=fF qual scope s.heap.objs.size f cd::outer
 ex:=[]
 calm:=true
 fn:=λ _=>true
 pn:=[]
 xe:=λ e s'=>wpAny (model P w) (A.deeper (fF qual scope s.heap.objs.size f cd)) (leaving (fF qual scope s.heap.objs.size f cd) e) (λ _ s''=>CX outer H s E e s'') (λ e' s''=>CX outer H s E e' s'') s'
theorem qj {sc:Scope}{n:Nat}{x:Str}(h:sc.names.lookup x=some .cell):∃ c,(aL n sc.names []).lookup x=some c:=by
 have q:=f9 sc.names n [] (.inl h)
 exact fG.mp q
theorem inv_start {CX:CXT}{P:aM}{w:World}{K:ab}{mg:Str->Option Value}{G:Heap}{N ps:List Str}{qual:Str}{scope:Scope}{f:Addr}{cd:Value}{A:aV}{outer:List Env}{s s1:af}{H:Hp}{E:XK}{us:List Value}{vs:List V}
  (S:FnScope N ps scope) (hd:A.handled=none) (J:Env0 P w K mg G A outer s H) (hl:vs.length=ps.length) (r:Vals vs us)
  (x:fu s s.heap.objs.size (bindL (fF qual scope s.heap.objs.size f cd).kindOf (ps.zip us) λ _=>none) (aL (s.heap.objs.size+1) scope.names []) (bindC (fF qual scope s.heap.objs.size f cd).kindOf (ps.zip us) λ _=>none) s1) :
  Inv (cxOf CX P w K mg G N qual scope f cd A outer s H E) [] (start N vs) H s1:=by
 have a1:ps.length<=N.length:=by have:=congrArg kD S.pre;rw[bz]at this;omega
 obtain⟨h1,tk,rfl,hk⟩:=x.done
 have Y:∀ b:Addr,b ∉ (cxOf CX P w K mg G N qual scope f cd A outer s H E).ex:=λ b z=>absurd (show b∈([]:List Addr)from z) (by simp)
 refine⟨⟨J.mod,S.kind,rfl,rfl,ah _,λ y z c h1 C=>?_,λ y hy=>?_,λ y c _ h=>?_,λ _=>hd,gQ J.frames,.inr ⟨rfl,rfl⟩,λ b z=>absurd z (Y b),J.bs,J.bsz,λ b _ _=>Y b,λ b z=>absurd z (Y b),J.funs,J.frf⟩,
  rfl,J.bare,Un.kept hk,⟨_,x.toInCall.ns,λ i y v h1 C h3=>?_⟩,λ y c h=>⟨_,x.cell y c h⟩,J.hok.fresh (ah _),λ y c h=>?_,λ p Z=>absurd (show p∈([]:List (Addr×Obj))from Z) (by simp),J.hok.kept hk,?_⟩
 ·exact ga x.apart (aA h1) (aA C)
 ·have hy:scope.names.lookup y=some .cell\/scope.names.lookup y=some .free:=hy
  rcases hy with hy|hy
  ·exact qj hy
  ·exact absurd rfl (S.nofree _ (aA hy))
 ·exact dm (x.above y c (aA h))
 ·have hi:i<vs.length:=by
   unfold start at C
   by_cases hi:i<vs.length
   ·exact hi
   ·rw[ak (by simpa using hi)]at C
    rw[fS]at C
    split at C<;>cases C
  have ha:vs[i]?=some v:=by
   unfold start at C
   rw[aD (by simpa using hi),av]at C
   cases e:vs[i]? with
   | none=>rw[e]at C;cases C
   | some a=>rw[e]at C;cases C;rfl
  obtain⟨u,hu,rv⟩:=r.get ha
  have Z:ps[i]?=some y:=by
   rw[<-S.pre,List.getElem?_take_of_lt (by omega)];exact h1
  have a0:ps.Nodup:=by rw[<-S.pre];exact S.nd.sublist (List.take_sublist _ _)
  refine⟨u,rv,?_⟩
  rcases S.par y (aS Z)with k|k
  ·exact .inl ⟨k,bindL_get a0 Z hu k⟩
  ·obtain⟨c,e⟩:=qj (n:=s.heap.objs.size+1) k
   refine .inr ⟨.inl k,c,e,?_⟩
   have q:=x.cell y c e
   rw[bindC_get a0 Z hu (by show scope.names.lookup y≠_;rw[k];decide)]at q
   exact q
 ·exact J.hok.fresh (dm (x.above y c (aA h)))
 ·unfold start
  show _=N.length
  rw[aR,az,List.length_replicate]
  omega
theorem fn_of {CX:CXT}{P:aM}{w:World}{K:ab}{mg:Str->Option Value}{base:Heap}{k:Nat}{f:Addr}{name qual:Str}{params:a9}{body:List Stmt}{scope:Scope}{dV kV Z pm h ct oc:Value}{an od:Option Addr}
  {a2:Array (Option Value)} {N ps:List Str} {sp:Sp} (lk:K.lookup f=some ⟨oc,od,.func (cO name qual params body scope dV kV Z pm an h ct),a2⟩) (a0:eY K h qual=true) (S:FnScope N ps scope)
  (len:∀ vs H Q E,sp vs H Q E->vs.length=ps.length)
  (G:∀(A:aV) (outer:List Env) (s:af) (H:Hp) (vs:List V) (Q:VK) (E:XK),Room k (A.deeper (fF qual scope s.heap.objs.size f h))->sp vs H Q E ->
   ∃ t,PSs (cxOf CX P w K mg base N qual scope f h A outer s H E) body t/\t { nx:=λ _ H'=>Q .non H',rt:=Q } (start N vs) H) :
  FnOk P w K mg base CX (k+1) f (cO name qual params body scope dV kV Z pm an h ct) ps sp:=by
 refine⟨len,λ A outer s H args us vs Q E hr e0 hb r Y=>?_⟩
 have hl:=len _ _ _ _ Y
 have KX:K.In s.heap:=e0.mod.kin.keeps λ b o e=>(e0.bs b o e).1
 have a1:s.heap.NoLimit:=e0.mod.nolimit.keeps λ b o e=>(e0.bs b o e).1
 have C:∀ y∈ps.zip us,scope.names.lookup y.1=some .local\/(scope.names.lookup y.1=some .cell/\((aL (s.heap.objs.size+1) scope.names []).lookup y.1).isSome=true):=λ⟨n,v⟩ hy=>by
  rcases S.par n (dE hy).1 with q|q
  ·exact .inl q
  ·exact .inr ⟨q,f9 _ _ _ (.inl q)⟩
 refine gJ hr.depth (KX _ _ lk) rfl S.co S.gen rfl (PySem.W.codeRec_of KX a0) (hb _ _ _ _ ?_)
 refine wpAny_newFunctionEnv_cells S.kind C λ env he s1 x=>?_
 subst he
 refine⟨a1.keeps x.toInCall.keep,codeAny_func ?_⟩
 obtain⟨t,ht,hq⟩:=G A outer s H vs Q E (hr.deeper _) Y
 have I:Inv (cxOf CX P w K mg base N qual scope f h A outer s H E) [] (start N vs) H s1:=inv_start S hr.hd e0 hl r x
 refine cg (ht [] s1 (start N vs) H _ I hq) (λ fl s' hs=>?_) λ e s' hs=>hs
 have fin:∀ {σ':St} {H':Hp} {v:V} {u:Value},Inv (cxOf CX P w K mg base N qual scope f h A outer s H E) [] σ' H' s'->RelV v u->Q v H'->CE outer P w H s Q u s' :=
  λ {σ' H' v u} J rv q=>⟨v,H',J.os,J.bare,J.base,J.hok,rv,q⟩
 cases fl with
 | ret u =>
  obtain⟨v,σ',H',J,rv,q⟩:=hs
  exact fin J rv q
 | next =>
  obtain⟨σ',H',J,q⟩:=hs
  exact fin (v:=V.non) (u:=Value.none) J rfl q
 | brk =>
  obtain⟨_,_,_,q⟩:=hs
  exact bF q
 | cont =>
  obtain⟨_,_,_,q⟩:=hs
  exact bF q
section
variable {X:Cx} {x:Str} {p pos:Pos} {e:Expr} {es:List Expr} {t:TA} {id T:String} {r:List V->Hp->VK->Prop}
noncomputable def tCB (r:List V->Hp->VK->Prop)(t:TA):TE:=λ σ H Q=>t σ H λ vs H1=>r vs H1 Q
theorem pe_callB (hc:CallR X (.builtin id) r)(hg:Gl X x)(hm:X.mg x=none)(hv:bf x=some (.builtin id))(ha:PA X (e::es) t)(hn:x ≠ "__name__":=by decide)(C:(x==("__debug__":Str))=false:=by decide)
  (Z:bo (e::es) X.env=(false,eval e X.env)::bo es X.env:=by rfl) (G:(dU pos (bo es X.env)).any (·.1)=false:=by rfl):PE X (.Call (.Name x p) (e::es) [] pos) (tCB r t):=by
 intro y s σ H Q I h
 refine b8 (ld_blt I hg hm hv ?_ hn C)
 exact PyProof.Rows.callWith_builtin1 (thn (ha pos y s σ H _ I h) λ us s1 ⟨vs,J,Y,r1,q1⟩=>hc y s1 σ J vs us Q Y r1 q1) Z G
theorem pe_callTy (hc:CallR X (.type T) r)(hg:Gl X x)(hm:X.mg x=none)(hv:bf x=some (.type T))(ha:PA X (e::es) t)(hn:x ≠ "__name__":=by decide)(C:(x==("__debug__":Str))=false:=by decide)
  (Z:bo (e::es) X.env=(false,eval e X.env)::bo es X.env:=by rfl) (G:(dU pos (bo es X.env)).any (·.1)=false:=by rfl):PE X (.Call (.Name x p) (e::es) [] pos) (tCB r t):=by
 intro y s σ H Q I h
 refine b8 (ld_blt I hg hm hv ?_ hn C)
 exact eP (thn (ha pos y s σ H _ I h) λ us s1 ⟨vs,J,Y,r1,q1⟩=>hc y s1 σ J vs us Q Y r1 q1) Z G
end
end L2
end
noncomputable section
namespace HT
open PySem PyProof.Rows
section
open PySem.SeqAt
open PySem.AutoSeq1 (wpAny_loadPart')
open PySem.MeetsSeq PySem.MeetsSeq2 PySem.MeetsSeq3
end
section
variable {prog:aM} {w:World} {A:aV} {E:Value->af->Prop} {s:af}
theorem cat_tup {t b:Addr}{vs ws:List Value}{Q:Value->af->Prop}(ht:IsTup s.heap t vs.toArray)(hb:IsTup s.heap b ws.toArray)(hv:vs≠[])
  (h1:ws=[]->Q (.ref t) s) (h2:ws≠[]->Q (.ref s.heap.objs.size) { s with heap:=s.heap.push { cls:=.type "tuple",data:=.seq (vs++ws).toArray } })
  (hsz:vs.length+ws.length<=aI):wpAny (model prog w) A (b7 .Add (.ref t) (.ref b)) Q E s:=by
 obtain⟨⟨cls,dd,data,sl⟩,ho,hc,n,hd⟩:=id ht
 obtain⟨⟨Z,J,Y,C⟩,h,G,n2,y⟩:=id hb
 simp only at hc hd G y
 subst hc hd G y
 have e:vs.toArray++ws.toArray=(vs++ws).toArray:=by simp
 by_cases hw:ws=[]
 ·exact iR ⟨_,ho,rfl⟩ ⟨_,h,rfl⟩ fT io dW dL (dB _ _)
   (tuple_addW1 t b vs.toArray ws.toArray n n2 dd J sl C (by simpa using hv) (by simp[hw])) ⟨ho,h,h1 hw⟩
 ·refine iR ⟨_,ho,rfl⟩ ⟨_,h,rfl⟩ fT io dW dL (dB _ _)
   (tuple_addW2 t b vs.toArray ws.toArray n n2 dd J sl C (by simpa using hv) (by simpa using hw) (by rw[au,au];exact hsz)) ⟨ho,h,?_⟩
  rw[e]
  exact h2 hw
noncomputable def sIx (n d:Nat):Option Int->Nat
 | none=>d
 | some v=>if v<0 then(v+(n:Int)).toNat else min v.toNat n
theorem sIx_le (n d:Nat)(hd:d<=n)(o:Option Int):sIx n d o<=n:=by
 cases o with
 | none=>exact hd
 | some v =>
  show(if v<0 then(v+(n:Int)).toNat else min v.toNat n)<=n
  by_cases hv:v<0
  ·rw[if_pos hv];omega
  ·rw[if_neg hv];exact fU _ _
theorem clip_eq (v:Int)(n d:Nat):(if v<0 then max (v+(n:Int)) 0 else min v (n:Int))=((sIx n d (some v):Nat):Int):=by
 show(if v<0 then max (v+(n:Int)) 0 else min v (n:Int))=(((if v<0 then(v+(n:Int)).toNat else min v.toNat n):Nat):Int)
 by_cases hv:v<0
 ·simp only[if_pos hv];omega
 ·simp only[if_neg hv];omega
theorem adjust_gen (y h:Option Int)(n:Nat):dz y h 1 (n:Int)=(((sIx n 0 y:Nat):Int),((sIx n n h:Nat):Int)):=by
 have C:¬((1:Int)<0):=by omega
 unfold dz
 simp only[C,if_false]
 refine Prod.ext ?_ ?_
 ·cases y with
  | none=>rfl
  | some v=>exact clip_eq v n 0
 ·cases h with
  | none=>rfl
  | some v=>exact clip_eq v n n
theorem places_gen (i j:Nat):cB (i:Int) (j:Int) 1=j - i:=by
 unfold cB
 have h:(1:Int) > 0:=by omega
 simp only[h,if_true,Int.ediv_one]
 split<;>omega
theorem slicePart_ {v:Value}{o:Option Int}{Q:Option Int->af->Prop}(p:fH v o)(h:Q o s):wpAny (model prog w) A (jM v) Q E s:=by
 cases p with
 | none=>exact slicePart_none h
 | int i t=>exact slicePart_int h
theorem sliceApplied_gen {sl:Addr}{vl vu:Value}{y C:Option Int}{n:Nat}{Q:Int×Int×Nat->af->Prop}(hs:s.heap.IsSliceOf sl vl vu .none)(Y:fH vl y)(pu:fH vu C)
  (h:Q (((sIx n 0 y:Nat):Int),1,sIx n n C - sIx n 0 y) s):wpAny (model prog w) A (eZ (.ref sl) (pure (n:Int))) Q E s:=by
 obtain⟨os,G,Z,J⟩:=id hs
 unfold eZ ka
 refine aj (aj (dM G J (x:=vl) rfl (aj (dM G J (x:=vu) rfl (aj (dM G J (x:=.none) rfl (aE ?_)))))))
 refine aj (slicePart_none ?_)
 show wpAny _ _ (if((1:Int)==0)=true then _ else _) _ _ s
 rw[if_neg (by decide)]
 refine aj (slicePart_ Y (aj (slicePart_ pu (aj (aE ?_)))))
 show wpAny _ _ (match dz y C 1 (n:Int)with|(y,C)=>pure (y,(1:Int),cB y C 1)) _ _ s
 rw[adjust_gen y C n]
 show wpAny _ _ (pure (((sIx n 0 y:Nat):Int),(1:Int),cB ((sIx n 0 y:Nat):Int) ((sIx n n C:Nat):Int) 1)) _ _ s
 rw[places_gen]
 exact aE h
theorem pick_gen (h:Array Value)(i k:Nat):((ae k).filterMap λ(m:Nat)=>h[((i:Int)+(m:Int)*1).toNat]?).toArray=((h.toList.drop i).take k).toArray:=by
 have e:(λ(m:Nat)=>h[((i:Int)+(m:Int)*1).toNat]?)=λ m=>h[i+m]?:=by
  funext m
  have:((i:Int)+(m:Int)*1).toNat=i+m:=by omega
  rw[this]
 rw[e]
 have:=pick_run h i k
 rw[dH]at this
 have e2:((λ x=>h[x]?) ∘ λ x=>i+x)=λ m=>h[i+m]?:=rfl
 rw[e2]at this
 rw[this]
theorem getItem_tuple_cut {t sl:Addr}{y:Array Value}{vl vu:Value}{G J:Option Int}{Q:Value->af->Prop}(Y:IsTup s.heap t y)(hs:s.heap.IsSliceOf sl vl vu .none)(pl:fH vl G)(pu:fH vu J)
  (hw:¬(sIx y.size 0 G=0/\sIx y.size y.size J=y.size))
  (h:Q (.ref s.heap.objs.size) { s with heap:=s.heap.push { cls:=.type "tuple",data:=.seq ((y.toList.drop (sIx y.size 0 G)).take (sIx y.size y.size J - sIx y.size 0 G)).toArray } })
  (hsz:y.size<=aI):wpAny (model prog w) A (gb (.ref t) (.ref sl)) Q E s:=by
 have C:sizeOk (.seq ((y.toList.drop (sIx y.size 0 G)).take (sIx y.size y.size J - sIx y.size 0 G)).toArray):=by
  show((y.toList.drop (sIx y.size 0 G)).take (sIx y.size y.size J - sIx y.size 0 G)).toArray.size<=aI
  rw[au,bz,fV,eO]
  omega
 have hj:sIx y.size y.size J<=y.size:=sIx_le _ _ (ah _) J
 obtain⟨os,a0,a1,a3⟩:=id hs
 have a2:s.TypeIs (.ref sl) "slice":=⟨os,a0,a1⟩
 unfold gb
 try with_reducible refine cY ?_
 first|refine aj (aE ?_)|skip
 refine aj (iT Y.typeIs (by decide) ?_)
 refine aj (cK (name:=cD "__getitem__") Y.typeIs br
  (dr br Y.typeIs hX ?_ (iC _ _)))
 show wpAny _ _ (di (.ref t) >>= _) _ _ s
 refine aj (ip Y ?_)
 refine aj (gd a2 ?_)
 rw[if_pos (by decide)]
 refine aj (sliceApplied_gen hs pl pu ?_)
 have Z:¬((((sIx y.size 0 G:Nat):Int)==0&&(1:Int)==1&&(sIx y.size y.size J - sIx y.size 0 G)==y.size)=true):=by
  intro q
  rw[aq,aq]at q
  have q1:((sIx y.size 0 G:Nat):Int)=0:=eq_of_beq q.1.1
  have q2:sIx y.size y.size J - sIx y.size 0 G=y.size:=eq_of_beq q.2
  exact hw ⟨by omega,by omega⟩
 show wpAny _ _ (if(((sIx y.size 0 G:Nat):Int)==0&&(1:Int)==1&&(sIx y.size y.size J - sIx y.size 0 G)==y.size)=true then _ else _) _ _ s
 rw[if_neg Z,pick_gen]
 first
  | exact aj (m:=cG _) (bH (aE ⟨_,rfl,aE h⟩) C)
  | exact aj (m:=cG _) (bH (aj (aE (aE ⟨_,rfl,aE h⟩))) C)
  | exact aj (aj (m:=cG _) (bH (aE (aE ⟨_,rfl,aE h⟩)) C))
  | exact aj (aj (m:=cG _) (bH (aE ⟨_,rfl,aE h⟩) C))
end
end HT
noncomputable section
namespace L2
open PySem PySem.Spec PyProof.Rows
noncomputable abbrev TO:=St->Hp->(Option Int->Hp->Prop)->Prop
noncomputable def PO (X:Cx)(e:Option Expr)(t:TO):Prop :=
 ∀(pins:List (Addr×Obj)) (s:af) (σ:St) (H:Hp) (Q:Option Int->Hp->Prop),Inv X pins σ H s->t σ H Q ->
  wpAny (model X.prog X.w) X.A (evalPart e X.env) (λ u s'=>∃ o H',Inv X pins σ H' s'/\fH u o/\Q o H') X.xe s
noncomputable def tNoPart:TO:=λ _ H Q=>Q none H
noncomputable def tPart (t:TE):TO:=λ σ H Q=>t σ H λ x H1=>∃ i,x=.int i/\Q (some i) H1
section
variable {X:Cx} {e:Expr} {te:TE} {lo hi:Option Expr} {tl th:TO} {pos p2:Pos}
theorem po_none:PO X none tNoPart:=by
 intro y s σ H Q I h
 rw[evalPart_none]
 exact aE ⟨none,H,I,.none,h⟩
theorem po_some (h:PE X e te):PO X (some e) (tPart te):=by
 intro y s σ H Q I hw
 rw[evalPart_some]
 refine thn (h y s σ H _ I hw) λ u s1 ⟨x,C,G,r1,J⟩=>?_
 obtain⟨i,rfl,q⟩:=J
 obtain⟨t,rfl⟩:=r1
 exact⟨some i,C,G,.int i t,q⟩
noncomputable def SlR (X:Cx)(r:V->Option Int->Option Int->Hp->VK->Prop):Prop :=
 ∀(pins:List (Addr×Obj)) (s:af) (σ:St) (H:Hp) (x:V) (v vl vu:Value) (lo hi:Option Int) (sl:Addr) (Q:VK),Inv X pins σ H s->RelV x v->s.heap.IsSliceOf sl vl vu .none->fH vl lo->fH vu hi->r x lo hi H Q ->
  ∃ T id,typeLookup (.type T) "__getitem__"=pure (some (.builtin id))/\s.TypeIs v T/\wpAny (model X.prog X.w) X.A (gb v (.ref sl)) (EP X pins σ Q) X.xe s
noncomputable def tSl (r:V->Option Int->Option Int->Hp->VK->Prop)(te:TE)(tl th:TO):TE:=λ σ H Q=>te σ H λ x H1=>tl σ H1 λ l H2=>th σ H2 λ u H3=>r x l u H3 Q
theorem pe_slice {r:V->Option Int->Option Int->Hp->VK->Prop}(J:SlR X r)(Y:PE X e te)(hl:PO X lo tl)(hu:PO X hi th):PE X (.Subscript e (.Slice lo hi none p2) pos) (tSl r te tl th):=by
 intro y s σ H Q I h
 refine Subscript_ (thn (Y y s σ H _ I h) λ v s1 ⟨x,H1,I1,r1,q1⟩=>?_)
 refine wpAny_Slice (thn (hl y s1 σ H1 _ I1 q1) λ vl s2 ⟨l,H2,I2,pl,q2⟩=>thn (hu y s2 σ H2 _ I2 q2) λ vu s3 ⟨u,C,I3,pu,q3⟩=>?_)
 rw[evalPart_none]
 refine aE ?_
 have I4:Inv X y σ C { s3 with heap:=s3.heap.push { cls:=.type "slice",data:=.fields #[vl,vu,.none] } }:=I3.kept (t':=s3.toks) λ b ob q=>ai _ q
 obtain⟨T,id,hT,G,Z⟩:=J y { s3 with heap:=s3.heap.push { cls:=.type "slice",data:=.fields #[vl,vu,.none] } } σ C x v vl vu l u s3.heap.objs.size Q I4 r1 (kI ..) pl pu q3
 show wpAny (model X.prog X.w) X.A (subscriptTail e (.Slice lo hi none p2) v (.ref s3.heap.objs.size)) (EP X y σ Q) X.xe { s3 with heap:=s3.heap.push { cls:=.type "slice",data:=.fields #[vl,vu,.none] } }
 exact tail_any (ops:=[.ref s3.heap.objs.size,v]) G hT Z (by with_unfolding_all rfl)
noncomputable def cutV (xs:List V)(lo hi:Option Int):List V:=(xs.drop (HT.sIx xs.length 0 lo)).take (HT.sIx xs.length xs.length hi - HT.sIx xs.length 0 lo)
theorem cutV_length (h:List V)(C y:Option Int):(cutV h C y).length<=h.length:=by
 unfold cutV
 rw[bz,fV]
 omega
noncomputable def rSlT (K:ab):V->Option Int->Option Int->Hp->VK->Prop:=λ x lo hi H Q=>∃ a xs,x=.ref a/\SqT K H a xs /\
 ¬(HT.sIx xs.length 0 lo=0/\HT.sIx xs.length xs.length hi=xs.length)/\∀ p,H p=none->Q (.ref p) (upd H p (.tup (cutV xs lo hi)))
theorem sl_tup:SlR X (rSlT X.K):=by
 intro Z s σ H x v vl vu G J sl Q I rx hs pl pu h
 obtain⟨a,C,rfl,hx,hw,q⟩:=h
 cases rx
 obtain⟨its,r,Y,hz⟩:=I.tuple hx
 have y:its.toArray.size=C.length:=by rw[au];exact r.length.symm
 refine⟨"tuple",_,br.lookup,Y.typeIs,?_⟩
 refine HT.getItem_tuple_cut Y hs pl pu (by rw[y];exact hw) ?_ (by rw[y];exact hz)
 rw[y]
 refine⟨.ref s.heap.objs.size,_,I.laid (t':=s.toks) (o:=.tup (cutV C G J)) (λ b ob q=>ai _ q) (ah _) ?_,rfl,q _ (I.hok.fresh (ah _))⟩
 exact⟨am (cutV_length C G J) hz,_,(r.drop (HT.sIx C.length 0 G)).take (HT.sIx C.length C.length J - HT.sIx C.length 0 G),i4 _ _⟩
noncomputable def rCatT (K:ab):R2:=λ x y H Q=>∃ a b xs ys,x=.ref a/\y=.ref b/\SqT K H a xs/\SqT K H b ys/\xs≠[]/\xs.length+ys.length<=aI /\
 (ys=[]->Q (.ref a) H)/\(ys≠[]->∀ p,H p=none->Q (.ref p) (upd H p (.tup (xs++ys))))
theorem Vals.nil_iff {h:List V}{us:List Value}(r:Vals h us):us=[]↔h=[]:=by
 cases r with
 | nil=>simp
 | cons _ _=>simp
theorem op_catT:OpR X (b7 .Add) (rCatT X.K):=by
 intro J s σ H x y v u Q I rx ry h
 obtain⟨a,b,Y,ys,rfl,rfl,ha,hb,hx,hz,q1,q2⟩:=h
 cases rx
 cases ry
 obtain⟨its,r1,Z,_⟩:=I.tuple ha
 obtain⟨G,C,p2,_⟩:=I.tuple hb
 refine HT.cat_tup Z p2 (λ z=>hx (r1.nil_iff.mp z)) (λ z=>⟨.ref a,H,I,rfl,q1 (C.nil_iff.mp z)⟩) (λ z=>?_) (by rw[<-r1.length,<-C.length];exact hz)
 refine⟨.ref s.heap.objs.size,_,I.laid (t':=s.toks) (o:=.tup (Y++ys)) (λ b ob q=>ai _ q) (ah _) ?_,rfl,q2 (λ w=>z (C.nil_iff.mpr w)) _ (I.hok.fresh (ah _))⟩
 exact⟨by rw[aR];exact hz,_,r1.append C,i4 _ _⟩
end
noncomputable def ixN (n:Nat)(i:Int):Option Nat:=if 0<=i then(if i<n then some i.toNat else none)else if -(n:Int)<=i then some (i+n).toNat else none
noncomputable def atI {α:Type}(xs:List α)(i:Int):Option α:=(ixN xs.length i).bind λ j=>xs[j]?
theorem ixN_seq {n:Nat}{i:Int}{j:Nat}(h:ixN n i=some j):seqIndex? i n=some j/\j<n/\-(n:Int)<=i/\i<n:=by
 unfold ixN at h
 by_cases h0:0<=i
 ·rw[if_pos h0]at h
  by_cases h1:i<n
  ·rw[if_pos h1]at h
   have e:i.toNat=j:=aw h
   exact⟨by rw[jI h0 h1,e],by omega,by omega,h1⟩
  ·rw[if_neg h1]at h;cases h
 ·rw[if_neg h0]at h
  by_cases h1:-(n:Int)<=i
  ·rw[if_pos h1]at h
   have e:(i+n).toNat=j:=aw h
   exact⟨by rw[iU (by omega) h1,e],by omega,h1,by omega⟩
  ·rw[if_neg h1]at h;cases h
theorem atI_get {α:Type}{y:List α}{i:Int}{v:α}(h:atI y i=some v):∃ j,seqIndex? i y.length=some j/\y[j]?=some v/\j<y.length/\-(y.length:Int)<=i/\i<y.length:=by
 unfold atI at h
 cases e:ixN y.length i with
 | none=>rw[e]at h;cases h
 | some j =>
  rw[e]at h
  obtain⟨G,C,h3,J⟩:=ixN_seq e
  exact⟨j,G,h,C,h3,J⟩
noncomputable def PlainIx (b:Expr):Prop:=∀ o i,subscripted b false o i=operate [o,i] (gb o i)
noncomputable def IxR (X:Cx)(r:R2):Prop :=
 ∀(value slice:Expr) (pins:List (Addr×Obj)) (s:af) (σ:St) (H:Hp) (x y:V) (v u:Value) (Q:VK),Inv X pins σ H s->RelV x v->RelV y u->r x y H Q ->
  subscripted slice false v u=operate [v,u] (gb v u)->wpAny (model X.prog X.w) X.A (subscriptTail value slice v u) (EP X pins σ Q) X.xe s
noncomputable def MtR (X:Cx)(id:String)(r:V->List V->Hp->VK->Prop):Prop :=
 ∀(pins:List (Addr×Obj)) (s:af) (σ:St) (H:Hp) (x:V) (xs:List V) (v:Value) (us:List Value) (Q:VK),Inv X pins σ H s->RelV x v->Vals xs us->r x xs H Q ->
  wpAny (model X.prog X.w) X.A (call (.builtin id) (v::us)) (EP X pins σ Q) X.xe s
section
variable {X:Cx} {a b:Expr} {ta tb:TE} {pos:Pos}
theorem pe_ix {r:R2}(Y:IxR X r)(ha:PE X a ta)(hb:PE X b tb)(hs:PlainIx b):PE X (.Subscript a b pos) (tOp r ta tb):=by
 intro C s σ H Q I h
 exact Subscript_ (binT ha hb I h λ v u s2 x y H2 I2 J G q=>Y a b C s2 σ H2 x y v u Q I2 J G q (hs _ _))
noncomputable def rIxL (K:ab):R2:=λ x y H Q=>∃ p xs i v,x=.ref p/\y=.int i/\SqL K H p xs/\atI xs i=some v/\Q v H
noncomputable def rIxT (K:ab):R2:=λ x y H Q=>∃ p xs i v,x=.ref p/\y=.int i/\SqT K H p xs/\atI xs i=some v/\Q v H
noncomputable def rIxS:R2:=λ x y H Q=>∃ z i c,x=.str z/\y=.int i/\z.length<=aI/\atI z.cps.toList i=some c/\Q (.str ⟨#[c]⟩) H
theorem ix_list:IxR X (rIxL X.K):=by
 intro Z Y C s σ H x y v u Q I rx ry h hs
 obtain⟨p,xs,i,z,rfl,rfl,hq,he,q⟩:=h
 cases rx
 obtain⟨t,rfl⟩:=ry
 obtain⟨its,r,pl,hz⟩:=I.list hq
 obtain⟨j,G,h2,h3,h4,h5⟩:=atI_get he
 obtain⟨w,ew,J⟩:=r.get h2
 have hl:=r.length
 have hn:=line63
 have fin:EP X C σ Q w s:=⟨z,H,I,J,q⟩
 by_cases h0:0<=i
 ·have hj:i.toNat=j:=by
   rw[jI h0 h5]at G
   exact aw G
  exact item_listR pl.isList h0 (by omega) (by rw[hj];simpa using ew) fin hs
 ·have hj:(i+(its.toArray.size:Int)).toNat=j:=by
   rw[iU (by omega) h4]at G
   rw[au,<-hl]
   exact aw G
  exact gf (x:=w) pl.isList.typeIs iV.lookup
   (wpAny_getItem_list_neg (Q:=λ r s'=>r=w/\EP X C σ Q r s') pl.isList (by omega) (by rw[au]<;>omega) (by omega) (by rw[hj];simpa using ew) ⟨rfl,fin⟩) hs
theorem ix_tup:IxR X (rIxT X.K):=by
 intro Y J C s σ H x y v u Q I rx ry h hs
 obtain⟨p,xs,i,z,rfl,rfl,hq,he,q⟩:=h
 cases rx
 obtain⟨t,rfl⟩:=ry
 obtain⟨its,r,Z,hz⟩:=I.tuple hq
 obtain⟨j,h1,h2,h3,h4,h5⟩:=atI_get he
 obtain⟨w,ew,G⟩:=r.get h2
 have hl:=r.length
 have hn:=line63
 have fin:EP X C σ Q w s:=⟨z,H,I,G,q⟩
 exact gf (x:=w) Z.typeIs br.lookup
  (getItem_tuple (j:=j) (Q:=λ r s'=>r=w/\EP X C σ Q r s') Z (by omega) (by omega) (by rw[au,<-hl];exact h1) (by simpa using ew) ⟨rfl,fin⟩) hs
theorem ix_str:IxR X rIxS:=by
 intro G C Y s σ H x y v u Q I rx ry h hs
 obtain⟨z,i,c,rfl,rfl,hz,Z,q⟩:=h
 obtain⟨t,rfl⟩:=rx
 obtain⟨t',rfl⟩:=ry
 obtain⟨j,J,h2,h3,h4,h5⟩:=atI_get Z
 have hl:z.cps.toList.length=z.length:=by simp[Str.length]
 rw[hl]at J h4 h5
 have hn:=line63
 exact tail_any (jZ s z t) slot_str_getitem.lookup (getItem_str (c:=c) (by
  have e1:decide (i < -(2^63:Int))=false:=decide_eq_false (by omega)
  have e2:decide (i ≥ 2^63)=false:=decide_eq_false (by omega)
  rw[e1,e2,Bool.or_false]) (by rw[J];simpa using h2) ⟨.str ⟨#[c]⟩,H,I.tok _,⟨_,rfl⟩,q⟩) hs
theorem mapSeq_set (its:List Value)(n j:Nat)(u:Value):gh (·.setIfInBounds j u) { cls:=.type "list",data:=.seq its.toArray n }={ cls:=.type "list",data:=.seq (its.set j u).toArray n }:=by
 simp[gh]
theorem Inv.lst {y:List (Addr×Obj)}{σ:St}{H:Hp}{s:af}{p:Addr}{C:List V}(I:Inv X y σ H s)(h:H p=some (.lst C)) :
  ∃(its:List Value) (n:Nat),Vals C its/\s.heap.get? p=some { cls:=.type "list",data:=.seq its.toArray n }/\C.length<=aI:=by
 obtain⟨z,its,n,r,e⟩:=I.hok p _ h
 exact⟨its,n,r,e,z⟩
theorem Inv.lstUpd {y:List (Addr×Obj)}{σ:St}{H:Hp}{s:af}{p:Addr}{J ys:List V}{its its':List Value}{n C:Nat}{f:Obj->Obj}(I:Inv X y σ H s)(h:H p=some (.lst J))
  (ho:s.heap.get? p=some { cls:=.type "list",data:=.seq its.toArray n }) (G:f { cls:=.type "list",data:=.seq its.toArray n }={ cls:=.type "list",data:=.seq its'.toArray C }) (r:Vals ys its') (hz:ys.length<=aI) (t:Nat) :
  Inv X y σ (upd H p (.lst ys)) { s with heap:=s.heap.update p f,toks:=t }:=by
 have e:(s.heap.update p f).get? p=some { cls:=.type "list",data:=.seq its'.toArray C }:=by
  rw[c7 f ho (by rw[G]<;>rfl),G]
 refine I.write (x:=p) (e:=p) (by rw[h];trivial) (.inl rfl) (λ b u hb q=>(bP _ _ (bT hb)).trans q) ⟨_,e⟩ ?_
 exact⟨hz,its',C,r,e⟩
noncomputable def rSetL:V->V->V->Hp->(Hp->Prop)->Prop:=λ o i v H Q=>∃ p xs k j,o=.ref p/\i=.int k/\H p=some (.lst xs)/\ixN xs.length k=some j/\Q (upd H p (.lst (xs.set j v)))
theorem set_list:PSet X rSetL:=by
 intro y s σ H o i v ov iv u Q I ro ri rv h
 obtain⟨p,Z,k,j,rfl,rfl,G,hj,q⟩:=h
 cases ro
 obtain⟨t,rfl⟩:=ri
 obtain⟨its,n,r,ho,hz⟩:=I.lst G
 obtain⟨C,h2,h3,Y⟩:=ixN_seq hj
 have hl:=r.length
 have hn:=line63
 have J:Inv X y σ (upd H p (.lst (Z.set j v))) { s with heap:=s.heap.update p (gh (·.setIfInBounds j u)) } :=
  I.lstUpd G ho (mapSeq_set its n j u) (r.set rv j) (by rw[bA];exact hz) s.toks
 by_cases h0:0<=k
 ·have hk:k.toNat=j:=by
   rw[jI h0 Y]at C
   exact aw C
  exact PySem.W.ki_setAt ho h0 (by omega) (by rw[au,<-hl];exact Y) (by rw[hk];exact⟨_,J,q⟩)
 ·have hk:(k+(its.toArray.size:Int)).toNat=j:=by
   rw[iU (by omega) h3]at C
   rw[au,<-hl]
   exact aw C
  exact PySem.W.ki_setBack ho (by omega) (by rw[au,<-hl];exact h3) (by omega) (by rw[hk];exact⟨_,J,q⟩)
theorem slice_bounds (C y:Option Int)(n:Nat):(dN C y none n).1=((HT.sIx n 0 C:Nat):Int)/\(dN C y none n).2.1=((HT.sIx n n y:Nat):Int)/\(dN C y none n).2.2=1:=by
 refine⟨?_,?_,rfl⟩
 ·cases C with
  | none=>simp[dN,HT.sIx]
  | some i =>
   simp only[dN,HT.sIx,i5,show(1:Int) > 0 by decide,if_true]
   by_cases h:i<0
   ·simp only[h,if_true]<;>omega
   ·simp only[h,if_false]<;>omega
 ·cases y with
  | none=>simp[dN,HT.sIx]
  | some i =>
   simp only[dN,HT.sIx,i5,show(1:Int) > 0 by decide,if_true]
   by_cases h:i<0
   ·simp only[h,if_true]<;>omega
   ·simp only[h,if_false]<;>omega
theorem slicePick_cut (its:List Value)(h y:Option Int):slicePick its.toArray h y none=((its.drop (HT.sIx its.length 0 h)).take (HT.sIx its.length its.length y - HT.sIx its.length 0 h)).toArray:=by
 obtain⟨C,G,h3⟩:=slice_bounds h y its.toArray.size
 unfold slicePick
 rw[C,G,h3]
 simp only[sliceRange_one,pick_run,au]<;>rfl
noncomputable def rSlL (K:ab):V->Option Int->Option Int->Hp->VK->Prop:=λ x lo hi H Q=>∃ a xs,x=.ref a/\SqL K H a xs/\∀ p,H p=none->Q (.ref p) (upd H p (.lst (cutV xs lo hi)))
theorem sl_list:SlR X (rSlL X.K):=by
 intro Z s σ H x v vl vu G J sl Q I rx hs pl pu h
 obtain⟨a,y,rfl,hx,q⟩:=h
 cases rx
 obtain⟨its,r,Y,hz⟩:=I.list hx
 have C:=r.length
 refine⟨"list",_,iV.lookup,Y.isList.typeIs,?_⟩
 refine wpAny_getItem_list_slice Y.isList hs pl pu .none (by simp) ?_ (by rw[au]<;>omega)
 rw[slicePick_cut,<-C]
 refine⟨.ref s.heap.objs.size,_,I.laid (t':=s.toks) (o:=.lst (cutV y G J)) (λ b ob q=>ai _ q) (ah _) ?_,rfl,q _ (I.hok.fresh (ah _))⟩
 exact⟨am (cutV_length y G J) hz,_,0,(r.drop (HT.sIx y.length 0 G)).take (HT.sIx y.length y.length J - HT.sIx y.length 0 G),aO _ rfl⟩
theorem call_len_seq:CallR X (.builtin "len") (λ Y H Q=>∃ p ys,Y=[.ref p]/\(SqL X.K H p ys\/SqT X.K H p ys)/\Q (.int ys.length) H):=by
 intro J s σ H Y us Q I r h
 obtain⟨p,ys,rfl,hq,q⟩:=h
 obtain⟨u,rfl,Z⟩:=vals1 r
 cases Z
 have hn:=line63
 rcases hq with hq|hq
 ·obtain⟨its,G,C,hz⟩:=I.list hq
  have y:=G.length
  exact Calls.call_len_list C.isList (by simp only[au]<;>omega) ⟨.int ys.length,H,I.tok _,⟨s.toks+1,by rw[au,y]⟩,q⟩
 ·obtain⟨its,G,C,hz⟩:=I.tuple hq
  have y:=G.length
  exact len_tuple C (by simp only[au]<;>omega) ⟨.int ys.length,H,I.tok _,⟨s.toks+1,by rw[au,y]⟩,q⟩
theorem call_len_str:CallR X (.builtin "len") (λ C H Q=>∃ z,C=[.str z]/\z.length<=aI/\Q (.int z.length) H):=by
 intro y s σ H C us Q I r h
 obtain⟨z,rfl,hz,q⟩:=h
 obtain⟨u,rfl,t,rfl⟩:=vals1 r
 have hn:=line63
 exact len_str (by omega) ⟨.int z.length,H,I.tok _,⟨_,rfl⟩,q⟩
theorem CallR.or {f:Value}{r G:List V->Hp->VK->Prop}(h:CallR X f r)(h':CallR X f G):CallR X f (λ C H Q=>r C H Q\/G C H Q):=by
 intro y s σ H C us Q I J q
 rcases q with q|q
 ·exact h y s σ H C us Q I J q
 ·exact h' y s σ H C us Q I J q
theorem call_list_of:CallR X (.type "list") (λ Z H Q=>∃ p ys,Z=[.ref p]/\(SqL X.K H p ys\/SqT X.K H p ys)/\∀ l,H l=none->Q (.ref l) (upd H l (.lst ys))):=by
 intro G s σ H Z us Q I r h
 obtain⟨p,ys,rfl,hq,q⟩:=h
 obtain⟨u,rfl,rx⟩:=vals1 r
 cases rx
 have fin:∀(its:List Value),Vals ys its->ys.length<=aI->∀(h':Heap) (y:Nat),(∀ b o',s.heap.get? b=some o'->h'.get? b=some o') ->
   h'.get? s.heap.objs.size=some { cls:=.type "list",dict:=none,data:=.seq its.toArray y,slots:=#[] }->EP X G σ Q (.ref s.heap.objs.size) { s with heap:=h' }:=λ its C hz h' y kp e =>
  ⟨.ref s.heap.objs.size,_,I.laid (t':=s.toks) kp (ah _) (show ObjOk X.prog X.w _ h' _ (.lst ys)from⟨hz,its,y,C,e⟩),rfl,q _ (I.hok.fresh (ah _))⟩
 rcases hq with hq|hq
 ·obtain⟨its,C,Y,hz⟩:=I.list hq
  have J:=C.length
  obtain⟨o,ho,hc,n,hd⟩:=Y.isList
  exact call_list_seq p (.inl rfl) ho hc hd (λ h' y kp e=>fin its C hz h' y kp e) (by simp only[au]<;>omega)
 ·obtain⟨its,C,Y,hz⟩:=I.tuple hq
  have J:=C.length
  obtain⟨o,ho,hc,n,hd⟩:=Y
  exact call_list_seq p (.inr rfl) ho hc hd (λ h' y kp e=>fin its C hz h' y kp e) (by simp only[au]<;>omega)
theorem call_tuple_of:CallR X (.type "tuple") (λ J H Q=>∃ p ys,J=[.ref p]/\((SqL X.K H p ys/\∀ l,H l=none->Q (.ref l) (upd H l (.tup ys)))\/(SqT X.K H p ys/\Q (.ref p) H))):=by
 intro y s σ H J us Q I r h
 obtain⟨p,ys,rfl,h⟩:=h
 obtain⟨u,rfl,rx⟩:=vals1 r
 cases rx
 rcases h with⟨hq,q⟩|⟨hq,q⟩
 ·obtain⟨its,C,G,hz⟩:=I.list hq
  have Z:=C.length
  refine call_tuple_list G.isList (λ h' kp=>?_) (by simp only[au]<;>omega)
  have Y:Inv X y σ H { s with heap:=h' }:=I.kept (t':=s.toks) kp
  have I2:Inv X y σ (upd H h'.objs.size (.tup ys)) { s with heap:=h'.push { cls:=.type "tuple",data:=.seq its.toArray } } :=
   Y.laid (t':=s.toks) (λ b o e=>ai _ e) (ah _) (show ObjOk X.prog X.w _ _ _ (.tup ys)from⟨hz,its,C,i4 _ _⟩)
  exact⟨.ref h'.objs.size,_,I2,rfl,q _ (Y.hok.fresh (ah _))⟩
 ·obtain⟨its,C,G,hz⟩:=I.tuple hq
  exact call_tuple_same G ⟨.ref p,H,I,rfl,q⟩
noncomputable def tyV (K:ab)(T:String)(x:V)(H:Hp):Prop:=match x with
 | .str _=>T = "str"
 | .int _=>T = "int"
 | .ref p=>(T = "list"/\∃ xs,SqL K H p xs)\/(T = "tuple"/\∃ o,K.lookup p=some o/\o.cls=.type "tuple"/\o.dict=none) \/
   (T = "dict"/\((∃ kvs,H p=some (.dK kvs))\/∃ kvs,H p=some (.dT kvs)))\/(T = "set"/\∃ S n,H p=some (.set S n))
 | _=>False
theorem tyV_is {h:List (Addr×Obj)}{σ:St}{H:Hp}{s:af}{T:String}{x:V}{v:Value}(I:Inv X h σ H s)(r:RelV x v)(y:tyV X.K T x H) :
  s.TypeIs v T/\∀ a,v=.ref a->∃ ob,s.heap.get? a=some ob/\ob.dict=none:=by
 cases x with
 | str z =>
  obtain⟨t,rfl⟩:=r
  cases(show T = "str" from y)
  exact⟨jZ s z t,λ _ e=>nomatch e⟩
 | int i =>
  obtain⟨t,rfl⟩:=r
  cases(show T = "int" from y)
  exact⟨gi s i t,λ _ e=>nomatch e⟩
 | ref p =>
  cases r
  rcases y with⟨rfl,J,hq⟩|⟨rfl,o,hk,hc,hd⟩|⟨rfl,hk⟩|⟨rfl,S,n,hk⟩
  ·obtain⟨its,_,G,_⟩:=I.list hq
   refine⟨G.isList.typeIs,λ a e=>?_⟩
   cases e
   obtain⟨o,n,e,c,hd,_⟩:=G
   exact⟨o,e,hd⟩
  ·refine⟨⟨o,I.kIn p o hk,hc⟩,λ a e=>?_⟩
   cases e
   exact⟨o,I.kIn _ o hk,hd⟩
  ·have z:∃ o,s.heap.get? p=some o/\o.ExactDict:=by
    rcases hk with⟨C,hk⟩|⟨C,hk⟩
    ·obtain⟨_,_,_,_,o,_,_,e,ex,_⟩:=I.hok p _ hk
     exact⟨o,e,ex⟩
    ·obtain⟨_,_,_,_,o,_,_,e,ex,_⟩:=I.hok p _ hk
     exact⟨o,e,ex⟩
   obtain⟨o,e,ex⟩:=z
   refine⟨⟨o,e,ex.1⟩,λ a e2=>?_⟩
   cases e2
   exact⟨o,e,ex.2.1⟩
  ·obtain⟨o,_,_,_,e,ex,_⟩:=I.hok p _ hk
   refine⟨⟨o,e,ex.1⟩,λ a e2=>?_⟩
   cases e2
   exact⟨o,e,ex.2.1⟩
 | _=>exact bF y
noncomputable def tBM0 (K:ab)(T:String)(r:V->List V->Hp->VK->Prop)(to:TE):TE:=λ σ H Q=>to σ H λ x H1=>tyV K T x H1/\r x [] H1 Q
noncomputable def tBM (K:ab)(T:String)(r:V->List V->Hp->VK->Prop)(to:TE)(t:TA):TE:=λ σ H Q=>to σ H λ x H1=>tyV K T x H1/\t σ H1 λ xs H2=>r x xs H2 Q
variable {o e:Expr} {es:List Expr} {to:TE} {t:TA} {name:Str} {apos cpos:Pos} {T id:String} {r:V->List V->Hp->VK->Prop}
theorem pe_bm0 (pa:j0 T)(slot:Slot T name id)(J:typeOf (.builtin id)=pure (.type "method_descriptor"))(hm:MtR X id r)(ho:PE X o to)
  (G:fI o name X.env (eval o X.env)=eval o X.env:=by rfl) (C:(apos.endLine==cpos.line)=true:=by rfl):PE X (.Call (.Attribute o name apos) [] [] cpos) (tBM0 X.K T r to):=by
 intro y s σ H Q I h
 refine wpAny_Call_method0_late G C (thn (ho y s σ H _ I h) λ v s1 ⟨x,H1,Y,r1,ty,q1⟩=>?_)
 obtain⟨Z,h2⟩:=tyV_is Y r1 ty
 exact⟨T,id,pa,slot,J,Z,h2,gj rfl (PySem.evalArgs_none (hm y s1 σ H1 x [] v [] Q Y r1 .nil q1))⟩
theorem pe_bm (pa:j0 T)(slot:Slot T name id)(Z:typeOf (.builtin id)=pure (.type "method_descriptor"))(hm:MtR X id r)(ho:PE X o to)(ha:PA X (e::es) t)
  (J:fI o name X.env (eval o X.env)=eval o X.env:=by rfl)
  (Y:((dU cpos (bo (e::es) X.env)).all (λ x=>!x.1)&&(backToKw cpos (keywordEach [] X.env)).all (λ x=>x.1.isSome)
   && decide ((e::es).length+([]:List jV).length+(if([]:List jV).isEmpty then 0 else 1)<30))=true:=by rfl)
  (G:(apos.endLine==cpos.line)=true:=by rfl) (hs:bo (e::es) X.env=(false,eval e X.env)::bo es X.env:=by rfl) (C:(dU cpos (bo es X.env)).any (·.1)=false:=by rfl) :
  PE X (.Call (.Attribute o name apos) (e::es) [] cpos) (tBM X.K T r to t):=by
 intro y s σ H Q I h
 refine wpAny_Call_method_late J Y G rfl (thn (ho y s σ H _ I h) λ v s1 ⟨x,H1,I1,r1,ty,q1⟩=>?_)
 obtain⟨h1,h2⟩:=tyV_is I1 r1 ty
 refine⟨T,id,pa,slot,Z,h1,h2,?_⟩
 have hA:=ha cpos y s1 σ H1 _ I1 q1
 rw[hs]at hA ⊢
 refine gj (by show(false||(dU cpos (bo es X.env)).any (·.1))=false;rw[C]<;>rfl) (Calls.evalArgs_plain ?_)
 exact thn hA λ us s2 ⟨vs,H2,I2,r2,q2⟩=>hm y s2 σ H2 x vs v us Q I2 r1 r2 q2
end
noncomputable def MtM (X:Cx)(id:String)(r:V->List V->Hp->VK->Prop):Prop :=
 ∀(pins:List (Addr×Obj)) (s:af) (σ:St) (H:Hp) (x:V) (xs:List V) (v:Value) (us:List Value) (Q:VK),Inv X pins σ H s->RelV x v->Vals xs us->r x xs H Q ->
  wpAny (model X.prog X.w) X.A (call (.builtin id) (v::us)) (EP X pins σ Q) X.xe s
theorem Vals.one:∀ {x:V} {us:List Value},Vals [x] us->∃ u,us=[u]/\RelV x u
 | _,_,.cons r .nil=>⟨_,rfl,r⟩
theorem Vals.zero:∀ {us:List Value},Vals [] us->us=[]
 | _,.nil=>rfl
theorem Vals.dropLast {y:List V}{us:List Value}(h:Vals y us):Vals y.dropLast us.dropLast:=by
 induction h with
 | nil=>exact .nil
 | cons r t ih =>
  cases t with
  | nil=>exact .nil
  | cons q t'=>exact .cons r ih
theorem Vals.reverse {y:List V}{us:List Value}(h:Vals y us):Vals y.reverse us.reverse:=by
 induction h with
 | nil=>exact .nil
 | cons r t ih=>rw[dX,dX];exact Vals.append ih (.cons r .nil)
theorem Vals.rep {y:List V}{us:List Value}(h:Vals y us):∀ k:Nat,Vals (ao k y).flatten (ao k us).flatten
 | 0=>.nil
 | k+1=>by
  rw[bM,bM,dg,dg]
  exact Vals.append h (Vals.rep h k)
theorem foldl_rep (its:List Value):∀(k:Nat) (h:List Value),
  j1 (λ x1 y=>x1++y) h.toArray (ao k its.toArray)=(h++(ao k its).flatten).toArray
 | 0,h=>by simp
 | k+1,h=>by
  have e:h.toArray++its.toArray=(h++its).toArray:=by simp
  have e2:(h++its)++(ao k its).flatten=h++(ao (k+1) its).flatten:=by
   rw[bM,dg,fv]
  rw[<-e2,<-foldl_rep its k (h++its),<-e,bM,ci]
section
variable {X:Cx} {pins:List (Addr×Obj)} {σ:St} {H:Hp} {s:af} {l b:Addr} {xs ys zs:List V}
theorem Inv.lset {its its':List Value}{n:Nat}{f:Array Value->Array Value}{t':Nat}(I:Inv X pins σ H s)(h:H l=some (.lst xs))
  (e:s.heap.get? l=some { cls:=.type "list",data:=.seq its.toArray n }) (y:f its.toArray=its'.toArray) (hv:Vals ys its') (hz:ys.length<=aI) :
  Inv X pins σ (upd H l (.lst ys)) { s with heap:=s.heap.update l (gh f),toks:=t' }:=by
 have q:=PySem.IsL.update e f
 rw[y]at q
 refine I.write (x:=l) (e:=l) (by rw[h];exact trivial) (.inl rfl) (λ G u hb C=>(bP s.heap (gh f) (bT hb)).trans C) ⟨_,q⟩ ?_
 exact⟨hz,its',_,hv,q⟩
theorem Inv.lnew {its:List Value}{t':Nat}(I:Inv X pins σ H s)(hv:Vals ys its)(hz:ys.length<=aI) :
  Inv X pins σ (upd H s.heap.objs.size (.lst ys)) { s with heap:=s.heap.push { cls:=.type "list",data:=.seq its.toArray },toks:=t' } :=
 I.laid (λ _ _ q=>ai _ q) (ah _) ⟨hz,its,0,hv,aO _ rfl⟩
theorem Inv.fresh (I:Inv X pins σ H s):H s.heap.objs.size=none:=I.hok.fresh (ah _)
theorem Inv.lstM (I:Inv X pins σ H s)(h:H l=some (.lst xs)):xs.length<=aI/\∃(its:List Value) (n:Nat),Vals xs its/\xs.length=its.length/\s.heap.get? l=some { cls:=.type "list",data:=.seq its.toArray n }:=by
 obtain⟨z,its,n,r,e⟩:=I.hok l _ h
 exact⟨z,its,n,r,r.length,e⟩
theorem notLongL {n:Nat}(h:n<=aI):cH n=false:=by
 unfold cH
 exact decide_eq_false (by omega)
end
section
variable {X:Cx}
noncomputable def rAppend:V->List V->Hp->VK->Prop:=λ x vs H Q=>∃ l xs y,x=.ref l/\vs=[y]/\H l=some (.lst xs)/\xs.length<aI/\Q .non (upd H l (.lst (xs++[y])))
theorem mt_append:MtM X "list.append" rAppend:=by
 intro G s σ H x vs v us Q I Z Y h
 obtain⟨l,xs,y,rfl,rfl,C,hz,q⟩:=h
 cases Z
 obtain⟨u,rfl,J⟩:=Y.one
 obtain⟨z,its,n,r,hl,e⟩:=I.lstM C
 refine gk gK ⟨_,e,rfl⟩ F.entry_list_append (F.args_list_append_2 _ _) (PySem.list_append l its.toArray n u (by rw[au];omega)) ⟨e,?_⟩
 refine⟨.non,_,I.lset (its':=its++[u]) C e (by simp) (r.append (.cons J .nil)) ?_,rfl,q⟩
 rw[aR,c8]
 omega
noncomputable def rExtend:V->List V->Hp->VK->Prop:=λ x vs H Q=>∃ l b xs zs,x=.ref l/\vs=[.ref b]/\H l=some (.lst xs)/\H b=some (.lst zs)/\xs.length+zs.length<=aI/\Q .non (upd H l (.lst (xs++zs)))
theorem mt_extend:MtM X "list.extend" rExtend:=by
 intro J s σ H x vs v us Q I rx rv h
 obtain⟨l,b,xs,zs,rfl,rfl,G,hB,hz,q⟩:=h
 cases rx
 obtain⟨u,rfl,Z⟩:=rv.one
 cases Z
 obtain⟨z,its,n,r,hl,e⟩:=I.lstM G
 obtain⟨z2,y,n2,Y,hl2,e2⟩:=I.lstM hB
 have hsz:its.toArray.size+y.toArray.size<=aI:=by rw[au,au];omega
 have C:¬(!its.toArray.isEmpty&&cH (its.toArray.size+y.toArray.size))=true:=by
  rw[notLongL hsz,Bool.and_false]
  exact aQ
 refine gk gL ⟨_,e,rfl⟩ F.entry_list_extend (F.args_list_extend_2 _ _)
  (AutoSeq1.list_extend_list_list_0 l its.toArray n b y.toArray n2 C (by rw[au];omega) (by omega)) ⟨e,e2,?_⟩
 refine⟨.non,_,I.lset (its':=its++y) G e (by simp) (r.append Y) ?_,rfl,q⟩
 rw[aR]
 omega
noncomputable def rCat:R2:=λ x y H Q=>∃ l b xs zs,x=.ref l/\y=.ref b/\H l=some (.lst xs)/\H b=some (.lst zs)/\xs.length+zs.length<=aI/\∀ p,H p=none->Q (.ref p) (upd H p (.lst (xs++zs)))
theorem op_cat:OpR X (b7 .Add) rCat:=by
 intro G s σ H x y v u Q I rx ry h
 obtain⟨l,b,xs,zs,rfl,rfl,J,hB,hz,q⟩:=h
 cases rx
 cases ry
 obtain⟨z,its,n,r,hl,e⟩:=I.lstM J
 obtain⟨z2,C,n2,Z,hl2,e2⟩:=I.lstM hB
 refine PySem.P.add_list e e2 ?_ (by rw[au,au];omega)
 have Y:its.toArray++C.toArray=(its++C).toArray:=by simp
 rw[Y]
 exact⟨.ref _,_,I.lnew (t':=s.toks) (r.append Z) (by rw[aR];omega),rfl,q _ I.fresh⟩
noncomputable def rRep:R2:=λ x y H Q=>∃ l k xs,x=.ref l/\y=.int k/\H l=some (.lst xs)/\-(2^63)<=k/\k<2^63/\xs.length*k.toNat<=aI /\
 ∀ p,H p=none->Q (.ref p) (upd H p (.lst (ao k.toNat xs).flatten))
theorem len_rep {α:Type}(h:List α)(k:Nat):(ao k h).flatten.length=k*h.length:=by
 induction k with
 | zero=>simp
 | succ k ih=>rw[bM,dg,aR,ih,Nat.succ_mul,gm]
theorem op_rep:OpR X (b7 .Mult) rRep:=by
 intro a0 s σ H x y v u Q I rx ry h
 obtain⟨l,k,xs,rfl,rfl,hH,h1,h2,hz,q⟩:=h
 cases rx
 obtain⟨t,rfl⟩:=ry
 obtain⟨z,its,n,r,hl,e⟩:=I.lstM hH
 have J:its.toArray.size*k.toNat<=aI:=by rw[au,<-hl];exact hz
 have Z:¬ its.toArray.size*k.toNat > (2^63 - 1) / 8:=by
  have:(aI:Nat)<=(2^63 - 1) / 8:=by decide
  omega
 have Y:¬(!Builtin.List.listFitsIndex k)=true:=by
  rw[fitsIndex_both h1 h2]
  exact aQ
 have C:¬ cH (its.toArray.size*k.toNat)=true:=by
  rw[notLongL J]
  exact aQ
 have G:j1 (λ x1 x2=>x1++x2) #[] (ao (if its.toArray.isEmpty=true then 0 else k.toNat) its.toArray)=(ao k.toNat its).flatten.toArray:=by
  have f0:∀ m:Nat,j1 (λ x1 x2=>x1++x2) #[] (ao m its.toArray)=(ao m its).flatten.toArray:=λ m=>by
   have:=foldl_rep its m []
   rw[gC]at this
   exact this
  rw[f0]
  cases its with
  | nil=>simp
  | cons a r'=>rw[if_neg (by simp)]
 refine fe (T := "list") (U := "int") (by decide) ⟨_,e,rfl⟩ (λ s'=>gi s' k t) noFill_list_mul iD dI repeat_list hZ.lookup
  (gk dI (gi s k t) ib (gR _ _) (int___rmul___int_list k t l its.toArray n)
   ⟨e,rfl,⟨_,e,rfl⟩,gk F.slot_list_mul ⟨_,e,rfl⟩ F.entry_list_mul (F.args_list_mul_2 _ _) (AutoListH.list___mul___list_int_3 l its.toArray n k t Y Z C) ⟨e,?_⟩⟩)
 rw[G]
 exact⟨.ref _,_,I.lnew (t':=s.toks) (r.rep k.toNat) (by rw[len_rep,iW];exact hz),rfl,q _ I.fresh⟩
end
section
variable {prog:aM} {w:World} {A:aV} {E:Value->af->Prop} {s:af}
end
section
variable {X:Cx}
end
end L2
end
noncomputable section
namespace Att
open PySem PySem.W PySem.Calls PyProof.Rows
theorem ints_of_wellAll {P:Params}{h:Heap}:∀(ns:List Int) (vs:List Value),WellAll P h vs (ns.map WData.int)->jW vs ns:=by
 intro ns
 induction ns with
 | nil =>
  intro vs w
  rw[cq]at w
  cases w
  exact .nil
 | cons n ns ih =>
  intro vs w
  rw[aN]at w
  cases w with
  | cons a b =>
   cases a
   exact .cons _ _ (ih _ b)
theorem script_of {l:OpenLaw}{n:Nat}(hn:l.most=some n){P:Params}{h:Heap}{args:List WData}{C:List Value}
  (y:l.row.toRowW.claim.pre args=true) (Z:WellAll P h C args) :
  ∃ a vs ns,C=[Value.ref a]/\args=[WData.list (ns.map WData.int)]/\h.get? a=some { cls:=.type "list",data:=.seq vs.toArray }/\jW vs ns/\ns.length<=n:=by
 have a0:WShape.hasAll [] args [.list .int]=true:=(pre_splitW y).1
 have hc:l.pre.holds [] { args:=args }=true:=(pre_splitW y).2
 obtain⟨d,r,rfl,h1,h2⟩:=hasAllW_cons a0
 obtain rfl:=hasAllW_nil h2
 obtain⟨xs,rfl,h3⟩:=hasW_list h1
 obtain⟨ns,rfl⟩:=items_int h3
 have G:ns.length<=n:=by
  unfold OpenLaw.pre at hc
  have Y:(WTm.not (.lt (.lit (.int (n:Int))) (.len (.arg 0)))).holds [] { args:=[.list (ns.map .int)] }=true:=by
   have Y:=(holds_andW hc).1
   rw[hn]at Y
   exact Y
  have J:=condW_of Y (w_not (w_lt w_lit (w_len_list (w_arg rfl))))
  rw[az]at J
  refine i6 λ q=>?_
  have q':(n:Int)<((ns.length:Nat):Int):=by omega
  first
   | (rw[decide_eq_true q']at J;exact absurd J (by decide))
   | (simp at J;omega)
 cases Z with
 | cons w1 w2 =>
  cases w2
  cases w1 with
  | list ho hall=>exact⟨_,_,ns,rfl,rfl,ho,ints_of_wellAll ns _ hall,G⟩
theorem post_true (l:OpenLaw)(args:List WData):l.row.toRowW.claim.post args (.bool true) args=true :=
 postW_of (r:=l.row.toRowW) (X:=(true==true))
  (show WShape.has [] (.bool true) .bool=true by first|rfl|decide|simp[WShape.has,WShape.arms,WShape.armsAll])
  (show(WTm.eq .res (.lit (.bool true))).value [] { args:=args,res:=some (.bool true),after:=args }=some (.bool (true==true))from w_eq_bool (w_res rfl) w_lit) rfl
theorem attach_call {l:OpenLaw}{n:Nat}{q:aM}{loose:List Str}{XP:(Str->Option Value)->Heap->Prop}{YP:World->Heap->Prop}{d:DefRec}
  (hn:l.most=some n) (a2:d.params.defaults=[])
  (call:∀(w:World) (s₀ h:af) (mg mb:Str->Option Value) (fa:Addr) (o:Obj) (pm cd y:Value) (a:Addr) (vs:List Value) (ns:List Int),
   Ground q loose [] XP w s₀ mg mb h.heap->YP w h.heap ->
   h.heap.get? fa=some o->o.data=.func (docDef d.name d.params d.body d.scope pm cd y)->h.heap.CodeRec cd d.name->mg d.name=some (.ref fa) ->
   h.heap.get? a=some { cls:=.type "list",data:=.seq vs.toArray }->jW vs ns->ns.length<=n->h.gens=#[] ->
   fq (model l.prog w) g9 (.call (.ref fa) ⟨[.ref a],[]⟩) (λ r s'=>r=.ok (.ret (.bool true))/\OldK h.heap s'.heap/\s'.os=h.os/\fj s'.gens) h) :
  WalkO q loose XP YP l.row.toRowW d [] (λ f vs=>j2 f vs):=by
 intro w s₀ h mg mb G Y fa o pm cd y dV kV ho hd a3 hD a4 hg args a6 as Z a5 b0 a1 b1
 obtain rfl:dV=.none:=Dflts.none hD a2
 obtain rfl:kV=.none:=Dflts.noKw hD
 obtain⟨a,vs,ns,rfl,rfl,J,C,a0⟩:=script_of hn Z a1
 refine enter_call (eQ (call w s₀ h mg mb fa o pm cd y a vs ns G Y ho (fd_plain hd) a3 a4 J C a0 hg) λ r s' hq=>?_)
 obtain⟨rfl,h2,h3,h4⟩:=hq
 exact⟨.inl ⟨.bool true,.bool true,[],rfl,λ _=>rfl,.bool true,post_true l _,λ _=>⟨List.Pairwise.nil,λ _ hm=>(nomatch hm)⟩⟩,h2,h3,h4⟩
section
variable {prog:aM} {w:World} {A:aV} {E:Value->af->Prop} {s:af} {K:Frag}
end
end Att
noncomputable section
namespace L2
open PySem PySem.Spec PyProof.Rows
theorem vals_ints:∀ {vs:List Value} {ns:List Int},jW vs ns->Vals (ns.map V.int) vs
 | _,_,.nil=>.nil
 | _,_,.cons n t h=>.cons ⟨t,rfl⟩ (vals_ints h)
noncomputable def defArgs (s:Stmt):a9:=match s with
 | .FunctionDef _ a _ _ _ _ _ _ _ _=>a
 | _=>{ posonlyargs:=[],args:=[],vararg:=none,kwonlyargs:=[],kw_defaults:=[],kwarg:=none,defaults:=[] }
noncomputable def z0 (s:Stmt):List Stmt:=match s with
 | .FunctionDef _ _ b _ _ _ _ _ _ _=>b
 | _=>[]
noncomputable def defScope (s:Stmt):Scope:=match s with
 | .FunctionDef _ _ _ _ _ _ sc _ _ _=>sc
 | _=>{ kind:=.function,names:=[],isGenerator:=false,isCoroutine:=false }
noncomputable abbrev CX0:CXT:=λ _ _ _ _ _ _=>False
noncomputable abbrev E0:XK:=λ _ _ _=>False
theorem pass0 {X:Cx}:Passes CX0 X E0:=λ _ _ _ _ _ _ _ h=>h.elim
structure Fun (K:ab)(x qual:Str)(st:Stmt)(f:Addr)(fd:bI):Prop where
 ex:∃(oc:Value) (od:Option Addr) (kV doc pm:Value) (an:Option Addr) (cdv ct:Value) (osl:Array (Option Value)),
  fd=cO x qual (defArgs st) (z0 st) (defScope st) .none kV doc pm an cdv ct/\K.lookup f=some ⟨oc,od,.func fd,osl⟩/\eY K cdv qual=true
 kp:cb K (.ref f)=true
section
variable {P:aM} {w:World} {K:ab} {mg:Str->Option Value} {base:Heap}
theorem Fun.ok {x qual:Str}{st:Stmt}{f:Addr}{Y:bI}{N ps:List Str}{k:Nat}{sp:Sp}(F:Fun K x qual st f Y)(S:FnScope N ps (defScope st))(len:∀ vs H Q E,sp vs H Q E->vs.length=ps.length)
  (C:∀(y:Value) (A:aV) (outer:List Env) (s:af) (H:Hp) (vs:List V) (Q:VK) (E:XK),Room k (A.deeper (fF qual (defScope st) s.heap.objs.size f y))->sp vs H Q E ->
   ∃ t,PSs (cxOf CX0 P w K mg base N qual (defScope st) f y A outer s H E).nox (z0 st) t/\t { nx:=λ _ H'=>Q .non H',rt:=Q } (start N vs) H):FnOk P w K mg base CX0 (k+1) f Y ps sp:=by
 obtain⟨oc,od,kV,a0,pm,an,y,ct,a1,rfl,lk,J⟩:=F.ex
 refine fn_of lk J S len λ A outer s H vs Q E Z G=>?_
 obtain⟨t,h,q⟩:=C y A outer s H vs Q E Z G
 exact⟨t,h.nox,q⟩
theorem Fun.binds {x qual:Str}{st:Stmt}{f:Addr}{Y:bI}{ps:List Str}(F:Fun K x qual st f Y)
  (h:∀(kV C J:Value) (G:Option Addr) (y ct:Value) (us:List Value),us.length=ps.length->eB (cO x qual (defArgs st) (z0 st) (defScope st) .none kV C J G y ct) ⟨us,[]⟩=pure (ps.zip us)):Binds K Y ps []:=by
 obtain⟨oc,od,kV,C,J,G,y,ct,Z,rfl,lk,a0⟩:=F.ex
 exact .all (h kV C J G y ct)
theorem fun_mk {x qual:Str}{st:Stmt}{f:Addr}{oc:Value}{od G:Option Addr}{C:Array (Option Value)}{kV y J h ct:Value}(l:K.lookup f=some ⟨oc,od,.func (cO x qual (defArgs st) (z0 st) (defScope st) .none kV y J G h ct),C⟩)
  (c:eY K h qual=true) (k:cb K (.ref f)=true):Fun K x qual st f (cO x qual (defArgs st) (z0 st) (defScope st) .none kV y J G h ct):=⟨⟨oc,od,kV,y,J,G,h,ct,C,rfl,l,c⟩,k⟩
end
theorem hu_of {A:aV}{k:Nat}(h:Room k A):A.units+1<cLine:=Nat.lt_of_le_of_lt (Nat.add_le_add_left (by decide:1<=64) _) h.units
section
variable {X:Cx}
theorem pv (i:Nat){x:Str}{pos:Pos}(hN:X.N[i]?=some x:=by rfl)(hv:Vis X.env.scope x:=by first|exact Or.inl rfl|exact Or.inr (Or.inl rfl)|exact Or.inr (Or.inr rfl))(hd:(x==("__debug__":Str))=false:=by decide)
  (h:(x==("__classdict__":Str))=false:=by decide):PE X (.Name x pos) (tVar i):=pe_var hN hv hd h
end
theorem iteF {A B:Prop}(h:B):if false=true then A else B:=by
 rw[if_neg aQ]
 exact h
theorem iteT {A B:Prop}(h:A):if true=true then A else B:=by
 rw[if_pos rfl]
 exact h
noncomputable def Same (H H':Hp):Prop:=∀ b o,H b=some o->H' b=some o
theorem Same.refl (H:Hp):Same H H:=λ _ _ h=>h
theorem compLoopT {prog:aM}{w:World}{A:aV}{R:Result->af->Prop}{s:af}{J y iter:Expr}{C:List Expr}{scope:Scope}{pos:Pos}{Z G:Value}{env:Env}(I:Nat->af->Prop)
  (turn:∀ n s,I n s->wpAny (model prog w) A (iZ Z) (λ r s₁=>match r with
   | none=>R (.ok .next) s₁
   | some v=>wpAny (model prog w) A (eG y Z v) (λ _ Y=>wpAny (model prog w) A (f8 y env v) (λ _ s₂ =>
     wpAny (model prog w) A (forIn C true λ c r=>if r=true then do let ok <- dG c env (eval c env);pure (ForInStep.yield ok)else pure (ForInStep.yield r)) (λ ok s₃ =>
      if ok=true then wpAny (model prog w) A (eval J env) (λ x s₄ =>
       wpAny (model prog w) A (call (.builtin "list.append") [G,x]) (λ _ s₅=>∃ m,m<n/\I m s₅) (iX (model prog w) A env λ e s'=>R (.error e) s') s₄) (iX (model prog w) A env λ e s'=>R (.error e) s') s₃
      else ∃ m,m<n/\I m s₃) (iX (model prog w) A env λ e s'=>R (.error e) s') s₂) (iX (model prog w) A env λ e s'=>R (.error e) s') Y) (iX (model prog w) A env λ e s'=>R (.error e) s') s₁) (iX (model prog w) A env λ e s'=>R (.error e) s') s)
  (n:Nat) (h:I n s) :
  fq (model prog w) A (.compLoop (.ListComp J [⟨y,iter,C,0⟩] scope pos) 0 Z G env) R s:=by
 refine codeAny_loop rfl I (λ n s hI=>?_) n h
 show wpAny _ A ((compTurn (.ListComp J [⟨y,iter,C,0⟩] scope pos) 0 Z G env).onRaise (λ x=>do noteFrame x env;theTreesLotGoes x)) _ _ s
 refine wpAny_noted ?_
 rw[compTurn_list]
 refine aj (ik (aj (cg (turn n s hI) (λ r s₁ h₁=>?_) λ _ _ h'=>h')))
 cases r with
 | none=>exact aE h₁
 | some v =>
  refine aj (cg h₁ (λ _ Y a0=>?_) λ _ _ h'=>h')
  refine aj (cg a0 (λ _ s₂ h₂=>aj (cg h₂ (λ ok s₃ h₃=>?_) λ _ _ h'=>h')) λ _ _ h'=>h')
  cases ok with
  | false=>exact aE ⟨rfl,h₃⟩
  | true =>
   exact aj (aj (cg h₃ (λ x s₄ h₄=>aj (cg h₄ (λ _ s₅ h₅=>aE (aE ⟨rfl,h₅⟩)) λ _ _ h'=>h')) λ _ _ h'=>h'))
noncomputable def clOf (cells:List (Str×Addr)):List (Str×bN)->List (Str×Addr)->List (Str×Addr)
 | [],acc=>acc
 | (n,k)::r,acc=>clOf cells r (if k==.free then(match cells.lookup n with|some c=>(n,c)::acc|none=>acc)else acc)
theorem closure_forIn {env:Env}:∀(names:List (Str×bN)) (C:List (Str×Addr)),(∀ y∈names,y.2=.free->∃ c,env.cells.lookup y.1=some c) ->
  (forIn names C λ(x:Str×bN) (cs:List (Str×Addr))=>(if x.2==.free then do let c <- cellOf env x.1;pure (ForInStep.yield ((x.1,c)::cs))else pure (ForInStep.yield cs):Sem (ForInStep (List (Str×Addr)))))=pure (clOf env.cells names C)
 | [],C,_=>by rw[gS];rfl
 | (n,k)::r,C,h=>by
  have G:=λ a=>closure_forIn r a λ y hy=>h y (ax _ hy)
  rw[jN]
  unfold clOf
  cases e:(k==NameKind.free)with
  | false =>
   simp only[aK,if_false]
   exact G C
  | true =>
   have hk:k=.free:=by simpa using e
   obtain⟨c,hc⟩:=h (n,k) aF hk
   have e1:cellOf env n=pure c:=by unfold cellOf;rw[hc]
   simp only[if_true,e1,hc]
   exact G _
theorem qA {scope:Scope}{env:Env}(h:∀ y∈scope.names,y.2=.free->∃ c,env.cells.lookup y.1=some c):closureFor scope env=pure (clOf env.cells scope.names []):=by
 have:=closure_forIn (env:=env) scope.names [] h
 show(forIn scope.names [] (λ(x:Str×bN) (cs:List (Str×Addr))=>(if x.2==.free then do let c <- cellOf env x.1;pure (ForInStep.yield ((x.1,c)::cs))else pure (ForInStep.yield cs):Sem (ForInStep (List (Str×Addr))))) >>= λ cs=>pure cs)=_
 rw[this]
 rfl
theorem clOf_mem {cells:List (Str×Addr)}{n:Str}{c:Addr}:∀ {names:List (Str×bN)} {C:List (Str×Addr)},(n,c)∈clOf cells names C->cells.lookup n=some c\/(n,c)∈C
 | [],_,h=>.inr h
 | (m,k)::r,C,h=>by
  unfold clOf at h
  rcases clOf_mem h with z|z
  ·exact .inl z
  ·cases e:(k==NameKind.free)with
   | false=>simp only[e,aK,if_false]at z;exact .inr z
   | true =>
    simp only[e,if_true]at z
    cases q:cells.lookup m with
    | none=>rw[q]at z;exact .inr z
    | some d =>
     rw[q]at z
     rcases aH.mp z with y|y
     ·cases y;exact .inl q
     ·exact .inr y
theorem clOf_has {cells:List (Str×Addr)}{n:Str}{c:Addr}(hc:cells.lookup n=some c):∀ {names:List (Str×bN)} {y:List (Str×Addr)},((n,NameKind.free)∈names\/(n,c)∈y)->(n,c)∈clOf cells names y
 | [],_,h=>by rcases h with h|h;(exact absurd h (by simp));exact h
 | (m,k)::r,y,h=>by
  unfold clOf
  refine clOf_has hc ?_
  rcases h with h|h
  ·rcases aH.mp h with e|h
   ·cases e
    right
    simp[hc]
   ·exact .inl h
  ·right
   cases e:(k==NameKind.free)with
   | false=>simpa using h
   | true =>
    simp only[if_true]
    cases q:cells.lookup m with
    | none=>exact h
    | some d=>exact ax _ h
theorem lookup_of_mem {α:Type}{n:Str}{c:α}:∀ {l:List (Str×α)},(n,c)∈l->(∀ d,(n,d)∈l->d=c)->l.lookup n=some c
 | (m,d)::r,h,u=>by
  rw[a8]
  cases e:n==m with
  | true =>
   have e':=beq_iff_eq.mp e
   subst e'
   rw[u d aF]
  | false =>
   rcases aH.mp h with z|z
   ·cases z;simp at e
   ·exact lookup_of_mem z λ d' h'=>u d' (ax _ h')
theorem qH {cells:List (Str×Addr)}{n:Str}{c:Addr}{names:List (Str×bN)}(hc:cells.lookup n=some c)(h:(n,NameKind.free)∈names):(clOf cells names []).lookup n=some c:=by
 refine lookup_of_mem (clOf_has hc (.inl h)) λ d hd=>?_
 rcases clOf_mem hd with z|z
 ·rw[hc]at z;exact(aw z).symm
 ·exact absurd z (by simp)
theorem zu:∀(names:List (Str×bN)) (n:Nat) (h:List (Str×Addr)),aL n names h=aL n names []++h
 | [],_,h=>by simp[aL]
 | (x,k)::r,n,h=>by
  unfold aL
  split
  ·rw[zu r (n+1) ((x,n)::h),zu r (n+1) [(x,n)]]
   simp
  ·exact zu r n h
theorem zN:∀ {names:List (Str×bN)} {n:Nat} {C:List (Str×Addr)} {x:Str} {c:Addr},(x,c)∈aL n names C->(x,NameKind.cell)∈names\/(x,c)∈C
 | [],_,_,_,_,h=>.inr h
 | (y,k)::r,n,C,x,c,h=>by
  unfold aL at h
  split at h
  ·rename_i hk
   rcases zN h with z|z
   ·exact .inl (ax _ z)
   ·rcases aH.mp z with e|z
    ·cases e
     have:k=.cell:=by simpa using hk
     subst this
     exact .inl aF
    ·exact .inr z
  ·rcases zN h with z|z
   ·exact .inl (ax _ z)
   ·exact .inr z
theorem zR {α:Type}(x:Str):∀(l r:List (Str×α)),(l++r).lookup x=(l.lookup x).or (r.lookup x)
 | [],r=>by simp
 | (y,v)::l,r=>by
  rw[d8,a8,a8]
  cases x==y with
  | true=>rfl
  | false=>exact zR x l r
noncomputable def qo (N':List Str)(src:List (Option Nat))(scope:Scope)(XN:List Str)(xs:Scope):Bool :=
 (scope.kind==.function) &&
 (scope.names.all λ y=>!(y.2==.free)||(xs.names.lookup y.1==some .cell||xs.names.lookup y.1==some .free)) &&
 (scope.names.all λ y=>!(y.2==.local)||scope.names.lookup y.1==some .local) &&
 (scope.names.all λ y=>!(y.2==.cell)||(scope.names.all λ z=>!(z.1==y.1)||z.2==.cell)) &&
 (src.length==N'.length) &&
 ((N'.zip src).all λ y=>match y.2 with|none=>true|some j=>XN[j]?==some y.1&&scope.names.lookup y.1==some .free)
structure CompCk (N':List Str)(src:List (Option Nat))(scope:Scope)(XN:List Str)(xs:Scope):Prop where
 kind:scope.kind=.function
 fr:∀ y∈scope.names,y.2=.free->xs.names.lookup y.1=some .cell\/xs.names.lookup y.1=some .free
 loc:∀ y∈scope.names,y.2=.local->scope.names.lookup y.1=some .local
 cel:∀ y∈scope.names,y.2=.cell->∀ z∈scope.names,z.1=y.1->z.2=.cell
 len:src.length=N'.length
 sr:∀(i j:Nat) (x:Str),src[i]?=some (some j)->N'[i]?=some x->XN[j]?=some x/\scope.names.lookup x=some .free
theorem compCk {C:List Str}{src:List (Option Nat)}{scope:Scope}{J:List Str}{G:Scope}(h:qo C src scope J G=true):CompCk C src scope J G:=by
 unfold qo at h
 simp only[aq]at h
 obtain⟨⟨⟨⟨⟨h1,Y⟩,h3⟩,h4⟩,h5⟩,h6⟩:=h
 refine⟨by simpa using h1,λ y hy e=>?_,λ y hy e=>?_,λ y hy e z hz Z=>?_,by simpa using h5,λ i j x e1 e2=>?_⟩
 ·have:=aP.mp Y y hy
  simpa [e]using this
 ·have:=aP.mp h3 y hy
  simpa [e]using this
 ·have:=aP.mp h4 y hy
  simp only[e,beq_self_eq_true,Bool.not_true,kg]at this
  have:=aP.mp this z hz
  simpa [Z]using this
 ·have hm:(x,some j)∈C.zip src:=by
   refine aS (i:=i) ?_
   rw[List.getElem?_zip_eq_some]
   exact⟨e2,e1⟩
  have:=aP.mp h6 _ hm
  simpa using this
noncomputable abbrev zU (X:Cx)(N':List Str)(scope:Scope)(C:Addr)(cells:List (Str×Addr))(s:af)(H:Hp)(ex:List Addr):Cx where
 prog:=X.prog
 w:=X.w
 K:=X.K
 mg:=X.mg
 base:=X.base
 A:=X.A
 N:=N'
 s₀:=s
 H₀:=H
 env:={ scope:=ef scope X.env,locals:=C,globals:=X.env.globals,cells:=cells,qual:=X.env.qual,func:=none,code:=X.env.code,frame:=X.env.frame,builtins:=X.env.builtins }
 outer:=X.stack
 stack:=X.stack
 ex:=ex
 fn:=λ x=>scope.names.lookup x==some .cell
 calm:=X.calm
 pn:=[]
 xe:=λ _ _=>False
noncomputable def PIf (X:Cx)(ifs:List Expr)(t:TT):Prop :=
 ∀(pins:List (Addr×Obj)) (s:af) (σ:St) (H:Hp) (Q:Bool->Hp->Prop),Inv X pins σ H s->t σ H Q ->
  wpAny (model X.prog X.w) X.A (forIn ifs true λ c r=>if r=true then do let ok <- dG c X.env (eval c X.env);pure (ForInStep.yield ok)else pure (ForInStep.yield r)) (TP X pins σ Q) X.xe s
noncomputable def tYes:TT:=λ _ H Q=>Q true H
theorem pif_nil {X:Cx}:PIf X [] tYes:=λ _ _ _ H _ I h=>wpAny_tests_nil ⟨H,I,h⟩
theorem pif_one {X:Cx}{c:Expr}{t:TT}(h:PT X c t):PIf X [c] t:=λ y s σ H Q I hw=>wpAny_tests_one (h y s σ H Q I hw)
noncomputable def srcSt (src:List (Option Nat))(σ:St):St:=src.map λ o=>match o with|none=>none|some j=>(σ[j]?).join
noncomputable def tComp (src:List (Option Nat))(wi:TI)(g:TG)(tc:TT)(te:TE):TE:=λ σ H Q=>wi σ H λ J H1=>∀ D,H1 D=none ->
 ∃ W:Nat->Nat->St->Hp->Prop,(∃ m,W 0 m (srcSt src σ) (upd H1 D (.lst [])))/\∀ i m σ' H',W i m σ' H' ->
  (J.stop i H'/\Q (.ref D) H')\/(J.go i H'/\∃ N:St->Hp->Prop,(∀ σ2 H2,N σ2 H2->∃ m',m'<m/\W (i+1) m' σ2 H2) /\
   ∀ x H2,J.yld i H' x H2->g x σ' H2 λ σ3 H3=>tc σ3 H3 λ b H4=>if b=true then te σ3 H4 λ v H5=>∃ ys,H5 D=some (.lst ys)/\ys.length<aI/\N σ3 (upd H5 D (.lst (ys++[v])))else N σ3 H4)
theorem qP {env:Env}:∀ {names:List (Str×bN)} {x:Str} {k:bN},names.lookup x=some k ->
  (names.map λ(n,k)=>if(k==NameKind.free&&env.scope.kind==.function&&env.kindOf n==some .cell)then(n,NameKind.cell)else(n,k)).lookup x =
   some (if(k==NameKind.free&&env.scope.kind==.function&&env.kindOf x==some .cell)then NameKind.cell else k)
 | [],_,_,h=>by simp at h
 | (n,k)::r,x,k',h=>by
  have y:=@qP env r x k'
  show kE x ((if(k==NameKind.free&&env.scope.kind==.function&&env.kindOf n==some .cell)=true then(n,NameKind.cell)else(n,k))::_)=_
  cases hx:x==n with
  | true =>
   have e:=beq_iff_eq.mp hx
   subst e
   simp only[a8,hx]at h
   cases h
   by_cases hc:(k==NameKind.free&&env.scope.kind==.function&&env.kindOf x==some .cell)=true
   ·rw[if_pos hc,if_pos hc];simp only[a8,hx]
   ·rw[if_neg hc,if_neg hc];simp only[a8,hx]
  | false =>
   simp only[a8,hx]at h
   by_cases hc:(k==NameKind.free&&env.scope.kind==.function&&env.kindOf n==some .cell)=true
   ·rw[if_pos hc];simp only[a8,hx];exact y h
   ·rw[if_neg hc];simp only[a8,hx];exact y h
theorem qE {env:Env}:∀ {names:List (Str×bN)} {x:Str},names.lookup x=none ->
  (names.map λ(n,k)=>if(k==NameKind.free&&env.scope.kind==.function&&env.kindOf n==some .cell)then(n,NameKind.cell)else(n,k)).lookup x=none
 | [],_,_=>rfl
 | (n,k)::r,x,h=>by
  have y:=@qE env r x
  show kE x ((if(k==NameKind.free&&env.scope.kind==.function&&env.kindOf n==some .cell)=true then(n,NameKind.cell)else(n,k))::_)=_
  cases hx:x==n with
  | true=>simp only[a8,hx]at h;cases h
  | false =>
   simp only[a8,hx]at h
   by_cases hc:(k==NameKind.free&&env.scope.kind==.function&&env.kindOf n==some .cell)=true
   ·rw[if_pos hc];simp only[a8,hx];exact y h
   ·rw[if_neg hc];simp only[a8,hx];exact y h
theorem comp_start {X:Cx}{N':List Str}{src:List (Option Nat)}{scope:Scope}{a5:List (Addr×Obj)}{σ:St}{H:Hp}{s s4:af}{fp:List Addr}
  (J:CompCk N' src scope X.N X.env.scope) (I:Inv X a5 σ H s) (hf:∀ b∈fp,FpOk X a5 H b) (b2:∀ b∈fp,b<s.heap.objs.size)
  (e4:∃ tk,s4={ s with heap:=d9 (s.heap.push { cls:=.type "dict",data:=.dict #[] }) scope.names,toks:=tk }) :
  Inv (zU X N' scope s.heap.objs.size (aL (s.heap.objs.size+1) scope.names (clOf X.env.cells scope.names [])) s H fp) [] (srcSt src σ) H s4:=by
 obtain⟨tk,rfl⟩:=e4
 have hk:∀ b o,s.heap.get? b=some o->(d9 (s.heap.push { cls:=.type "dict",data:=.dict #[] }) scope.names).get? b=some o:=λ b o e=>cT _ _ b o (ai _ e)
 have ok:=cellsFrom_ok scope.names (s.heap.push { cls:=.type "dict",data:=.dict #[] }) (s.heap.objs.size+1) [] ⟨λ _ _ hm=>(nomatch hm),List.Pairwise.nil⟩ (by rw[bX];exact ah _)
 rw[bX]at ok
 have Z:=zu scope.names (s.heap.objs.size+1) (clOf X.env.cells scope.names [])
 have lk:∀ x c,(aL (s.heap.objs.size+1) scope.names (clOf X.env.cells scope.names [])).lookup x=some c ->
   ((x,c)∈aL (s.heap.objs.size+1) scope.names []/\(x,NameKind.cell)∈scope.names)\/(X.env.cells.lookup x=some c/\(aL (s.heap.objs.size+1) scope.names []).lookup x=none):=λ x c e=>by
  rw[Z,zR]at e
  cases q:(aL (s.heap.objs.size+1) scope.names []).lookup x with
  | some d =>
   rw[q]at e
   have e':d=c:=aw e
   subst e'
   have hm:=aA q
   refine .inl ⟨hm,?_⟩
   rcases zN hm with z|z
   ·exact z
   ·exact absurd z (by simp)
  | none =>
   rw[q]at e
   have e':(clOf X.env.cells scope.names []).lookup x=some c:=e
   rcases clOf_mem (aA e')with z|z
   ·exact .inr ⟨z,rfl⟩
   ·exact absurd z (by simp)
 have up:∀ x c,(x,c)∈aL (s.heap.objs.size+1) scope.names []->s.heap.objs.size+1<=c:=λ x c h=>(ok.empty x c h).2
 have b4:∀ x c,X.env.cells.lookup x=some c->c<s.heap.objs.size:=λ x c h=>by
  obtain⟨v,q⟩:=I.cell x c h
  exact q.lt
 have a4:∀ b,b<s.heap.objs.size->b≠s.heap.objs.size:=λ b h=>ay h
 have b0:∀ b∈fp,H b=none/\b≠X.env.locals/\b ∉ X.fs:=λ b hb=>⟨(hf b hb).1,(hf b hb).2.1,(hf b hb).2.2.1⟩
 have b5:(d9 (s.heap.push { cls:=.type "dict",data:=.dict #[] }) scope.names).Ns s.heap.objs.size (λ _=>none):=(kF s.heap (.type "dict")).keeps (cT _ _)
 have a0:∀ x k,scope.names.lookup x=some k->(ef scope X.env).names.lookup x=some (if(k==NameKind.free&&X.env.scope.kind==.function&&X.env.kindOf x==some .cell)then NameKind.cell else k):=λ x k e=>qP (env:=X.env) e
 have a3:∀ x,scope.names.lookup x=none->(ef scope X.env).names.lookup x=none:=λ x e=>qE (env:=X.env) e
 have b1:∀ x c,(x,NameKind.free)∈scope.names->X.env.cells.lookup x=some c->(aL (s.heap.objs.size+1) scope.names (clOf X.env.cells scope.names [])).lookup x=some c:=λ x c hx hc=>by
  rw[Z,zR]
  cases q:(aL (s.heap.objs.size+1) scope.names []).lookup x with
  | some d =>
   rcases zN (aA q)with z|z
   ·have:=J.cel _ z rfl _ hx rfl
    cases this
   ·exact absurd z (by simp)
  | none=>exact qH hc hx
 have a6:∀ x,(x,NameKind.free)∈scope.names->∃ c,X.env.cells.lookup x=some c:=λ x hx=>I.ok.has x (J.fr _ hx rfl)
 refine⟨⟨I.ok.mod,J.kind,I.ok.glob,I.ok.blt,ah _,λ x y c e1 e2=>?_,λ x hx=>?_,λ x c hx e=>?_,I.ok.hd,I.ok.frames,.inl rfl,λ b hb=>⟨a4 b (b2 b hb),λ x c e z=>?_⟩,I.bs,am I.ok.bsz I.sz,λ b o e hb=>?_,λ b hb z=>?_,I.stack,I.stkFree⟩,
  rfl,I.bare,Un.kept hk,⟨_,b5,λ i x v e1 e2 e3=>?_⟩,λ x c e=>?_,I.hok.fresh (ah _),λ x c e=>?_,λ p hp=>absurd (show p∈([]:List (Addr×Obj))from hp) (by simp),I.hok.kept hk,by unfold srcSt;rw[az];exact J.len⟩
 ·rcases lk x c e1 with⟨a1,_⟩|⟨a1,_⟩<;>rcases lk y c e2 with⟨a2,_⟩|⟨a2,_⟩
  ·exact ga ok.apart a1 a2
  ·exact absurd (ar (b4 _ _ a2) (fw (up _ _ a1))) (bu _)
  ·exact absurd (ar (b4 _ _ a1) (fw (up _ _ a2))) (bu _)
  ·exact I.ok.inj x y c a1 a2
 ·cases q:scope.names.lookup x with
  | none =>
   have G:(ef scope X.env).names.lookup x=some .cell\/(ef scope X.env).names.lookup x=some .free:=hx
   rw[a3 x q]at G
   rcases G with z|z<;>cases z
  | some k =>
   have G:(ef scope X.env).names.lookup x=some .cell\/(ef scope X.env).names.lookup x=some .free:=hx
   rw[a0 x k q]at G
   cases k with
   | free =>
    obtain⟨c,hc⟩:=a6 x (aA q)
    exact⟨c,b1 x c (aA q) hc⟩
   | cell =>
    obtain⟨c,hc⟩:=qj (n:=s.heap.objs.size+1) q
    exact⟨c,by show(aL _ _ _).lookup x=_;rw[Z,zR,hc];rfl⟩
   | _=>rcases G with z|z<;>cases z
 ·have G:(scope.names.lookup x==some .cell)=true:=hx
  have q:scope.names.lookup x=some .cell:=by simpa using G
  rcases lk x c e with⟨a,_⟩|⟨a,b⟩
  ·have:=up _ _ a;show s.heap.objs.size<=c;omega
  ·obtain⟨d,hd⟩:=qj (n:=s.heap.objs.size+1) q
   rw[hd]at b;cases b
 ·subst z
  rcases lk x c e with⟨a,_⟩|⟨a,_⟩
  ·exact absurd (ar (b2 c hb) (fw (up _ _ a))) (bu _)
  ·exact(hf c hb).2.2.2.2.1 x c a rfl
 ·rcases(hf b hb).2.2.2.1 with z|z
  ·exact I.ok.noex b o e z
  ·exact absurd (ar (aC e) (am I.ok.bsz z)) (bu _)
 ·rcases aH.mp (I.stkSub b z)with y|y
  ·exact(b0 b hb).2.1 y
  ·exact(b0 b hb).2.2 y
 ·have C:(srcSt src σ)[i]?=some (some v):=e2
  unfold srcSt at C
  rw[av]at C
  cases q:src[i]? with
  | none=>rw[q]at C;cases C
  | some o =>
   rw[q]at C
   cases o with
   | none=>cases C
   | some j =>
    have Y:(σ[j]?).join=some v:=aw C
    have ej:σ[j]?=some (some v):=by
     cases q2:σ[j]? with
     | none=>rw[q2]at Y;cases Y
     | some o2=>rw[q2]at Y;exact congrArg some Y
    obtain⟨h1,h2⟩:=J.sr i j x q e1
    have hm:=aA h2
    obtain⟨mX,c0,b6⟩:=I.loc
    have b3:Vis X.env.scope x:=by
     rcases J.fr _ hm rfl with z|z
     ·exact .inr (.inl z)
     ·exact .inr (.inr z)
    obtain⟨u,ru,look⟩:=b6 j x v h1 ej b3
    refine⟨u,ru,.inr ?_⟩
    have hcell:∃ c,X.env.cells.lookup x=some c/\s.heap.IsCell c (some u):=by
     rcases look with⟨z,_⟩|⟨_,c,z1,z2⟩
     ·have z':X.env.scope.names.lookup x=some .local:=z
      rcases J.fr _ hm rfl with y|y<;>(rw[z']at y;cases y)
     ·exact⟨c,z1,z2⟩
    obtain⟨c,c1,c2⟩:=hcell
    refine⟨?_,c,b1 x c hm c1,c2.keeps hk⟩
    show(ef scope X.env).names.lookup x=some .cell\/(ef scope X.env).names.lookup x=some .free
    rw[a0 x _ h2]
    by_cases hc:(NameKind.free==NameKind.free&&X.env.scope.kind==.function&&X.env.kindOf x==some .cell)=true
    ·rw[if_pos hc];exact .inl rfl
    ·rw[if_neg hc];exact .inr rfl
 ·rcases lk x c e with⟨a,_⟩|⟨a,_⟩
  ·exact⟨_,(ok.empty x c a).1⟩
  ·obtain⟨v,q⟩:=I.cell x c a
   exact⟨v,q.keeps hk⟩
 ·rcases lk x c e with⟨a,_⟩|⟨a,_⟩
  ·exact I.hok.fresh (by have:=up _ _ a;omega)
  ·exact I.freeC x c a
theorem comp_end {X:Cx}{Z:List Str}{scope:Scope}{h:List (Addr×Obj)}{σ σ':St}{H G:Hp}{s s5:af}{Y:List Addr}{cells:List (Str×Addr)}{h':Heap}
  (I:Inv X h σ H s) (C:∀ b∈Y,FpOk X h H b) (J:Inv (zU X Z scope s.heap.objs.size cells s H Y) [] σ' G s5) (hs:dS s.heap.objs.size s5.heap h') :
  Inv X h σ G { s5 with heap:=h' }:=by
 have y:∀ b o,s.heap.get? b=some o->b≠s.heap.objs.size:=λ b o e=>ay (aC e)
 have u:Un (frs X.stack) Y H G s.heap s5.heap:=J.base
 refine I.call' (s':={ s5 with heap:=h' }) (ch:=Y) J.os ⟨λ b o e n hb hx=>?_,λ b o e n hb hx=>?_,λ b o e n hx=>u.free b o e n hx,λ b o e hx=>?_,u.tups,u.frzs,u.tbls⟩ (λ b o e=>?_) J.bare λ b hb=>⟨(C b hb).2.2.2.1,(C b hb).2.1,(C b hb).2.2.2.2.1,(C b hb).2.2.2.2.2⟩
 ·exact(hs.2 b (y b o e)).trans (u.keep b o e n hb hx)
 ·obtain⟨sl,q⟩:=u.slot b o e n hb hx
  exact⟨sl,(hs.2 b (y b o e)).trans q⟩
 ·obtain⟨o',q⟩:=u.there b o e hx
  exact⟨o',(hs.2 b (y b o e)).trans q⟩
 ·have fr:G s.heap.objs.size=none:=J.free
  refine(J.hok b o e).stay (λ c w' hc q=>(hs.2 c ?_).trans q) (λ _ q=>q) λ _ _ q=>q
  rintro rfl
  rcases hc with z|hc
  ·rw[<-z,fr]at e;cases e
  ·rw[fr]at hc;cases hc
theorem wpAny_compEnv {M:Model}{A:aV}{E:Value->af->Prop}{s:af}{scope:Scope}{globals:Addr}{y:List (Str×Addr)}{qual:Str}{outer:Env}{Q:Env->af->Prop}
  (h:Q { scope:=scope,locals:=s.heap.objs.size,globals:=globals,cells:=aL (s.heap.objs.size+1) scope.names y,qual:=qual,func:=none,code:=outer.code,frame:=outer.frame,builtins:=outer.builtins }
   { s with heap:=d9 (s.heap.push { cls:=.type "dict",data:=.dict #[] }) scope.names }) :
  wpAny M A (e9 scope globals y [] qual none .none (some outer)) Q E s:=by
 simp only[e9,fb,if_true]
 refine aj (wpAny_alloc ?_)
 refine aj (wpAny_layCells _ (λ name kind cells=>by cases hkc:kind==NameKind.cell<;>simp[hkc]) _ _ _ _ ?_)
 rw[show({ s with heap:=s.heap.push { cls:=.type "dict",data:=.dict #[] } }:af).heap.objs.size=s.heap.objs.size+1 from bX ..]
 refine aj ?_
 rw[gS]
 exact aE (aE h)
theorem comp_loop {X':Cx}{R:Result->af->Prop}{a5 tg iter:Expr}{a1:List Expr}{scope:Scope}{pos:Pos}{g:TG}{tc:TT}{te:TE}{J:It}{fp:List Addr}{it D:Addr}{tn:Nat->Heap->Prop}{W:Nat->Nat->St->Hp->Prop}
  {QD:Hp->Prop} {σ0:St} {H0:Hp} {s4:af} {m0:Nat} (hx:X'.xe=λ _ _=>False) (C:X'.calm=true) (I4:Inv X' [] σ0 H0 s4) (T:Turn X'.prog X'.w X'.K tg J fp it tn) (a6:tn 0 s4.heap)
  (Y:∀ H':Hp,(∀ b∈fp,H' b=none)->∀ b∈fp,FpOk X' [] H' b) (b0:∀ b∈fp,H0 b=none) (w0:W 0 m0 σ0 H0)
  (turn:∀ i m σ' H',W i m σ' H'->(J.stop i H'/\QD H')\/(J.go i H'/\∃ N:St->Hp->Prop,(∀ σ2 H2,N σ2 H2->∃ m',m'<m/\W (i+1) m' σ2 H2) /\
   ∀ x H2,J.yld i H' x H2->g x σ' H2 λ σ3 Z=>tc σ3 Z λ b H4=>if b=true then te σ3 H4 λ v H5=>∃ ys,H5 D=some (.lst ys)/\ys.length<aI/\N σ3 (upd H5 D (.lst (ys++[v])))else N σ3 H4))
  (hg:PG X' tg g) (hif:PIf X' a1 tc) (he:PE X' a5 te) (a4:∀ σ' H' s',Inv X' [] σ' H' s'->QD H'->R (.ok .next) s') :
  fq (model X'.prog X'.w) X'.A (.compLoop (.ListComp a5 [⟨tg,iter,a1,0⟩] scope pos) 0 (.ref it) (.ref D) X'.env) R s4:=by
 have nox:∀ {α:Type} {t:Sem α} {Q Q':α->af->Prop} {E:Value->af->Prop} {s:af},wpAny (model X'.prog X'.w) X'.A t Q X'.xe s->(∀ a s,Q a s->Q' a s)->wpAny (model X'.prog X'.w) X'.A t Q' E s :=
  λ h hQ=>cg h hQ λ _ _ z=>by rw[hx]at z;exact z.elim
 refine compLoopT (λ n s'=>∃ i σ' H',Inv X' [] σ' H' s'/\tn i s'.heap/\(∀ b∈fp,H' b=none)/\W i n σ' H') ?_ m0 ⟨0,σ0,H0,I4,a6,b0,w0⟩
 rintro n s3 ⟨i,σ3,Z,I3,a2,a3,w3⟩
 rcases turn i n σ3 Z w3 with⟨stop,qn⟩|⟨go,N,hN,step⟩
 ·refine nox (T.done X' rfl rfl rfl C i [] s3 σ3 Z X'.xe I3 (Y Z a3) a2 stop) λ r s4 ⟨hr,I4⟩=>?_
  subst hr
  exact a4 σ3 Z s4 I4 qn
 ·refine nox (T.item X' rfl rfl rfl C i [] s3 σ3 Z X'.xe I3 (Y Z a3) a2 go) λ r s4 ⟨u,hr,h4⟩=>?_
  subst hr
  refine nox h4 λ _ s5 ⟨x,H5,I5,r5,y5,a0,b1⟩=>?_
  have b2:=I5.pinned (Y H5 b1) (T.obj _ _ a0)
  refine nox (hg _ s5 σ3 H5 x u _ b2 r5 (step x H5 y5)) λ _ s6 ⟨σ6,H6,I6,q6⟩=>?_
  have G:∀ {σ7:St} {H7:Hp} {s7:af},Inv X' ([]++pinsAt fp s5.heap) σ7 H7 s7->N σ7 H7->∃ m,m<n/\∃ i σ' H',Inv X' [] σ' H' s7/\tn i s7.heap/\(∀ b∈fp,H' b=none)/\W i m σ' H':=λ {σ7 H7 s7} I7 n7=>by
   obtain⟨m',hm,w7⟩:=hN σ7 H7 n7
   refine⟨m',hm,i+1,σ7,H7,I7.unpinned,T.keep _ _ _ a0 λ b hb o e=>(I7.pin (b,o) (aX _ (aX _ (jq hb e)))).1,λ b hb=>?_,w7⟩
   obtain⟨o,e,d⟩:=T.obj _ _ a0 b hb
   exact(I7.pin (b,o) (aX _ (aX _ (jq hb e)))).2.1
  refine nox (hif _ s6 σ6 H6 _ I6 q6) λ b s7 ⟨H7,I7,q7⟩=>?_
  cases b with
  | false =>
   rw[if_neg aQ]at q7 ⊢
   exact G I7 q7
  | true =>
   rw[if_pos rfl]at q7 ⊢
   refine nox (he _ s7 σ6 H7 _ I7 q7) λ v s8 ⟨y,H8,I8,r8,ys,hy,hz,q8⟩=>?_
   refine nox (mt_append _ s8 σ6 H8 (.ref D) [y] (.ref D) [v] (λ _ H9=>N σ6 H9) I8 rfl (.cons r8 .nil) ⟨D,ys,y,rfl,rfl,hy,hz,q8⟩) λ v9 s9 ⟨_,H9,I9,_,q9⟩=>?_
   exact G I9 q9
theorem pe_comp {X:Cx}{a4 tg iter:Expr}{a1:List Expr}{scope:Scope}{pos:Pos}{wi:TI}{g:TG}{tc:TT}{te:TE}(N':List Str)(src:List (Option Nat))
  (b3:qo N' src scope X.N X.env.scope=true) (hi:PI X tg iter wi) (a0:X.calm=true)
  (b2:∀(C:Addr) (cells:List (Str×Addr)) (s:af) (H:Hp) (ex:List Addr),PG (zU X N' scope C cells s H ex) tg g/\PIf (zU X N' scope C cells s H ex) a1 tc/\PE (zU X N' scope C cells s H ex) a4 te)
  (hs:∀ x,db iter X.env x=pure x:=by intro _;rfl):PE X (.ListComp a4 [⟨tg,iter,a1,0⟩] scope pos) (tComp src wi g tc te):=by
 intro G s σ H Q I h
 have ck:=compCk b3
 rw[eval_ListComp]
 have b1:=qA (scope:=scope) (env:=X.env) λ y hy e=>I.ok.has y.1 (ck.fr y hy e)
 refine fJ (use:=none) rfl hs b1 ck.kind ck.loc (thn (hi G s σ H _ I h) λ v s1 h1=>thn h1 λ c0 s2 h2=>?_)
 obtain⟨it,Y,tn,J,H2,e,I2,T,a3,f2,W⟩:=h2
 subst e
 have hD:=I2.fresh
 obtain⟨W,⟨m0,w0⟩,turn⟩:=W _ hD
 have I3:=I2.lnew (its:=[]) (ys:=[]) (t':=s2.toks) .nil (dj _)
 have a6:∀ b∈Y,b<s2.heap.objs.size:=λ b hb=>by obtain⟨o,q,_⟩:=T.obj _ _ a3 b hb;exact aC q
 have f3:∀ b∈Y,FpOk X G (upd H2 s2.heap.objs.size (.lst [])) b:=λ b hb=>⟨by rw[zb (ay (a6 b hb))];exact(f2 b hb).1,(f2 b hb).2⟩
 refine bH (wpAny_compEnv ?_)
 generalize Z:({ s2 with heap:=s2.heap.push { cls:=.type "list",data:=.seq ([]:List Value).toArray },toks:=s2.toks }:af)=s3 at I3
 have b6:({ s2 with heap:=s2.heap.push { cls:=.type "list",data:=.seq ([]:List Value).toArray } }:af)=s3:=Z
 have b0:∀ b∈Y,b<s3.heap.objs.size:=λ b hb=>by
  rw[<-Z]
  show b<(s2.heap.push _).objs.size
  rw[bX]
  exact fx (a6 b hb)
 have I4:=comp_start (s4:={ s3 with heap:=d9 (s3.heap.push { cls:=.type "dict",data:=.dict #[] }) scope.names }) ck I3 f3 b0 ⟨_,rfl⟩
 have a2:tn 0 (d9 (s3.heap.push { cls:=.type "dict",data:=.dict #[] }) scope.names):=T.keep _ _ _ a3 λ b hb o e=>cT _ _ b o (ai _ (by rw[<-Z];exact ai _ e))
 obtain⟨hg,hif,he⟩:=b2 s3.heap.objs.size (aL (s3.heap.objs.size+1) scope.names (clOf X.env.cells scope.names [])) s3 (upd H2 s2.heap.objs.size (.lst [])) Y
 have a5:∀ H':Hp,(∀ b∈Y,H' b=none)->∀ b∈Y,FpOk (zU X N' scope s3.heap.objs.size (aL (s3.heap.objs.size+1) scope.names (clOf X.env.cells scope.names [])) s3 (upd H2 s2.heap.objs.size (.lst [])) Y) [] H' b:=λ H' hn b hb =>
  ⟨hn b hb,(I4.ok.exf b hb).1,I4.ok.exfs b hb,.inl hb,λ x c e=>(I4.ok.exf b hb).2 x c e,λ p hp=>absurd (show p∈([]:List (Addr×Obj))from hp) (by simp)⟩
 have T':Turn X.prog X.w X.K tg J Y it tn:=T
 have b5:∀ b∈Y,upd H2 s2.heap.objs.size (.lst []) b=none:=λ b hb=>(f3 b hb).1
 have L:=comp_loop (X':=zU X N' scope s3.heap.objs.size (aL (s3.heap.objs.size+1) scope.names (clOf X.env.cells scope.names [])) s3 (upd H2 s2.heap.objs.size (.lst [])) Y) (R:=compPost (model X.prog X.w) X.A X.xe none (EP X G σ Q) (Value.ref s2.heap.objs.size) s3.heap.objs.size) (iter:=iter) (scope:=scope) (pos:=pos) (QD:=λ H'=>Q (.ref s2.heap.objs.size) H') rfl a0 I4 T' a2 a5 b5 w0 turn hg hif he
  (λ σ' H' s' J' q=>by
   obtain⟨mm,hn,_⟩:=J'.loc
   exact⟨mm,hn,λ h' b4=>⟨.ref s2.heap.objs.size,H',comp_end I3 f3 J' b4,rfl,q⟩⟩)
 exact gq L (T.self _ _ _ _ _ a2 L)
section
variable {X:Cx}
theorem b_abs:bf "abs"=some (.builtin "abs"):=by decide +kernel
theorem b_len:bf "len"=some (.builtin "len"):=by decide +kernel
theorem b_min:bf "min"=some (.builtin "min"):=by decide +kernel
theorem b_max:bf "max"=some (.builtin "max"):=by decide +kernel
theorem b_all:bf "all"=some (.builtin "all"):=by decide +kernel
theorem b_isinstance:bf "isinstance"=some (.builtin "isinstance"):=by decide +kernel
theorem b_int:bf "int"=some (.type "int"):=by decide +kernel
theorem b_bool:bf "bool"=some (.type "bool"):=by decide +kernel
theorem b_str:bf "str"=some (.type "str"):=by decide +kernel
theorem b_tuple:bf "tuple"=some (.type "tuple"):=by decide +kernel
theorem b_list:bf "list"=some (.type "list"):=by decide +kernel
noncomputable def CDivL (i j:Int):Prop:=0<j/\j<2^4096
theorem log2_lt_of {y:Int}(h0:0<y)(h:y<2^4096):y.natAbs.log2<9000:=by
 have hn:y.natAbs<2^4096:=by
  have:(y.natAbs:Int)=y:=by omega
  have C:(y.natAbs:Int)<((2^4096:Nat):Int):=by rw[this];simpa using h
  exact Int.ofNat_lt.mp C
 have:=(Nat.log2_lt (by omega)).mpr hn
 omega
theorem op_fdivL:OpR X (b7 .FloorDiv) (rI CDivL λ i j=>.int (i / j)):=opI λ i j _ _ _ _ _ hc q=>by
 refine floordiv_int (by have:=hc.1;omega) ?_ (.inl (PyProof.noPylong_of_log2 (log2_lt_of hc.1 hc.2)))
 rw[eX i (by have:=hc.1;omega)]
 exact q
theorem ix_listK {K:ab}(h:X.K=K):IxR X (rIxL K):=by subst h;exact ix_list
theorem ix_tupK {K:ab}(h:X.K=K):IxR X (rIxT K):=by subst h;exact ix_tup
theorem call_lenK {K:ab}(h:X.K=K):CallR X (.builtin "len") (λ y H Q=>∃ p ys,y=[.ref p]/\(SqL K H p ys\/SqT K H p ys)/\Q (.int ys.length) H):=by subst h;exact call_len_seq
theorem call_tupleK {K:ab}(h:X.K=K):CallR X (.type "tuple") (λ y H Q=>∃ p ys,y=[.ref p]/\((SqL K H p ys/\∀ l,H l=none->Q (.ref l) (upd H l (.tup ys)))\/(SqT K H p ys/\Q (.ref p) H))):=by subst h;exact call_tuple_of
theorem call_listK {K:ab}(h:X.K=K):CallR X (.type "list") (λ y H Q=>∃ p ys,y=[.ref p]/\(SqL K H p ys\/SqT K H p ys)/\∀ l,H l=none->Q (.ref l) (upd H l (.lst ys))):=by subst h;exact call_list_of
theorem pi_listK {K:ab}{tg l:Expr}{h:TE}(y:X.K=K)(hl:PE X l h):PI X tg l (iList K h):=by subst y;exact pi_list hl
theorem pi_tupK {K:ab}{tg l:Expr}{h:TE}(y:X.K=K)(hl:PE X l h):PI X tg l (iTup K h):=by subst y;exact pi_tup hl
theorem pg_tupK {K:ab}{pos:Pos}{es:List Expr}{k:Nat}{t:TGs}{n:Nat}(C:X.K=K)(hc:X.calm=true)(h:PGs X es t)
  (hn:(cx es X.env).length=n:=by rfl) (y:(cx es X.env).findIdx? (·.1)=none:=by rfl):PG X (.Tuple es k pos) (gTup K n t):=by subst C;exact pg_tup hc h hn y
end
structure DefAt (K:ab)(mg:Str->Option Value)(x:Str)(st:Stmt)(ps:List Str)(f:Addr)(fd:bI):Prop where
 fn:Fun K x x st f fd
 mg:mg x=some (.ref f)
 bi:Binds K fd ps []
@[irreducible] noncomputable def Hold (p:Prop):Prop:=p
theorem Same.new {p:Addr}{H y:Hp}{o:HO}(h:Same H y)(C:y p=none):Same H (L2.upd y p o):=λ x o e=>by
 have e1:=h x o e
 rw[zb (zE e1 C)]
 exact e1
section
variable {prog:aM} {w:World} {A:aV} {R:Result->af->Prop} {I:Addr} {fp wr:List Addr} {n:Nat} {P:Nat->Value->Prop} {St:Nat->Heap->Prop} {kw:List (Str×Value)}
theorem min_loopD (W:Walks prog w A.in1 I fp wr n P St)(bt:Nat->Nat->Bool)(b1:CmpOf prog w A.in1 .Lt P bt)(S:Addr)(a6:S ∉ fp) :
  ∀(k j:Nat) (s:af) (vb:Value) (c:Nat),n - (j+1)=k->j+1<=n->St (j+1) s.heap->P (dt bt j) vb ->
  s.heap.get? S=some { cls:=.type "list",dict:=none,data:=.seq #[vb,vb] c,slots:=#[] } ->
  (∀ v h' tk,P (dt bt (n - 1)) v->(∀ b o,b ∉ wr->b≠S->s.heap.get? b=some o->h'.get? b=some o)->R (.ok (.ret v)) { s with heap:=h',toks:=tk }) ->
  fq (model prog w) A (.builtin "min.loop" ⟨[.ref I,.none,.ref S],kw⟩) R s:=by
 have b0:S ∉ wr:=λ h=>a6 (W.sub _ h)
 have J:(toString "min"++toString ".loop":String) = "min.loop":=by decide
 intro k
 induction k with
 | zero =>
  intro j s vb c hk hj a3 a1 hS hR
  have b2:j+1=n:=by omega
  refine gD fW ?_
  rw[eC cw _]
  show wpAny _ A.in1 (hG (.ref S) >>= _) _ _ s
  refine aj (dY hS rfl ?_)
  show wpAny _ A.in1 (tryCatch (iZ (.ref I)) _ >>= _) _ _ s
  refine aj (dZ (W.done s _ _ (b2▸a3) λ h' tk C=>?_))
  have Z:=C S _ b0 hS
  show wpAny _ A.in1 (updateSeq S (λ _=>#[]) >>= _) _ _ _
  refine aj ?_
  refine gE Z rfl (aj (gT (aE ?_)))
  refine hR vb _ tk (by rw[<-b2];exact a1) λ b o y G e=>(bP _ _ (bT G)).trans (C b o y e)
 | succ k ih =>
  intro j s vb c hk hj a3 a1 hS hR
  have hlt:j+1<n:=by omega
  refine gD fW ?_
  rw[eC cw _]
  show wpAny _ A.in1 (hG (.ref S) >>= _) _ _ s
  refine aj (dY hS rfl ?_)
  show wpAny _ A.in1 (tryCatch (iZ (.ref I)) _ >>= _) _ _ s
  refine aj (dZ (W.item (j+1) s _ _ hlt a3 λ v h' tk hP a2 C=>?_))
  have Z:=C S _ b0 hS
  show wpAny _ A.in1 (tryCatch (iL [v,v] (richCompare .Lt v vb >>= _)) _ >>= _) _ _ _
  refine aj (dZ (cY (aj (b1 (j+1) (dt bt j) v vb _ _ _ hP a1 ?_))))
  refine aj (cY (bW ?_))
  refine aj (gT (aE ?_))
  cases hb:bt (j+1) (dt bt j)with
  | true =>
   simp only[if_true]
   refine aj ?_
   refine gE Z rfl (aj (gT ?_))
   rw[J]
   refine aE ⟨fK cw _,ih (j+1) _ v _ (by omega) hlt (W.frame _ _ _ a2 λ b b3 o e=>?_) (by simp only[dt,hb,if_true];exact hP) (c7 _ Z rfl)
    λ v' a4 Y a5 a0=>?_⟩
   ·exact(bP _ _ (λ h:S=b=>a6 (by rw[h];exact b3))).trans e
   ·exact hR v' a4 Y a5 λ b o y G e=>a0 b o y G ((bP _ _ (bT G)).trans (C b o y e))
  | false =>
   simp only[aK,if_false]
   refine aj (gT ?_)
   rw[J]
   refine aE ⟨fK cw _,ih (j+1) _ vb c (by omega) hlt a2 (by simp only[dt,hb,aK,if_false];exact a1) Z λ v' a4 Y a5 a0=>?_⟩
   exact hR v' a4 Y a5 λ b o y G e=>a0 b o y G (C b o y e)
theorem min_firstD (W:Walks prog w A.in1 I fp wr n P St)(bt:Nat->Nat->Bool)(Z:CmpOf prog w A.in1 .Lt P bt)(S:Addr)(G:S ∉ fp){s:af}{c:Nat}{d:Value}(Y:St 0 s.heap)
  (hS:s.heap.get? S=some { cls:=.type "list",dict:=none,data:=.seq #[] c,slots:=#[] })
  (h0:n=0->∀ h' tk,(∀ b o,b ∉ wr->b≠S->s.heap.get? b=some o->h'.get? b=some o)->R (.ok (.ret d)) { s with heap:=h',toks:=tk })
  (hR:0<n->∀ v h' tk,P (dt bt (n - 1)) v->(∀ b o,b ∉ wr->b≠S->s.heap.get? b=some o->h'.get? b=some o)->R (.ok (.ret v)) { s with heap:=h',toks:=tk }) :
  fq (model prog w) A (.builtin "min.loop" ⟨[.ref I,.none,.ref S],[(cD "default",d)]⟩) R s:=by
 have a5:S ∉ wr:=λ h=>G (W.sub _ h)
 have J:(toString "min"++toString ".loop":String) = "min.loop":=by decide
 refine gD fW ?_
 rw[eC cw _]
 show wpAny _ A.in1 (hG (.ref S) >>= _) _ _ s
 refine aj (dY hS rfl ?_)
 show wpAny _ A.in1 (tryCatch (iZ (.ref I)) _ >>= _) _ _ s
 rcases Nat.eq_zero_or_pos n with hn|hn
 ·refine aj (dZ (W.done s _ _ (hn▸Y) λ h' tk C=>?_))
  show wpAny _ A.in1 (rule _ >>= _) _ _ _
  refine aj (iE (aE ?_))
  exact h0 hn h' tk λ b o y _ e=>C b o y e
 ·refine aj (dZ (W.item 0 s _ _ hn Y λ v h' tk hP a2 C=>?_))
  have a1:=C S _ a5 hS
  show wpAny _ A.in1 (updateSeq S (λ _=>#[v,v]) >>= _) _ _ _
  refine aj ?_
  refine gE a1 rfl ?_
  rw[J]
  refine aE ⟨fK cw _,min_loopD W bt Z S G _ 0 _ v _ rfl hn (W.frame _ _ _ a2 λ b a6 o e=>?_) hP (c7 _ a1 rfl) λ v' b0 a0 b1 a3=>?_⟩
  ·exact(bP _ _ (λ h:S=b=>G (by rw[h];exact a6))).trans e
  ·exact hR hn v' b0 a0 b1 λ b o y a4 e=>a3 b o y a4 ((bP _ _ (bT a4)).trans (C b o y e))
end
theorem args_minD (a d:Value):argsOk "min" ⟨[a],[(cD "default",d)]⟩:=by unfold argsOk;kernel_rfl
theorem jy (val : Nat -> Int) : ∀ k j, j <= k -> val (dt (λ i j => decide (val i < val j)) k) <= val j
  | 0, j, h => by have : j = 0 := by omega
                  subst this; exact dP _
  | k + 1, j, h => by
    have ih := jy val k
    unfold dt
    by_cases hb : val (k + 1) < val (dt (λ i j => decide (val i < val j)) k)
    · rw[if_pos (by simpa using hb)]
      by_cases hj : j = k + 1
      · subst hj; exact dP _
      · have := ih j (by omega); omega
    · rw[if_neg (by simpa using hb)]
      by_cases hj : j = k + 1
      · subst hj; omega
      · exact ih j (by omega)
noncomputable def rMinD (K:ab):V->V->Hp->VK->Prop:=λ x d H Q=>∃ a ns,x=.ref a/\SqL K H a (ns.map V.int)/\(ns=[]->Q d H)/\∀ m∈ns,(∀ y∈ns,m<=y)->Q (.int m) H
theorem vals_at {ns:List Int}{its:List Value}(r:Vals (ns.map V.int) its){i:Nat}{v:Value}(h:its[i]?=some v):∃ z t,ns[i]?=some z/\v=Value.int z t:=by
 have hl:=r.length
 rw[az]at hl
 have y:i<its.length:=(ac.mp h).1
 obtain⟨u,e1,q⟩:=r.get (i:=i) (x:=.int ns[i]) (by rw[av,ag (by omega)];rfl)
 rw[h]at e1;cases e1
 obtain⟨t,rfl⟩:=q
 exact⟨_,t,ag (by omega),rfl⟩
theorem run_minD {X:Cx}{C:List (Addr×Obj)}{σ:St}{H:Hp}{s:af}{x d:V}{u Z:Value}{Q:VK}(hc:X.calm=true)(I:Inv X C σ H s)(rx:RelV x u)(rd:RelV d Z)(h:rMinD X.K x d H Q) :
  wpAny (model X.prog X.w) X.A (call (.builtin "min") [u] [(cD "default",Z)]) (EP X C σ Q) X.xe s:=by
 obtain⟨a,ns,rfl,hS,q0,qm⟩:=h
 cases rx
 obtain⟨its,rv,pl,hz⟩:=I.list hS
 have hl:=rv.length
 rw[az]at hl
 have J:(toString "min"++toString ".loop":String) = "min.loop":=by decide
 refine kmb_tree F.kind_min F.plain_min F.entry_min (args_minD _ _) ?_
 show wpAny _ X.A.in1 (eR "min" ["key", "default"] 0 ⟨[],[(cD "default",Z)]⟩ >>= _) _ _ s
 refine aj (wpAny_of_eq (show eR "min" ["key", "default"] 0 ⟨[],[(cD "default",Z)]⟩=pure [none,some Z]from rfl) ?_)
 refine aj (aE ?_)
 refine aj (da pl.isList ?_)
 have a2:a<s.heap.objs.size:=by obtain⟨o,_,e,_⟩:=pl;exact aC e
 have W:=j3 (prog:=X.prog) (w:=X.w) (A:=X.A.in1) (I.ok.hd hc) s.heap.objs.size a (ay a2) its.toArray
 refine aj (bH ?_)
 generalize Y:s.heap.push _=h2
 have G:h2.objs.size=s.heap.objs.size+1:=by rw[<-Y,bX]
 have a1:∀ b o,s.heap.get? b=some o->h2.get? b=some o:=λ b o e=>by rw[<-Y];exact ai _ e
 have a3:h2.objs.size ∉ [s.heap.objs.size,a]:=by
  rw[G]
  intro z
  rcases aH.mp z with z|z
  ·exact absurd z (Nat.succ_ne_self _)
  ·have z':s.heap.objs.size+1=a:=by simpa using z
   exact absurd (ar a2 (by rw[<-z'];exact dk _)) (bu _)
 have a4:(h2.push { cls:=.type "list",data:=.seq ([]:List Value).toArray }).IsListIter s.heap.objs.size a 0/\(h2.push { cls:=.type "list",data:=.seq ([]:List Value).toArray }).IsList a its.toArray:=by
  refine⟨⟨_,ai _ (by rw[<-Y];exact aO _ rfl),rfl,rfl⟩,?_⟩
  obtain⟨o,e,r⟩:=pl.isList
  exact⟨o,ai _ (a1 _ _ e),r⟩
 let val:Nat->Int:=λ i=>ns.getD i 0
 have a0:∀ i v,its.toArray[i]?=some v->∃ t,v=Value.int (val i) t:=λ i v e=>by
  obtain⟨z,t,e1,e2⟩:=vals_at rv (i:=i) (v:=v) (by rw[cA]at e;exact e)
  refine⟨t,?_⟩
  rw[e2]
  show Value.int z t=Value.int (ns.getD i 0) t
  rw[aG,e1]
  rfl
 rw[J]
 have nx:∀(h':Heap) (tk:Nat),(∀ b o,b ∉ [s.heap.objs.size]->b≠h2.objs.size->(h2.push { cls:=.type "list",data:=.seq ([]:List Value).toArray }).get? b=some o->h'.get? b=some o)->Inv X C σ H { s with heap:=h',toks:=tk }:=λ h' tk k=>I.kept λ b o e=>by
  refine k b o ?_ ?_ (ai _ (a1 b o e))
  ·intro z
   have z':b=s.heap.objs.size:=by simpa using z
   exact absurd (aC e) (by rw[z'];exact bu _)
  ·intro z
   exact absurd (aC e) (by rw[z,G];exact Nat.not_lt.mpr (dk _))
 refine aE ⟨fK cw _,min_firstD (d:=Z) W _ (kh val a0) h2.objs.size a3 a4 (aO _ rfl) (λ hn h' tk k=>?_) λ hn v h' tk hP k=>?_⟩
 ·have e:ns=[]:=by
   have:its.toArray.size=0:=hn
   have:its.length=0:=by simpa using this
   exact cL.mp (by omega)
  exact⟨d,H,nx h' tk k,rd,q0 e⟩
 ·obtain⟨z,t,e1,e2⟩:=vals_at rv (i:=dt (λ i j=>decide (val i<val j)) (its.toArray.size - 1)) (v:=v) (by rw[cA]at hP;exact hP)
  subst e2
  have hv:val (dt (λ i j=>decide (val i<val j)) (its.toArray.size - 1))=z:=by
   show ns.getD _ 0=z
   rw[aG,e1]
   rfl
  refine⟨.int z,H,nx h' tk k,⟨t,rfl⟩,qm z (aS e1) λ y hy=>?_⟩
  obtain⟨j,hj,e3⟩:=cE.mp hy
  have:=jy val (its.toArray.size - 1) j (by simp only[au];omega)
  rw[hv]at this
  have e4:val j=y:=by
   show ns.getD j 0=y
   rw[aG,ag hj]
   exact e3
  omega
noncomputable def tMinD (K:ab)(ta td:TE):TE:=λ σ H Q=>ta σ H λ x H1=>td σ H1 λ d H2=>rMinD K x d H2 Q
theorem pe_minD {X:Cx}{K:ab}{e Z:Expr}{Y C:TE}{p pos kp:Pos}(hK:X.K=K)(hc:X.calm=true)(hg:Gl X "min")(hm:X.mg "min"=none)(ha:PE X e Y)(hd:PE X Z C)
  (hs:bo [e] X.env=[(false,eval e X.env)]:=by rfl) :
  PE X (.Call (.Name "min" p) [e] [⟨some "default",Z,kp⟩] pos) (tMinD K Y C):=by
 subst hK
 intro y s σ H Q I h
 refine b8 (ld_blt I hg hm b_min ?_)
 have h':tCons Y tNil σ H (λ vs G=>match vs with|[x]=>C σ G λ d H2=>rMinD X.K x d H2 Q|_=>False):=h
 refine callWith_kw (env:=X.env) (thn ((qe ha pa_nil hs) pos y s σ H _ I h') λ us s1 ⟨vs,G,I1,r1,J⟩=>?_) (by rw[hs];rfl) (by rw[hs];rfl)
 match vs,J,r1 with
 | [x],J,r1 =>
  obtain⟨u,rfl,ru⟩:=vals1 r1
  refine kws_cons (thn (hd y s1 σ G _ I1 J) λ v s2 ⟨d,H2,I2,rd,q2⟩=>kws_nil ?_)
  exact run_minD hc I2 ru rd q2
inductive D where
 | non|bl (b:Bool)|int (i:Int)|str (x:Str)|tup (l:List D)|lst (l:List D)
mutual
noncomputable def D.deep:D->Nat
 | .tup l=>D.deepL l+1
 | .lst l=>D.deepL l+1
 | _=>0
noncomputable def D.deepL:List D->Nat
 | []=>0
 | d::l=>max (D.deep d) (D.deepL l)
end
section
variable {X:Cx}
end
section
variable {X:Cx}
noncomputable def rCatA (K:ab):R2:=λ x y H Q=>∃ a b xs ys,x=.ref a/\y=.ref b/\SqT K H a xs/\SqT K H b ys/\xs.length+ys.length<=aI/\∀ p H',Same H H'->SqT K H' p (xs++ys)->Q (.ref p) H'
theorem cat_nil {prog:aM}{w:World}{A:aV}{E:Value->af->Prop}{s:af}{t b:Addr}{ws:List Value}{Q:Value->af->Prop}(ht:IsTup s.heap t ([]:List Value).toArray)(hb:IsTup s.heap b ws.toArray)(h1:Q (.ref b) s) :
  wpAny (model prog w) A (b7 .Add (.ref t) (.ref b)) Q E s:=by
 obtain⟨⟨cls,dd,data,sl⟩,ho,hc,n,hd⟩:=id ht
 obtain⟨⟨Z,J,Y,G⟩,h,y,n2,C⟩:=id hb
 simp only at hc hd y C
 subst hc hd y C
 exact iR ⟨_,ho,rfl⟩ ⟨_,h,rfl⟩ fT io dW dL (dB _ _)
   (tuple_addW0 t b _ ws.toArray n n2 dd J sl G rfl) ⟨ho,h,h1⟩
theorem op_catK {K:ab}(hK:X.K=K):OpR X (b7 .Add) (rCatA K):=by
 subst hK
 intro C s σ H x y v u Q I Z Y h
 obtain⟨a,b,G,ys,e1,e2,ha,hb,hz,q⟩:=h
 by_cases hx:G=[]
 ·subst e1;subst e2;subst hx
  cases Z;cases Y
  obtain⟨its,r1,p1,_⟩:=I.tuple ha
  obtain⟨J,r2,p2,_⟩:=I.tuple hb
  obtain rfl:its=[]:=r1.nil_iff.mpr rfl
  exact cat_nil p1 p2 ⟨.ref b,H,I,rfl,q b H (Same.refl H) hb⟩
 ·refine op_catT C s σ H x y v u Q I Z Y ⟨a,b,G,ys,e1,e2,ha,hb,hx,hz,λ z=>?_,λ z p hp=>?_⟩
  ·subst z
   exact q a H (Same.refl H) (by rw[bE];exact ha)
  ·exact q p _ ((Same.refl H).new hp) (SqT.of zn)
noncomputable def rSlA (K:ab):V->Option Int->Option Int->Hp->VK->Prop:=λ x lo hi H Q=>∃ a xs,x=.ref a/\SqT K H a xs/\∀ p H',Same H H'->SqT K H' p (cutV xs lo hi)->Q (.ref p) H'
theorem getItem_whole {prog:aM}{w:World}{A:aV}{E:Value->af->Prop}{s:af}{t sl:Addr}{y:Array Value}{vl vu:Value}{C Y:Option Int}{Q:Value->af->Prop}(G:IsTup s.heap t y)(hs:s.heap.IsSliceOf sl vl vu .none)(pl:fH vl C)(pu:fH vu Y)
  (hw:HT.sIx y.size 0 C=0/\HT.sIx y.size y.size Y=y.size) (h:Q (.ref t) s):wpAny (model prog w) A (gb (.ref t) (.ref sl)) Q E s:=by
 obtain⟨os,Z,a0,a2⟩:=id hs
 have a1:s.TypeIs (.ref sl) "slice":=⟨os,Z,a0⟩
 unfold gb
 try with_reducible refine cY ?_
 first|refine aj (aE ?_)|skip
 refine aj (iT G.typeIs (by decide) ?_)
 refine aj (cK (name:=cD "__getitem__") G.typeIs br
  (dr br G.typeIs hX ?_ (iC _ _)))
 show wpAny _ _ (di (.ref t) >>= _) _ _ s
 refine aj (ip G ?_)
 refine aj (gd a1 ?_)
 rw[if_pos (by decide)]
 refine aj (HT.sliceApplied_gen hs pl pu ?_)
 have J:((((HT.sIx y.size 0 C:Nat):Int)==0&&(1:Int)==1&&(HT.sIx y.size y.size Y - HT.sIx y.size 0 C)==y.size)=true):=by
  rw[hw.1,hw.2]
  simp
 show wpAny _ _ (if(((HT.sIx y.size 0 C:Nat):Int)==0&&(1:Int)==1&&(HT.sIx y.size y.size Y - HT.sIx y.size 0 C)==y.size)=true then _ else _) _ _ s
 rw[if_pos J]
 refine aj (aj (gd G.typeIs (aE ?_)))
 rw[if_pos (by decide)]
 exact aj (iE (aE ⟨_,rfl,aE h⟩))
theorem cutV_whole {y:List V}{G C:Option Int}(h:HT.sIx y.length 0 G=0/\HT.sIx y.length y.length C=y.length):cutV y G C=y:=by
 unfold cutV
 rw[h.1,h.2]
 simp
theorem sl_tupK {K:ab}(hK:X.K=K):SlR X (rSlA K):=by
 subst hK
 intro C s σ H x v vl vu Y Z sl Q I rx hs pl pu h
 obtain⟨a,y,e1,hx,q⟩:=h
 by_cases hw:HT.sIx y.length 0 Y=0/\HT.sIx y.length y.length Z=y.length
 ·subst e1
  cases rx
  obtain⟨its,r,J,hz⟩:=I.tuple hx
  have G:its.toArray.size=y.length:=by rw[au];exact r.length.symm
  refine⟨"tuple",_,br.lookup,J.typeIs,?_⟩
  exact getItem_whole J hs pl pu (by rw[G];exact hw) ⟨.ref a,H,I,rfl,q a H (Same.refl H) (by rw[cutV_whole hw];exact hx)⟩
 ·exact sl_tup C s σ H x v vl vu Y Z sl Q I rx hs pl pu ⟨a,y,e1,hx,hw,λ p hp=>q p _ ((Same.refl H).new hp) (SqT.of zn)⟩
theorem sl_listK {K:ab}(h:X.K=K):SlR X (rSlL K):=by subst h;exact sl_list
end
noncomputable def Its (x:Str):It:=⟨λ i _=>i<x.cps.size,λ i H v H'=>H'=H/\∃ c,x.cps[i]?=some c/\v=.str ⟨#[c]⟩,λ i _=>x.cps.size<=i⟩
theorem turn_str {P:aM}{w:World}{K:ab}{tg:Expr}{J:String}{x:Str}{t:Tok}(y:Addr)(hn:["enumerate", "zip", "dict_itemiterator", "dict_reverseitemiterator", "odict_iterator", "itertools.zip_longest", "itertools.pairwise"].contains J=false)
  (W:∀ A:aV,A.handled=none->Walks P w A y [y] [y] x.cps.size (SignAt x) (λ i h=>h.IsStrIter y J x t i))
  (Y:∀(A:aV) (s:af) (i:Nat) (Q:Option Value->af->Prop) (E:Value->af->Prop),A.handled=none->s.heap.IsStrIter y J x t i->x.cps[i]?=none->(∀ h',jJ y s.heap h'->Q none { s with heap:=h' })->wpAny (model P w) A (iZ (.ref y)) Q E s)
  (G:∀(A:aV) (i:Nat) (s:af) (Q:Value->af->Prop) (E:Value->af->Prop),s.heap.IsStrIter y J x t i->Q (.ref y) s->wpAny (model P w) A (ko (.ref y)) Q E s):Turn P w K tg (Its x) [y] y (λ i h=>h.IsStrIter y J x t i) where
 mem:=by simp
 obj:=λ i h st b hb=>by
  have e:b=y:=by simpa using hb
  subst e
  obtain⟨o,ho,hc,hd⟩:=st
  exact⟨o,ho,λ v z=>by rw[hd]at z;cases z⟩
 keep:=λ i h h' st k=>by
  obtain⟨o,ho,r⟩:=st
  exact⟨o,k y (by simp) _ ho,r⟩
 item:=by
  intro X hP hw hK hc i C s σ H E I hf st hg
  subst hP hw hK
  obtain⟨f0,f1,f2,f3,f4,f5⟩:=hf y (by simp)
  refine(W X.A (I.ok.hd hc)).item i s _ _ hg st λ v h' tk hv Z kk=>?_
  obtain⟨c,u,a0,rfl⟩:=hv
  have I1:Inv X C σ H { s with heap:=h',toks:=tk }:=I.turned (λ b o hb e=>kk b o (by simpa using hb) e) f0 f1 f3 f4 f5
  obtain⟨o,ho,a1,hd⟩:=id Z
  exact⟨_,rfl,go_of (s:={ s with heap:=h',toks:=tk }) (n:=J) ho a1 hd hn ⟨.str ⟨#[c]⟩,H,I1,⟨u,rfl⟩,⟨rfl,c,a0,rfl⟩,Z,λ b hb=>(hf b hb).1⟩⟩
 done:=by
  intro X hP hw hK hc i C s σ H E I hf st hg
  subst hP hw hK
  obtain⟨f0,f1,f2,f3,f4,f5⟩:=hf y (by simp)
  have a2:x.cps.size<=i:=hg
  exact Y X.A s i _ E (I.ok.hd hc) st (by simp;omega) λ h' eb=>⟨rfl,I.turned (t':=s.toks) (λ b o hb e=>eb b o hb e) f0 f1 f3 f4 f5⟩
 self:=λ A i s Q E st h=>G A i s Q E st h
noncomputable def iStr (tl:TE):TI:=λ σ H R=>tl σ H λ v H1=>∃ x,v=.str x/\R (Its x) H1
theorem pi_str {X:Cx}{tg l:Expr}{Y:TE}(hl:PE X l Y):PI X tg l (iStr Y):=by
 intro y s σ H R I h
 refine thn (hl y s σ H _ I h) λ v s1 ⟨v0,Z,G,r1,q1⟩=>?_
 obtain⟨x,e,q⟩:=q1
 subst e
 obtain⟨t,rfl⟩:=r1
 have fin:∀(C:String) (o:Obj),o={ cls:=.type C,data:=.fields #[.str x t,.int 0 0] }->Turn X.prog X.w X.K tg (Its x) [s1.heap.objs.size] s1.heap.objs.size (λ i h=>h.IsStrIter s1.heap.objs.size C x t i)->PIE X y σ tg R (.ref s1.heap.objs.size) { s1 with heap:=s1.heap.push o }:=λ C o eo T=>by
  subst eo
  refine⟨s1.heap.objs.size,[s1.heap.objs.size],_,_,Z,rfl,G.kept (t':=s1.toks) λ b o e=>ai _ e,T,⟨_,aO _ rfl,rfl,rfl⟩,λ b hb=>?_,q⟩
  have e:b=s1.heap.objs.size:=by simpa using hb
  subst e
  exact G.fpOk (ah _) (G.hok.fresh (ah _))
 cases ha:x.cps.all (·<128)
 ·exact wpAny_pyIter_wide ha (fin "str_iterator" _ rfl (turn_str _ (by decide) (λ A hA=>Walks.strWide hA _ x t) (λ A s i Q E hA st hx J=>wpAny_pyNext_wide_end hA st hx J) λ A i s Q E st h=>wpAny_pyIter_striter_wide st h))
 ·exact wpAny_pyIter_ascii ha (fin "str_ascii_iterator" _ rfl (turn_str _ (by decide) (λ A hA=>Walks.strAscii hA _ x t) (λ A s i Q E hA st hx J=>wpAny_pyNext_ascii_end hA st hx J) λ A i s Q E st h=>wpAny_pyIter_striter_ascii st h))
section
variable {X:Cx} {K:ab} {T id:String} {name:Str} {o e:Expr} {es:List Expr} {to:TE} {t:TA} {r:V->List V->Hp->VK->Prop} {apos cpos:Pos}
theorem pe_bmK (Y:X.K=K)(pa:j0 T)(slot:Slot T name id)(J:typeOf (.builtin id)=pure (.type "method_descriptor"))(Z:MtR X id r)(ho:PE X o to)(ha:PA X (e::es) t)
  (y:fI o name X.env (eval o X.env)=eval o X.env:=by rfl)
  (G:((dU cpos (bo (e::es) X.env)).all (λ x=>!x.1)&&(backToKw cpos (keywordEach [] X.env)).all (λ x=>x.1.isSome)
   && decide ((e::es).length+([]:List jV).length+(if([]:List jV).isEmpty then 0 else 1)<30))=true:=by rfl)
  (C:(apos.endLine==cpos.line)=true:=by rfl) (hs:bo (e::es) X.env=(false,eval e X.env)::bo es X.env:=by rfl) (h:(dU cpos (bo es X.env)).any (·.1)=false:=by rfl) :
  PE X (.Call (.Attribute o name apos) (e::es) [] cpos) (tBM K T r to t):=by
 subst Y
 exact pe_bm pa slot J Z ho ha y G C hs h
end
structure Mach where
 letters:Int
 rooms:Int
 begins:List Int
 ends:List Int
 doors:List (Int×Str×Int×Int)
noncomputable def doorD (q:Int×Str×Int×Int):D:=.tup [.int q.1,.str q.2.1,.int q.2.2.1,.int q.2.2.2]
noncomputable def Mach.D (M:Mach):D:=.tup [.int M.letters,.int M.rooms,.tup (M.begins.map .int),.tup (M.ends.map .int),.tup (M.doors.map doorD)]
noncomputable def ltr (i:Nat):Str:=⟨#[97+i]⟩
structure DoorOk (letters rooms:Int)(q:Int×Str×Int×Int):Prop where
 s0:0<=q.1
 s1:q.1<rooms
 l:∃ i:Nat,(i:Int)<letters/\q.2.1=ltr i
 g0:0<=q.2.2.1
 g1:q.2.2.1<rooms
 t0:0<=q.2.2.2
 t1:q.2.2.2<=3
structure RoomsOk (rooms:Int)(l:List Int):Prop where
 mem:∀ r∈l,0<=r/\r<rooms
 up:l.Pairwise (· < ·)
structure Mach.Ok (most:Nat)(M:Mach):Prop where
 l0:1<=M.letters
 l1:M.letters<=3
 r0:1<=M.rooms
 r1:M.rooms<=5
 b:RoomsOk M.rooms M.begins
 e:RoomsOk M.rooms M.ends
 d:∀ q∈M.doors,DoorOk M.letters M.rooms q
 m:M.doors.length<=most
mutual
noncomputable def D.tups:D->Bool
 | .lst _=>false
 | .tup l=>D.tupsL l
 | _=>true
noncomputable def D.tupsL:List D->Bool
 | []=>true
 | d::l=>D.tups d&&D.tupsL l
end
end L2
end
noncomputable section
namespace L2
end L2
end
noncomputable section
namespace L2
open PySem PySem.Spec PyProof.Rows
noncomputable def optD:Option Int->D
 | none=>.non
 | some i=>.int i
noncomputable def addO:Option Int->Option Int->Option Int
 | some a,some b=>some (a+b)
 | _,_=>none
noncomputable def minO:List Int->Option Int
 | []=>none
 | a::l=>some (match minO l with|none=>a|some b=>if b<a then b else a)
theorem ps_setComp {X:Cx}{a0 tg iter:Expr}{Z:List Expr}{scope:Scope}{pos a1 py:Pos}{y:Str}{i:Nat}{wi:TI}{g:TG}{tc:TT}{te:TE}(N':List Str)(src:List (Option Nat))
  (hN:X.N.Nodup) (b4:X.N[i]?=some y) (a6:X.env.scope.names.lookup y=some .local)
  (c0:qo N' src scope X.N X.env.scope=true) (hi:PI X tg iter wi) (a2:X.calm=true)
  (b3:∀(C:Addr) (cells:List (Str×Addr)) (s:af) (H:Hp) (ex:List Addr),PG (zU X N' scope C cells s H ex) tg g/\PIf (zU X N' scope C cells s H ex) Z tc/\PE (zU X N' scope C cells s H ex) a0 te)
  (hs:∀ x,db iter X.env x=pure x:=by intro _;rfl)
  (b6:fR (.ListComp a0 [⟨tg,iter,Z,0⟩] scope pos) (some (.Name y py)) a1.line X.env=pure true:=by rfl) :
  PS X (.Assign [.Name y py] (.ListComp a0 [⟨tg,iter,Z,0⟩] scope pos) a1) (tAsg (tComp src wi g tc te) (gName i)):=by
 intro G s σ H D0 I h
 have ck:=compCk c0
 rw[exec_Assign_Name_used _ _ _ _ b6]
 refine aj (ik (aj ?_))
 show wpAny _ X.A (do let _ <- comprehension (.ListComp a0 [⟨tg,iter,Z,0⟩] scope pos) scope X.env _ (newList []) false (eval iter X.env) (some (f8 (.Name y py) X.env))) _ _ s
 have b2:=qA (scope:=scope) (env:=X.env) λ y hy e=>I.ok.has y.1 (ck.fr y hy e)
 refine aj (cg (fJ (use:=some (f8 (.Name y py) X.env)) (Q:=λ _ s'=>SP X G D0 .next s') rfl hs b2 ck.kind ck.loc (thn (hi G s σ H _ I h) λ v s1 h1=>thn h1 λ c4 s2 h2=>?_)) (λ _ s' hq=>aE (aE hq)) λ _ _ e=>e)
 obtain⟨it,Y,tn,J,H2,e,I2,T,b1,f2,W⟩:=h2
 subst e
 have hD:=I2.fresh
 obtain⟨W,⟨m0,w0⟩,turn⟩:=W _ hD
 have I3:=I2.lnew (its:=[]) (ys:=[]) (t':=s2.toks) .nil (dj _)
 have a5:∀ b∈Y,b<s2.heap.objs.size:=λ b hb=>by obtain⟨o,q,_⟩:=T.obj _ _ b1 b hb;exact aC q
 have f3:∀ b∈Y,FpOk X G (upd H2 s2.heap.objs.size (.lst [])) b:=λ b hb=>⟨by rw[zb (ay (a5 b hb))];exact(f2 b hb).1,(f2 b hb).2⟩
 refine bH (wpAny_compEnv ?_)
 generalize a3:({ s2 with heap:=s2.heap.push { cls:=.type "list",data:=.seq ([]:List Value).toArray },toks:=s2.toks }:af)=s3 at I3
 have c3:({ s2 with heap:=s2.heap.push { cls:=.type "list",data:=.seq ([]:List Value).toArray } }:af)=s3:=a3
 have b5:∀ b∈Y,b<s3.heap.objs.size:=λ b hb=>by
  rw[<-a3]
  show b<(s2.heap.push _).objs.size
  rw[bX]
  exact fx (a5 b hb)
 have I4:=comp_start (s4:={ s3 with heap:=d9 (s3.heap.push { cls:=.type "dict",data:=.dict #[] }) scope.names }) ck I3 f3 b5 ⟨_,rfl⟩
 have a4:tn 0 (d9 (s3.heap.push { cls:=.type "dict",data:=.dict #[] }) scope.names):=T.keep _ _ _ b1 λ b hb o e=>cT _ _ b o (ai _ (by rw[<-a3];exact ai _ e))
 obtain⟨hg,hif,he⟩:=b3 s3.heap.objs.size (aL (s3.heap.objs.size+1) scope.names (clOf X.env.cells scope.names [])) s3 (upd H2 s2.heap.objs.size (.lst [])) Y
 have b0:∀ H':Hp,(∀ b∈Y,H' b=none)->∀ b∈Y,FpOk (zU X N' scope s3.heap.objs.size (aL (s3.heap.objs.size+1) scope.names (clOf X.env.cells scope.names [])) s3 (upd H2 s2.heap.objs.size (.lst [])) Y) [] H' b:=λ H' hn b hb =>
  ⟨hn b hb,(I4.ok.exf b hb).1,I4.ok.exfs b hb,.inl hb,λ x c e=>(I4.ok.exf b hb).2 x c e,λ p hp=>absurd (show p∈([]:List (Addr×Obj))from hp) (by simp)⟩
 have T':Turn X.prog X.w X.K tg J Y it tn:=T
 have c2:∀ b∈Y,upd H2 s2.heap.objs.size (.lst []) b=none:=λ b hb=>(f3 b hb).1
 have L:=comp_loop (X':=zU X N' scope s3.heap.objs.size (aL (s3.heap.objs.size+1) scope.names (clOf X.env.cells scope.names [])) s3 (upd H2 s2.heap.objs.size (.lst [])) Y) (R:=compPost (model X.prog X.w) X.A X.xe (some (f8 (.Name y py) X.env)) (λ _ s'=>SP X G D0 .next s') (Value.ref s2.heap.objs.size) s3.heap.objs.size) (iter:=iter) (scope:=scope) (pos:=pos) (QD:=λ H'=>D0.nx (σ.set i (some (.ref s2.heap.objs.size))) H') rfl a2 I4 T' a4 b0 c2 w0 turn hg hif he
  (λ σ' H' s' J' q=>by
   have J2:=comp_end I3 f3 J' (Heap.SameBut.refl _ _)
   obtain⟨mm,hn,_⟩:=J'.loc
   have nL:s3.heap.objs.size≠X.env.locals:=dq I3.lt
   have nC:∀ x c,X.env.cells.lookup x=some c->c≠s3.heap.objs.size:=λ x c e=>by
    obtain⟨v,z⟩:=I3.cell x c e
    exact ay z.lt
   show wpAny _ X.A (f8 (.Name y py) X.env (.ref s2.heap.objs.size)) _ _ _
   refine iO (store_ok2 (v:=.ref s2.heap.objs.size) J2 hN b4 (.inl a6) rfl (λ s5 I5 sb=>?_) (.inr a6))
   obtain⟨aa,sb,ha⟩:=sb
   have na:s3.heap.objs.size≠aa:=by
    rcases ha with z|z
    ·rw[z];exact nL
    ·exact λ e=>nC _ _ z e.symm
   refine⟨mm,hn.sameBut sb na,λ h' c1=>⟨_,H',I5.turned (t':=s5.toks) (λ b o hb e=>(c1.2 b hb).trans e) J'.free nL (.inr I3.sz) nC λ p hp z=>?_,q⟩⟩
   exact absurd (aC (I3.pin p hp).1) (by rw[z];exact bu _))
 exact gq L (T.self _ _ _ _ _ a4 L)
noncomputable def rSlS:V->Option Int->Option Int->Hp->VK->Prop:=λ x lo hi H Q=>∃ z,x=.str z/\z.length<=aI/\Q (.str (eI z lo hi)) H
theorem isPart_of {v:Value}{o:Option Int}(p:fH v o):∃ q:Option (Int×Tok),v=partValue q/\q.map (·.1)=o:=by
 cases p with
 | none=>exact⟨none,rfl,rfl⟩
 | int i t=>exact⟨some (i,t),rfl,rfl⟩
theorem sl_str {X:Cx}:SlR X rSlS:=by
 intro Y s σ H x v vl vu C G sl Q I rx hs pl pu h
 obtain⟨z,rfl,hz,q⟩:=h
 obtain⟨t,rfl⟩:=rx
 obtain⟨l,rfl,el⟩:=isPart_of pl
 obtain⟨u,rfl,Z⟩:=isPart_of pu
 refine⟨"str",_,F.slot_str_getitem.lookup,jZ s z t,?_⟩
 refine wpAny_getItem_str_slice (l:=l) (u:=u) (st:=none) hs rfl ?_
 unfold sliceMade
 have e:slicePicked z l u none=bC C G 1 z.length:=by
  unfold slicePicked
  rw[el,Z]
  rfl
 rw[e]
 unfold eI at q
 split
 ·rename_i hc
  have y:((1:Int)==1&&(bC C G 1 z.length).length==z.length)=true:=hc
  rw[if_pos y]at q
  exact⟨.str z,H,I,⟨t,rfl⟩,q⟩
 ·rename_i hc
  have y:¬((1:Int)==1&&(bC C G 1 z.length).length==z.length)=true:=hc
  rw[if_neg y]at q
  have J:(Str.mk (gU (λ x=>z.cps[x]?) (bC C G 1 z.length)).toArray).length<=aI:=by
   show(gU (λ x=>z.cps[x]?) (bC C G 1 z.length)).toArray.size<=aI
   rw[au]
   exact am (fL _ _) (am (sliceIndices_le C G z.length) hz)
  exact⟨J,.str _,H,I.tok _,⟨_,rfl⟩,q⟩
section
variable {M:Model} {A:aV} {E:Value->af->Prop} {s₀ s:af} {m cm:Str->Option Value} {env:Env} {cs:List (Str×Addr)}
theorem put_loc {n:Str}{v:Value}{Q:Unit->af->Prop}(z:fu s₀ env.locals m cs cm s)(C:env.scope.kind=.function)(kl:env.kindOf n=some .local)
  (go:∀ s',fu s₀ env.locals (λ y=>if y=n then some v else m y) cs cm s'->Q () s'):wpAny M A (fQ env n v) Q E s:=by
 refine gH kl z.toInCall.ns (λ g G h=>go _ ⟨⟨?a,G,λ b o e=>?b,z.toInCall.fresh⟩,λ k c e=>?c,z.apart,z.above⟩) (by rw[C];rfl)
 case a=>obtain⟨J,tk,e⟩:=z.toInCall.same;subst e;exact⟨g,_,rfl⟩
 case b=>exact h.extBut b o (ay (ar (aC e) z.toInCall.fresh)) (z.toInCall.keep b o e)
 case c=>exact(z.cell k c e).sameBut h (dq (z.above k c (aA e)))
theorem put_cel {n:Str}{c:Addr}{v:Value}{Q:Unit->af->Prop}(z:fu s₀ env.locals m cs cm s)(J:env.scope.kind=.function)(G:env.kindOf n=some .cell)
  (e1:env.cells.lookup n=some c) (e2:cs.lookup n=some c) (go:∀ s',fu s₀ env.locals m cs (λ y=>if y=n then some v else cm y) s'->Q () s'):wpAny M A (fQ env n v) Q E s:=by
 have up:=z.above n c (aA e2)
 refine gN J G e1 (z.cell n c e2) λ g Y h=>go _ ⟨⟨?a,z.toInCall.ns.sameBut h (ay up),λ b o e=>?b,z.toInCall.fresh⟩,λ k C e=>?c,z.apart,z.above⟩
 case a=>obtain⟨Z,tk,e⟩:=z.toInCall.same;subst e;exact⟨g,_,rfl⟩
 case b=>exact h.extBut b o (ay (cF (ar (aC e) z.toInCall.fresh) up)) (z.toInCall.keep b o e)
 case c =>
  by_cases q:k=n
  ·subst q
   rw[e2]at e;cases e
   simpa using Y
  ·rw[if_neg q]
   exact(z.cell k C e).sameBut h λ y=>q (ga z.apart (aA e) (y▸aA e2))
theorem put_all (f:Str×Value->PUnit->Sem (ForInStep PUnit))(Z:∀ n v u,f (n,v) u=(do fQ env n v;pure (.yield ⟨⟩)))(G:env.scope.kind=.function)(sub:∀ n c,cs.lookup n=some c->env.cells.lookup n=some c) :
  ∀(bs:List (Str×Value)) (m J:Str->Option Value) (s:af) (Q:PUnit->af->Prop),fu s₀ env.locals m cs J s ->
   (∀ y∈bs,env.kindOf y.1=some .local\/(env.kindOf y.1=some .cell/\∃ c,cs.lookup y.1=some c)) ->
   (∀ s',fu s₀ env.locals (bindL env.kindOf bs m) cs (bindC env.kindOf bs J) s'->Q ⟨⟩ s')->wpAny M A (forIn bs ⟨⟩ f) Q E s
 | [],m,J,s,Q,z,_,go=>by rw[gS];exact aE (go s z)
 | (n,v)::r,m,J,s,Q,z,hy,go=>by
  rw[jN,Z]
  have hr:=λ y (q:y∈r)=>hy y (ax _ q)
  rcases hy (n,v) aF with kl|⟨kc,c,e2⟩
  ·refine aj (aj (put_loc z G kl λ s' Y=>aE (put_all f Z G sub r _ _ s' Q Y hr λ C h=>go C ?_)))
   unfold bindL bindC;rw[if_pos kl,if_pos kl];exact h
  ·have nl:¬ env.kindOf n=some .local:=by rw[kc];decide
   refine aj (aj (put_cel z G kc (sub n c e2) e2 λ s' Y=>aE (put_all f Z G sub r _ _ s' Q Y hr λ C h=>go C ?_)))
   unfold bindL bindC;rw[if_neg nl,if_neg nl];exact h
end
theorem enter_clos {M:Model}{A:aV}{E:Value->af->Prop}{s:af}{scope:Scope}{globals:Addr}{h:List (Str×Addr)}{binds:List (Str×Value)}{qual:Str}{func:Option Addr}{code:Value}{builtins:Addr}{Q:Env->af->Prop}
  (J:scope.kind=.function) (hy:∀ y∈binds,scope.names.lookup y.1=some .local\/(scope.names.lookup y.1=some .cell/\∃ c,(aL (s.heap.objs.size+1) scope.names []).lookup y.1=some c))
  (go:∀ env,env=newEnv scope s.heap.objs.size globals (aL (s.heap.objs.size+1) scope.names h) qual func code none builtins ->
   ∀ s',fu s env.locals (bindL env.kindOf binds λ _=>none) (aL (s.heap.objs.size+1) scope.names []) (bindC env.kindOf binds λ _=>none) s'->Q env s') :
  wpAny M A (e9 scope globals h binds qual func code none builtins) Q E s:=by
 simp only[e9,iG,aK,if_false]
 refine aj (wpAny_alloc (aj (wpAny_layCells _ (λ Y kd Z=>by cases q:kd==NameKind.cell<;>simp[q]) _ _ _ _ ?_)))
 have ok:=cellsFrom_ok scope.names (s.heap.push { cls:=.type "frame",data:=.dict #[] }) (s.heap.objs.size+1) [] ⟨λ _ _ G=>(nomatch G),List.Pairwise.nil⟩ (by rw[bX];exact ah _)
 have C:({ s with heap:=s.heap.push { cls:=.type "frame",data:=.dict #[] } }:af).heap.objs.size=s.heap.objs.size+1:=bX ..
 rw[bX]at ok
 rw[C]
 refine aj (put_all (s₀:=s) (cs:=aL (s.heap.objs.size+1) scope.names []) (env:=newEnv scope s.heap.objs.size globals (aL (s.heap.objs.size+1) scope.names h) qual func code none builtins)
  _ (λ _ _ _=>rfl) J (λ n c e=>?sub) binds (λ _=>none) (λ _=>none) _ _ ⟨⟨⟨_,_,rfl⟩,?ns,λ b o e=>?k,ah _⟩,λ n c e=>(ok.empty n c (aA e)).1,ok.apart,λ n c e=>(ok.empty n c e).2⟩ hy λ s' x=>aE (go _ rfl s' x))
 case sub =>
  show(aL _ _ _).lookup n=some c
  rw[zu,zR,e];rfl
 case ns=>exact(kF s.heap (.type "frame")).keeps (cT _ _)
 case k=>exact cT _ _ b o (ai _ e)
noncomputable def qK (c:Addr)(qual:Str):HO:=.ext λ h=>h.CodeRec (.ref c) qual
noncomputable def lamO (f:Addr)(fd:bI):HO:=.ext λ h=>h.get? f=some { cls:=.type "function",data:=.func fd }
theorem codeO_ok {P:aM}{w:World}{H:Hp}{h:Heap}{c:Addr}{q:Str}(r:h.CodeRec (.ref c) q):ObjOk P w H h c (qK c q):=by
 refine⟨r,?_,λ G C z k=>?_⟩
 ·obtain⟨y,o,vs,t,e,g,_⟩:=r
  cases e
  exact⟨o,g⟩
 ·obtain⟨y,o,vs,t,e,g,d⟩:=z
  cases e
  exact⟨c,o,vs,t,rfl,k o g,d⟩
theorem codeO_get {P:aM}{w:World}{H:Hp}{h:Heap}{c:Addr}{q:Str}(x:HOk P w H h)(e:H c=some (qK c q)):h.CodeRec (.ref c) q:=(x c _ e).1
theorem lamO_ok {P:aM}{w:World}{H:Hp}{h:Heap}{f:Addr}{y:bI}(r:h.get? f=some { cls:=.type "function",data:=.func y }):ObjOk P w H h f (lamO f y) :=
 ⟨r,⟨_,r⟩,λ _ _ z k=>k _ z⟩
theorem lamO_get {P:aM}{w:World}{H:Hp}{h:Heap}{f:Addr}{y:bI}(x:HOk P w H h)(e:H f=some (lamO f y)):h.get? f=some { cls:=.type "function",data:=.func y }:=(x f _ e).1
noncomputable def isC (cells:List (Str×Addr))(b:Addr):Bool:=cells.any λ p=>cells.lookup p.1==some b
theorem isC_iff {cells:List (Str×Addr)}{b:Addr}:isC cells b=true↔∃ x,cells.lookup x=some b:=by
 unfold isC
 rw[i7]
 constructor
 ·rintro⟨p,_,e⟩;exact⟨p.1,by simpa using e⟩
 ·rintro⟨x,e⟩;exact⟨(x,b),aA e,by simpa using e⟩
noncomputable def Drop (cells:List (Str×Addr))(H:Hp):Hp:=λ b=>if isC cells b=true then none else H b
noncomputable def Put (cells:List (Str×Addr))(H H':Hp):Hp:=λ b=>if isC cells b=true then H b else H' b
theorem Drop.cell {cells:List (Str×Addr)}{H:Hp}{b:Addr}(h:isC cells b=true):Drop cells H b=none:=if_pos h
theorem Drop.ne {cells:List (Str×Addr)}{H:Hp}{b:Addr}(h:isC cells b≠true):Drop cells H b=H b:=if_neg h
theorem Drop.some {cells:List (Str×Addr)}{H:Hp}{b:Addr}{o:HO}(h:Drop cells H b=some o):isC cells b≠true/\H b=some o:=by
 unfold Drop at h
 split at h
 ·cases h
 ·rename_i z;exact⟨z,h⟩
theorem Drop.none {cells:List (Str×Addr)}{H:Hp}{b:Addr}(h:H b=none):Drop cells H b=none:=by
 unfold Drop
 split
 ·rfl
 ·exact h
theorem Put.cell {cells:List (Str×Addr)}{H H':Hp}{b:Addr}(h:isC cells b=true):Put cells H H' b=H b:=if_pos h
theorem Put.ne {cells:List (Str×Addr)}{H H':Hp}{b:Addr}(h:isC cells b≠true):Put cells H H' b=H' b:=if_neg h
noncomputable def Cells (clos:List (Str×Addr))(H:Hp):Prop:=∀ x c,clos.lookup x=some c->∃ o v,H c=some (.frz o (.own c))/\o.data=.cell v
theorem Cells.at {y:List (Str×Addr)}{H:Hp}(z:Cells y H){b:Addr}(h:isC y b=true):∃ o v,H b=some (.frz o (.own b))/\o.data=.cell v:=by
 obtain⟨x,e⟩:=isC_iff.mp h
 exact z x b e
noncomputable def Cap (clos:List (Str×Addr))(H:Hp)(fr:List Str)(cap:List V):Prop:=∀(i:Nat) (x:Str) (v:V),fr[i]?=some x->cap[i]?=some v->∃ c o u,clos.lookup x=some c/\H c=some (.frz o (.own c))/\o.data=.cell (some u)/\RelV v u
structure LamScope (N ps fr:List Str)(sc:Scope):Prop where
 kind:sc.kind=.function
 co:sc.isCoroutine=false
 gen:sc.isGenerator=false
 nd:N.Nodup
 app:N=ps++fr
 par:∀ x∈ps,sc.names.lookup x=some .local\/sc.names.lookup x=some .cell
 frs:∀ x∈fr,sc.names.lookup x=some .free
 cel:∀ y∈sc.names,y.2=.cell->sc.names.lookup y.1=some .cell
noncomputable def cxLam (P:aM)(w:World)(K:ab)(mg:Str->Option Value)(base:Heap)(N:List Str)(qual:Str)(scope:Scope)(f:Addr)(cd:Value)(clos:List (Str×Addr))(A:aV)(outer:List Env)(s:af)(H:Hp):Cx where
 prog:=P
 w:=w
 K:=K
 mg:=mg
 base:=base
 A:=A.deeper (cQ qual scope s.heap.objs.size f cd (aL (s.heap.objs.size+1) scope.names clos))
 N:=N
 s₀:=s
 H₀:=Drop clos H
 env:=cQ qual scope s.heap.objs.size f cd (aL (s.heap.objs.size+1) scope.names clos)
 outer:=outer
 stack:=cQ qual scope s.heap.objs.size f cd (aL (s.heap.objs.size+1) scope.names clos)::outer
 ex:=[]
 fn:=λ x=>scope.names.lookup x==some .cell
 calm:=true
 pn:=[]
 xe:=λ _ _=>False
theorem HOk.drop {P:aM}{w:World}{H:Hp}{h:Heap}{C:List (Str×Addr)}(x:HOk P w H h)(z:Cells C H):HOk P w (Drop C H) h:=λ b o e=>by
 obtain⟨_,e'⟩:=Drop.some e
 have G:∀ c u,H c=some u->(∀ o v,u≠.frz o v)->isC C c≠true:=λ c u q d y=>by
  obtain⟨o,v,q',_⟩:=z.at y
  rw[q]at q';cases q'
  exact d _ _ rfl
 exact(x b o e').stay (λ _ _ _ q=>q) (λ c q=>by rw[Drop.ne (G c _ q λ _ _=>by nofun)];exact q) λ c J q=>by rw[Drop.ne (G c _ q λ _ _=>by nofun)];exact q
theorem inv_lam {P:aM}{w:World}{K:ab}{mg:Str->Option Value}{G:Heap}{N ps fr:List Str}{qual:Str}{scope:Scope}{f:Addr}{cd:Value}{h:List (Str×Addr)}{A:aV}{outer:List Env}{s s1:af}{H:Hp}{us:List Value}{vs cap:List V}
  (S:LamScope N ps fr scope) (hd:A.handled=none) (C:Env0 P w K mg G A outer s H) (hl:vs.length=ps.length) (a4:cap.length=fr.length) (r:Vals vs us)
  (hc:Cells h H) (inj:∀ x y c,h.lookup x=some c->h.lookup y=some c->x=y) (a5:∀ x,scope.names.lookup x=some .free->∃ c,h.lookup x=some c) (a2:Cap h H fr cap)
  (x:fu s s.heap.objs.size (bindL (cQ qual scope s.heap.objs.size f cd (aL (s.heap.objs.size+1) scope.names h)).kindOf (ps.zip us) λ _=>none) (aL (s.heap.objs.size+1) scope.names [])
   (bindC (cQ qual scope s.heap.objs.size f cd (aL (s.heap.objs.size+1) scope.names h)).kindOf (ps.zip us) λ _=>none) s1) :
  Inv (cxLam P w K mg G N qual scope f cd h A outer s H) [] (vs.map some++cap.map some) (Drop h H) s1:=by
 obtain⟨h1,tk,rfl,hk⟩:=x.done
 have Y:∀ b:Addr,b ∉ (cxLam P w K mg G N qual scope f cd h A outer s H).ex:=λ b z=>absurd (show b∈([]:List Addr)from z) (by simp)
 have lk:∀ y c,(aL (s.heap.objs.size+1) scope.names h).lookup y=some c->(aL (s.heap.objs.size+1) scope.names []).lookup y=some c\/((aL (s.heap.objs.size+1) scope.names []).lookup y=none/\h.lookup y=some c):=λ y c e=>by
  rw[zu,zR]at e
  cases q:(aL (s.heap.objs.size+1) scope.names []).lookup y with
  | some d=>rw[q]at e;left;simpa using e
  | none=>rw[q]at e;right;exact⟨rfl,by simpa using e⟩
 have own:∀ y c,(aL (s.heap.objs.size+1) scope.names []).lookup y=some c->s.heap.objs.size<c:=λ y c e=>x.above y c (aA e)
 have a1:∀ y c,h.lookup y=some c->c<s.heap.objs.size:=λ y c e=>by
  obtain⟨o,v,q,_⟩:=hc y c e
  exact C.hok.lt q
 have hx:∀ y c,h.lookup y=some c->scope.names.lookup y=some .free->(aL (s.heap.objs.size+1) scope.names h).lookup y=some c:=λ y c e k=>by
  rw[zu,zR]
  cases q:(aL (s.heap.objs.size+1) scope.names []).lookup y with
  | none=>exact e
  | some d =>
   rcases zN (aA q)with z|z
   ·rw[S.cel _ z rfl]at k;cases k
   ·exact absurd z (by simp)
 have dn:∀ b,H b=none->Drop h H b=none:=λ b e=>Drop.none e
 refine⟨⟨C.mod,S.kind,rfl,rfl,ah _,λ y z c a b=>?inj,λ y hy=>?has,λ y c hy e=>?cab,λ _=>hd,gQ C.frames,.inr ⟨rfl,rfl⟩,λ b z=>absurd z (Y b),λ b o e=>⟨(C.bs b o e).1,dn b (C.bs b o e).2⟩,C.bsz,λ b _ _=>Y b,λ b z=>absurd z (Y b),C.funs,λ b hb=>dn b (C.frf b hb)⟩,
  rfl,C.bare,Un.kept hk,⟨_,x.toInCall.ns,λ i y v q1 q2 q3=>?loc⟩,λ y c e=>?cell,dn _ (C.hok.fresh (ah _)),λ y c e=>?freeC,λ p Z=>absurd (show p∈([]:List (Addr×Obj))from Z) (by simp),(C.hok.drop hc).kept hk,?len⟩
 case inj =>
  rcases lk y c a with a|⟨_,a⟩<;>rcases lk z c b with b|⟨_,b⟩
  ·exact ga x.apart (aA a) (aA b)
  ·exact absurd (cF (own _ _ a) (a1 _ _ b)) (bu _)
  ·exact absurd (cF (own _ _ b) (a1 _ _ a)) (bu _)
  ·exact inj y z c a b
 case has =>
  have hy:scope.names.lookup y=some .cell\/scope.names.lookup y=some .free:=hy
  rcases hy with hy|hy
  ·obtain⟨c,e⟩:=qj (n:=s.heap.objs.size+1) hy
   refine⟨c,?_⟩
   show(aL (s.heap.objs.size+1) scope.names h).lookup y=some c
   rw[zu,zR,e];rfl
  ·obtain⟨c,e⟩:=a5 y hy
   exact⟨c,hx y c e hy⟩
 case cab =>
  have hy:(scope.names.lookup y==some .cell)=true:=hy
  have a3:scope.names.lookup y=some .cell:=by simpa using hy
  rcases lk y c e with a|⟨a,_⟩
  ·exact dm (own y c a)
  ·obtain⟨d,q⟩:=qj (n:=s.heap.objs.size+1) a3
   rw[q]at a;cases a
 case loc =>
  have a0:ps.Nodup:=by have:=S.nd;rw[S.app]at this;exact(List.nodup_append.mp this).1
  by_cases hi:i<vs.length
  ·have ha:vs[i]?=some v:=by
    rw[aD (by simpa using hi),av]at q2
    cases e:vs[i]? with
    | none=>rw[e]at q2;cases q2
    | some a=>rw[e]at q2;cases q2;rfl
   obtain⟨u,hu,rv⟩:=r.get ha
   have Z:ps[i]?=some y:=by
    have J:N[i]?=some y:=q1
    rw[S.app,aD (by omega)]at J;exact J
   refine⟨u,rv,?_⟩
   rcases S.par y (aS Z)with k|k
   ·exact .inl ⟨k,bindL_get a0 Z hu k⟩
   ·obtain⟨c,e⟩:=qj (n:=s.heap.objs.size+1) k
    refine .inr ⟨.inl k,c,?_,?_⟩
    ·show(aL (s.heap.objs.size+1) scope.names h).lookup y=some c
     rw[zu,zR,e];rfl
    ·have q:=x.cell y c e
     rw[bindC_get a0 Z hu (by show scope.names.lookup y≠_;rw[k];decide)]at q
     exact q
  ·have hf:fr[i - vs.length]?=some y:=by
    have J:N[i]?=some y:=q1
    rw[S.app,ak (by omega)]at J;rw[hl];exact J
   have hv:cap[i - vs.length]?=some v:=by
    rw[ak (by simpa using hi),av,az]at q2
    cases e:cap[i - vs.length]? with
    | none=>rw[e]at q2;cases q2
    | some a=>rw[e]at q2;cases q2;rfl
   obtain⟨c,o,u,e1,e2,e3,e4⟩:=a2 _ y v hf hv
   have kf:=S.frs y (aS hf)
   refine⟨u,e4,.inr ⟨.inr kf,c,hx y c e1 kf,?_⟩⟩
   exact⟨o,hk c o (C.hok c _ e2).1,e3⟩
 case cell =>
  rcases lk y c e with a|⟨_,a⟩
  ·exact⟨_,x.cell y c a⟩
  ·obtain⟨o,v,q,d⟩:=hc y c a
   exact⟨v,o,hk c o (C.hok c _ q).1,d⟩
 case freeC =>
  rcases lk y c e with a|⟨_,a⟩
  ·exact dn c (C.hok.fresh (dm (own y c a)))
  ·exact Drop.cell (isC_iff.mpr ⟨y,a⟩)
 case len =>
  show _=N.length
  rw[S.app]
  simp[hl,a4]
theorem lam_end {P:aM}{w:World}{outer:List Env}{H H':Hp}{s s':af}{h:List (Str×Addr)}(hok:HOk P w H s.heap)(hc:Cells h H)(frf:∀ b∈frs outer,H b=none)
  (un:Un (frs outer) [] (Drop h H) H' s.heap s'.heap) (J:HOk P w H' s'.heap):Un (frs outer) [] H (Put h H H') s.heap s'.heap/\HOk P w (Put h H H') s'.heap:=by
 have nc:∀ b,H b=none->isC h b≠true:=λ b e y=>by
  obtain⟨o,v,q,_⟩:=hc.at y
  rw[e]at q;cases q
 have C:∀ c u,H c=some u->(∀ o v,u≠.frz o v)->isC h c≠true:=λ c u q d y=>by
  obtain⟨o,v,q',_⟩:=hc.at y
  rw[q]at q';cases q'
  exact d _ _ rfl
 have G:∀ b,isC h b=true->H' b=none:=λ b y=>by
  obtain⟨o,v,q,_⟩:=hc.at y
  exact un.free b o (hok b _ q).1 (Drop.cell y) (by simp)
 refine⟨⟨λ b o e n hb hx=>un.keep b o e (Drop.none n) hb hx,λ b o e n hb hx=>un.slot b o e (Drop.none n) hb hx,λ b o e n hx=>?_,λ b o e hx=>un.there b o e hx,λ b Y e=>?_,λ b o u e=>?_,λ b ps e=>?_⟩,λ b o e=>?_⟩
 ·rw[Put.ne (nc b n)];exact un.free b o e (Drop.none n) hx
 ·have z:=C b _ e λ _ _=>by nofun
  rw[Put.ne z];exact un.tups b Y (by rw[Drop.ne z];exact e)
 ·by_cases z:isC h b=true
  ·rw[Put.cell z];exact e
  ·rw[Put.ne z];exact un.frzs b o u (by rw[Drop.ne z];exact e)
 ·have z:=C b _ e λ _ _=>by nofun
  rw[Put.ne z];exact un.tbls b ps (by rw[Drop.ne z];exact e)
 ·by_cases z:isC h b=true
  ·rw[Put.cell z]at e
   obtain⟨ob,v,q,d⟩:=hc.at z
   rw[q]at e;cases e
   have g:=(hok b _ q).1
   have g':=un.keep b ob g (Drop.cell z) (λ y=>by rw[frf b y]at q;cases q) (by simp)
   exact⟨g',ob,g'⟩
  ·rw[Put.ne z]at e
   have Z:∀ c u,H' c=some u->Put h H H' c=some u:=λ c u q=>by
    rw[Put.ne λ y=>by rw[G c y]at q;cases q];exact q
   exact(J b o e).stay (λ _ _ _ q=>q) (λ c q=>Z c _ q) λ c Y q=>Z c _ q
structure ClOk (P:aM)(w:World)(K:ab)(mg:Str->Option Value)(base:Heap)(k:Nat)(R:Hp->Prop)(f:Addr)(sp:Sp):Prop where
 run:∀(A:aV) (outer:List Env) (s:af) (H:Hp) (us:List Value) (vs:List V) (Q:VK),Room k A->Env0 P w K mg base A outer s H->R H->Vals vs us->sp vs H Q E0 ->
  fq (model P w) A (.call (.ref f) ⟨us,[]⟩) (CR CX0 outer P w H s Q E0) s
theorem ClOk.ofFn {P:aM}{w:World}{K:ab}{mg:Str->Option Value}{y:Heap}{k:Nat}{f:Addr}{G:bI}{ps:List Str}{sp:Sp}(F:FnOk P w K mg y CX0 k f G ps sp)(hb:Binds K G ps []):ClOk P w K mg y k (λ _=>True) f sp :=
 ⟨λ A outer s H us vs Q J C _ r h=>by
  have hl:=F.len _ _ _ _ h
  have:=hb s us (C.mod.kin.keeps λ b o e=>(C.bs b o e).1) (by rw[bE,<-r.length];exact hl)
  rw[bE]at this
  exact F.run A outer s H ⟨us,[]⟩ us vs Q E0 J C this r h⟩
noncomputable def LamAt (H:Hp)(f:Addr)(qual:Str)(params:a9)(body:Expr)(scope:Scope)(fr:List Str)(cap:List V)(clos:List (Str×Addr)):Prop :=
 ∃ pm c' ctv,H f=some (lamO f (bR "<lambda>" qual params body scope clos pm (.ref c') ctv))/\H c'=some (qK c' qual)/\Cells clos H /\
  (∀ x y c,clos.lookup x=some c->clos.lookup y=some c->x=y)/\(∀ x,scope.names.lookup x=some .free->∃ c,clos.lookup x=some c)/\Cap clos H fr cap
noncomputable def BM (mg:Str->Option Value)(base:Heap):Prop:=∃ bm ob,mg "__builtins__"=some (.ref bm)/\bm≠f7/\base.get? bm=some ob/\ob.cls=.type "module"/\ob.dict=some f7/\ob.data=.plain
noncomputable def tLam (cells:List (Str×Addr))(P:Addr)(qual:Str)(params:a9)(body:Expr)(scope:Scope)(pos:Pos):TE:=λ _ H Q =>
 ∃ ps:Array Value,H P=some (.tbl ps)/\hU ps.toList /\
  (cM pos ps.toList=none->∀ c' f pm ctv,H c'=none->H f=none->c'≠f ->
   Q (.ref f) (upd (upd (upd H P (.tbl (ps++#[cJ pos.line,cJ pos.col,.ref c']))) c' (qK c' qual)) f (lamO f (bR "<lambda>" qual params body scope (clOf cells scope.names []) pm (.ref c') ctv)))) /\
  (∀ cv,cM pos ps.toList=some cv->∃ c',cv=.ref c'/\∀ f pm ctv,H f=none->Q (.ref f) (upd H f (lamO f (bR "<lambda>" qual params body scope (clOf cells scope.names []) pm (.ref c') ctv))))
noncomputable def lamCheck (scope xs:Scope):Bool:=scope.names.all λ y=>!(y.2==.free)||(xs.names.lookup y.1==some .cell||xs.names.lookup y.1==some .free)
theorem pe_lambda {X:Cx}{c P:Addr}{params:a9}{body:Expr}{scope:Scope}{pos:Pos}(Z:X.env.code=.ref c)(C:bS X.base c P)(hB:BM X.mg X.base)
  (c6:lamCheck scope X.env.scope=true) (a4:j4 params X.env=([],[]):=by rfl) :
  PE X (.Lambda params body scope pos) (tLam X.env.cells P (X.env.qual ++ "<lambda>") params body scope pos):=by
 intro d2 s σ H Q I h
 have d0:∀ y∈scope.names,y.2=.free->X.env.kindOf y.1=some .cell\/X.env.kindOf y.1=some .free:=λ y hy e=>by
  have z:=aP.mp c6 y hy
  have z':X.env.scope.names.lookup y.1=some .cell\/X.env.scope.names.lookup y.1=some .free:=by simpa [e]using z
  exact z'
 obtain⟨ps,hP,ht,c0,a3⟩:=h
 refine PySem.W.kla_eval a4 ?_
 have a2:=qA (scope:=scope) (env:=X.env) λ y hy e=>I.ok.has y.1 (d0 y hy e)
 have oP:s.heap.get? P=some (d4 ps):=I.hok P _ hP
 have a0:s.heap.Ns bn X.mg:=I.mod.glob.keeps I.bk
 have hC:bS s.heap c P:=C.keeps I.bk
 have c5:bn≠P:=λ q=>by
  obtain⟨o,es,ep,e,d,_⟩:=a0
  rw[q,oP]at e;cases e;cases d
 have hb:s.heap.BuiltinsAt X.mg P:=by
  obtain⟨bm,ob,b1,b2,b3,b4,b5,b6⟩:=hB
  refine⟨bm,ob,b1,b2,λ q=>?_,λ q=>?_,I.bk _ _ b3,b4,b5,b6⟩
  ·obtain⟨o,es,ep,e,d,_⟩:=I.mod.glob
   rw[q,e]at b3;cases b3;rw[d]at b6;cases b6
  ·have e:=I.bk _ _ b3
   rw[q,oP]at e;cases e;cases b4
 cases q:cM pos ps.toList with
 | none =>
  refine PySem.W.kla_makeFunction (mg:=X.mg) a2 I.ok.glob a0 Z hC oP ht q c5 hb λ G J h' tk hx hge hlt a6 a1=>?_
  have a5:P<s.heap.objs.size:=aC oP
  have c3:G≠P:=dq (ar a5 hge)
  have c4:h'.objs.size≠P:=dq (cF (ar a5 hge) hlt)
  have d1:G≠h'.objs.size:=ay hlt
  have hsz:s.heap.objs.size<=h'.objs.size:=am hge (dm hlt)
  have nP:∀ b,H b=none->b≠P:=λ b n z=>by rw[z,hP]at n;cases n
  have lt:∀ b o,H b=some o->b≠G/\b≠h'.objs.size:=λ b o e=>⟨ay (ar (I.hok.lt e) hge),ay (ar (I.hok.lt e) hsz)⟩
  have c1:∀ b o,s.heap.get? b=some o->b≠G/\b≠h'.objs.size:=λ b o e=>⟨ay (ar (aC e) hge),ay (ar (aC e) hsz)⟩
  have keep:∀ b o,b≠P->s.heap.get? b=some o->(h'.push (PySem.W.kla_obj "<lambda>" (X.env.qual ++ "<lambda>") params body scope (clOf X.env.cells scope.names []) ((X.mg "__name__").getD .none) G J)).get? b=some o:=λ b o n e=>ai _ (hx b o n e)
  have Y:∀ b,b≠P->b≠G->b≠h'.objs.size->∀ o1 o2 o3,upd (upd (upd H P o1) G o2) h'.objs.size o3 b=H b:=λ b n1 n2 n3 o1 o2 o3=>by rw[zb n3,zb n2,zb n1]
  refine⟨.ref h'.objs.size,upd (upd (upd H P (.tbl (ps++#[cJ pos.line,cJ pos.col,.ref G]))) G (qK G (X.env.qual ++ "<lambda>"))) h'.objs.size (lamO h'.objs.size (bR "<lambda>" (X.env.qual ++ "<lambda>") params body scope (clOf X.env.cells scope.names []) ((X.mg "__name__").getD .none) (.ref G) J)),I.un (t':=tk) ⟨λ b o e n _ _=>keep b o (nP b n) e,λ b o e n _ _=>⟨o.slots,keep b o (nP b n) e⟩,λ b o e n _=>?fr,λ b o e _=>?th,λ b xs e=>?tu,λ b o u e=>?fz,λ b qs e=>?tb⟩ ?ok,rfl,c0 q G h'.objs.size _ J (I.hok.fresh hge) (I.hok.fresh hsz) d1⟩
  case fr=>rw[Y b (nP b n) (c1 b o e).1 (c1 b o e).2];exact n
  case th =>
   by_cases z:b=P
   ·subst z;exact⟨_,ai _ a1⟩
   ·exact⟨o,keep b o z e⟩
  case tu=>rw[Y b (λ z=>by rw[z,hP]at e;cases e) (lt b _ e).1 (lt b _ e).2];exact e
  case fz=>rw[Y b (λ z=>by rw[z,hP]at e;cases e) (lt b _ e).1 (lt b _ e).2];exact e
  case tb =>
   by_cases z:b=P
   ·subst z
    rw[hP]at e;cases e
    exact⟨#[cJ pos.line,cJ pos.col,.ref G],by rw[zb (bT c4),zb (bT c3),zn]⟩
   ·exact⟨#[],by rw[Y b z (lt b _ e).1 (lt b _ e).2,e];simp⟩
  case ok =>
   intro b o e
   by_cases zf:b=h'.objs.size
   ·subst zf
    rw[zn]at e;cases e
    exact lamO_ok (aO _ rfl)
   ·rw[zb zf]at e
    by_cases zc:b=G
    ·subst zc
     rw[zn]at e;cases e
     obtain⟨c2,oc,vs,t,e1,e2,e3⟩:=a6
     exact codeO_ok ⟨c2,oc,vs,t,e1,ai _ e2,e3⟩
    ·rw[zb zc]at e
     by_cases zp:b=P
     ·subst zp
      rw[zn]at e;cases e
      exact ai _ a1
     ·rw[zb zp]at e
      have b0:∀ d u,H d=some u->(∀ ps,u≠.tbl ps)->upd (upd (upd H P (.tbl (ps++#[cJ pos.line,cJ pos.col,.ref G]))) G (qK G (X.env.qual ++ "<lambda>"))) h'.objs.size (lamO h'.objs.size (bR "<lambda>" (X.env.qual ++ "<lambda>") params body scope (clOf X.env.cells scope.names []) ((X.mg "__name__").getD .none) (.ref G) J)) d=some u:=λ d u e nt=>by
       rw[Y d (λ z=>by rw[z,hP]at e;cases e;exact nt _ rfl) (lt d _ e).1 (lt d _ e).2];exact e
      refine(I.hok b o e).stay (λ d u hd q=>keep d u ?_ q) (λ d q=>b0 d _ q λ _=>by nofun) λ d xs q=>b0 d _ q λ _=>by nofun
      rintro rfl
      rcases hd with hd|hd
      ·exact zp hd.symm
      ·rw[hP]at hd;cases hd
 | some cv =>
  obtain⟨G,rfl,hq⟩:=a3 cv q
  refine PySem.W.kla_makeFunctionHit (mg:=X.mg) a2 I.ok.glob a0 Z hC oP ht q hb λ J h' tk hk hsz=>?_
  refine⟨.ref h'.objs.size,_,I.laid (t':=tk) (λ b o e=>ai _ (hk b o e)) hsz (lamO_ok (aO _ rfl)),rfl,hq h'.objs.size _ J (I.hok.fresh hsz)⟩
structure Caught (cl:List (Str×Addr))(N:List Str)(kd:Str->Option bN)(σ:St)(H1 H2:Hp):Prop where
 ne:∀ b,isC cl b≠true->H2 b=H1 b
 free:∀ b,isC cl b=true->H1 b=none
 cells:Cells cl H2
 cap:∀(i:Nat) (x:Str) (v:V) (c:Addr),N[i]?=some x->σ[i]?=some (some v)->(kd x=some .cell\/kd x=some .free)->cl.lookup x=some c->∃ o u,H2 c=some (.frz o (.own c))/\o.data=.cell (some u)/\RelV v u
 inj:∀ x y c,cl.lookup x=some c->cl.lookup y=some c->x=y
noncomputable def tCallC (cl:List (Str×Addr))(N:List Str)(kd:Str->Option bN)(sp:Sp)(t:TA):TE:=λ σ H Q=>t σ H λ vs H1=>∀ H2,Caught cl N kd σ H1 H2->sp vs H2 (λ v H3=>Q v (Drop cl H3)) E0
theorem run_fnC {X:Cx}{k:Nat}{f:Addr}{fd:bI}{ps:List Str}{sp:Sp}{J:List (Addr×Obj)}{σ:St}{H:Hp}{s:af}{Q:VK}{us:List Value}{vs:List V}(F:FnOk X.prog X.w X.K X.mg X.base CX0 k f fd ps sp)(hr:Room k X.A)(hb:Binds X.K fd ps [])
  (a6:∀ x,X.fn x=true) (I:Inv X J σ H s) (r:Vals vs us) (h:∀ H2,Caught X.env.cells X.N X.env.kindOf σ H H2->sp vs H2 (λ v Y=>Q v (Drop X.env.cells Y)) E0):wpAny (model X.prog X.w) X.A (call (.ref f) us) (EP X J σ Q) X.xe s:=by
 let H2:Hp:=λ b=>if isC X.env.cells b=true then(s.heap.get? b).map λ o=>.frz o (.own b)else H b
 have C:∀ b,isC X.env.cells b≠true->H2 b=H b:=λ b z=>if_neg z
 have G:∀ b,isC X.env.cells b=true->∃ o v,s.heap.get? b=some o/\o.data=.cell v/\H2 b=some (.frz o (.own b)):=λ b z=>by
  obtain⟨x,e⟩:=isC_iff.mp z
  obtain⟨v,o,g,d⟩:=I.cell x b e
  exact⟨o,v,g,d,by show(if _ then _ else _)=_;rw[if_pos z,g];rfl⟩
 have fr:∀ b,isC X.env.cells b=true->H b=none:=λ b z=>by
  obtain⟨x,e⟩:=isC_iff.mp z
  exact I.freeC x b e
 have up:∀ b,isC X.env.cells b=true->X.s₀.heap.objs.size<=b:=λ b z=>by
  obtain⟨x,e⟩:=isC_iff.mp z
  exact I.ok.cab x b (a6 x) e
 have a2:∀ b o,X.s₀.heap.get? b=some o->isC X.env.cells b≠true:=λ b o e z=>absurd (ar (aC e) (up b z)) (bu _)
 have a3:∀ b∈frs X.stack,isC X.env.cells b≠true:=λ b hb z=>by
  rcases aH.mp (I.stkSub b hb)with e|hb
  ·obtain⟨x,e2⟩:=isC_iff.mp z
   exact I.cne x b e2 e
  ·obtain⟨_,o,ho,_⟩:=I.ok.funs.mem hb
   exact a2 b o ho z
 have b0:HOk X.prog X.w H2 s.heap:=λ b o e=>by
  by_cases z:isC X.env.cells b=true
  ·obtain⟨ob,v,g,d,q⟩:=G b z
   rw[q]at e;cases e
   exact⟨g,ob,g⟩
  ·rw[C b z]at e
   have np:∀ c u,H c=some u->H2 c=some u:=λ c u q=>by rw[C c λ y=>by rw[fr c y]at q;cases q];exact q
   exact(I.hok b o e).stay (λ _ _ _ q=>q) (λ c q=>np c _ q) λ c xs q=>np c _ q
 have nb:∀ b o,X.base.get? b=some o->isC X.env.cells b≠true:=λ b o e=>a2 b o (I.ok.bs b o e).1
 have e0:Env0 X.prog X.w X.K X.mg X.base X.A X.stack s H2:=⟨I.ok.frames,I.ok.mod,λ b o e=>⟨(I.bs b o e).1,by rw[C b (nb b o e)];exact(I.bs b o e).2⟩,am I.ok.bsz I.sz,I.stack,λ b hb=>by rw[C b (a3 b hb)];exact I.stkFree b hb,b0,I.bare⟩
 have ca:Caught X.env.cells X.N X.env.kindOf σ H H2:=⟨C,fr,λ x c e=>by
   obtain⟨o,v,g,d,q⟩:=G c (isC_iff.mpr ⟨x,e⟩)
   exact⟨o,v,q,d⟩,λ i x v c e1 e2 e3 e4=>by
   obtain⟨m,hn,hl⟩:=I.loc
   have vis:Vis X.env.scope x:=e3.elim (λ z=>.inr (.inl z)) λ z=>.inr (.inr z)
   obtain⟨u,ru,lk⟩:=hl i x v e1 e2 vis
   rcases lk with⟨z,_⟩|⟨_,c2,z1,z2⟩
   ·rcases e3 with y|y<;>(rw[z]at y;cases y)
   ·rw[e4]at z1;cases z1
    obtain⟨o,w',g,d,q⟩:=G c (isC_iff.mpr ⟨x,e4⟩)
    obtain⟨o2,g2,d2⟩:=z2
    rw[g]at g2;cases g2
    exact⟨o,u,q,d2,ru⟩,I.ok.inj⟩
 have a0:=h H2 ca
 have hl:=F.len _ _ _ _ a0
 have a5:=hb s us I.kIn (by rw[bE,<-r.length];exact hl)
 rw[bE]at a5
 refine jY (eQ (F.run X.A X.stack s H2 ⟨us,[]⟩ us vs _ E0 hr e0 a5 r a0) λ r s' hq=>?_)
 cases r with
 | error e=>exact bF hq
 | ok fl =>
  cases fl with
  | next=>exact bF hq
  | brk=>exact bF hq
  | cont=>exact bF hq
  | ret u =>
   obtain⟨v,Y,os,bare,un,a1,rv,q⟩:=hq
   have a4:∀ b,isC X.env.cells b=true->∃ o,s.heap.get? b=some o/\s'.heap.get? b=some o/\Y b=some (.frz o (.own b)):=λ b z=>by
    obtain⟨o,v,g,d,q2⟩:=G b z
    have q3:=un.frzs b o _ q2
    exact⟨o,g,(a1 b _ q3).1,q3⟩
   have Z:∀ b u,H b=some u->isC X.env.cells b≠true:=λ b u e y=>by rw[fr b y]at e;cases e
   refine⟨v,_,I.call' (H':=Drop X.env.cells Y) (ch:=[]) os ⟨λ b o e n hb hx=>?k,λ b o e n hb hx=>?sl,λ b o e n hx=>?fr,λ b o e hx=>un.there b o e hx,λ b xs e=>?tu,λ b o u e=>?fz,λ b ps e=>?tb⟩ (λ b o e=>?hok) bare (λ b z=>absurd z (by simp)),rv,q⟩
   case k =>
    by_cases z:isC X.env.cells b=true
    ·obtain⟨o2,g,g',_⟩:=a4 b z
     rw[e]at g;cases g
     exact g'
    ·exact un.keep b o e (by rw[C b z];exact n) hb hx
   case sl=>exact un.slot b o e (by rw[C b (a3 b hb)];exact n) hb hx
   case fr =>
    by_cases z:isC X.env.cells b=true
    ·exact Drop.cell z
    ·exact Drop.none (un.free b o e (by rw[C b z];exact n) hx)
   case tu =>
    rw[Drop.ne (Z b _ e)]
    exact un.tups b xs (by rw[C b (Z b _ e)];exact e)
   case fz =>
    rw[Drop.ne (Z b _ e)]
    exact un.frzs b o u (by rw[C b (Z b _ e)];exact e)
   case tb =>
    rw[Drop.ne (Z b _ e)]
    exact un.tbls b ps (by rw[C b (Z b _ e)];exact e)
   case hok =>
    obtain⟨z,e3⟩:=Drop.some e
    have np:∀ c u,Y c=some u->(∀ o w',u≠.frz o w')->Drop X.env.cells Y c=some u:=λ c u q d=>by
     rw[Drop.ne λ y=>by obtain⟨o,_,_,q3⟩:=a4 c y;rw[q]at q3;cases q3;exact d _ _ rfl];exact q
    exact(a1 b o e3).stay (λ _ _ _ q=>q) (λ c q=>np c _ q λ _ _=>by nofun) λ c xs q=>np c _ q λ _ _=>by nofun
theorem pe_callC {X:Cx}{k:Nat}{f:Addr}{Y:bI}{ps:List Str}{sp:Sp}{x:Str}{p pos:Pos}{e:Expr}{es:List Expr}{t:TA}(F:FnOk X.prog X.w X.K X.mg X.base CX0 k f Y ps sp)(hr:Room k X.A)(hg:Gl X x)(hm:X.mg x=some (.ref f))(hk:cb X.K (.ref f)=true)(hb:Binds X.K Y ps [])
  (G:∀ x,X.fn x=true) (ha:PA X (e::es) t) (C:(x==("__debug__":Str))=false:=by decide) (he:bo (e::es) X.env=(false,eval e X.env)::bo es X.env:=by rfl) (J:(dU pos (bo es X.env)).any (·.1)=false:=by rfl) :
  PE X (.Call (.Name x p) (e::es) [] pos) (tCallC X.env.cells X.N X.env.kindOf sp t):=by
 intro y s σ H Q I h
 refine b8 (ld_glob I hg hm ?_ C)
 refine iB (h₀:=X.base) I.ok.mod.kin hk (thn (ha pos y s σ H _ I h) λ us s1 ⟨vs,H1,Z,r,q⟩=>⟨Z.kIn,?_⟩) he J
 exact run_fnC F hr hb G Z r q
noncomputable def FnIn (K:ab)(H:Hp)(f:Addr):Prop:=(∃ fd,H f=some (lamO f fd))\/∃ oc od fd sl,K.lookup f=some ⟨oc,od,.func fd,sl⟩
theorem FnIn.at {X:Cx}{y:List (Addr×Obj)}{σ:St}{H:Hp}{s:af}{f:Addr}(h:FnIn X.K H f)(I:Inv X y σ H s):PySem.W.FnAt f s.heap:=by
 rcases h with⟨C,h⟩|⟨oc,od,C,sl,h⟩
 ·exact⟨_,_,_,_,lamO_get I.hok h⟩
 ·exact⟨_,_,_,_,I.kIn _ _ h⟩
noncomputable def tCallV (P:aM)(w:World)(K:ab)(mg:Str->Option Value)(base:Heap)(k:Nat)(i:Nat)(t:TA):TE:=λ σ H Q=>∃ f,σ[i]?=some (some (.ref f))/\FnIn K H f/\t σ H λ vs H1=>FnIn K H1 f/\∃ R sp,ClOk P w K mg base k R f sp/\R H1/\sp vs H1 Q E0
theorem run_cl {X:Cx}{k:Nat}{f:Addr}{sp:Sp}{R:Hp->Prop}{y:List (Addr×Obj)}{σ:St}{H:Hp}{s:af}{Q:VK}{us:List Value}{vs:List V}(F:ClOk X.prog X.w X.K X.mg X.base k R f sp)(C:Room k X.A)(I:Inv X y σ H s)(G:R H)(r:Vals vs us)(h:sp vs H Q E0) :
  wpAny (model X.prog X.w) X.A (call (.ref f) us) (EP X y σ Q) X.xe s:=by
 refine jY (eQ (F.run X.A X.stack s H us vs Q C I.env0 G r h) λ r s' hq=>?_)
 cases r with
 | error e=>exact bF hq
 | ok fl =>
  cases fl with
  | ret u=>exact I.after hq
  | next=>exact bF hq
  | brk=>exact bF hq
  | cont=>exact bF hq
theorem pe_callV {X:Cx}{P:aM}{w:World}{K:ab}{mg:Str->Option Value}{base:Heap}{k i:Nat}{x:Str}{p pos:Pos}{e:Expr}{es:List Expr}{t:TA}(hP:X.prog=P)(hw:X.w=w)(hK:X.K=K)(G:X.mg=mg)(J:X.base=base)(hr:Room k X.A)(hv:PE X (.Name x p) (tVar i))(ha:PA X (e::es) t)
  (he:bo (e::es) X.env=(false,eval e X.env)::bo es X.env:=by rfl) (C:(dU pos (bo es X.env)).any (·.1)=false:=by rfl) :
  PE X (.Call (.Name x p) (e::es) [] pos) (tCallV P w K mg base k i t):=by
 subst hP hw hK G J
 intro y s σ H Q I h
 obtain⟨f,hσ,hf,ht⟩:=h
 refine b8 (thn (hv y s σ H (λ v H'=>v=.ref f/\H'=H) I ⟨.ref f,hσ,rfl,rfl⟩) λ u s0 ⟨v,H0,Y,r0,ev,eH⟩=>?_)
 subst ev
 subst eH
 cases r0
 exact PySem.W.callWith_F (q:=f) (hf.at Y) (thn (ha pos y s0 σ H0 _ Y ht) λ us s1 ⟨vs,H1,Z,r,hF,R,sp,F,hR,q⟩=>⟨hF.at Z,run_cl F hr Z hR r q⟩) he C
noncomputable def tabsOf (K:ab)(names:List Str):List (Str×Addr×Addr):=names.filterMap λ x=>(bh K x).map λ p=>(x,p)
theorem mem_tabsOf {K:ab}{names:List Str}{y:Str×Addr×Addr}:y∈tabsOf K names↔y.1∈names/\bh K y.1=some y.2:=by
 unfold tabsOf
 rw[bj]
 constructor
 ·rintro⟨x,hx,e⟩
  obtain⟨p,h,rfl⟩:=bJ.mp e
  exact⟨hx,h⟩
 ·rintro⟨hx,e⟩
  exact⟨y.1,hx,by rw[e];rfl⟩
noncomputable def Codes (K:ab)(names:List Str)(base:Heap):Prop:=∀ x∈names,∀ c P,bh K x=some (c,P)->bS base c P
noncomputable def Blank (K:ab)(names:List Str)(H:Hp):Prop:=∀ x∈names,∀ c P,bh K x=some (c,P)->H P=some (.tbl #[])
noncomputable def tabsIn (K:ab)(names:List Str)(ts:List Addr):Bool:=names.all λ x=>match bh K x with
 | some (c,P)=>i8 K c P&&ts.contains P
 | none=>true
theorem tab_some {K:ab}{x:Str}(h:(bh K x).isSome=true):bh K x=some (((bh K x).getD (0,0)).1,((bh K x).getD (0,0)).2):=by
 obtain⟨p,e⟩:=fG.mp h
 rw[e]
 rfl
noncomputable def TabOkH (H:Hp)(P:Addr)(q:Str):Prop:=∃ ps:Array Value,H P=some (.tbl ps)/\hU ps.toList/\∀ pos cv,cM pos ps.toList=some cv->∃ c',cv=.ref c'/\H c'=some (qK c' q)
noncomputable def TabsH (T:List (Addr×Str))(H:Hp):Prop:=∀ y∈T,TabOkH H y.1 y.2
noncomputable def SameT (H H':Hp):Prop:=∀ b o,(∀ ps,o≠.tbl ps)->H b=some o->H' b=some o
theorem SameT.of {H y:Hp}(a:Same H y):SameT H y:=λ c o _ h=>a c o h
theorem TabsH.keep {T:List (Addr×Str)}{H H':Hp}(h:TabsH T H)(k:∀ b o,(∀ J,o≠.lst J)->H b=some o->H' b=some o):TabsH T H':=λ y hy=>by
 obtain⟨ps,e,t,c⟩:=h y hy
 refine⟨ps,k _ _ (λ _=>by nofun) e,t,λ pos C q=>?_⟩
 obtain⟨G,e1,e2⟩:=c pos C q
 exact⟨G,e1,k _ _ (λ _=>by unfold qK;nofun) e2⟩
theorem TabsH.same {T:List (Addr×Str)}{H H':Hp}(h:TabsH T H)(s:Same H H'):TabsH T H':=h.keep λ b o _ e=>s b o e
theorem TabsH.new {T:List (Addr×Str)}{H:Hp}{a:Addr}{o:HO}(h:TabsH T H)(n:H a=none):TabsH T (upd H a o):=h.same ((Same.refl H).new n)
theorem TabsH.put {T:List (Addr×Str)}{H:Hp}{a:Addr}{o:HO}{y:List V}(h:TabsH T H)(n:H a=some (.lst y)):TabsH T (upd H a o):=h.keep λ b u d e=>by
 rw[zb λ z=>by subst z;rw[n]at e;cases e;exact d _ rfl];exact e
theorem TabsH.init {T:List (Addr×Str)}{H:Hp}(h:∀ p∈T.map (·.1),H p=some (.tbl #[])):TabsH T H:=λ y hy =>
 ⟨#[],h _ (bp hy),trivial,λ pos C e=>by simp[cM]at e⟩
theorem codeAmong_add {pos:Pos}{a b:Int}{c C:Value}:∀(l:List Value),hU l->cM pos (l++[cJ a,cJ b,c])=some C->cM pos l=some C\/C=c:=by
 intro l
 fun_induction hU l with
 | case1 =>
  intro _ e
  simp only[gC,cM,cJ]at e
  split at e
  ·exact .inr (aw e).symm
  ·cases e
 | case2 x t y u z rest ih =>
  intro h e
  simp only[d8,cM]at e ⊢
  split at e
  ·rename_i q
   left;rw[if_pos q];exact e
  ·rename_i q
   rw[if_neg q];exact ih h e
 | case3 l h1 h2=>intro h;exact h.elim
theorem lamAt_of {cells:List (Str×Addr)}{N:List Str}{kd:Str->Option bN}{σ:St}{Z H2:Hp}{f:Addr}{q:Str}{params:a9}{body:Expr}{scope:Scope}{fr:List Str}{cap:List V}(G:Caught cells N kd σ Z H2)
  (hf:∃ pm C h,Z f=some (lamO f (bR "<lambda>" q params body scope (clOf cells scope.names []) pm (.ref C) h))/\Z C=some (qK C q))
  (J:∀ x,scope.names.lookup x=some .free->∃ c,cells.lookup x=some c)
  (Y:∀(i:Nat) (x:Str) (v:V),fr[i]?=some x->cap[i]?=some v->scope.names.lookup x=some .free/\(kd x=some .cell\/kd x=some .free)/\∃ j:Nat,N[j]?=some x/\σ[j]?=some (some v)) :
  LamAt H2 f q params body scope fr cap (clOf cells scope.names []):=by
 obtain⟨pm,C,h,h1,h2⟩:=hf
 have up:∀ b o,Z b=some o->H2 b=some o:=λ b o e=>by
  rw[G.ne b λ z=>by rw[G.free b z]at e;cases e];exact e
 have sub:∀ x c,(clOf cells scope.names []).lookup x=some c->cells.lookup x=some c:=λ x c e=>by
  rcases clOf_mem (aA e)with z|z
  ·exact z
  ·exact absurd z (by simp)
 refine⟨pm,C,h,up _ _ h1,up _ _ h2,λ x c e=>G.cells x c (sub x c e),λ x y c e1 e2=>G.inj x y c (sub x c e1) (sub y c e2),λ x k=>?_,λ i x v e1 e2=>?_⟩
 ·obtain⟨c,e⟩:=J x k
  exact⟨c,qH e (aA k)⟩
 ·obtain⟨k,kk,j,e3,e4⟩:=Y i x v e1 e2
  obtain⟨c,e⟩:=J x k
  obtain⟨o,u,e5,e6,e7⟩:=G.cap j x v c e3 e4 kk e
  exact⟨c,o,u,qH e (aA k),e5,e6,e7⟩
theorem Caught.same {cells:List (Str×Addr)}{N:List Str}{kd:Str->Option bN}{σ:St}{h H2:Hp}(y:Caught cells N kd σ h H2):Same h H2:=λ b o e=>by
 rw[y.ne b λ z=>by rw[y.free b z]at e;cases e];exact e
theorem Fun.okC {P:aM}{w:World}{K:ab}{mg:Str->Option Value}{y:Heap}{x qual:Str}{st:Stmt}{f c:Addr}{J:bI}{N ps:List Str}{k:Nat}{sp:Sp}(F:Fun K x qual st f J)(Z:J.code=.ref c)(S:FnScope N ps (defScope st))(len:∀ vs H Q E,sp vs H Q E->vs.length=ps.length)
  (C:∀(A:aV) (outer:List Env) (s:af) (H:Hp) (vs:List V) (Q:VK) (E:XK),Room k (A.deeper (fF qual (defScope st) s.heap.objs.size f (.ref c)))->sp vs H Q E ->
   ∃ t,PSs (cxOf CX0 P w K mg y N qual (defScope st) f (.ref c) A outer s H E).nox (z0 st) t/\t { nx:=λ _ H'=>Q .non H',rt:=Q } (start N vs) H):FnOk P w K mg y CX0 (k+1) f J ps sp:=by
 obtain⟨oc,od,kV,a0,pm,an,Y,ct,a1,rfl,lk,hc⟩:=F.ex
 have e:Y=.ref c:=Z
 subst e
 refine fn_of lk hc S len λ A outer s H vs Q E hr G=>?_
 obtain⟨t,h,q⟩:=C A outer s H vs Q E hr G
 exact⟨t,h.nox,q⟩
noncomputable def rowO (r:List (Option Int)):D:=.tup (r.map optD)
theorem call_minL {X:Cx}{K:ab}(hc:X.calm=true)(hK:X.K=K):CallR X (.builtin "min") (λ xs H Q=>∃ a ns,xs=[.ref a]/\SqL K H a (ns.map V.int)/\ns≠[]/\∀ m∈ns,(∀ y∈ns,m<=y)->Q (.int m) H):=by
 subst hK
 intro a0 s σ H xs us Q I r h
 obtain⟨a,ns,rfl,hS,J,q⟩:=h
 obtain⟨u,rfl,ru⟩:=vals1 r
 cases ru
 obtain⟨its,Z,pl,hz⟩:=I.list hS
 have hl:=Z.length
 rw[az]at hl
 have a1:0<ns.length:=List.length_pos_iff.mpr J
 refine call_min_walk (da pl.isList ?_)
 have G:a<s.heap.objs.size:=by obtain⟨o,_,e,_⟩:=pl;exact aC e
 have W:=j3 (prog:=X.prog) (w:=X.w) (A:=X.A.in1) (I.ok.hd hc) s.heap.objs.size a (ay G) its.toArray
 let val:Nat->Int:=λ i=>ns.getD i 0
 have C:∀ i v,its.toArray[i]?=some v->∃ t,v=Value.int (val i) t:=λ i v e=>by
  obtain⟨z,t,e1,e2⟩:=vals_at Z (i:=i) (v:=v) (by rw[cA]at e;exact e)
  refine⟨t,?_⟩
  rw[e2]
  show Value.int z t=Value.int (ns.getD i 0) t
  rw[aG,e1]
  rfl
 refine⟨_,_,_,_,_,_,_,rfl,W,⟨⟨_,aO _ rfl,rfl,rfl⟩,?_⟩,λ b hb=>?_,by rw[au];omega,kh val C,λ v h' tk hP k=>?_⟩
 ·obtain⟨o,e,r⟩:=pl.isList
  exact⟨o,ai _ e,r⟩
 ·show b<(s.heap.push _).objs.size
  rw[bX]
  rcases aH.mp hb with z|z
  ·rw[z];exact du _
  ·have Y:b=a:=by simpa using z
   rw[Y];exact fx G
 ·obtain⟨z,t,e1,e2⟩:=vals_at Z (i:=dt (λ i j=>decide (val i<val j)) (its.toArray.size - 1)) (v:=v) (by rw[cA]at hP;exact hP)
  subst e2
  have hv:val (dt (λ i j=>decide (val i<val j)) (its.toArray.size - 1))=z:=by
   show ns.getD _ 0=z
   rw[aG,e1]
   rfl
  refine⟨.int z,H,I.kept (h':=h') (t':=tk) λ b o q=>k b o ?_ (ai _ q),⟨t,rfl⟩,q z (aS e1) λ y hy=>?_⟩
  ·intro z
   have Y:b=s.heap.objs.size:=by simpa using z
   exact absurd (aC q) (by rw[Y];exact bu _)
  ·obtain⟨j,hj,e3⟩:=cE.mp hy
   have:=jy val (its.toArray.size - 1) j (by simp only[au];omega)
   rw[hv]at this
   have e4:val j=y:=by
    show ns.getD j 0=y
    rw[aG,ag hj]
    exact e3
   omega
noncomputable def mx (a b:Int):Int:=if b > a then b else a
section
variable {X:Cx}
end
noncomputable def mx3 (a b c:Int):Int:=mx (mx a b) c
noncomputable def rnd (x:Int):Int:=if x=0\/x=3 then x else 2
noncomputable def sharp (n:Nat)(s:Nat->Nat->Int)(i j:Nat):Int:=(minO ((ae n).map λ k=>mx3 (s i k) (rnd (s k k)) (s k j))).getD 3
section
variable {n:Nat} {s:Nat->Nat->Int}
end
noncomputable def tDef (cells:List (Str×Addr))(P:Addr)(name q:Str)(params:a9)(body:List Stmt)(scope:Scope)(pos:Pos)(i:Nat):TS:=λ D σ H =>
 ∃ ps:Array Value,H P=some (.tbl ps)/\hU ps.toList /\
  (cM pos ps.toList=none->∀ c' f doc pm ctv,H c'=none->H f=none->c'≠f ->
   D.nx (σ.set i (some (.ref f))) (upd (upd (upd H P (.tbl (ps++#[cJ pos.line,cJ pos.col,.ref c']))) c' (qK c' q)) f (lamO f (cu name q params body scope (clOf cells scope.names []) .none .none doc pm none (.ref c') ctv)))) /\
  (∀ cv,cM pos ps.toList=some cv->∃ c',cv=.ref c'/\∀ f doc pm ctv,H f=none->D.nx (σ.set i (some (.ref f))) (upd H f (lamO f (cu name q params body scope (clOf cells scope.names []) .none .none doc pm none (.ref c') ctv))))
theorem ps_def {X:Cx}{c P:Addr}{name q:Str}{i:Nat}{params:a9}{body:List Stmt}{scope:Scope}{pos:Pos}(hN:X.N.Nodup)(hi:X.N[i]?=some name)(hx:Loc X.env.scope name)(a0:X.env.code=.ref c)(C:bS X.base c P)(hB:BM X.mg X.base)
  (e0:lamCheck scope X.env.scope=true) (hq:j5 X.env name name=q:=by rfl) (d1:params.defaults=[]:=by rfl) (e4:params.kw_defaults=[]:=by rfl) (ha:annTrees params none X.env=[]:=by rfl) (hf:X.fn name=true\/X.env.scope.names.lookup name=some .local:=by first|exact .inl rfl|exact .inr rfl) :
  PS X (.FunctionDef name params body [] none [] scope none name pos) (tDef X.env.cells P name q params body scope pos i):=by
 intro a1 s σ H D I h
 have d3:∀ y∈scope.names,y.2=.free->X.env.kindOf y.1=some .cell\/X.env.kindOf y.1=some .free:=λ y hy e=>by
  have z:=aP.mp e0 y hy
  have z':X.env.scope.names.lookup y.1=some .cell\/X.env.scope.names.lookup y.1=some .free:=by simpa [e]using z
  exact z'
 obtain⟨ps,hP,ht,c0,a5⟩:=h
 refine PySem.W.nestDef_K d1 e4 ha ?_
 rw[hq]
 have fin:∀ {H2:Hp} {f:Addr} {s2:af},Inv X a1 σ H2 s2->D.nx (σ.set i (some (.ref f))) H2->wpAny (model X.prog X.w) X.A (fQ X.env name (.ref f)) (λ _ s3=>SP X a1 D .next s3) X.xe s2:=λ {H2 f s2} I2 q2=>store_ok (v:=.ref f) I2 hN hi hx rfl (λ s3 I3=>⟨_,H2,I3,q2⟩) hf
 have a3:=qA (scope:=scope) (env:=X.env) λ y hy e=>I.ok.has y.1 (d3 y hy e)
 have oP:s.heap.get? P=some (d4 ps):=I.hok P _ hP
 have a2:s.heap.Ns bn X.mg:=I.mod.glob.keeps I.bk
 have hC:bS s.heap c P:=C.keeps I.bk
 have d2:bn≠P:=λ q=>by
  obtain⟨o,es,ep,e,d,_⟩:=a2
  rw[q,oP]at e;cases e;cases d
 have hb:s.heap.BuiltinsAt X.mg P:=by
  obtain⟨bm,ob,b1,b2,b3,b4,b5,b6⟩:=hB
  refine⟨bm,ob,b1,b2,λ q=>?_,λ q=>?_,I.bk _ _ b3,b4,b5,b6⟩
  ·obtain⟨o,es,ep,e,d,_⟩:=I.mod.glob
   rw[q,e]at b3;cases b3;rw[d]at b6;cases b6
  ·have e:=I.bk _ _ b3
   rw[q,oP]at e;cases e;cases b4
 cases qq:cM pos ps.toList with
 | none =>
  refine PySem.W.makeFunction_K (mg:=X.mg) a3 I.ok.glob a2 a0 hC oP ht qq d2 hb λ G J Y h' tk hx hge hlt a6 a4=>?_
  have c3:P<s.heap.objs.size:=aC oP
  have c4:G≠P:=dq (ar c3 hge)
  have c5:h'.objs.size≠P:=dq (cF (ar c3 hge) hlt)
  have d0:G≠h'.objs.size:=ay hlt
  have hsz:s.heap.objs.size<=h'.objs.size:=am hge (dm hlt)
  have nP:∀ b,H b=none->b≠P:=λ b n z=>by rw[z,hP]at n;cases n
  have lt:∀ b o,H b=some o->b≠G/\b≠h'.objs.size:=λ b o e=>⟨ay (ar (I.hok.lt e) hge),ay (ar (I.hok.lt e) hsz)⟩
  have c1:∀ b o,s.heap.get? b=some o->b≠G/\b≠h'.objs.size:=λ b o e=>⟨ay (ar (aC e) hge),ay (ar (aC e) hsz)⟩
  have keep:∀ b o,b≠P->s.heap.get? b=some o->(h'.push (PySem.W.fnMade name q params body scope (clOf X.env.cells scope.names []) Y ((X.mg "__name__").getD .none) G J)).get? b=some o:=λ b o n e=>ai _ (hx b o n e)
  have Z:∀ b,b≠P->b≠G->b≠h'.objs.size->∀ o1 o2 o3,upd (upd (upd H P o1) G o2) h'.objs.size o3 b=H b:=λ b n1 n2 n3 o1 o2 o3=>by rw[zb n3,zb n2,zb n1]
  refine fin (H2:=upd (upd (upd H P (.tbl (ps++#[cJ pos.line,cJ pos.col,.ref G]))) G (qK G q)) h'.objs.size (lamO h'.objs.size (cu name q params body scope (clOf X.env.cells scope.names []) .none .none Y ((X.mg "__name__").getD .none) none (.ref G) J))) (I.un (t':=tk) ⟨λ b o e n _ _=>keep b o (nP b n) e,λ b o e n _ _=>⟨o.slots,keep b o (nP b n) e⟩,λ b o e n _=>?fr,λ b o e _=>?th,λ b xs e=>?tu,λ b o u e=>?fz,λ b qs e=>?tb⟩ ?ok) (c0 qq G h'.objs.size Y _ J (I.hok.fresh hge) (I.hok.fresh hsz) d0)
  case fr=>rw[Z b (nP b n) (c1 b o e).1 (c1 b o e).2];exact n
  case th =>
   by_cases z:b=P
   ·subst z;exact⟨_,ai _ a4⟩
   ·exact⟨o,keep b o z e⟩
  case tu=>rw[Z b (λ z=>by rw[z,hP]at e;cases e) (lt b _ e).1 (lt b _ e).2];exact e
  case fz=>rw[Z b (λ z=>by rw[z,hP]at e;cases e) (lt b _ e).1 (lt b _ e).2];exact e
  case tb =>
   by_cases z:b=P
   ·subst z
    rw[hP]at e;cases e
    exact⟨#[cJ pos.line,cJ pos.col,.ref G],by rw[zb (bT c5),zb (bT c4),zn]⟩
   ·exact⟨#[],by rw[Z b z (lt b _ e).1 (lt b _ e).2,e];simp⟩
  case ok =>
   intro b o e
   by_cases zf:b=h'.objs.size
   ·subst zf
    rw[zn]at e;cases e
    exact lamO_ok (aO _ rfl)
   ·rw[zb zf]at e
    by_cases zc:b=G
    ·subst zc
     rw[zn]at e;cases e
     obtain⟨c2,oc,vs,t,e1,e2,e3⟩:=a6
     exact codeO_ok ⟨c2,oc,vs,t,e1,ai _ e2,e3⟩
    ·rw[zb zc]at e
     by_cases zp:b=P
     ·subst zp
      rw[zn]at e;cases e
      exact ai _ a4
     ·rw[zb zp]at e
      have b0:∀ d u,H d=some u->(∀ ps,u≠.tbl ps)->upd (upd (upd H P (.tbl (ps++#[cJ pos.line,cJ pos.col,.ref G]))) G (qK G q)) h'.objs.size (lamO h'.objs.size (cu name q params body scope (clOf X.env.cells scope.names []) .none .none Y ((X.mg "__name__").getD .none) none (.ref G) J)) d=some u:=λ d u e nt=>by
       rw[Z d (λ z=>by rw[z,hP]at e;cases e;exact nt _ rfl) (lt d _ e).1 (lt d _ e).2];exact e
      refine(I.hok b o e).stay (λ d u hd q=>keep d u ?_ q) (λ d q=>b0 d _ q λ _=>by nofun) λ d xs q=>b0 d _ q λ _=>by nofun
      rintro rfl
      rcases hd with hd|hd
      ·exact zp hd.symm
      ·rw[hP]at hd;cases hd
 | some cv =>
  obtain⟨G,rfl,c6⟩:=a5 cv qq
  refine PySem.W.makeFunction_hit (mg:=X.mg) a3 I.ok.glob a2 a0 hC oP ht qq hb λ J Y h' tk hk hsz=>?_
  exact fin (I.laid (t':=tk) (λ b o e=>ai _ (hk b o e)) hsz (lamO_ok (aO _ rfl))) (c6 h'.objs.size Y _ J (I.hok.fresh hsz))
noncomputable def DefIn (H:Hp)(f:Addr)(name qual:Str)(params:a9)(body:List Stmt)(scope:Scope)(fr:List Str)(cap:List V)(clos:List (Str×Addr)):Prop :=
 ∃ doc pm c' ctv,H f=some (lamO f (cu name qual params body scope clos .none .none doc pm none (.ref c') ctv))/\H c'=some (qK c' qual)/\Cells clos H /\
  (∀ x y c,clos.lookup x=some c->clos.lookup y=some c->x=y)/\(∀ x,scope.names.lookup x=some .free->∃ c,clos.lookup x=some c)/\Cap clos H fr cap
theorem defIn_of {cells:List (Str×Addr)}{N:List Str}{kd:Str->Option bN}{σ:St}{H1 H2:Hp}{f:Addr}{q:Str}{name:Str}{params:a9}{body:List Stmt}{scope:Scope}{fr:List Str}{cap:List V}(J:Caught cells N kd σ H1 H2)
  (hf:∃ h pm G C,H1 f=some (lamO f (cu name q params body scope (clOf cells scope.names []) .none .none h pm none (.ref G) C))/\H1 G=some (qK G q))
  (Y:∀ x,scope.names.lookup x=some .free->∃ c,cells.lookup x=some c)
  (Z:∀(i:Nat) (x:Str) (v:V),fr[i]?=some x->cap[i]?=some v->scope.names.lookup x=some .free/\(kd x=some .cell\/kd x=some .free)/\∃ j:Nat,N[j]?=some x/\σ[j]?=some (some v)) :
  DefIn H2 f name q params body scope fr cap (clOf cells scope.names []):=by
 obtain⟨h,pm,G,C,h1,h2⟩:=hf
 have up:∀ b o,H1 b=some o->H2 b=some o:=λ b o e=>by
  rw[J.ne b λ z=>by rw[J.free b z]at e;cases e];exact e
 have sub:∀ x c,(clOf cells scope.names []).lookup x=some c->cells.lookup x=some c:=λ x c e=>by
  rcases clOf_mem (aA e)with z|z
  ·exact z
  ·exact absurd z (by simp)
 refine⟨h,pm,G,C,up _ _ h1,up _ _ h2,λ x c e=>J.cells x c (sub x c e),λ x y c e1 e2=>J.inj x y c (sub x c e1) (sub y c e2),λ x k=>?_,λ i x v e1 e2=>?_⟩
 ·obtain⟨c,e⟩:=Y x k
  exact⟨c,qH e (aA k)⟩
 ·obtain⟨k,kk,j,e3,e4⟩:=Z i x v e1 e2
  obtain⟨c,e⟩:=Y x k
  obtain⟨o,u,e5,e6,e7⟩:=J.cap j x v c e3 e4 kk e
  exact⟨c,o,u,qH e (aA k),e5,e6,e7⟩
theorem DefIn.fn {K:ab}{H:Hp}{f:Addr}{name qual:Str}{params:a9}{body:List Stmt}{scope:Scope}{fr:List Str}{cap:List V}{y:List (Str×Addr)}(h:DefIn H f name qual params body scope fr cap y):FnIn K H f:=by
 obtain⟨G,Y,Z,C,J,_⟩:=h
 exact .inl ⟨_,J⟩
end L2
end
noncomputable section
namespace L2
open PySem PySem.Spec PyProof.Rows Builtin
section
variable {P:aM} {w:World} {A:aV} {E:Value->af->Prop} {s:af}
theorem nx_tup_item {h t:Addr}{i:Nat}{l:Array Value}{v:Value}{Q:Value->af->Prop}(C:s.heap.IsTupleIter h t i)(J:s.heap.IsTuple t l)(hv:l[i]?=some v)
  (k:∀ h',h'.IsTupleIter h t (i+1)->dS h s.heap h'->Q v { s with heap:=h' }):wpAny (model P w) A (bQ (.ref h)) Q E s:=by
 obtain⟨o,e1,e2,y⟩:=id C
 obtain⟨p,G,_,n,Y⟩:=J
 unfold bQ
 refine aj (cK (name:=cD "__next__") C.typeIs cz (dr cz C.typeIs eT ?_ (eJ _)))
 show wpAny _ _ (field (.ref h) 0 >>= _) _ _ _
 refine aj (dM e1 y (x:=.ref t) rfl ?_)
 show wpAny _ _ (if(Value.ref t==Value.none)=true then _ else _) _ _ _
 rw[if_neg (show ¬((Value.ref t==Value.none)=true)from λ z=>nomatch z)]
 show wpAny _ _ (field (.ref h) 1 >>= _) _ _ _
 refine aj (dM e1 y (x:=.int i 0) rfl ?_)
 show wpAny _ _ (hG (.ref t) >>= _) _ _ _
 refine aj (dY G Y ?_)
 simp only[cc,hv]
 refine aj (wpAny_setField e1 y (by simp) (aE ⟨v,rfl,aE (k _ ⟨_,c7 _ e1 (Obj.isFreed_of_fields (iH y _)),(Obj.cls_mapFields ..).trans e2,by rw[iH y];simp[cJ]⟩ (ic ..))⟩))
theorem nx_tup_end {h t:Addr}{i:Nat}{l:Array Value}{Q:Value->af->Prop}(G:A.handled=none)(C:s.heap.IsTupleIter h t i)(Y:s.heap.IsTuple t l)(hv:l[i]?=none)
  (k:∀ h' e,jJ h s.heap h'->(∃ o,h'.get? e=some o/\o.cls=.type "StopIteration")->E (.ref e) { s with heap:=h' }):wpAny (model P w) A (bQ (.ref h)) Q E s:=by
 obtain⟨o,e1,e2,y⟩:=id C
 obtain⟨p,J,_,n,Z⟩:=Y
 unfold bQ
 refine aj (cK (name:=cD "__next__") C.typeIs cz (dr cz C.typeIs eT ?_ (eJ _)))
 show wpAny _ _ (field (.ref h) 0 >>= _) _ _ _
 refine aj (dM e1 y (x:=.ref t) rfl ?_)
 show wpAny _ _ (if(Value.ref t==Value.none)=true then _ else _) _ _ _
 rw[if_neg (show ¬((Value.ref t==Value.none)=true)from λ z=>nomatch z)]
 show wpAny _ _ (field (.ref h) 1 >>= _) _ _ _
 refine aj (dM e1 y (x:=.int i 0) rfl ?_)
 show wpAny _ _ (hG (.ref t) >>= _) _ _ _
 refine aj (dY J Z ?_)
 simp only[cc,hv]
 refine aj (iE (aj (wpAny_setField e1 y (by simp) ?_)))
 show wpAny _ _ (newExc (.type "StopIteration") [] >>= _) _ _ (_:af)
 refine aj ?_
 simp only[newExc,newTuple]
 refine aj (bH ?_ (by size_fits))
 refine aj (m:=firstArgMember _ _) (wpAny_of_eq (a:=Value.none) (by first|rfl|(simp only[firstArgMember];rfl)) (bH ?_ (by size_fits)))
 simp only[raiseNew]
 refine aj (wpAny_handled ?_)
 first|rw[show A.in1.handled=none from G]|rw[G]
 exact aj (aE (wpAny_throw (k _ _ (((ic ..).extBut.push _).push _) ⟨_,aO _ rfl,rfl⟩)))
end
structure Dw (P:aM)(w:World)(K:ab)(J:It)(it:Addr)(tn:Nat->Heap->Prop):Prop where
 obj:∀ i h,tn i h->∃ o,h.get? it=some o/\∀ v,o.data≠.cell v
 keep:∀ i h h',tn i h->(∀ o,h.get? it=some o->h'.get? it=some o)->tn i h'
 item:∀(X:Cx),X.prog=P->X.w=w->X.K=K->∀(A:aV) (i:Nat) (pins:List (Addr×Obj)) (s:af) (σ:St) (H:Hp) (Q:Value->af->Prop) (E:Value->af->Prop),Inv X pins σ H s->tn i s.heap->J.go i H ->
  (∀ x u h' tk,RelV x u->J.yld i H x H->tn (i+1) h'->dS it s.heap h'->Q u { s with heap:=h',toks:=tk })->wpAny (model P w) A (bQ (.ref it)) Q E s
 done:∀(X:Cx),X.prog=P->X.w=w->X.K=K->∀(A:aV) (i:Nat) (pins:List (Addr×Obj)) (s:af) (σ:St) (H:Hp) (Q:Value->af->Prop) (E:Value->af->Prop),A.handled=none->Inv X pins σ H s->tn i s.heap->J.stop i H ->
  (∀ h' e,jJ it s.heap h'->(∃ o,h'.get? e=some o/\o.cls=.type "StopIteration")->E (.ref e) { s with heap:=h' })->wpAny (model P w) A (bQ (.ref it)) Q E s
theorem dw_list {P:aM}{w:World}{K:ab}(a it:Addr):Dw P w K (Itl K a) it (λ i h=>h.IsListIter it a i) where
 obj:=λ i h st=>by
  obtain⟨o,e,c,d⟩:=st
  exact⟨o,e,λ v z=>by rw[d]at z;cases z⟩
 keep:=λ i h h' st k=>st.at k
 item:=by
  intro X C hw G A i y s σ H Q E I st J k
  subst C hw G
  obtain⟨xs,x,hq,hx⟩:=J
  obtain⟨its,Z,p,hz⟩:=I.list hq
  obtain⟨u,hu,ru⟩:=Z.get hx
  exact wpAny_nextOf_list_item st p.isList (x:=u) (by simpa using hu) λ h' Y sb=>k x u h' s.toks ru ⟨rfl,λ ys hy=>by rw[I.list_inj hy hq];exact hx⟩ Y sb
 done:=by
  intro X C hw G A i y s σ H Q E hA I st J k
  subst C hw G
  obtain⟨xs,hq,hx⟩:=J
  obtain⟨its,Z,p,hz⟩:=I.list hq
  have hl:=Z.length
  exact wpAny_nextOf_list_end hA st p.isList (by simp;omega) k
theorem dw_tup {P:aM}{w:World}{K:ab}(a it:Addr):Dw P w K (Itt K a) it (λ i h=>h.IsTupleIter it a i) where
 obj:=λ i h st=>by
  obtain⟨o,e,c,d⟩:=st
  exact⟨o,e,λ v z=>by rw[d]at z;cases z⟩
 keep:=λ i h h' st k=>st.at k
 item:=by
  intro X C hw G A i y s σ H Q E I st J k
  subst C hw G
  obtain⟨xs,x,hq,hx⟩:=J
  obtain⟨its,Z,p,hz⟩:=I.tuple hq
  obtain⟨u,hu,ru⟩:=Z.get hx
  exact nx_tup_item st (show s.heap.IsTuple a its.toArray from p) (v:=u) (by simpa using hu) λ h' Y sb=>k x u h' s.toks ru ⟨rfl,λ ys hy=>by rw[I.tuple_inj hy hq];exact hx⟩ Y sb
 done:=by
  intro X C hw G A i y s σ H Q E hA I st J k
  subst C hw G
  obtain⟨xs,hq,hx⟩:=J
  obtain⟨its,Z,p,hz⟩:=I.tuple hq
  have hl:=Z.length
  exact nx_tup_end hA st (show s.heap.IsTuple a its.toArray from p) (by simp;omega) k
theorem dw_str {P:aM}{w:World}{K:ab}(x:Str)(t:Tok)(it:Addr):Dw P w K (Its x) it (λ i h=>h.IsStrIter it (gX x) x t i) where
 obj:=λ i h st=>by
  obtain⟨o,e,c,d⟩:=st
  exact⟨o,e,λ v z=>by rw[d]at z;cases z⟩
 keep:=λ i h h' st k=>by
  obtain⟨o,ho,r⟩:=st
  exact⟨o,k _ ho,r⟩
 item:=by
  intro X J hw Y A i G s σ H Q E I st Z k
  subst J hw Y
  have y:i<x.cps.size:=Z
  have hc:x.cps[i]?=some x.cps[i]:=by simp[y]
  unfold gX at st k
  cases ha:x.cps.all (·<128)
  ·rw[ha]at st k
   exact wpAny_nextOf_wide_item st hc λ h' C sb=>k (.str ⟨#[x.cps[i]]⟩) _ h' (s.toks+1) ⟨_,rfl⟩ ⟨rfl,_,hc,rfl⟩ C sb
  ·rw[ha]at st k
   exact wpAny_nextOf_ascii_item st hc λ h' C sb=>k (.str ⟨#[x.cps[i]]⟩) _ h' (s.toks+1) ⟨_,rfl⟩ ⟨rfl,_,hc,rfl⟩ C sb
 done:=by
  intro X J hw Y A i G s σ H Q E hA I st Z k
  subst J hw Y
  have y:x.cps.size<=i:=Z
  have hc:x.cps[i]?=none:=by simp[y]
  unfold gX at st
  cases ha:x.cps.all (·<128)
  ·rw[ha]at st
   exact wpAny_nextOf_wide_end hA st hc k
  ·rw[ha]at st
   exact wpAny_nextOf_ascii_end hA st hc k
section
variable {X:Cx} {pins:List (Addr×Obj)} {σ:St} {H:Hp} {s:af} {A:aV} {E:Value->af->Prop} {J1 J2:It} {t1 t2:Nat->Heap->Prop} {z ti to i1 i2:Addr} {n:Nat} {a b:Value}
end
noncomputable def Mkr (v:Value)(o:Obj)(h:Heap):Prop:=∀(P:aM) (w:World) (A:aV) (E:Value->af->Prop) (s:af) (Q:Value->af->Prop),(∀ b u,h.get? b=some u->s.heap.get? b=some u) ->
 Q (.ref s.heap.objs.size) { s with heap:=s.heap.push o }->wpAny (model P w) A (ko v) Q E s
noncomputable def Sr (K:ab)(H:Hp)(x:V)(J:It):Prop:=(∃ a,x=.ref a/\(∃ xs,SqL K H a xs)/\J=Itl K a)\/(∃ a,x=.ref a/\(∃ xs,SqT K H a xs)/\J=Itt K a)\/∃ y,x=.str y/\J=Its y
theorem Sr.mk {X:Cx}{G:List (Addr×Obj)}{σ:St}{H:Hp}{s:af}{x:V}{u:Value}{J:It}(I:Inv X G σ H s)(h:Sr X.K H x J)(r:RelV x u) :
  ∃(o:Obj) (Y:Addr->Nat->Heap->Prop),o.isFreed=false/\Mkr u o s.heap/\(∀ C,Dw X.prog X.w X.K J C (Y C))/\∀ C h',h'.get? C=some o->Y C 0 h':=by
 rcases h with⟨a,e,⟨Z,hq⟩,e'⟩|⟨a,e,⟨Z,hq⟩,e'⟩|⟨y,e,e'⟩
 ·subst e e';cases r
  obtain⟨its,rv,p,hz⟩:=I.list hq
  exact⟨_,λ C i h=>h.IsListIter C a i,rfl,λ P w A E s' Q hk q=>da (p.isList.at λ o e=>hk _ _ e) q,λ C=>dw_list a C,λ C h' e=>⟨_,e,rfl,rfl⟩⟩
 ·subst e e';cases r
  obtain⟨its,rv,p,hz⟩:=I.tuple hq
  exact⟨_,λ C i h=>h.IsTupleIter C a i,rfl,λ P w A E s' Q hk q=>iz (Heap.IsTuple.at (show s.heap.IsTuple a its.toArray from p) λ o e=>hk _ _ e) q,λ C=>dw_tup a C,λ C h' e=>⟨_,e,rfl,rfl⟩⟩
 ·subst e e';obtain⟨t,rfl⟩:=r
  exact⟨_,λ C i h=>h.IsStrIter C (gX y) y t i,rfl,λ P w A E s' Q hk q=>wpAny_pyIter_strU q,λ C=>dw_str y t C,λ C h' e=>⟨_,e,rfl,rfl⟩⟩
end L2
end
noncomputable section
namespace L2
open PySem PySem.Spec PyProof.Rows Builtin
open AutoSeq1 (wpAny_loadPart')
section
variable {X:Cx} {pins:List (Addr×Obj)} {σ:St} {H:Hp} {s:af} {A:aV} {E:Value->af->Prop} {J1:It} {t1:Nat->Heap->Prop} {z it:Addr} {n:Nat} {old:Value}
end
end L2
end
noncomputable section
namespace L2
open PySem PySem.Spec PyProof.Rows Builtin
open AutoSeq1 (wpAny_loadPart')
theorem noFill_tmul:fillsNumberSlot (.type "tuple") "mul"=pure false :=
 PySem.fillsNumberSlot_seq (id := "tuple.__mul__") (r:=some (.builtin "tuple.__rmul__")) d5.lookup (by decide +kernel) fX.lookup (by decide +kernel)
theorem repeat_tup:seqRepeat? (.type "tuple")=pure (some (.builtin "tuple.__mul__")):=by
 unfold seqRepeat?
 rw[i9 (T := "tuple") (name := "__mul__") (id := "tuple.__mul__") d5.lookup (by decide +kernel),i9 (T := "tuple") (name := "__rmul__") (id := "tuple.__rmul__") fX.lookup (by decide +kernel)]
 rfl
theorem int_rmul_tup (a:Int)(t:Tok)(l:Addr)(o:Obj)(y:Array Value)(n:Nat)(C:Option Addr)(sl:Array (Option Value)) :
  Meets (Builtin.«int.__rmul__» ⟨[.int a t,.ref l],[]⟩) (λ _ R s=>s.heap.get? l=some { cls:=.type "tuple",dict:=C,data:=.seq y n,slots:=sl }/\R (.ok (.ret Value.notImplemented)) s) :=
 .of_wp λ prog w A R s h=>by obtain⟨G,g,d,tk,os⟩:=s;obtain⟨hl,h⟩:=h;wp_walk;exact⟨_,rfl,h⟩
noncomputable def repT {α:Type}:Nat->List α->List α
 | 0,_=>[]
 | n+1,a=>a++repT n a
theorem fold_rep {α:Type}(l:List α):∀(n:Nat) (h:Array α),(ao n l.toArray).foldl (·++·) h=h++(repT n l).toArray
 | 0,h=>by simp[repT]
 | n+1,h=>by rw[bM,ci,fold_rep l n];simp[repT]
theorem fold_size {α:Type}(a:Array α):∀(n:Nat) (h:Array α),((ao n a).foldl (·++·) h).size=h.size+a.size*n
 | 0,h=>by simp
 | n+1,h=>by rw[bM,ci,fold_size a n,Array.size_append,Nat.mul_succ];omega
noncomputable def TmA (items:Array Value)(k:Int)(l:Addr)(R:Value->af->Prop)(s:af):Prop :=
 ((items.isEmpty||k==1)=true->R (.ref l) s)/\((items.isEmpty||k==1)=false->R (.ref s.heap.objs.size) { s with heap:=s.heap.push { cls:=.type "tuple",data:=.seq ((ao k.toNat items).foldl (·++·) #[]) } })
theorem tmul_call {P:aM}{w:World}{A:aV}{E:Value->af->Prop}{s:af}{l:Addr}{y:Array Value}{k:Int}{t:Tok}{Q:Value->af->Prop}(h0:0<=k)(Y:k<=1000000)(hz:y.size*k.toNat<=1000000)(hl:IsTup s.heap l y)
  (h:TmA y k l Q s):wpAny (model P w) A (call (.builtin "tuple.__mul__") [.ref l,.int k t]) Q E s:=by
 refine dr d5 hl.typeIs PySem.F.entry_tuple_mul ?_ (PySem.F.args_tuple_mul_2 _ _)
 obtain⟨G,q2⟩:=h
 show wpAny _ _ (asIndex (.int k t) >>= _) _ _ _
 refine aj (aE ?_)
 rw[if_neg (by rw[decide_eq_false (by omega),decide_eq_false (by omega)];decide)]
 show wpAny _ _ (di (.ref l) >>= _) _ _ _
 refine aj (ip hl ?_)
 have J:(y.size:Int)*k<=1000000:=by
  have:((y.size*k.toNat:Nat):Int)<=1000000:=by omega
  rw[gF,ie h0]at this
  exact this
 cases hb:(y.isEmpty||k==1)with
 | true =>
  rw[if_pos rfl]
  unfold j6
  refine aj (aj (gd hl.typeIs (aE ?_)))
  rw[if_pos (by decide)]
  exact aj (iE (aE ⟨_,rfl,G hb⟩))
 | false =>
  rw[if_neg aQ]
  have C:y.isEmpty=false:=by
   rw[eD]at hb;exact hb.1
  have q:=q2 hb
  show wpAny _ _ (if(decide (k<=0)||y.isEmpty)=true then _ else _) _ _ _
  by_cases hk:k<=0
  ·rw[if_pos (by rw[decide_eq_true hk];rfl)]
   have:k.toNat=0:=by omega
   rw[this]at q
   exact aj (bH (aE ⟨_,rfl,q⟩) (by size_fits))
  ·rw[if_neg (by rw[decide_eq_false hk,C];decide)]
   show wpAny _ _ (if(y.size:Int)*k > (2^63 - 1) / 8 then _ else _) _ _ _
   rw[if_neg (by omega)]
   show wpAny _ _ (if fc ((y.size:Int)*k)=true then _ else _) _ _ _
   rw[if_neg (by unfold fc;rw[decide_eq_false (by unfold aI;omega)];decide)]
   refine aj (bH (aE ⟨_,rfl,q⟩) ?_)
   show Array.size _<=aI
   rw[fold_size]
   show 0+_<=_
   rw[aU]
   have h3:y.size*k.toNat<=aI:=am hz (by decide)
   exact h3
theorem repT_nil {α:Type}:∀ n,repT n ([]:List α)=[]
 | 0=>rfl
 | n+1=>by simp[repT,repT_nil n]
theorem repT_one {α:Type}(l:List α):repT 1 l=l:=by simp[repT]
theorem repT_len {α:Type}(l:List α):∀ n,(repT n l).length=l.length*n
 | 0=>by simp[repT]
 | n+1=>by simp[repT,repT_len l n,dQ];omega
theorem Vals.repT {h:List V}{us:List Value}(r:Vals h us):∀ n,Vals (repT n h) (repT n us)
 | 0=>.nil
 | n+1=>r.append (Vals.repT r n)
noncomputable def rMulT (K:ab):R2:=λ x y H Q=>∃ a xs n,x=.ref a/\y=.int n/\SqT K H a xs/\(0<=n/\n<=1000000/\xs.length*n.toNat<=1000000)/\∀ p H',Same H H'->SqT K H' p (repT n.toNat xs)->Q (.ref p) H'
theorem op_mulT {X:Cx}{K:ab}(hK:X.K=K):OpR X (b7 .Mult) (rMulT K):=by
 subst hK
 intro Y s σ H x y v u Q I rx ry h
 obtain⟨a,J,n,rfl,rfl,ha,⟨h0,h1,hz⟩,q⟩:=h
 cases rx
 obtain⟨t,rfl⟩:=ry
 obtain⟨its,r1,G,a0⟩:=I.tuple ha
 have C:=r1.length
 obtain⟨⟨cls,dd,data,sl⟩,ho,hc,Z,hd⟩:=id G
 simp only at hc hd
 subst hc hd
 refine fe (T := "tuple") (U := "int") (by decide) G.typeIs (λ s'=>gi s' n t) noFill_tmul iD dI repeat_tup hZ.lookup
  (gk dI (gi s n t) ib (gR _ _) (int_rmul_tup n t a default its.toArray Z dd sl) ⟨ho,⟨rfl,G.typeIs,tmul_call h0 h1 (by rw[au,<-C];exact hz) G ⟨λ hb=>?_,λ hb=>?_⟩⟩⟩)
 ·refine⟨.ref a,H,I,rfl,q a H (Same.refl H) ?_⟩
  rw[bO]at hb
  rcases hb with hb|hb
  ·have hi:its=[]:=by simpa using hb
   have hx:J=[]:=r1.nil_iff.mp hi
   rw[hx,repT_nil];rw[hx]at ha;exact ha
  ·have:n=1:=by simpa using hb
   subst this
   show SqT _ _ _ (repT 1 J)
   rw[repT_one];exact ha
 ·have hp:=I.hok.fresh (ah s.heap.objs.size)
  refine⟨.ref s.heap.objs.size,_,I.laid (t':=s.toks) (o:=.tup (repT n.toNat J)) (λ b ob q=>ai _ q) (ah _) ?_,rfl,q _ _ ((Same.refl H).new hp) (SqT.of zn)⟩
  refine⟨by rw[repT_len];exact am hz (by decide),repT n.toNat its,r1.repT _,?_⟩
  rw[show(repT n.toNat its).toArray=(ao n.toNat its.toArray).foldl (·++·) #[]by rw[fold_rep];simp]
  exact⟨_,aO _ rfl,rfl,_,rfl⟩
end L2
end
noncomputable section
namespace L2
open PySem PySem.Spec PyProof.Rows
section
variable {κ:Type} [DecidableEq κ]
noncomputable def valV (kvs:List (κ×V))(k:κ):Option V:=(kvs.find? λ kv=>decide (kv.1=k)).map (·.2)
noncomputable def putK (kvs:List (κ×V))(k:κ)(v:V):List (κ×V) :=
 if(kvs.any λ kv=>decide (kv.1=k))=true then kvs.map (λ kv=>if kv.1=k then(kv.1,v)else kv)else kvs++[(k,v)]
theorem valV_pos {p:κ×V}{r:List (κ×V)}{k:κ}(e:p.1=k):valV (p::r) k=some p.2:=by simp[valV,cU,e]
theorem valV_neg {p:κ×V}{r:List (κ×V)}{k:κ}(e:¬ p.1=k):valV (p::r) k=valV r k:=by simp[valV,cU,e]
theorem valV_any (k:κ):∀ h:List (κ×V),(h.any λ y=>decide (y.1=k))=(valV h k).isSome
 | []=>rfl
 | p::r=>by
  rw[fM]
  by_cases e:p.1=k
  ·simp only[valV_pos e,decide_eq_true e,Bool.true_or,fb]
  ·rw[valV_neg e,decide_eq_false e,kg];exact valV_any k r
theorem jB (h:List (κ×V))(k:κ)(v:V):(putK h k v).length<=h.length+1:=by
 unfold putK
 split
 ·rw[az];omega
 ·rw[aR,aW,eK];omega
theorem RelO.isSome_eq {o:Option V}{u:Option Value}(r:RelO o u):o.isSome=u.isSome:=by
 cases o with
 | none=>cases u with
  | none=>rfl
  | some _=>exact(show False from r).elim
 | some _=>cases u with
  | none=>exact(show False from r).elim
  | some _=>rfl
theorem KV.val {y:List (κ×V)}{vs:List (κ×Value)}(r:KV y vs)(k:κ):RelO (valV y k) (hV vs k):=by
 unfold KV at r
 induction r with
 | nil=>exact True.intro
 | @cons p q ps qs h t ih =>
  obtain⟨C,G⟩:=h
  by_cases e:p.1=k
  ·have e':q.1=k:=C.symm.trans e
   have b:hV (q::qs) k=some q.2:=by simp[hV,cU,e']
   rw[valV_pos e,b];exact G
  ·have e':¬ q.1=k:=λ z=>e (C.trans z)
   have b:hV (q::qs) k=hV qs k:=by simp[hV,cU,e']
   rw[valV_neg e,b];exact ih
theorem KV.any {y:List (κ×V)}{vs:List (κ×Value)}(r:KV y vs)(k:κ):(y.any λ C=>decide (C.1=k))=vs.any λ C=>decide (C.1=k):=by
 unfold KV at r
 induction r with
 | nil=>rfl
 | cons h t ih=>rw[fM,fM,ih,h.1]
theorem KV.repl {G:List (κ×V)}{vs:List (κ×Value)}(r:KV G vs)(k:κ){y:V}{u:Value}(Z:RelV y u) :
  KV (G.map λ C=>if C.1=k then(C.1,y)else C) (vs.map λ C=>if C.1=k then(C.1,u)else C):=by
 unfold KV at r ⊢
 induction r with
 | nil=>exact .nil
 | @cons p q ps qs h t ih =>
  rw[aN,aN]
  refine .cons ?_ ih
  obtain⟨J,Y⟩:=h
  by_cases e:p.1=k
  ·rw[if_pos e,if_pos (J.symm.trans e)];exact⟨J,Z⟩
  ·rw[if_neg e,if_neg (λ z=>e (J.trans z))];exact⟨J,Y⟩
theorem KV.put {h:List (κ×V)}{vs:List (κ×Value)}(r:KV h vs)(k:κ){y:V}{u:Value}(C:RelV y u):KV (putK h k y) (stored vs k u):=by
 unfold putK stored
 rw[r.any k]
 by_cases e:(vs.any λ G=>decide (G.1=k))=true
 ·rw[if_pos e,if_pos e];exact r.repl k C
 ·rw[if_neg e,if_neg e];exact kG r ⟨rfl,C⟩
theorem KV.length {h:List (κ×V)}{vs:List (κ×Value)}(r:KV h vs):h.length=vs.length:=ii r
end
theorem kV_is {P:aM}{w:World}{k:Key}{u:Value}(r:RelV (kV k) u):(zY P w).is k u=true:=by
 cases k with
 | inl i=>obtain⟨t,e⟩:=(show ∃ t,u=Value.int i t from r);subst e;exact mixKind_int P w i t
 | inr x=>obtain⟨t,e⟩:=(show ∃ t,u=Value.str x t from r);subst e;exact mixKind_str P w x t
theorem items_are {P:aM}{w:World}:∀ {y:List Key} {us:List Value},Vals (y.map kV) us->ItemsAre (zY P w) y us
 | [],_,r=>by rw[cq]at r;cases r;exact .nil
 | k::y,_,r=>by
  rw[aN]at r
  cases r with
  | cons h t=>exact .cons (kV_is h) (items_are t)
noncomputable abbrev KT (H:Hp):List (List Key×V)->List (List Key×Addr×Value)->Prop:=fD λ p q=>p.1=q.1/\H q.2.1=some (.tup (p.1.map kV))/\RelV p.2 q.2.2
theorem KT.val {H:Hp}{y:List (List Key×V)}{G:List (List Key×Addr×Value)}(r:KT H y G)(k:List Key):RelO (valV y k) ((atKey G k).map (·.2)):=by
 induction r with
 | nil=>exact True.intro
 | @cons p q ps qs h t ih =>
  obtain⟨C,_,J⟩:=h
  by_cases e:p.1=k
  ·have e':q.1=k:=C.symm.trans e
   have b:atKey (q::qs) k=some q.2:=by simp[atKey,cU,e']
   rw[valV_pos e,b];exact J
  ·have e':¬ q.1=k:=λ z=>e (C.trans z)
   have b:atKey (q::qs) k=atKey qs k:=by simp[atKey,cU,e']
   rw[valV_neg e,b];exact ih
theorem KT.repl {H:Hp}{C:List (List Key×V)}{Z:List (List Key×Addr×Value)}(r:KT H C Z)(k:List Key){y:V}{u:Value}(ry:RelV y u) :
  KT H (C.map λ J=>if J.1=k then(J.1,y)else J) (Z.map (putAt k u)):=by
 induction r with
 | nil=>exact .nil
 | @cons p q ps qs h t ih =>
  rw[aN,aN]
  refine .cons ?_ ih
  obtain⟨G,Y,h3⟩:=h
  unfold putAt
  by_cases e:p.1=k
  ·rw[if_pos e,if_pos (G.symm.trans e)];exact⟨G,Y,ry⟩
  ·rw[if_neg e,if_neg (λ z=>e (G.trans z))];exact⟨G,Y,h3⟩
theorem KT.put {H:Hp}{h:List (List Key×V)}{C:List (List Key×Addr×Value)}(r:KT H h C)(k:List Key){b:Addr}{y:V}{u:Value}(hb:H b=some (.tup (k.map kV)))(G:RelV y u) :
  KT H (putK h k y) (storedH C k b u):=by
 have e:(h.any λ J=>decide (J.1=k))=(atKey C k).isSome:=by
  rw[valV_any,(r.val k).isSome_eq,fy]
 unfold putK storedH
 rw[e]
 by_cases q:(atKey C k).isSome=true
 ·rw[if_pos q,if_pos q];exact r.repl k G
 ·rw[if_neg q,if_neg q];exact kG r ⟨rfl,hb,G⟩
theorem KT.keeps {H H':Hp}{h:List (List Key×V)}{y:List (List Key×Addr×Value)}(r:KT H h y)(C:∀ b ys,H b=some (.tup ys)->H' b=some (.tup ys)):KT H' h y :=
 fD.mapP r λ _ _ z=>⟨z.1,C _ _ z.2.1,z.2.2⟩
section
variable {P:aM} {w:World} {H:Hp} {h:Heap} {a:Addr}
theorem rd_of {u:HO}(ok:HOk P w H h)(e:Rd H a u):ObjOk P w H h a u:=e.ok ok
theorem dk_rd {y:List (Key×V)}(ok:HOk P w H h)(e:Rd H a (.dK y)):y.length<=aI/\(a==dh)=false/\∃ vs,KV y vs/\h.DictOf (zY P w) a vs :=
 show ObjOk P w H h a (.dK y)from rd_of ok e
theorem dk_of {y:List (Key×V)}(ok:HOk P w H h)(e:H a=some (.dK y)):y.length<=aI/\(a==dh)=false/\∃ vs,KV y vs/\h.DictOf (zY P w) a vs:=dk_rd ok (.inl e)
theorem key_of {y:List Key}(ok:HOk P w H h)(e:H a=some (.tup (y.map kV))):(g8 (zY P w)).is h y a:=by
 obtain⟨_,its,r,o,G,C,n,h3⟩:=(show ObjOk P w H h a (.tup (y.map kV))from ok a _ e)
 exact⟨o,its.toArray,n,G,C,h3,by simpa using items_are r⟩
theorem dt_rd {C:List (List Key×V)}(ok:HOk P w H h)(e:Rd H a (.dT C)):C.length<=aI/\(a==dh)=false /\
  ∃ G,KT H C G/\h.DictOfH (g8 (zY P w)) a G:=by
 obtain⟨z,y,G,r,o,es,Y,Z,J,h3,h4,h5⟩:=(show ObjOk P w H h a (.dT C)from rd_of ok e)
 refine⟨z,y,G,r,o,es,Y,Z,J,h3,h4,λ x hx=>?_,h5⟩
 have all:∀ {l:List (List Key×V)} {m:List (List Key×Addr×Value)},KT H l m->∀ x∈m,(g8 (zY P w)).is h x.1 x.2.1:=by
  intro l m q
  induction q with
  | nil=>intro x hx;exact nomatch hx
  | @cons p q ps qs hq t ih =>
   intro x hx
   rcases aH.mp hx with e|hx
   ·subst e
    exact key_of ok (by rw[<-hq.1];exact hq.2.1)
   ·exact ih x hx
 exact all r x hx
theorem dt_of {y:List (List Key×V)}(ok:HOk P w H h)(e:H a=some (.dT y)):y.length<=aI/\(a==dh)=false /\
  ∃ C,KT H y C/\h.DictOfH (g8 (zY P w)) a C:=dt_rd ok (.inl e)
end
noncomputable def DGet (H:Hp)(a:Addr)(y:V)(r:Option V):Prop :=
 (∃ kvs k,Rd H a (.dK kvs)/\y=kV k/\r=valV kvs k)\/∃ kvs k b,Rd H a (.dT kvs)/\y=.ref b/\H b=some (.tup (k.map kV))/\r=valV kvs k
noncomputable def DPut (H:Hp)(a:Addr)(y v:V)(H':Hp):Prop :=
 (∃ kvs k,H a=some (.dK kvs)/\y=kV k/\kvs.length<aI/\H'=upd H a (.dK (putK kvs k v))) \/
 ∃ kvs k b,H a=some (.dT kvs)/\y=.ref b/\H b=some (.tup (k.map kV))/\kvs.length<aI/\H'=upd H a (.dT (putK kvs k v))
theorem DGet.k {H:Hp}{a:Addr}{h:List (Key×V)}{k:Key}(e:H a=some (.dK h)):DGet H a (kV k) (valV h k):=.inl ⟨h,k,.inl e,rfl,rfl⟩
theorem DPut.k {H:Hp}{a:Addr}{h:List (Key×V)}{k:Key}{v:V}(e:H a=some (.dK h))(hl:h.length<aI):DPut H a (kV k) v (upd H a (.dK (putK h k v))):=.inl ⟨h,k,e,rfl,hl,rfl⟩
section
variable {X:Cx} {pins:List (Addr×Obj)} {σ:St} {H:Hp} {s:af} {a:Addr} {y v:V} {u r:Value} {o:Option V} {A:aV} {E:Value->af->Prop}
theorem Inv.big (I:Inv X pins σ H s):dh<s.heap.objs.size:=by
 have h:bn<s.heap.objs.size:=(I.mod.glob.keeps I.bk).lt
 exact cF (by decide) h
theorem d_getItem {Q:Value->af->Prop}(hu:A.units+1<cLine)(I:Inv X pins σ H s)(g:DGet H a y (some v))(ry:RelV y u)(h:∀ J s',Inv X pins σ H s'->RelV v J->Q J s') :
  wpAny (model X.prog X.w) A (gb (.ref a) u) Q E s:=by
 rcases g with⟨Z,k,e,ey,l⟩|⟨Z,k,b,e,ey,eb,l⟩
 ·subst ey
  obtain⟨z,hd,vs,G,dd⟩:=dk_rd I.hok e
  obtain⟨J,hw,C⟩:=RelO.some_of (v:=v) (o:=hV vs k) (by rw[l];exact G.val k)
  exact wpAny_getItem_of (kV_is ry) dd.mapOf hw (h J _ (I.tok _) C)
 ·subst ey
  cases(show u=Value.ref b from ry)
  obtain⟨z,hd,xs,G,dd⟩:=dt_rd I.hok e
  obtain⟨J,hw,C⟩:=RelO.some_of (v:=v) (o:=(atKey xs k).map (·.2)) (by rw[l];exact G.val k)
  obtain⟨p,hp,Y⟩:=bJ.mp hw
  refine wpAny_getItem_heap (dJ hu) (key_of I.hok eb) dd hp ?_
  rw[Y]
  exact h J _ (I.tok _) C
theorem d_in {Q:Value->af->Prop}(Z:A.units+1<cLine)(I:Inv X pins σ H s)(g:DGet H a y o)(Y:RelV y u)(h:∀ s',Inv X pins σ H s'->Q (.bool o.isSome) s') :
  wpAny (model X.prog X.w) A (cW .In u (.ref a)) Q E s:=by
 rcases g with⟨J,k,e,G,l⟩|⟨J,k,b,e,G,eb,l⟩
 ·subst G
  obtain⟨z,hd,vs,C,dd⟩:=dk_rd I.hok e
  refine wpAny_in_of (kV_is Y) hd dd.mapOf ?_
  rw[<-(C.val k).isSome_eq,<-l]
  exact h _ (I.tok _)
 ·subst G
  cases(show u=Value.ref b from Y)
  obtain⟨z,hd,xs,C,dd⟩:=dt_rd I.hok e
  refine wpAny_in_heap (dJ Z) (key_of I.hok eb) hd dd ?_
  have q:=(C.val k).isSome_eq
  rw[fy]at q
  rw[<-q,<-l]
  exact h _ (I.tok _)
theorem d_notIn {Q:Value->af->Prop}(Z:A.units+1<cLine)(I:Inv X pins σ H s)(g:DGet H a y o)(Y:RelV y u)(h:∀ s',Inv X pins σ H s'->Q (.bool (!o.isSome)) s') :
  wpAny (model X.prog X.w) A (cW .NotIn u (.ref a)) Q E s:=by
 rcases g with⟨J,k,e,G,l⟩|⟨J,k,b,e,G,eb,l⟩
 ·subst G
  obtain⟨z,hd,vs,C,dd⟩:=dk_rd I.hok e
  refine wpAny_notIn_of (kV_is Y) hd dd.mapOf ?_
  rw[<-(C.val k).isSome_eq,<-l]
  exact h _ (I.tok _)
 ·subst G
  cases(show u=Value.ref b from Y)
  obtain⟨z,hd,xs,C,dd⟩:=dt_rd I.hok e
  refine wpAny_notIn_heap (dJ Z) (key_of I.hok eb) hd dd ?_
  have q:=(C.val k).isSome_eq
  rw[fy]at q
  rw[<-q,<-l]
  exact h _ (I.tok _)
theorem d_write {h':Heap}{t':Nat}{ob:HO}(I:Inv X pins σ H s)(mu:Mut (H a))(hs:dS a s.heap h')(h:∃ q,h'.get? a=some q)(new:ObjOk X.prog X.w (upd H a ob) h' a ob) :
  Inv X pins σ (upd H a ob) { s with heap:=h',toks:=t' } :=
 I.write (x:=a) (e:=a) mu (.inl rfl) (λ b q hb z=>(hs.2 b hb).trans z) h new
theorem dk_new {P:aM}{w:World}{H':Hp}{h':Heap}{h:List (Key×V)}{vs:List (Key×Value)}(z:h.length<=aI)(hd:(a==dh)=false)(y:KV h vs)(dd:h'.DictOf (zY P w) a vs) :
  ObjOk P w H' h' a (.dK h):=⟨z,hd,vs,y,dd⟩
theorem d_setItem {H':Hp}{Q:Unit->af->Prop}(hu:A.units+1<cLine)(I:Inv X pins σ H s)(g:DPut H a y v H')(ry:RelV y u)(rv:RelV v r)(h:∀ s',Inv X pins σ H' s'->Q () s') :
  wpAny (model X.prog X.w) A (setItem (.ref a) u r) Q E s:=by
 rcases g with⟨C,k,e,Z,l,Y⟩|⟨C,k,b,e,Z,eb,l,Y⟩
 ·subst Z Y
  obtain⟨z,hd,vs,G,dd⟩:=dk_of I.hok e
  have hz:vs.length<=aI:=by rw[<-G.length];exact z
  have hl:(putK C k v).length<=aI:=by have:=jB C k v;omega
  refine wpAny_setItem_pairs (hsz:=hz) (kV_is ry) dd λ h' J hs=>h _ ?_
  have he:∃ q,h'.get? a=some q:=let⟨q,_,_,hq,_⟩:=J;⟨q,hq⟩
  exact d_write I (by rw[e];exact True.intro) hs he (dk_new hl hd (G.put k rv) J)
 ·subst Z Y
  cases(show u=Value.ref b from ry)
  obtain⟨z,hd,xs,G,dd⟩:=dt_of I.hok e
  have hz:xs.length<=aI:=by rw[<-ii G];exact z
  have hl:(putK C k v).length<=aI:=by have:=jB C k v;omega
  refine wpAny_setItem_heap (hsz:=hz) (dJ hu) (key_of I.hok eb) dd λ h' J hs=>h _ ?_
  obtain⟨q,es,ep,hq,h2,h3,h4,_,h5⟩:=J
  refine d_write I (by rw[e];exact True.intro) hs ⟨q,hq⟩ ⟨hl,hd,_,(G.put k eb rv).keeps λ c ys ec=>?_,q,es,ep,hq,h2,h3,h4,h5⟩
  rw[zb (ne_of ec e (λ z=>nomatch z))]
  exact ec
end
section
variable {X:Cx} {pins:List (Addr×Obj)} {σ:St} {H:Hp} {s:af} {a:Addr} {kvs:List (Key×V)} {k:Key} {u:Value} {A:aV} {E:Value->af->Prop}
end
theorem dict_typeIs {X:Cx}{h:List (Addr×Obj)}{σ:St}{H:Hp}{s:af}{a:Addr}{y:V}{o:Option V}(I:Inv X h σ H s)(g:DGet H a y o):s.TypeIs (.ref a) "dict":=by
 rcases g with⟨C,k,e,_,_⟩|⟨C,k,b,e,_,_,_⟩
 ·obtain⟨_,_,vs,_,dd⟩:=dk_rd I.hok e
  exact dd.typeIs
 ·obtain⟨_,_,G,_,dd⟩:=dt_rd I.hok e
  exact dd.typeIs
section
variable {X:Cx} {o i e value:Expr} {pos pos' tpos:Pos} {td ty tv:TE}
end
theorem dk_empty {P:aM}{w:World}{H:Hp}(h:Heap)(hb:dh<h.objs.size):ObjOk P w H (h.push { cls:=.type "dict",data:=.dict #[] }) h.objs.size (.dK []) :=
 ⟨dj _,beq_eq_false_iff_ne.mpr (bT (ay hb)),[],.nil,Heap.DictOf.new h⟩
noncomputable def tDNewK:TE:=λ _ H Q=>∀ p,H p=none->Q (.ref p) (upd H p (.dK []))
section
variable {X:Cx} {pos:Pos}
theorem pe_dnewK:PE X (.Dict [] [] pos) tDNewK:=λ y s σ H Q I h =>
 wpAny_Dict_empty ⟨.ref s.heap.objs.size,_,I.laid (a:=s.heap.objs.size) (o:=.dK []) (t':=s.toks) (λ _ _ q=>ai _ q) (ah _) (dk_empty s.heap I.big),rfl,h _ (I.hok.fresh (ah _))⟩
end
noncomputable def tPairs:List (TE×TE)->St->Hp->(List (V×V)->Hp->Prop)->Prop
 | [],_,H,Q=>Q [] H
 | (tk,tv)::r,σ,H,Q=>tk σ H λ x H1=>tv σ H1 λ y H2=>tPairs r σ H2 λ ps H3=>Q ((x,y)::ps) H3
noncomputable abbrev VV:List (V×V)->List (Value×Value)->Prop:=fD λ p q=>RelV p.1 q.1/\RelV p.2 q.2
noncomputable def PPs (X:Cx)(pos:Pos)(keys:List (Option Expr))(values:List Expr)(trs:List (TE×TE)):Prop :=
 ∀(pins:List (Addr×Obj)) (s:af) (σ:St) (H:Hp) (Q:List (V×V)->Hp->Prop),Inv X pins σ H s->tPairs trs σ H Q ->
  wpAny (model X.prog X.w) X.A (evalPairs (pairTrees keys values X.env pos)) (λ vs s'=>∃ ps H',Inv X pins σ H' s'/\VV ps vs/\Q ps H') X.xe s
theorem pps_nil {X:Cx}{pos:Pos}:PPs X pos [] [] []:=λ y s σ H Q I h=>pairTrees_nil_walk ⟨[],H,I,.nil,h⟩
theorem pps_cons {X:Cx}{pos:Pos}{k v:Expr}{Y:List (Option Expr)}{vs:List Expr}{tk Z:TE}{G:List (TE×TE)}(hk:PE X k tk)(hv:PE X v Z)(hr:PPs X pos Y vs G) :
  PPs X pos (some k::Y) (v::vs) ((tk,Z)::G):=λ C s σ H Q I h =>
 pairTrees_cons_walk (thn (hk C s σ H _ I h) λ u s1 ⟨x,H1,I1,rx,q1⟩=>thn (hv C s1 σ H1 _ I1 q1) λ w2 s2 ⟨y,H2,I2,ry,q2⟩ =>
  thn (hr C s2 σ H2 _ I2 q2) λ ws s3 ⟨ps,H3,I3,J,q3⟩=>⟨(x,y)::ps,H3,I3,.cons ⟨rx,ry⟩ J,q3⟩)
noncomputable def mergeK (kvs more:List (Key×V)):List (Key×V):=more.foldl (λ acc kv=>putK acc kv.1 kv.2) kvs
theorem KV.merge:∀ {y:List (Key×V)} {G:List (Key×Value)} {C:List (Key×V)} {vs:List (Key×Value)},KV y G->KV C vs->KV (mergeK C y) (merged vs G):=by
 intro y G C vs r
 unfold KV at r
 induction r generalizing C vs with
 | nil=>intro q;exact q
 | @cons p q ps qs h t ih =>
  intro r0
  have e:KV (putK C p.1 p.2) (stored vs q.1 q.2):=by
   have:=r0.put p.1 h.2
   rw[<-h.1];exact this
  exact ih e
theorem length_mergeK:∀(y h:List (Key×V)),(mergeK h y).length<=h.length+y.length
 | [],h=>by show h.length<=h.length+0;omega
 | p::r,h=>by
  have C:=length_mergeK r (putK h p.1 p.2)
  have G:=jB h p.1 p.2
  show(mergeK (putK h p.1 p.2) r).length<=_
  rw[aW];omega
theorem carries_of {P:aM}{w:World}:∀ {y:List (Key×V)} {ws:List (Value×Value)},VV (y.map λ G=>(kV G.1,G.2)) ws->∃ C,Carries (zY P w) ws C/\KV y C
 | [],_,r=>by rw[cq]at r;cases r;exact⟨[],True.intro,.nil⟩
 | p::y,_,r=>by
  rw[aN]at r
  cases r with
  | @cons a b as bs h t =>
   obtain⟨C,c,q⟩:=carries_of (P:=P) (w:=w) t
   obtain⟨Y,J⟩:=b
   exact⟨(p.1,J)::C,⟨kV_is h.1,rfl,c⟩,.cons ⟨rfl,h.2⟩ q⟩
noncomputable def tDisp (trs:List (TE×TE)):TE:=λ σ H Q=>∀ p,H p=none->tPairs trs σ (upd H p (.dK [])) λ ps H2=>H2 p=some (.dK [])/\∃ kvs:List (Key×V),ps=kvs.map (λ kv=>(kV kv.1,kv.2))/\kvs.length<=15/\Q (.ref p) (upd H2 p (.dK (mergeK [] kvs)))
theorem pe_disp {X:Cx}{pos:Pos}{y:List (Option Expr)}{C:List Expr}{Z:List (TE×TE)}(h:PPs X pos y C Z)(G:y.all (·.isSome)=true)(hl:y.length=C.length)(h0:y≠[])
  (a2:y.length<=15):PE X (.Dict y C pos) (tDisp Z):=by
 intro a0 s σ H Q I q
 have hn:=I.hok.fresh (ah s.heap.objs.size)
 have I1:=I.laid (a:=s.heap.objs.size) (o:=.dK []) (h':=s.heap.push { cls:=.type "dict",data:=.dict #[] }) (t':=s.toks) (λ _ _ q=>ai _ q) (ah _) (dk_empty s.heap I.big)
 refine wpAny_Dict_walk (knd:=zY X.prog X.w) G hl h0 a2 (thn (h a0 _ σ _ _ I1 (q _ hn)) λ ws s2 ⟨ps,H2,I2,a1,e,Y,ep,lk,q2⟩=>?_)
 subst ep
 obtain⟨rs,c,rk⟩:=carries_of (P:=X.prog) (w:=X.w) a1
 obtain⟨z,hd,a3,r0,dd⟩:=dk_of I2.hok e
 cases r0
 refine⟨rs,c,dd,λ h' J hs=>⟨.ref s.heap.objs.size,_,?_,rfl,q2⟩⟩
 have hz:(mergeK [] Y).length<=aI:=by
  have h1:=length_mergeK Y []
  rw[eK]at h1
  rw[fm];omega
 have he:∃ q,h'.get? s.heap.objs.size=some q:=let⟨q,_,_,hq,_⟩:=J;⟨q,hq⟩
 exact d_write I2 (by rw[e];exact True.intro) hs he (dk_new hz hd (rk.merge .nil) J)
section
variable {X:Cx} {pins:List (Addr×Obj)} {σ:St} {H:Hp} {s:af} {a:Addr} {y d:V} {u r:Value} {o:Option V} {A:aV} {E:Value->af->Prop}
end
section
variable {X:Cx} {o e f:Expr} {apos cpos:Pos} {td ty tx:TE}
end
end L2
end
noncomputable section
namespace DV
inductive D where
 | non|bl (b:Bool)|int (i:Int)|str (x:List Nat)|tup (l:List D)|ref (n:Nat)|fn (f:String)|clo (f:String) (cs:List D)
mutual
noncomputable def D.beq:D->D->Bool
 | .non,.non=>true
 | .bl a,.bl b=>a==b
 | .int a,.int b=>a==b
 | .str a,.str b=>a==b
 | .tup a,.tup b=>D.beqL a b
 | .ref a,.ref b=>a==b
 | .fn a,.fn b=>a==b
 | .clo a l,.clo b m=>a==b&&D.beqL l m
 | _,_=>false
noncomputable def D.beqL:List D->List D->Bool
 | [],[]=>true
 | a::l,b::m=>D.beq a b&&D.beqL l m
 | _,_=>false
end
mutual
theorem D.beq_eq:∀ a b:D,D.beq a b=true->a=b
 | .non,b,h=>by cases b<;>first|rfl|(unfold D.beq at h;cases h)
 | .bl x,b,h=>by cases b<;>first|(unfold D.beq at h;rw[beq_iff_eq.mp h])|(unfold D.beq at h;cases h)
 | .int x,b,h=>by cases b<;>first|(unfold D.beq at h;rw[beq_iff_eq.mp h])|(unfold D.beq at h;cases h)
 | .str x,b,h=>by cases b<;>first|(unfold D.beq at h;rw[beq_iff_eq.mp h])|(unfold D.beq at h;cases h)
 | .tup x,b,h=>by cases b<;>first|(unfold D.beq at h;rw[D.beqL_eq _ _ h])|(unfold D.beq at h;cases h)
 | .ref x,b,h=>by cases b<;>first|(unfold D.beq at h;rw[beq_iff_eq.mp h])|(unfold D.beq at h;cases h)
 | .fn x,b,h=>by cases b<;>first|(unfold D.beq at h;rw[beq_iff_eq.mp h])|(unfold D.beq at h;cases h)
 | .clo x l,b,h=>by cases b<;>first|(unfold D.beq at h;rw[aq]at h;rw[beq_iff_eq.mp h.1,D.beqL_eq _ _ h.2])|(unfold D.beq at h;cases h)
theorem D.beqL_eq:∀ a b:List D,D.beqL a b=true->a=b
 | [],b,h=>by cases b<;>first|rfl|(unfold D.beqL at h;cases h)
 | x::l,b,h=>by
  cases b with
  | nil=>unfold D.beqL at h;cases h
  | cons y m=>unfold D.beqL at h;rw[aq]at h;rw[D.beq_eq _ _ h.1,D.beqL_eq _ _ h.2]
end
mutual
theorem D.beq_refl:∀ a:D,D.beq a a=true
 | .non=>rfl
 | .bl _=>by unfold D.beq;exact beq_self_eq_true _
 | .int _=>by unfold D.beq;exact beq_self_eq_true _
 | .str _=>by unfold D.beq;exact beq_self_eq_true _
 | .tup l=>by unfold D.beq;exact D.beqL_refl l
 | .ref _=>by unfold D.beq;exact beq_self_eq_true _
 | .fn _=>by unfold D.beq;exact beq_self_eq_true _
 | .clo _ l=>by unfold D.beq;rw[beq_self_eq_true,D.beqL_refl l];rfl
theorem D.beqL_refl:∀ a:List D,D.beqL a a=true
 | []=>rfl
 | x::l=>by unfold D.beqL;rw[D.beq_refl x,D.beqL_refl l];rfl
end
noncomputable instance:DecidableEq D:=λ a b=>if h:D.beq a b=true then .isTrue (D.beq_eq a b h)else .isFalse λ e=>h (e▸D.beq_refl a)
inductive O where
 | lst (l:List D)|ro (l:List D)|dic (l:List (D×D))|ins (c:String) (fs:List (String×D))
 deriving DecidableEq
noncomputable abbrev Sto:=List O
noncomputable def O.kd:O->Nat
 | .lst _=>0|.ro _=>1|.dic _=>2|.ins _ _=>3
inductive R (α:Type) where
 | ok (a:α) (s:Sto)|exc (e:D) (s:Sto)|bad
noncomputable abbrev M (α:Type):=Sto->R α
noncomputable def R.bind {α β:Type}(r:R α)(f:α->Sto->R β):R β:=match r with
 | .ok a s=>f a s
 | .exc e s=>.exc e s
 | .bad=>.bad
@[simp] theorem R.bind_ok {α β:Type} (a:α) (s:Sto) (f:α->Sto->R β):(R.ok a s).bind f=f a s:=rfl
@[simp] theorem R.bind_bad {α β:Type} (f:α->Sto->R β):(R.bad:R α).bind f=.bad:=rfl
@[simp] theorem R.bind_exc {α β:Type} (e:D) (s:Sto) (f:α->Sto->R β):(R.exc e s:R α).bind f=.exc e s:=rfl
theorem R.bind_inv {α β:Type}{r:R α}{f:α->Sto->R β}{b:β}{t:Sto}(h:r.bind f=.ok b t):∃ a s,r=.ok a s/\f a s=.ok b t:=by
 cases r with
 | ok a s=>exact⟨a,s,rfl,h⟩
 | exc e s=>cases h
 | bad=>cases h
@[simp] theorem R.bind_assoc {α β γ:Type} (r:R α) (f:α->Sto->R β) (g:β->Sto->R γ):(r.bind f).bind g=r.bind λ a s=>(f a s).bind g:=by cases r<;>rfl
mutual
noncomputable def D.bnd (n:Nat):D->Bool
 | .tup l=>D.bndL n l
 | .ref k=>decide (k<n)
 | .clo _ l=>D.bndL n l
 | _=>true
noncomputable def D.bndL (n:Nat):List D->Bool
 | []=>true
 | d::l=>D.bnd n d&&D.bndL n l
end
noncomputable def O.bnd (n:Nat):O->Bool
 | .lst l=>D.bndL n l
 | .ro l=>D.bndL n l
 | .dic l=>D.bndL n (l.map (·.1))&&D.bndL n (l.map (·.2))
 | .ins _ fs=>D.bndL n (fs.map (·.2))
mutual
noncomputable def D.plain:D->Bool
 | .non=>true|.int _=>true|.str _=>true
 | .tup l=>D.plainL l
 | _=>false
noncomputable def D.plainL:List D->Bool
 | []=>true
 | d::l=>D.plain d&&D.plainL l
end
mutual
noncomputable def D.ncl:D->Bool
 | .tup l=>D.nclL l
 | .clo _ _=>false
 | _=>true
noncomputable def D.nclL:List D->Bool
 | []=>true
 | d::l=>D.ncl d&&D.nclL l
end
noncomputable def O.ncl:O->Bool
 | .lst l=>D.nclL l
 | .ro l=>D.nclL l
 | .dic l=>D.nclL (l.map (·.2))
 | _=>false
noncomputable def D.key:D->Bool
 | .int _=>true|.str _=>true|_=>false
noncomputable def LIM:Nat:=1000000
@[irreducible] noncomputable def BIG:Nat:=2^60000
@[irreducible] noncomputable def DIVL:Nat:=2^4096
inductive BOp where
 | add|sub|mul|fdiv|mod|pow|shl|shr|band|bor
 deriving DecidableEq
inductive COp where
 | eq|ne|lt|le|gt|ge|isin|notin
 deriving DecidableEq
inductive Cn where
 | non|bl (b:Bool)|int (i:Int)|str (x:List Nat)
 deriving DecidableEq
noncomputable def Cn.d:Cn->D
 | .non=>.non|.bl b=>.bl b|.int i=>.int i|.str x=>.str x
inductive Bi where
 | len|abs|int|str|min2|max2|max3|min3|isInt|isBool|isStr|isTup|isList|ord
 deriving DecidableEq
inductive Mk where
 | tuple|list|all|any|sum|min|max|sorted|lenset
 deriving DecidableEq
inductive Mt where
 | append|pop|index|count|reverse|clear|bitlen|get1|get2|setdefault|update|split|partition
 deriving DecidableEq
inductive Tg where
 | one (i:Nat)|tup (is:List Nat)
 deriving DecidableEq
mutual
inductive E where
 | var (i:Nat)|cst (c:Cn)|glob (x:String)
 | bin (op:BOp) (a b:E)|neg (a:E)|not (a:E)
 | cmp (op:COp) (a b:E)|chain (o p:COp) (a b c:E)
 | isN (a:E)|notN (a:E)|isB (a:E) (b:Bool)|notB (a:E) (b:Bool)
 | and (a b:E)|or (a b:E)|ite (c a b:E)
 | tup (es:Es)|lst (es:Es)|dic (ks vs:Es)
 | ix (a b:E)|slL (a lo:E)|slU (a hi:E)|slLU (a lo hi:E)|rev (a:E)
 | call (f:String) (as:As)|callC (f:String) (as:As)|callV (i:Nat) (es:Es)
 | bi (b:Bi) (es:Es)|mk (k:Mk) (l:L)|mkD (k:Mk) (l:L) (d:E)
 | meth (m:Mt) (o:E) (es:Es)|ext (o:E) (l:L)|extS (o e:E)|join (o e:E)|mks (k:Mk) (e:E)|mkDs (k:Mk) (e d:E)
inductive Es where
 | nil|cons (e:E) (es:Es)
inductive As where
 | nil|ex (e:E) (as:As)|lam (id:String) (caps:List Nat) (as:As)|fn (f:String) (as:As)
inductive I where
 | seq (e:E)|rng1 (a:E)|rng2 (a b:E)|rng3 (a b:E) (c:Int)|enum (it:I)|zip (a b:I)|items (e:E)
inductive L where
 | comp (tg:Tg) (it:I) (e:E) (caps:List (Option Nat))|compIf (tg:Tg) (it:I) (c e:E) (caps:List (Option Nat))|disp (es:Es)|seq (e:E)
end
mutual
inductive S where
 | asg (tg:Tg) (e:E)|setIx (o i e:E)|aug (i:Nat) (e:E)|ex (e:E)|ret (e:E)|retN
 | ite (c:E) (a b:Ss)|whl (c:E) (b:Ss)|for_ (tg:Tg) (it:I) (b:Ss)|pass|cont|brk|raise|und (i:Nat)
inductive Ss where
 | nil|cons (s:S) (ss:Ss)
end
noncomputable abbrev Env:=List (Option D)
noncomputable def alloc (o:O):M D:=λ s=>.ok (.ref s.length) (s++[o])
noncomputable def pur (d:D):M D:=λ s=>.ok d s
noncomputable def bad {α:Type}:M α:=λ _=>.bad
noncomputable def mulOk (a b:Int):Bool:=decide (a.natAbs<2^64)||decide (b.natAbs<2^64)||(decide (a.natAbs<BIG)&&decide (b.natAbs<BIG))
noncomputable def rep:Nat->List Nat->List Nat
 | 0,_=>[]
 | n+1,a=>a++rep n a
noncomputable def repD:Nat->List D->List D
 | 0,_=>[]
 | n+1,a=>a++repD n a
noncomputable def qM:BOp->D->D->M D
 | .add,.int a,.int b=>pur (.int (a+b))
 | .add,.str a,.str b=>if a.length+b.length<=LIM then pur (.str (a++b))else bad
 | .add,.tup a,.tup b=>if a.length+b.length<=LIM then pur (.tup (a++b))else bad
 | .add,.ref a,.ref b=>λ s=>match s[a]?,s[b]? with
  | some (.lst l),some (.lst m)=>if l.length+m.length<=LIM then alloc (.lst (l++m)) s else .bad
  | _,_=>.bad
 | .sub,.int a,.int b=>pur (.int (a - b))
 | .mul,.int a,.int b=>if mulOk a b then pur (.int (a*b))else bad
 | .mul,.str a,.int n=>if 0<=n/\n<=1000000/\a.length*n.toNat<=LIM then pur (.str (rep n.toNat a))else bad
 | .mul,.tup a,.int n=>if 0<=n/\n<=1000000/\a.length*n.toNat<=LIM then pur (.tup (repD n.toNat a))else bad
 | .mul,.ref a,.int n=>λ s=>match s[a]? with
  | some (.lst l)=>if 0<=n/\n<=1000000/\l.length*n.toNat<=LIM then alloc (.lst (repD n.toNat l)) s else .bad
  | _=>.bad
 | .fdiv,.int a,.int b=>if 0<b/\b<(DIVL:Int)then pur (.int (a / b))else bad
 | .mod,.int a,.int b=>if 0<b then pur (.int (a % b))else bad
 | .pow,.int a,.int b=>if 0<=b/\b<=1000000/\a.natAbs<2^64 then pur (.int (a^b.toNat))else bad
 | .shl,.int a,.int b=>if 0<=b/\b<=1000000/\a.natAbs<2^64 then pur (.int (a*2^b.toNat))else bad
 | .shr,.int a,.int b=>if 0<=b then pur (.int (a / 2^b.toNat))else bad
 | _,_,_=>bad
noncomputable def kd (s:Sto):D->Nat
 | .non=>0|.bl _=>1|.int _=>1|.str _=>2|.tup _=>3
 | .ref r=>match s[r]? with|some (.lst _)=>4|_=>9
 | _=>9
noncomputable def kdBad (a b:Nat):Bool:=a==9||b==9||a==b
noncomputable def b2i (b:Bool):Int:=if b then 1 else 0
noncomputable def eqLit:D->D->Option Bool
 | .non,.non=>some true
 | .bl a,.bl b=>some (a==b)
 | .int a,.int b=>some (a==b)
 | .bl a,.int b=>some (b2i a==b)
 | .int a,.bl b=>some (a==b2i b)
 | .str a,.str b=>some (a==b)
 | _,_=>none
noncomputable def eqAtom (s:Sto)(a b:D):Option Bool:=match eqLit a b with
 | some z=>some z
 | none=>if kdBad (kd s a) (kd s b)then none else some false
noncomputable def eqL (f:D->D->Option Bool):List D->List D->Option Bool
 | [],[]=>some true
 | [],_::_=>some false
 | _::_,[]=>some false
 | a::l,b::m=>match f a b,eqL f l m with
  | some x,some y=>some (x&&y)
  | _,_=>none
noncomputable def eqv (s:Sto):Nat->D->D->Option Bool
 | 0,a,b=>eqAtom s a b
 | n+1,a,b=>match a,b with
  | .tup l,.tup m=>eqL (eqv s n) l m
  | .ref x,.ref y=>match s[x]?,s[y]? with
   | some (.lst l),some (.lst m)=>if l.length=m.length then eqL (eqv s n) l m else some false
   | _,_=>none
  | a,b=>eqAtom s a b
noncomputable def DEEP:Nat:=30
noncomputable def eqM (a b:D):M D:=λ s=>match eqv s DEEP a b with
 | some r=>.ok (.bl r) s
 | none=>.bad
noncomputable def inL (s:Sto)(x:D):List D->Option Bool
 | []=>some false
 | y::l=>match eqv s DEEP y x,inL s x l with
  | some a,some b=>some (a||b)
  | _,_=>none
noncomputable def look (k:D):List (D×D)->Option D
 | []=>none
 | (a,v)::l=>if a=k then some v else look k l
noncomputable def inM (a b:D):M Bool:=λ s=>match b with
 | .tup l=>match inL s a l with|some r=>.ok r s|none=>.bad
 | .ref r=>match s[r]? with
  | some (.lst l)=>match inL s a l with|some r=>.ok r s|none=>.bad
  | some (.dic l)=>if a.key then .ok (look a l).isSome s else .bad
  | _=>.bad
 | .str y=>match a with|.str [c]=>.ok (decide (c∈y)) s|_=>.bad
 | _=>.bad
noncomputable def qv:COp->D->D->M D
 | .eq,a,b=>eqM a b
 | .ne,a,b=>λ s=>match eqv s DEEP a b with|some r=>.ok (.bl (!r)) s|none=>.bad
 | .lt,.int a,.int b=>pur (.bl (decide (a<b)))
 | .le,.int a,.int b=>pur (.bl (decide (a<=b)))
 | .gt,.int a,.int b=>pur (.bl (decide (b<a)))
 | .ge,.int a,.int b=>pur (.bl (decide (b<=a)))
 | .isin,a,b=>λ s=>(inM a b s).bind λ r s=>.ok (.bl r) s
 | .notin,a,b=>λ s=>(inM a b s).bind λ r s=>.ok (.bl (!r)) s
 | _,_,_=>bad
noncomputable def ixn (n:Nat)(i:Int):Option Nat:=if 0<=i then(if i<n then some i.toNat else none)else if -(n:Int)<=i then some (i+n).toNat else none
noncomputable def sbd (n:Nat)(i:Int):Nat:=if 0<=i then min i.toNat n else(i+n).toNat
noncomputable def loB (n:Nat):Option Int->Nat
 | none=>0
 | some i=>sbd n i
noncomputable def hiB (n:Nat):Option Int->Nat
 | none=>n
 | some i=>sbd n i
noncomputable def cutL {α:Type}(l:List α)(lo hi:Option Int):List α:=(l.drop (loB l.length lo)).take (hiB l.length hi - loB l.length lo)
noncomputable def ixM (a b:D):M D:=λ s=>match a,b with
 | .tup l,.int i=>match(ixn l.length i).bind λ j=>l[j]? with|some d=>.ok d s|none=>.bad
 | .str l,.int i=>match(ixn l.length i).bind λ j=>l[j]? with|some c=>.ok (.str [c]) s|none=>.bad
 | .ref r,b=>match s[r]? with
  | some (.lst l)=>match b with
   | .int i=>match(ixn l.length i).bind λ j=>l[j]? with|some d=>.ok d s|none=>.bad
   | _=>.bad
  | some (.ro l)=>match b with
   | .int i=>match(ixn l.length i).bind λ j=>l[j]? with|some d=>.ok d s|none=>.bad
   | _=>.bad
  | some (.dic l)=>if b.key then match look b l with|some d=>.ok d s|none=>.bad else .bad
  | _=>.bad
 | _,_=>.bad
noncomputable def slM (a:D)(lo hi:Option Int):M D:=λ s=>match a with
 | .tup l=>.ok (.tup (cutL l lo hi)) s
 | .str l=>.ok (.str (cutL l lo hi)) s
 | .ref r=>match s[r]? with
  | some (.lst l)=>alloc (.lst (cutL l lo hi)) s
  | _=>.bad
 | _=>.bad
noncomputable def revM (a:D):M D:=λ s=>match a with
 | .str l=>.ok (.str l.reverse) s
 | _=>.bad
noncomputable def blsOf:List D->Option (List Bool)
 | []=>some []
 | .bl b::l=>(blsOf l).map (b::·)
 | _=>none
noncomputable def qR:List D->Option (List Int)
 | []=>some []
 | .int i::l=>(qR l).map (i::·)
 | _=>none
noncomputable def strsOf:List D->Option (List (List Nat))
 | []=>some []
 | .str i::l=>(strsOf l).map (i::·)
 | _=>none
noncomputable def lenM (d:D):M D:=λ s=>match d with
 | .tup l=>.ok (.int l.length) s
 | .str l=>.ok (.int l.length) s
 | .ref r=>match s[r]? with
  | some (.lst l)=>.ok (.int l.length) s
  | some (.ro l)=>.ok (.int l.length) s
  | _=>.bad
 | _=>.bad
noncomputable def isK (k:Nat)(d:D):M D:=λ s=>match d with
 | .non=>.ok (.bl false) s
 | .bl _=>.ok (.bl (k==1||k==2)) s
 | .int _=>.ok (.bl (k==1)) s
 | .str _=>.ok (.bl (k==3)) s
 | .tup _=>.ok (.bl (k==4)) s
 | .ref r=>match s[r]? with
  | some (.lst _)=>.ok (.bl (k==5)) s
  | _=>.bad
 | _=>.bad
noncomputable def bi1 (f:D->M D):List D->M D
 | [d]=>f d
 | _=>bad
noncomputable def bi:Bi->List D->M D
 | .len,l=>bi1 lenM l
 | .abs,l=>λ s=>match qR l with|some [i]=>.ok (.int (if i<0 then -i else i)) s|_=>.bad
 | .int,l=>λ s=>match blsOf l with|some [b]=>.ok (.int (if b then 1 else 0)) s|_=>.bad
 | .min2,l=>λ s=>match qR l with|some [a,b]=>.ok (.int (if b<a then b else a)) s|_=>.bad
 | .max2,l=>λ s=>match qR l with|some [a,b]=>.ok (.int (if b > a then b else a)) s|_=>.bad
 | .max3,l=>λ s=>match qR l with|some [a,b,c]=>.ok (.int (max (max a b) c)) s|_=>.bad
 | .isInt,l=>bi1 (isK 1) l
 | .isBool,l=>bi1 (isK 2) l
 | .isStr,l=>bi1 (isK 3) l
 | .isTup,l=>bi1 (isK 4) l
 | .isList,l=>bi1 (isK 5) l
 | _,_=>bad
noncomputable def minI:List Int->Option Int
 | []=>none
 | a::l=>some (l.foldl min a)
noncomputable def maxI:List Int->Option Int
 | []=>none
 | a::l=>some (l.foldl max a)
noncomputable def ins (a:Int):List Int->List Int
 | []=>[a]
 | b::l=>if a<=b then a::b::l else b::ins a l
noncomputable def sortI:List Int->List Int
 | []=>[]
 | a::l=>ins a (sortI l)
noncomputable def fitL (is:List Int):Bool:=is.all (λ i=>decide (-1000000000<=i/\i<=1000000000))&&decide (is.length<=1000000)
noncomputable def mk:Mk->List D->M D
 | .tuple,l=>λ s=>.ok (.tup l) s
 | .list,l=>alloc (.lst l)
 | .all,l=>λ s=>match blsOf l with|some bs=>.ok (.bl (bs.all id)) s|none=>.bad
 | .any,l=>λ s=>match blsOf l with|some bs=>.ok (.bl (bs.any id)) s|none=>.bad
 | .sum,l=>λ s=>match qR l with|some is=>if fitL is then .ok (.int is.sum) s else .bad|none=>.bad
 | .min,l=>λ s=>match(qR l).bind minI with|some m=>.ok (.int m) s|none=>.bad
 | .max,l=>λ s=>match(qR l).bind maxI with|some m=>.ok (.int m) s|none=>.bad
 | .sorted,l=>λ s=>match qR l with|some is=>alloc (.lst ((sortI is).map D.int)) s|none=>.bad
 | .lenset,l=>bad
noncomputable def mkD (k:Mk)(l:List D)(d:D):M D:=λ s=>match k with
 | .min=>match qR l with|some is=>(match minI is with|some m=>.ok (.int m) s|none=>.ok d s)|none=>.bad
 | .max=>match qR l with|some is=>(match maxI is with|some m=>.ok (.int m) s|none=>.ok d s)|none=>.bad
 | _=>.bad
noncomputable def putD (k v:D)(l:List (D×D)):List (D×D):=if(look k l).isSome then l.map (λ p=>if p.1=k then(p.1,v)else p)else l++[(k,v)]
noncomputable def setIx (o i v:D):Sto->R Unit:=λ s=>match o with
 | .ref r=>match s[r]? with
  | some (.lst l)=>match i with
   | .int i=>match ixn l.length i with|some j=>.ok () (s.set r (.lst (l.set j v)))|none=>.bad
   | _=>.bad
  | some (.dic l)=>if i.key&&decide (l.length<LIM)then .ok () (s.set r (.dic (putD i v l)))else .bad
  | _=>.bad
 | _=>.bad
noncomputable def idx (s:Sto)(x:D):Nat->List D->Option Nat
 | _,[]=>none
 | n,y::l=>match eqv s DEEP y x with
  | some true=>some n
  | some false=>idx s x (n+1) l
  | none=>none
noncomputable def meth:Mt->D->List D->M D
 | .append,.ref r,[d]=>λ s=>match s[r]? with
  | some (.lst l)=>if l.length<LIM then .ok .non (s.set r (.lst (l++[d])))else .bad
  | _=>.bad
 | .pop,.ref r,[]=>λ s=>match s[r]? with
  | some (.lst l)=>match l.getLast? with|some d=>.ok d (s.set r (.lst l.dropLast))|none=>.bad
  | _=>.bad
 | .reverse,.ref r,[]=>λ s=>match s[r]? with
  | some (.lst l)=>.ok .non (s.set r (.lst l.reverse))
  | _=>.bad
 | .clear,.ref r,[]=>λ s=>match s[r]? with
  | some (.lst l)=>.ok .non (s.set r (.lst []))
  | _=>.bad
 | .index,.ref r,[d]=>λ s=>match s[r]? with
  | some (.lst l)=>match inL s d l,idx s d 0 l with|some true,some n=>.ok (.int n) s|_,_=>.bad
  | _=>.bad
 | _,_,_=>bad
noncomputable def extM (o:D)(l:List D):M D:=λ s=>match o with
 | .ref r=>match s[r]? with
  | some (.lst m)=>if m.length+l.length<=LIM then .ok .non (s.set r (.lst (m++l)))else .bad
  | _=>.bad
 | _=>.bad
noncomputable def joinM (x y:D):M D:=λ s=>match x with
 | .str []=>match y with
  | .ref r=>match s[r]? with
   | some (.lst l)=>match strsOf l with
    | some ss=>if ss.flatten.length<=LIM then .ok (.str ss.flatten) s else .bad
    | none=>.bad
   | _=>.bad
  | _=>.bad
 | _=>.bad
noncomputable def extS (o d:D):M D:=λ s=>match d with
 | .ref k=>match s[k]? with
  | some (.lst l)=>extM o l s
  | _=>.bad
 | _=>.bad
structure Fns where
 call:String->List D->M D
 lam:String->List D->List D->M D
 con:String->Option D
noncomputable def getV (ρ:Env)(i:Nat):M D:=λ s=>match ρ[i]? with|some (some d)=>.ok d s|_=>.bad
noncomputable def getVs (ρ:Env):List Nat->Option (List D)
 | []=>some []
 | i::is=>match ρ[i]?,getVs ρ is with|some (some d),some l=>some (d::l)|_,_=>none
noncomputable def qx (ρ:Env)(caps:List (Option Nat)):Env:=caps.map λ o=>match o with|none=>none|some j=>(ρ[j]?).join
noncomputable def setV (ρ:Env)(i:Nat)(d:D):Option Env:=if i < ρ.length then some (ρ.set i (some d))else none
noncomputable def unsetV (ρ:Env)(i:Nat):Option Env:=if i < ρ.length then some (ρ.set i none)else none
noncomputable def setVs (ρ:Env):List Nat->List D->Option Env
 | [],[]=>some ρ
 | i::is,d::l=>(setV ρ i d).bind λ ρ=>setVs ρ is l
 | _,_=>none
noncomputable def bindT (ρ:Env):Tg->D->Option Env
 | .one i,d=>setV ρ i d
 | .tup is,.tup l=>setVs ρ is l
 | _,_=>none
structure Sq where
 its:List D
 src:List Nat
noncomputable def seqM (d:D):M Sq:=λ s=>match d with
 | .tup l=>.ok ⟨l,[]⟩ s
 | .str l=>.ok ⟨l.map λ c=>.str [c],[]⟩ s
 | .ref r=>match s[r]? with
  | some (.lst l)=>.ok ⟨l,[r]⟩ s
  | some (.ro l)=>.ok ⟨l,[]⟩ s
  | _=>.bad
 | _=>.bad
noncomputable def drawM (d:D):M Sq:=λ s=>match d with
 | .tup l=>.ok ⟨l,[]⟩ s
 | .str l=>.ok ⟨l.map λ c=>.str [c],[]⟩ s
 | .ref r=>match s[r]? with
  | some (.lst l)=>.ok ⟨l,[r]⟩ s
  | some (.ro l)=>.ok ⟨l,[]⟩ s
  | _=>.bad
 | _=>.bad
noncomputable def enumM (d:D):M Sq:=λ s=>match d with
 | .tup l=>.ok ⟨l,[]⟩ s
 | .ref r=>match s[r]? with
  | some (.lst l)=>.ok ⟨l,[r]⟩ s
  | some (.ro l)=>.ok ⟨l,[]⟩ s
  | _=>.bad
 | _=>.bad
noncomputable def lstM (d:D):Sto->R (List D):=λ s=>match d with
 | .tup l=>.ok l s
 | .str l=>.ok (l.map λ c=>.str [c]) s
 | .ref r=>match s[r]? with
  | some (.lst l)=>.ok l s
  | some (.ro l)=>.ok l s
  | _=>.bad
 | _=>.bad
noncomputable def lstR (d:D):Sto->R (List D):=λ s=>match d with
 | .ref r=>match s[r]? with
  | some (.lst l)=>.ok l s
  | _=>.bad
 | _=>.bad
noncomputable def W62:Int:=4611686018427387904
noncomputable def jj (a b:Int):List D:=(ae (b - a).toNat).map λ(k:Nat)=>.int (a+k)
noncomputable def rngC (a b c:Int):List D:=if 0<c then(ae ((b - a+c - 1) / c).toNat).map λ(k:Nat)=>.int (a+c*k)else(ae ((a - b+(-c) - 1) / (-c)).toNat).map λ(k:Nat)=>.int (a+c*k)
noncomputable def enumL (n:Nat):List D->List D
 | []=>[]
 | d::l=>.tup [.int n,d]::enumL (n+1) l
noncomputable def zipL:List D->List D->List D
 | a::l,b::m=>.tup [a,b]::zipL l m
 | _,_=>[]
noncomputable def chk (s0 s:Sto)(src:List Nat):Bool:=src.all λ r=>decide (s[r]?=s0[r]?)
noncomputable def tru {α:Type}(r:R D)(f:Bool->Sto->R α):R α:=r.bind λ d s=>match d with|.bl b=>f b s|_=>.bad
@[simp] theorem zJ {α:Type} (b:Bool) (s:Sto) (f:Bool->Sto->R α):tru (.ok (.bl b) s) f=f b s:=rfl
noncomputable def ji (ok:Sto->Bool)(g:D->Env->Sto->R (Option D×Env)):List D->Env->Sto->R (List D)
 | [],_,s=>if ok s then .ok [] s else .bad
 | d::l,ρ,s=>if ok s then(g d ρ s).bind λ p s=>(ji ok g l p.2 s).bind λ r s=>.ok (match p.1 with|some v=>v::r|none=>r) s else .bad
mutual
noncomputable def ev (F:Fns):E->Env->Sto->R D
 | .var i,ρ,s=>getV ρ i s
 | .cst c,_,s=>.ok c.d s
 | .glob x,_,s=>match F.con x with|some d=>.ok d s|none=>.bad
 | .bin op a b,ρ,s=>(ev F a ρ s).bind λ x s=>(ev F b ρ s).bind λ y s=>qM op x y s
 | .neg a,ρ,s=>(ev F a ρ s).bind λ x s=>match x with|.int i=>.ok (.int (-i)) s|_=>.bad
 | .not a,ρ,s=>tru (ev F a ρ s) λ b s=>.ok (.bl (!b)) s
 | .cmp op a b,ρ,s=>(ev F a ρ s).bind λ x s=>(ev F b ρ s).bind λ y s=>qv op x y s
 | .chain o p a b c,ρ,s=>(ev F a ρ s).bind λ x s=>(ev F b ρ s).bind λ y s=>tru (qv o x y s) λ k s=>if k then(ev F c ρ s).bind λ z s=>qv p y z s else .ok (.bl false) s
 | .isN a,ρ,s=>(ev F a ρ s).bind λ x s=>.ok (.bl (decide (x=.non))) s
 | .notN a,ρ,s=>(ev F a ρ s).bind λ x s=>.ok (.bl (!decide (x=.non))) s
 | .isB a b,ρ,s=>(ev F a ρ s).bind λ x s=>match x with|.bl c=>.ok (.bl (c==b)) s|_=>.bad
 | .notB a b,ρ,s=>(ev F a ρ s).bind λ x s=>match x with|.bl c=>.ok (.bl (!(c==b))) s|_=>.bad
 | .and a b,ρ,s=>tru (ev F a ρ s) λ c s=>if c then tru (ev F b ρ s) λ c s=>.ok (.bl c) s else .ok (.bl false) s
 | .or a b,ρ,s=>tru (ev F a ρ s) λ c s=>if c then .ok (.bl true) s else tru (ev F b ρ s) λ c s=>.ok (.bl c) s
 | .ite c a b,ρ,s=>tru (ev F c ρ s) λ k s=>if k then ev F a ρ s else ev F b ρ s
 | .tup es,ρ,s=>(evs F es ρ s).bind λ l s=>.ok (.tup l) s
 | .lst es,ρ,s=>(evs F es ρ s).bind λ l s=>alloc (.lst l) s
 | .dic .nil .nil,ρ,s=>alloc (.dic []) s
 | .dic (.cons k .nil) (.cons v .nil),ρ,s=>(ev F k ρ (s++[.dic []])).bind λ kd s1=>(ev F v ρ s1).bind λ vd s2=>if kd.key=true/\s2[s.length]?=some (.dic [])then .ok (.ref s.length) (s2.set s.length (.dic [(kd,vd)]))else .bad
 | .dic _ _,ρ,s=>.bad
 | .ix a b,ρ,s=>(ev F a ρ s).bind λ x s=>(ev F b ρ s).bind λ y s=>ixM x y s
 | .slL a lo,ρ,s=>(ev F a ρ s).bind λ x s=>(ev F lo ρ s).bind λ y s=>match y with|.int i=>slM x (some i) none s|_=>.bad
 | .slU a hi,ρ,s=>(ev F a ρ s).bind λ x s=>(ev F hi ρ s).bind λ y s=>match y with|.int i=>slM x none (some i) s|_=>.bad
 | .slLU a lo hi,ρ,s=>(ev F a ρ s).bind λ x s=>(ev F lo ρ s).bind λ y s=>match y with|.int i=>(ev F hi ρ s).bind (λ z s=>match z with|.int j=>slM x (some i) (some j) s|_=>.bad)|_=>.bad
 | .rev a,ρ,s=>(ev F a ρ s).bind λ x s=>revM x s
 | .call f as,ρ,s=>(evas F as ρ s).bind λ l s=>F.call f l s
 | .callC f as,ρ,s=>(evas F as ρ s).bind λ l s=>(F.call f l s).bind λ d s'=>if(d.ncl&&s'.all O.ncl)=true then .ok d s' else .bad
 | .callV i es,ρ,s=>(evs F es ρ s).bind λ l s=>match ρ[i]? with
  | some (some (.fn f))=>F.call f l s
  | some (some (.clo id cs))=>F.lam id cs l s
  | _=>.bad
 | .bi b es,ρ,s=>(evs F es ρ s).bind λ l s=>bi b l s
 | .mk k it,ρ,s=>(evL F it ρ s).bind λ q s=>mk k q s
 | .mkD k it d,ρ,s=>(evL F it ρ s).bind λ q s=>(ev F d ρ s).bind λ d s=>mkD k q d s
 | .meth m o es,ρ,s=>(ev F o ρ s).bind λ x s=>(evs F es ρ s).bind λ l s=>meth m x l s
 | .ext o it,ρ,s=>(ev F o ρ s).bind λ x s=>(evL F it ρ s).bind λ q s=>extM x q s
 | .extS o e,ρ,s=>(ev F o ρ s).bind λ x s=>(ev F e ρ s).bind λ y s=>extS x y s
 | .join o e,ρ,s=>(ev F o ρ s).bind λ x s=>(ev F e ρ s).bind λ y s=>joinM x y s
 | .mks k e,ρ,s=>(ev F e ρ s).bind λ x s=>(lstR x s).bind λ q s=>mk k q s
 | .mkDs k e d,ρ,s=>(ev F e ρ s).bind λ x s=>(ev F d ρ s).bind λ z s=>(lstR x s).bind λ q s=>mkD k q z s
noncomputable def evs (F:Fns):Es->Env->Sto->R (List D)
 | .nil,_,s=>.ok [] s
 | .cons e es,ρ,s=>(ev F e ρ s).bind λ d s=>(evs F es ρ s).bind λ l s=>.ok (d::l) s
noncomputable def evas (F:Fns):As->Env->Sto->R (List D)
 | .nil,_,s=>.ok [] s
 | .ex e as,ρ,s=>(ev F e ρ s).bind λ d s=>(evas F as ρ s).bind λ l s=>.ok (d::l) s
 | .lam id caps as,ρ,s=>match getVs ρ caps with
  | some cs=>(evas F as ρ s).bind λ l s=>.ok (.clo id cs::l) s
  | none=>.bad
 | .fn f as,ρ,s=>(evas F as ρ s).bind λ l s=>.ok (.fn f::l) s
noncomputable def evI (F:Fns):I->Env->Sto->R Sq
 | .seq e,ρ,s=>(ev F e ρ s).bind λ d s=>seqM d s
 | .rng1 a,ρ,s=>(ev F a ρ s).bind λ x s=>match x with|.int i=>if -W62<=i/\i<W62 then .ok ⟨jj 0 i,[]⟩ s else .bad|_=>.bad
 | .rng2 a b,ρ,s=>(ev F a ρ s).bind λ x s=>(ev F b ρ s).bind λ y s=>match x,y with|.int i,.int j=>if(-W62<=i/\i<W62)/\-W62<=j/\j<W62 then .ok ⟨jj i j,[]⟩ s else .bad|_,_=>.bad
 | .rng3 a b c,ρ,s=>(ev F a ρ s).bind λ x s=>(ev F b ρ s).bind λ y s=>match x,y with|.int i,.int j=>if c=2/\(0<=i/\i<1048576)/\0<=j/\j<1048576 then .ok ⟨rngC i j c,[]⟩ s else .bad|_,_=>.bad
 | .enum (.seq e),ρ,s=>(ev F e ρ s).bind λ d s=>(enumM d s).bind λ q s=>.ok ⟨enumL 0 q.its,q.src⟩ s
 | .zip (.seq a) (.seq b),ρ,s=>(ev F a ρ s).bind λ x s=>(ev F b ρ s).bind λ y s=>(drawM x s).bind λ p s=>(drawM y s).bind λ q s=>.ok ⟨zipL p.its q.its,p.src++q.src⟩ s
 | .enum _,_,_=>.bad
 | .zip _ _,_,_=>.bad
 | .items e,ρ,s=>.bad
noncomputable def evL (F:Fns):L->Env->Sto->R (List D)
 | .comp tg it e caps,ρ,s=>(evI F it ρ s).bind λ q s0=>if q.its.length<=LIM then ji (λ s=>chk s0 s q.src) (λ d ρ s=>match bindT ρ tg d with
   | some ρ=>(ev F e ρ s).bind λ v s=>.ok (some v,ρ) s
   | none=>.bad) q.its (qx ρ caps) s0 else .bad
 | .compIf tg it c e caps,ρ,s=>(evI F it ρ s).bind λ q s0=>if q.its.length<=LIM then ji (λ s=>chk s0 s q.src) (λ d ρ s=>match bindT ρ tg d with
   | some ρ=>tru (ev F c ρ s) λ k s=>if k then(ev F e ρ s).bind λ v s=>.ok (some v,ρ) s else .ok (none,ρ) s
   | none=>.bad) q.its (qx ρ caps) s0 else .bad
 | .disp es,ρ,s=>evs F es ρ s
 | .seq e,ρ,s=>(ev F e ρ s).bind λ d s=>lstM d s
end
inductive Ct where
 | next (ρ:Env)|ret (d:D)|cont (ρ:Env)|brk (ρ:Env)
noncomputable def forL (ok:Sto->Bool)(g:D->Env->Sto->R Ct):List D->Env->Sto->R Ct
 | [],ρ,s=>if ok s then .ok (.next ρ) s else .bad
 | d::l,ρ,s=>if ok s then(g d ρ s).bind λ c s=>match c with
   | .next ρ=>forL ok g l ρ s
   | .cont ρ=>forL ok g l ρ s
   | .brk ρ=>.ok (.next ρ) s
   | .ret d=>.ok (.ret d) s
  else .bad
noncomputable def jF (c:Env->Sto->R D)(g:Env->Sto->R Ct):Nat->Env->Sto->R Ct
 | 0,_,_=>.bad
 | n+1,ρ,s=>tru (c ρ s) λ b s=>if b then(g ρ s).bind λ c' s=>match c' with
   | .next ρ=>jF c g n ρ s
   | .cont ρ=>jF c g n ρ s
   | .brk ρ=>.ok (.next ρ) s
   | .ret d=>.ok (.ret d) s
  else .ok (.next ρ) s
open Classical in
noncomputable def whl (c:Env->Sto->R D)(g:Env->Sto->R Ct)(ρ:Env)(s:Sto):R Ct :=
 if h:∃ n,jF c g n ρ s≠.bad then jF c g h.choose ρ s else .bad
mutual
noncomputable def ex (F:Fns):S->Env->Sto->R Ct
 | .asg tg e,ρ,s=>(ev F e ρ s).bind λ d s=>match bindT ρ tg d with|some ρ=>.ok (.next ρ) s|none=>.bad
 | .setIx o i e,ρ,s=>(ev F e ρ s).bind λ d s=>(ev F o ρ s).bind λ x s=>(ev F i ρ s).bind λ y s=>(setIx x y d s).bind λ _ s=>.ok (.next ρ) s
 | .aug i e,ρ,s=>(getV ρ i s).bind λ x s=>(ev F e ρ s).bind λ y s=>match x,y with
  | .int a,.int b=>match setV ρ i (.int (a+b))with|some ρ=>.ok (.next ρ) s|none=>.bad
  | _,_=>.bad
 | .ex e,ρ,s=>(ev F e ρ s).bind λ _ s=>.ok (.next ρ) s
 | .ret e,ρ,s=>(ev F e ρ s).bind λ d s=>.ok (.ret d) s
 | .retN,_,s=>.ok (.ret .non) s
 | .ite c a b,ρ,s=>tru (ev F c ρ s) λ k s=>if k then exs F a ρ s else exs F b ρ s
 | .whl c b,ρ,s=>whl (ev F c) (exs F b) ρ s
 | .for_ tg it b,ρ,s=>(evI F it ρ s).bind λ q s0=>forL (λ s=>chk s0 s q.src) (λ d ρ s=>match bindT ρ tg d with
   | some ρ=>exs F b ρ s
   | none=>.bad) q.its ρ s0
 | .pass,ρ,s=>.ok (.next ρ) s
 | .cont,ρ,s=>.ok (.cont ρ) s
 | .brk,ρ,s=>.ok (.brk ρ) s
 | .raise,_,_=>.bad
 | .und i,ρ,s=>match unsetV ρ i with|some ρ=>.ok (.next ρ) s|none=>.bad
noncomputable def exs (F:Fns):Ss->Env->Sto->R Ct
 | .nil,ρ,s=>.ok (.next ρ) s
 | .cons st ss,ρ,s=>(ex F st ρ s).bind λ c s=>match c with|.next ρ=>exs F ss ρ s|c=>.ok c s
end
structure Df where
 name:String
 ps:Nat
 vs:Nat
 body:Ss
structure Lm where
 id:String
 ps:Nat
 cs:Nat
 body:E
structure Pr where
 df:String->Option Df
 lm:String->Option Lm
 con:String->Option D
noncomputable def okOld (st st':Sto):Bool:=(ae st.length).all λ i=>decide (st'[i]?=st[i]?)||(match st'[i]? with|some o=>o.bnd st.length|none=>false)
noncomputable def zQ (st:Sto)(d:D)(st':Sto):R D :=
 if okOld st st' then
  match d with
  | .ref r=>if r<st.length then .ok d (st'.take st.length)else match st'[r]? with
   | some o=>if o.bnd st.length then .ok (.ref st.length) (st'.take st.length++[o])else .ok d st'
   | none=>.bad
  | d=>if d.bnd st.length then .ok d (st'.take st.length)else .ok d st'
 else .ok d st'
noncomputable def callN (P:Pr):Nat->Fns
 | 0=>⟨λ _ _ _=>.bad,λ _ _ _ _=>.bad,P.con⟩
 | n+1=>⟨λ f l s=>match P.df f with
   | some d=>if l.length=d.ps then(exs (callN P n) d.body (l.map some++ao d.vs none) s).bind λ c s'=>match c with
     | .ret v=>zQ s v s'
     | .next _=>zQ s .non s'
     | _=>.bad else .bad
   | none=>.bad,
  λ id cs l s=>match P.lm id with
   | some d=>if l.length=d.ps/\cs.length=d.cs/\(D.nclL l&&D.nclL cs&&s.all O.ncl)=true then(ev (callN P n) d.body (l.map some++cs.map some) s).bind λ v s'=>zQ s v s' else .bad
   | none=>.bad,P.con⟩
noncomputable def KP (s s':Sto):Prop:=∀(i:Nat) (o:O),s[i]?=some o->∃ o',s'[i]?=some o'/\o'.kd=o.kd
theorem KP.refl (s:Sto):KP s s:=λ i o h=>⟨o,h,rfl⟩
theorem KP.trans {a b c:Sto}(h:KP a b)(g:KP b c):KP a c:=λ i o e=>by
 obtain⟨C,e1,y⟩:=h i o e
 obtain⟨G,e2,J⟩:=g i C e1
 exact⟨G,e2,J.trans y⟩
theorem KP.app (s t:Sto):KP s (s++t):=λ i o e=>⟨o,by rw[aD (ac.mp e).1];exact e,rfl⟩
theorem KP.set {s:Sto}{r:Nat}{o y:O}(h:s[r]?=some y)(k:o.kd=y.kd):KP s (s.set r o):=λ i u e=>by
 by_cases z:r=i
 ·subst z
  rw[h]at e;cases e
  exact⟨o,aY (ac.mp h).1,k⟩
 ·exact⟨u,by rw[be z];exact e,rfl⟩
noncomputable def KR {α:Type}(s:Sto)(r:R α):Prop:=∀ a s',r=.ok a s'->KP s s'
theorem KR.bad {α:Type}{s:Sto}:KR s (.bad:R α):=λ _ _ h=>by cases h
theorem KR.ok {α:Type}{s:Sto}{a:α}:KR s (.ok a s):=λ _ _ h=>by cases h;exact KP.refl _
theorem KR.bind {α β:Type}{s:Sto}{r:R α}{f:α->Sto->R β}(h:KR s r)(g:∀ a s1,KR s1 (f a s1)):KR s (r.bind f):=λ b s' e=>by
 obtain⟨a,s1,e1,e2⟩:=R.bind_inv e
 exact(h a s1 e1).trans (g a s1 b s' e2)
theorem KR.tru {α:Type}{s:Sto}{r:R D}{f:Bool->Sto->R α}(h:KR s r)(g:∀ a s1,KR s1 (f a s1)):KR s (tru r f):=KR.bind h λ a s1=>by
 cases a with
 | bl b=>exact g b s1
 | _=>exact KR.bad
theorem KR.if {α:Type}{s:Sto}{c:Prop}[Decidable c]{a b:R α}(h:KR s a)(g:KR s b):KR s (if c then a else b):=by split;exact h;exact g
theorem KR.al {s:Sto}{o:O}:KR s (alloc o s):=λ _ _ h=>by cases h;exact KP.app _ _
theorem KR.pu {s:Sto}{d:D}:KR s (pur d s):=λ _ _ h=>by cases h;exact KP.refl _
theorem KR.bd {s:Sto}:KR s ((DV.bad:M D) s):=λ _ _ h=>by cases h
theorem KR.im {s:Sto}{c:Prop}{_:Decidable c}{d:D}:KR s ((if c then pur d else DV.bad:M D) s):=by split;exact KR.pu;exact KR.bd
theorem KR.ia {s:Sto}{c:Prop}{_:Decidable c}{o:O}:KR s (if c then alloc o s else .bad):=KR.if KR.al KR.bd
theorem binop_kr (op:BOp)(x y:D)(s:Sto):KR s (qM op x y s):=by
 cases op with
 | add=>cases x with
  | int a=>cases y with
   | int b=>exact KR.pu
   | _=>exact KR.bd
  | str a=>cases y with
   | str b=>exact KR.im
   | _=>exact KR.bd
  | tup a=>cases y with
   | tup b=>exact KR.im
   | _=>exact KR.bd
  | ref a=>cases y with
   | ref b =>
    show KR s (match s[a]?,s[b]? with|some (.lst l),some (.lst m)=>if l.length+m.length<=LIM then alloc (.lst (l++m)) s else .bad|_,_=>.bad)
    split
    ·exact KR.ia
    ·exact KR.bd
   | _=>exact KR.bd
  | _=>exact KR.bd
 | sub=>cases x with
  | int a=>cases y with
   | int b=>exact KR.pu
   | _=>exact KR.bd
  | _=>exact KR.bd
 | mul=>cases x with
  | int a=>cases y with
   | int b=>exact KR.im
   | _=>exact KR.bd
  | str a=>cases y with
   | int b=>exact KR.im
   | _=>exact KR.bd
  | tup a=>cases y with
   | int b=>exact KR.im
   | _=>exact KR.bd
  | ref a=>cases y with
   | int n =>
    show KR s (match s[a]? with|some (.lst l)=>if 0<=n/\n<=1000000/\l.length*n.toNat<=LIM then alloc (.lst (repD n.toNat l)) s else .bad|_=>.bad)
    split
    ·exact KR.ia
    ·exact KR.bd
   | _=>exact KR.bd
  | _=>exact KR.bd
 | fdiv=>cases x with
  | int a=>cases y with
   | int b=>exact KR.im
   | _=>exact KR.bd
  | _=>exact KR.bd
 | mod=>cases x with
  | int a=>cases y with
   | int b=>exact KR.im
   | _=>exact KR.bd
  | _=>exact KR.bd
 | pow=>cases x with
  | int a=>cases y with
   | int b=>exact KR.im
   | _=>exact KR.bd
  | _=>exact KR.bd
 | shl=>cases x with
  | int a=>cases y with
   | int b=>exact KR.im
   | _=>exact KR.bd
  | _=>exact KR.bd
 | shr=>cases x with
  | int a=>cases y with
   | int b=>exact KR.im
   | _=>exact KR.bd
  | _=>exact KR.bd
 | _=>exact KR.bd
theorem cmp_kr (op:COp)(x y:D)(s:Sto):KR s (qv op x y s):=by
 have C:∀ a b:D,KR s (inM a b s):=λ a b=>by
  intro r s' h
  unfold inM at h
  split at h
  ·split at h<;>cases h;exact KP.refl _
  ·split at h
   ·split at h<;>cases h;exact KP.refl _
   ·split at h<;>cases h;exact KP.refl _
   ·cases h
  ·split at h<;>cases h;exact KP.refl _
  ·cases h
 cases op with
 | isin=>exact KR.bind (C x y) λ _ _=>KR.ok
 | notin=>exact KR.bind (C x y) λ _ _=>KR.ok
 | eq=>intro a s' h;change eqM x y s=_ at h;unfold eqM at h;split at h<;>cases h;exact KP.refl _
 | ne =>
  intro a s' h
  change(match eqv s DEEP x y with|some r=>R.ok (D.bl (!r)) s|none=>.bad)=_ at h
  split at h<;>cases h;exact KP.refl _
 | _ =>
  intro a s' h
  cases x with
  | int i=>(cases y with
   | int j=>cases h;exact KP.refl _
   | _=>cases h)
  | _=>cases h
theorem ix_kr (x y:D)(s:Sto):KR s (ixM x y s):=by
 intro a s' h
 unfold ixM at h
 repeat' split at h
 all_goals first|(cases h;exact KP.refl _;done)|(cases h;done)
theorem sl_kr (x:D)(C y:Option Int)(s:Sto):KR s (slM x C y s):=by
 intro a s' h
 unfold slM at h
 repeat' split at h
 all_goals first|(cases h;exact KP.refl _;done)|(cases h;exact KP.app _ _;done)|(cases h;done)
theorem lstM_kr (x:D)(s:Sto):KR s (lstM x s):=by
 intro a s' h
 unfold lstM at h
 repeat' split at h
 all_goals first|(cases h;exact KP.refl _;done)|(cases h;done)
theorem lstR_kr (x:D)(s:Sto):KR s (lstR x s):=by
 intro a s' h
 unfold lstR at h
 repeat' split at h
 all_goals first|(cases h;exact KP.refl _;done)|(cases h;done)
theorem seqM_kr (x:D)(s:Sto):KR s (seqM x s):=by
 intro a s' h
 unfold seqM at h
 repeat' split at h
 all_goals first|(cases h;exact KP.refl _;done)|(cases h;done)
theorem drawM_kr (x:D)(s:Sto):KR s (drawM x s):=by
 intro a s' h
 unfold drawM at h
 repeat' split at h
 all_goals first|(cases h;exact KP.refl _;done)|(cases h;done)
theorem enumM_kr (x:D)(s:Sto):KR s (enumM x s):=by
 intro a s' h
 unfold enumM at h
 repeat' split at h
 all_goals first|(cases h;exact KP.refl _;done)|(cases h;done)
theorem join_kr (x y:D)(s:Sto):KR s (joinM x y s):=by
 intro a s' h
 unfold joinM at h
 repeat' split at h
 all_goals first|(cases h;exact KP.refl _;done)|(cases h;done)
theorem bi_kr (b:Bi)(l:List D)(s:Sto):KR s (bi b l s):=by
 have y:∀ f:D->M D,(∀ d,KR s (f d s))->KR s (bi1 f l s):=λ f J=>by
  cases l with
  | nil=>exact KR.bad
  | cons d t=>(cases t with
   | nil=>exact J d
   | cons _ _=>exact KR.bad)
 have C:∀ k d,KR s (isK k d s):=λ k d=>by
  intro a s' h
  unfold isK at h
  repeat' split at h
  all_goals first|(cases h;exact KP.refl _;done)|(cases h;done)
 have G:∀ d,KR s (lenM d s):=λ d=>by
  intro a s' h
  unfold lenM at h
  repeat' split at h
  all_goals first|(cases h;exact KP.refl _;done)|(cases h;done)
 cases b with
 | len=>exact y _ G
 | isInt=>exact y _ (C 1)
 | isBool=>exact y _ (C 2)
 | isStr=>exact y _ (C 3)
 | isTup=>exact y _ (C 4)
 | isList=>exact y _ (C 5)
 | _ =>
  intro a s' h
  unfold bi at h
  first|(cases h;done)|(simp only at h;split at h<;>first|(cases h;exact KP.refl _;done)|(cases h;done))
theorem mk_kr (k:Mk)(l:List D)(s:Sto):KR s (mk k l s):=by
 cases k with
 | tuple=>exact KR.ok
 | list=>exact KR.al
 | lenset=>exact KR.bad
 | _ =>
  intro a s' h
  unfold mk at h
  simp only at h
  repeat' split at h
  all_goals first|(cases h;exact KP.refl _;done)|(cases h;exact KP.app _ _;done)|(cases h;done)
theorem mkD_kr (k:Mk)(l:List D)(d:D)(s:Sto):KR s (mkD k l d s):=by
 intro a s' h
 unfold mkD at h
 repeat' split at h
 all_goals first|(cases h;exact KP.refl _;done)|(cases h;done)
theorem meth_kr (m:Mt)(o:D)(l:List D)(s:Sto):KR s (meth m o l s):=by
 intro a s' h
 unfold meth at h
 repeat' split at h
 all_goals first|(cases h;done)|(cases h;exact KP.refl _;done)|(rename_i e _;cases h;exact KP.set e rfl;done)|(rename_i e _ _ _;cases h;exact KP.set e rfl;done)|(rename_i e;cases h;exact KP.set e rfl;done)|(rename_i e _ _;cases h;exact KP.set e rfl;done)
theorem extM_kr (o:D)(l:List D)(s:Sto):KR s (extM o l s):=by
 intro a s' h
 unfold extM at h
 repeat' split at h
 all_goals first|(cases h;done)|(rename_i e _;cases h;exact KP.set e rfl;done)
theorem setIx_kr (o i v:D)(s:Sto):KR s (setIx o i v s):=by
 intro a s' h
 unfold setIx at h
 cases o with
 | ref r =>
  simp only at h
  cases e:s[r]? with
  | none=>rw[e]at h;cases h
  | some ob =>
   rw[e]at h
   cases ob with
   | lst l =>
    cases i with
    | int k=>simp only at h;split at h<;>cases h;exact KP.set e rfl
    | _=>cases h
   | dic l=>simp only at h;split at h<;>cases h;exact KP.set e rfl
   | _=>cases h
 | _=>cases h
structure FK (F:Fns):Prop where
 call:∀ f l s,KR s (F.call f l s)
 lam:∀ id cs l s,KR s (F.lam id cs l s)
theorem compL_kr {ok:Sto->Bool}{g:D->Env->Sto->R (Option D×Env)}(h:∀ d ρ s,KR s (g d ρ s)):∀(l:List D) (ρ:Env) (s:Sto),KR s (ji ok g l ρ s)
 | [],ρ,s=>KR.if KR.ok KR.bad
 | d::l,ρ,s=>KR.if (KR.bind (h d ρ s) λ p s1=>KR.bind (compL_kr h l p.2 s1) λ r s2=>KR.ok) KR.bad
section
variable {F:Fns} (hF:FK F)
theorem getV_kr (ρ:Env)(i:Nat)(s:Sto):KR s (getV ρ i s):=by
 intro a s' h
 unfold getV at h
 split at h<;>cases h;exact KP.refl _
include hF
mutual
theorem zt:∀(e:E) (ρ:Env) (s:Sto),KR s (ev F e ρ s)
 | .var i,ρ,s=>getV_kr ρ i s
 | .cst c,ρ,s=>KR.ok
 | .glob x,ρ,s=>by
  intro a s' h
  change(match F.con x with|some d=>R.ok d s|none=>.bad)=_ at h
  split at h<;>cases h;exact KP.refl _
 | .bin op a b,ρ,s=>KR.bind (zt a ρ s) λ x s=>KR.bind (zt b ρ s) λ y s=>binop_kr op x y s
 | .neg a,ρ,s=>KR.bind (zt a ρ s) λ x s=>by
  cases x with
  | int i=>exact KR.ok
  | _=>exact KR.bad
 | .not a,ρ,s=>KR.tru (zt a ρ s) λ b s=>KR.ok
 | .cmp op a b,ρ,s=>KR.bind (zt a ρ s) λ x s=>KR.bind (zt b ρ s) λ y s=>cmp_kr op x y s
 | .chain o p a b c,ρ,s=>KR.bind (zt a ρ s) λ x s=>KR.bind (zt b ρ s) λ y s=>KR.tru (cmp_kr o x y s) λ k s=>KR.if (KR.bind (zt c ρ s) λ z s=>cmp_kr p y z s) KR.ok
 | .isN a,ρ,s=>KR.bind (zt a ρ s) λ x s=>KR.ok
 | .notN a,ρ,s=>KR.bind (zt a ρ s) λ x s=>KR.ok
 | .isB a b,ρ,s=>KR.bind (zt a ρ s) λ x s=>by
  cases x with
  | bl i=>exact KR.ok
  | _=>exact KR.bad
 | .notB a b,ρ,s=>KR.bind (zt a ρ s) λ x s=>by
  cases x with
  | bl i=>exact KR.ok
  | _=>exact KR.bad
 | .and a b,ρ,s=>KR.tru (zt a ρ s) λ c s=>KR.if (KR.tru (zt b ρ s) λ c s=>KR.ok) KR.ok
 | .or a b,ρ,s=>KR.tru (zt a ρ s) λ c s=>KR.if KR.ok (KR.tru (zt b ρ s) λ c s=>KR.ok)
 | .ite c a b,ρ,s=>KR.tru (zt c ρ s) λ k s=>KR.if (zt a ρ s) (zt b ρ s)
 | .tup es,ρ,s=>KR.bind (evs_kr es ρ s) λ l s=>KR.ok
 | .lst es,ρ,s=>KR.bind (evs_kr es ρ s) λ l s=>KR.al
 | .dic .nil .nil,ρ,s=>KR.al
 | .dic (.cons k .nil) (.cons v .nil),ρ,s=>by
  intro a s' h
  obtain⟨kd,s1,e1,h⟩:=R.bind_inv (show(ev F k ρ (s++[.dic []])).bind _=_ from h)
  obtain⟨C,s2,e2,h⟩:=R.bind_inv h
  split at h
  case isFalse=>cases h
  rename_i hc
  cases h
  exact((KP.app _ _).trans ((zt k ρ _ _ _ e1).trans (zt v ρ _ _ _ e2))).trans (KP.set hc.2 rfl)
 | .dic .nil (.cons _ _),ρ,s=>KR.bad
 | .dic (.cons _ .nil) .nil,ρ,s=>KR.bad
 | .dic (.cons _ .nil) (.cons _ (.cons _ _)),ρ,s=>KR.bad
 | .dic (.cons _ (.cons _ _)) _,ρ,s=>KR.bad
 | .ix a b,ρ,s=>KR.bind (zt a ρ s) λ x s=>KR.bind (zt b ρ s) λ y s=>ix_kr x y s
 | .slL a lo,ρ,s=>KR.bind (zt a ρ s) λ x s=>KR.bind (zt lo ρ s) λ y s=>by
  cases y with
  | int i=>exact sl_kr _ _ _ _
  | _=>exact KR.bad
 | .slU a hi,ρ,s=>KR.bind (zt a ρ s) λ x s=>KR.bind (zt hi ρ s) λ y s=>by
  cases y with
  | int i=>exact sl_kr _ _ _ _
  | _=>exact KR.bad
 | .slLU a lo hi,ρ,s=>KR.bind (zt a ρ s) λ x s=>KR.bind (zt lo ρ s) λ y s=>by
  cases y with
  | int i =>
   refine KR.bind (zt hi ρ s) λ z s=>?_
   cases z with
   | int j=>exact sl_kr _ _ _ _
   | _=>exact KR.bad
  | _=>exact KR.bad
 | .rev a,ρ,s=>KR.bind (zt a ρ s) λ x s=>by
  cases x with
  | str l=>exact KR.ok
  | _=>exact KR.bad
 | .call f as,ρ,s=>KR.bind (evas_kr as ρ s) λ l s=>hF.call f l s
 | .callC f as,ρ,s=>KR.bind (evas_kr as ρ s) λ l s=>KR.bind (hF.call f l s) λ d s'=>KR.if KR.ok KR.bad
 | .callV i es,ρ,s=>KR.bind (evs_kr es ρ s) λ l s=>by
  intro a s' h
  split at h
  ·exact hF.call _ _ _ _ _ h
  ·exact hF.lam _ _ _ _ _ _ h
  ·cases h
 | .bi b es,ρ,s=>KR.bind (evs_kr es ρ s) λ l s=>bi_kr b l s
 | .mk k it,ρ,s=>KR.bind (evL_kr it ρ s) λ q s=>mk_kr k q s
 | .mkD k it d,ρ,s=>KR.bind (evL_kr it ρ s) λ q s=>KR.bind (zt d ρ s) λ d s=>mkD_kr k q d s
 | .meth m o es,ρ,s=>KR.bind (zt o ρ s) λ x s=>KR.bind (evs_kr es ρ s) λ l s=>meth_kr m x l s
 | .ext o it,ρ,s=>KR.bind (zt o ρ s) λ x s=>KR.bind (evL_kr it ρ s) λ q s=>extM_kr x q s
 | .extS o e,ρ,s=>KR.bind (zt o ρ s) λ x s=>KR.bind (zt e ρ s) λ y s=>by
  intro a s' h
  unfold extS at h
  repeat' split at h
  all_goals first|(cases h;done)|exact extM_kr _ _ _ _ _ h
 | .join o e,ρ,s=>KR.bind (zt o ρ s) λ x s=>KR.bind (zt e ρ s) λ y s=>join_kr x y s
 | .mks k e,ρ,s=>KR.bind (zt e ρ s) λ x s=>KR.bind (lstR_kr x s) λ q s=>mk_kr k q s
 | .mkDs k e d,ρ,s=>KR.bind (zt e ρ s) λ x s=>KR.bind (zt d ρ s) λ z s=>KR.bind (lstR_kr x s) λ q s=>mkD_kr k q z s
theorem evs_kr:∀(es:Es) (ρ:Env) (s:Sto),KR s (evs F es ρ s)
 | .nil,ρ,s=>KR.ok
 | .cons e es,ρ,s=>KR.bind (zt e ρ s) λ d s=>KR.bind (evs_kr es ρ s) λ l s=>KR.ok
theorem evas_kr:∀(y:As) (ρ:Env) (s:Sto),KR s (evas F y ρ s)
 | .nil,ρ,s=>KR.ok
 | .ex e y,ρ,s=>KR.bind (zt e ρ s) λ d s=>KR.bind (evas_kr y ρ s) λ l s=>KR.ok
 | .lam id caps y,ρ,s=>by
  intro a s' h
  change(match getVs ρ caps with|some cs=>(evas F y ρ s).bind λ l s=>R.ok (D.clo id cs::l) s|none=>.bad)=_ at h
  split at h
  ·exact KR.bind (evas_kr y ρ s) (λ l s=>KR.ok) _ _ h
  ·cases h
 | .fn f y,ρ,s=>KR.bind (evas_kr y ρ s) λ l s=>KR.ok
theorem evI_kr:∀(h:I) (ρ:Env) (s:Sto),KR s (evI F h ρ s)
 | .seq e,ρ,s=>KR.bind (zt e ρ s) λ d s=>seqM_kr d s
 | .rng1 a,ρ,s=>KR.bind (zt a ρ s) λ x s=>by
  cases x with
  | int i=>exact KR.if KR.ok KR.bad
  | _=>exact KR.bad
 | .rng2 a b,ρ,s=>KR.bind (zt a ρ s) λ x s=>KR.bind (zt b ρ s) λ y s=>by
  cases x with
  | int i=>(cases y with
   | int j=>exact KR.if KR.ok KR.bad
   | _=>exact KR.bad)
  | _=>exact KR.bad
 | .rng3 a b c,ρ,s=>KR.bind (zt a ρ s) λ x s=>KR.bind (zt b ρ s) λ y s=>by
  cases x with
  | int i=>(cases y with
   | int j=>exact KR.if KR.ok KR.bad
   | _=>exact KR.bad)
  | _=>exact KR.bad
 | .enum (.seq e),ρ,s=>KR.bind (zt e ρ s) λ d s=>KR.bind (enumM_kr d s) λ q s=>KR.ok
 | .zip (.seq a) (.seq b),ρ,s=>KR.bind (zt a ρ s) λ x s=>KR.bind (zt b ρ s) λ y s=>KR.bind (drawM_kr x s) λ p s=>KR.bind (drawM_kr y s) λ q s=>KR.ok
 | .enum (.rng1 _),ρ,s=>KR.bad
 | .enum (.rng2 _ _),ρ,s=>KR.bad
 | .enum (.rng3 _ _ _),ρ,s=>KR.bad
 | .enum (.enum _),ρ,s=>KR.bad
 | .enum (.zip _ _),ρ,s=>KR.bad
 | .enum (.items _),ρ,s=>KR.bad
 | .zip (.rng1 _) _,ρ,s=>KR.bad
 | .zip (.rng2 _ _) _,ρ,s=>KR.bad
 | .zip (.rng3 _ _ _) _,ρ,s=>KR.bad
 | .zip (.enum _) _,ρ,s=>KR.bad
 | .zip (.zip _ _) _,ρ,s=>KR.bad
 | .zip (.items _) _,ρ,s=>KR.bad
 | .zip (.seq _) (.rng1 _),ρ,s=>KR.bad
 | .zip (.seq _) (.rng2 _ _),ρ,s=>KR.bad
 | .zip (.seq _) (.rng3 _ _ _),ρ,s=>KR.bad
 | .zip (.seq _) (.enum _),ρ,s=>KR.bad
 | .zip (.seq _) (.zip _ _),ρ,s=>KR.bad
 | .zip (.seq _) (.items _),ρ,s=>KR.bad
 | .items e,ρ,s=>KR.bad
theorem evL_kr:∀(y:L) (ρ:Env) (s:Sto),KR s (evL F y ρ s)
 | .comp tg y e caps,ρ,s=>KR.bind (evI_kr y ρ s) λ q s0=>KR.if (compL_kr (λ d ρ s=>by
   intro a s' h
   split at h
   ·exact KR.bind (zt e _ s) (λ v s=>KR.ok) _ _ h
   ·cases h) _ _ _) KR.bad
 | .compIf tg y c e caps,ρ,s=>KR.bind (evI_kr y ρ s) λ q s0=>KR.if (compL_kr (λ d ρ s=>by
   intro a s' h
   split at h
   ·exact KR.tru (zt c _ s) (λ k s=>KR.if (KR.bind (zt e _ s) λ v s=>KR.ok) KR.ok) _ _ h
   ·cases h) _ _ _) KR.bad
 | .disp es,ρ,s=>evs_kr es ρ s
 | .seq e,ρ,s=>KR.bind (zt e ρ s) λ d s=>lstM_kr d s
end
theorem forL_kr {ok:Sto->Bool}{g:D->Env->Sto->R Ct}(h:∀ d ρ s,KR s (g d ρ s)):∀(l:List D) (ρ:Env) (s:Sto),KR s (forL ok g l ρ s)
 | [],ρ,s=>KR.if KR.ok KR.bad
 | d::l,ρ,s=>KR.if (KR.bind (h d ρ s) λ c s=>by
   cases c with
   | next ρ=>exact forL_kr h l ρ s
   | cont ρ=>exact forL_kr h l ρ s
   | brk ρ=>exact KR.ok
   | ret d=>exact KR.ok) KR.bad
theorem whlN_kr {c:Env->Sto->R D}{g:Env->Sto->R Ct}(hc:∀ ρ s,KR s (c ρ s))(h:∀ ρ s,KR s (g ρ s)):∀(n:Nat) (ρ:Env) (s:Sto),KR s (jF c g n ρ s)
 | 0,ρ,s=>KR.bad
 | n+1,ρ,s=>KR.tru (hc ρ s) λ b s=>KR.if (KR.bind (h ρ s) λ y s=>by
   cases y with
   | next ρ=>exact whlN_kr hc h n ρ s
   | cont ρ=>exact whlN_kr hc h n ρ s
   | brk ρ=>exact KR.ok
   | ret d=>exact KR.ok) KR.ok
mutual
theorem ex_kr:∀(st:S) (ρ:Env) (s:Sto),KR s (ex F st ρ s)
 | .asg tg e,ρ,s=>KR.bind (zt hF e ρ s) λ d s=>by
  intro a s' h
  split at h<;>cases h;exact KP.refl _
 | .setIx o i e,ρ,s=>KR.bind (zt hF e ρ s) λ d s=>KR.bind (zt hF o ρ s) λ x s=>KR.bind (zt hF i ρ s) λ y s=>KR.bind (setIx_kr x y d s) λ _ s=>KR.ok
 | .aug i e,ρ,s=>KR.bind (getV_kr ρ i s) λ x s=>KR.bind (zt hF e ρ s) λ y s=>by
  intro a s' h
  repeat' split at h
  all_goals first|(cases h;exact KP.refl _;done)|(cases h;done)
 | .ex e,ρ,s=>KR.bind (zt hF e ρ s) λ d s=>KR.ok
 | .ret e,ρ,s=>KR.bind (zt hF e ρ s) λ d s=>KR.ok
 | .retN,ρ,s=>KR.ok
 | .ite c a b,ρ,s=>KR.tru (zt hF c ρ s) λ k s=>KR.if (exs_kr a ρ s) (exs_kr b ρ s)
 | .whl c b,ρ,s=>by
  intro r s' h
  change whl (ev F c) (exs F b) ρ s=_ at h
  unfold whl at h
  split at h
  ·exact whlN_kr hF (λ ρ s=>zt hF c ρ s) (λ ρ s=>exs_kr b ρ s) _ ρ s _ _ h
  ·cases h
 | .for_ tg it b,ρ,s=>KR.bind (evI_kr hF it ρ s) λ q s0=>forL_kr hF (λ d ρ s=>by
   intro a s' h
   split at h
   ·exact exs_kr b _ _ _ _ h
   ·cases h) _ _ _
 | .pass,ρ,s=>KR.ok
 | .cont,ρ,s=>KR.ok
 | .brk,ρ,s=>KR.ok
 | .raise,ρ,s=>KR.bad
 | .und i,ρ,s=>by
  intro a s' h
  change(match unsetV ρ i with|some ρ=>R.ok (Ct.next ρ) s|none=>.bad)=_ at h
  split at h<;>cases h;exact KP.refl _
theorem exs_kr:∀(h:Ss) (ρ:Env) (s:Sto),KR s (exs F h ρ s)
 | .nil,ρ,s=>KR.ok
 | .cons st h,ρ,s=>KR.bind (ex_kr st ρ s) λ c s=>by
  cases c with
  | next ρ=>exact exs_kr h ρ s
  | _=>exact KR.ok
end
end
theorem canon_kr {s st:Sto}{d:D}(h:KP s st):KR s (zQ s d st):=by
 have tk:∀ t,KP s (st.take s.length++t):=λ t i o e=>by
  obtain⟨G,e',k⟩:=h i o e
  have C:=(ac.mp e).1
  have J:=(ac.mp e').1
  refine⟨G,?_,k⟩
  rw[aD (by rw[bz];omega),iI,if_pos C];exact e'
 have y:KP s (st.take s.length):=by have:=tk [];rwa [bE]at this
 intro a s' e
 unfold zQ at e
 repeat' split at e
 all_goals first|(cases e;exact y;done)|(cases e;exact tk _;done)|(cases e;exact h;done)|(cases e;done)
theorem callN_fk (P:Pr):∀ n,FK (callN P n)
 | 0=>⟨λ _ _ _=>KR.bad,λ _ _ _ _=>KR.bad⟩
 | n+1=>by
  refine⟨λ f l s=>?_,λ id cs l s=>?_⟩
  ·intro a s' h
   unfold callN at h
   simp only at h
   split at h
   case h_2=>cases h
   split at h
   case isFalse=>cases h
   obtain⟨c,s1,e1,h⟩:=R.bind_inv h
   have y:=exs_kr (callN_fk P n) _ _ _ _ _ e1
   cases c with
   | ret v=>exact canon_kr y _ _ h
   | next ρ=>exact canon_kr y _ _ h
   | _=>cases h
  ·intro a s' h
   unfold callN at h
   simp only at h
   split at h
   case h_2=>cases h
   split at h
   case isFalse=>cases h
   obtain⟨v,s1,e1,h⟩:=R.bind_inv h
   exact canon_kr (zt (callN_fk P n) _ _ _ _ _ e1) _ _ h
end DV
end
open DV renaming Sto->kK,D->kL,Env->kN,R->kP,ev->kQ,callN->kS,LIM->kT,eqv->kU,eqAtom->kW,tru->kX,bindT->kY,DEEP->kZ,getVs->k6,eqL->k7,rep->k8,kd->k9,Pr->la,putD->lb,Es->lc,O->lf,Fns->lh,evs->li,alloc->lj,kdBad->ln,blsOf->lp,look->lq,cutL->lr,Bi->ls,Tg->lu,Ct->lv,sbd->lw,chk->lx,setV->ly,setVs->lz,evas->lA,inL->lB,ixn->lC,qR->lE,As->lF,minI->lG,eqLit->lH,loB->lI,E->lJ,M->lK,Sq->lL,qx->lM,mk->lN,unsetV->lO,Lm->lP,Df->lQ,hiB->lR,slM->lS,forL->lT,meth->lU,jj->lV,ji->lW,Mk->lX,Mt->lY,Ss->lZ,okOld->l6,callN_fk->l7,COp->l8,pur->l9,inM->ma,bi1->mf,repD->mn,bi->mq,BOp->mr,isK->mw,W62->mB,S->mD,evI->mF,exs->mG
open DV.D renaming bndL->kM,bnd->kO,nclL->lD,ncl->my
open DV.O renaming bnd->kR,ncl->mz
noncomputable section
namespace L2
open PySem PySem.Spec PyProof.Rows
structure LamI where
 qual:Str
 params:a9
 body:Expr
 scope:Scope
 ps:List Str
 fr:List Str
 nm:Option (Str×Pos)
noncomputable def CloAt (H:Hp)(f:Addr)(J:LamI)(cap:List V)(clos:List (Str×Addr)):Prop:=match J.nm with
 | none=>LamAt H f J.qual J.params J.body J.scope J.fr cap clos
 | some p=>DefIn H f p.1 J.qual J.params [.Return (some J.body) p.2] J.scope J.fr cap clos
noncomputable def CloRaw (H:Hp)(f:Addr)(J:LamI)(clos:List (Str×Addr)):Prop:=match J.nm with
 | none=>∃ pm c' ctv,H f=some (lamO f (bR "<lambda>" J.qual J.params J.body J.scope clos pm (.ref c') ctv))/\H c'=some (qK c' J.qual)
 | some p=>∃ doc pm c' ctv,H f=some (lamO f (cu p.1 J.qual J.params [.Return (some J.body) p.2] J.scope clos .none .none doc pm none (.ref c') ctv))/\H c'=some (qK c' J.qual)
structure Gm where
 K:ab
 fa:String->Option Addr
 lg:String->LamI->Prop
 T:List (Addr×Str)
variable (Γ:Gm)
mutual
noncomputable def RV (φ:Nat->Addr)(H:Hp):kL->V->Prop
 | .non,v=>v=.non
 | .bl b,v=>v=.bl b
 | .int i,v=>v=.int i
 | .str x,v=>v=.str ⟨x.toArray⟩/\x.length<=kT
 | .tup l,v=>∃ a xs,v=.ref a/\SqT Γ.K H a xs/\RVL φ H l xs
 | .ref n,v=>v=.ref (φ n)
 | .fn f,v=>∃ a,Γ.fa f=some a/\v=.ref a
 | .clo id cs,v=>∃ f cap J clos,v=.ref f/\Γ.lg id J/\CloAt H f J cap clos/\cap.length=J.fr.length/\RVL φ H cs cap
noncomputable def RVL (φ:Nat->Addr)(H:Hp):List kL->List V->Prop
 | [],xs=>xs=[]
 | d::l,xs=>∃ x r,xs=x::r/\RV φ H d x/\RVL φ H l r
end
noncomputable def fixd:HO->Bool
 | .tup _=>true
 | .frz _ _=>true
 | .ext _=>true
 | _=>false
noncomputable def Kp (H H':Hp):Prop:=∀ b o,H b=some o->fixd o=true->H' b=some o
theorem Kp.refl (H:Hp):Kp H H:=λ _ _ h _=>h
theorem Kp.trans {H y H2:Hp}(a:Kp H y)(b:Kp y H2):Kp H H2:=λ c o h f=>b c o (a c o h f) f
theorem Kp.new {H y:Hp}{p:Addr}{o:HO}(a:Kp H y)(h:y p=none):Kp H (upd y p o):=λ c u e f=>by
 have e1:=a c u e f
 rw[zb (zE e1 h)];exact e1
theorem Kp.put {H y:Hp}{p:Addr}{o u:HO}(a:Kp H y)(h:y p=some u)(C:fixd u=false):Kp H (upd y p o):=λ c v e f=>by
 have e1:=a c v e f
 rw[zb (λ z=>by subst z;rw[h]at e1;cases e1;rw[C]at f;cases f)];exact e1
theorem Kp.sqT {K:ab}{H H':Hp}{a:Addr}{y:List V}(e:Kp H H')(h:SqT K H a y):SqT K H' a y:=by
 rcases h with(h|⟨o,h⟩)|h
 ·exact .inl (.inl (e _ _ h rfl))
 ·exact .inl (.inr ⟨o,e _ _ h rfl⟩)
 ·exact .inr h
theorem LamAt.kp {H H':Hp}{f:Addr}{qual:Str}{params:a9}{body:Expr}{scope:Scope}{fr:List Str}{cap:List V}{y:List (Str×Addr)}(h:LamAt H f qual params body scope fr cap y)(e:Kp H H'):LamAt H' f qual params body scope fr cap y:=by
 obtain⟨Y,J,C,G,h2,h3,h4,Z,h6⟩:=h
 refine⟨Y,J,C,e _ _ G rfl,e _ _ h2 rfl,λ x c q=>?_,h4,Z,λ i x v a b=>?_⟩
 ·obtain⟨o,v,z,d⟩:=h3 x c q
  exact⟨o,v,e _ _ z rfl,d⟩
 ·obtain⟨c,o,u,z1,z2,z3⟩:=h6 i x v a b
  exact⟨c,o,u,z1,e _ _ z2 rfl,z3⟩
theorem DefIn.kp {H H':Hp}{f:Addr}{name qual:Str}{params:a9}{body:List Stmt}{scope:Scope}{fr:List Str}{cap:List V}{y:List (Str×Addr)}(h:DefIn H f name qual params body scope fr cap y)(e:Kp H H'):DefIn H' f name qual params body scope fr cap y:=by
 obtain⟨C,Z,Y,G,J,h2,h3,h4,h5,h6⟩:=h
 refine⟨C,Z,Y,G,e _ _ J rfl,e _ _ h2 rfl,λ x c q=>?_,h4,h5,λ i x v a b=>?_⟩
 ·obtain⟨o,v,z,d⟩:=h3 x c q
  exact⟨o,v,e _ _ z rfl,d⟩
 ·obtain⟨c,o,u,z1,z2,z3⟩:=h6 i x v a b
  exact⟨c,o,u,z1,e _ _ z2 rfl,z3⟩
theorem CloAt.kp {H H':Hp}{f:Addr}{J:LamI}{cap:List V}{y:List (Str×Addr)}(h:CloAt H f J cap y)(e:Kp H H'):CloAt H' f J cap y:=by
 unfold CloAt at h ⊢
 cases q:J.nm with
 | none=>rw[q]at h;exact LamAt.kp h e
 | some p=>rw[q]at h;exact DefIn.kp h e
theorem CloRaw.kp {H H':Hp}{f:Addr}{J:LamI}{y:List (Str×Addr)}(h:CloRaw H f J y)(e:Kp H H'):CloRaw H' f J y:=by
 unfold CloRaw at h ⊢
 cases q:J.nm with
 | none =>
  rw[q]at h
  obtain⟨Z,c',C,h1,G⟩:=h
  exact⟨Z,c',C,e _ _ h1 rfl,e _ _ G rfl⟩
 | some p =>
  rw[q]at h
  obtain⟨Y,Z,c',C,h1,G⟩:=h
  exact⟨Y,Z,c',C,e _ _ h1 rfl,e _ _ G rfl⟩
theorem CloAt.fn {K:ab}{H:Hp}{f:Addr}{J:LamI}{cap:List V}{y:List (Str×Addr)}(h:CloAt H f J cap y):FnIn K H f:=by
 unfold CloAt at h
 cases q:J.nm with
 | none=>rw[q]at h;obtain⟨Y,Z,C,G,_⟩:=h;exact .inl ⟨_,G⟩
 | some p=>rw[q]at h;exact DefIn.fn h
structure Gw (φ:Nat->Addr)(n:Nat)(H:Hp)(φ':Nat->Addr)(H':Hp):Prop where
 map:∀ i,i<n->φ' i=φ i
 kp:Kp H H'
variable {Γ:Gm}
mutual
theorem RV.monoW {φ φ':Nat->Addr}{n:Nat}{H H':Hp}(g:Gw φ n H φ' H'):∀(d:kL) (v:V),d.bnd n=true->RV Γ φ H d v->RV Γ φ' H' d v
 | .non,_,_,h=>by unfold RV at h ⊢;exact h
 | .bl _,_,_,h=>by unfold RV at h ⊢;exact h
 | .int _,_,_,h=>by unfold RV at h ⊢;exact h
 | .str _,_,_,h=>by unfold RV at h ⊢;exact h
 | .tup l,_,b,h=>by
  unfold RV at h ⊢
  unfold kO at b
  obtain⟨a,C,e,q,r⟩:=h
  exact⟨a,C,e,g.kp.sqT q,RVL.monoW g l C b r⟩
 | .ref k,_,b,h=>by
  unfold RV at h ⊢
  unfold kO at b
  rw[g.map k (of_decide_eq_true b)];exact h
 | .fn _,_,_,h=>by unfold RV at h ⊢;exact h
 | .clo id cs,_,b,h=>by
  unfold RV at h ⊢
  unfold kO at b
  obtain⟨f,cap,J,y,e,Y,G,h3,Z⟩:=h
  exact⟨f,cap,J,y,e,Y,G.kp g.kp,h3,RVL.monoW g cs cap b Z⟩
theorem RVL.monoW {φ φ':Nat->Addr}{n:Nat}{H H':Hp}(g:Gw φ n H φ' H'):∀(l:List kL) (y:List V),kM n l=true->RVL Γ φ H l y->RVL Γ φ' H' l y
 | [],_,_,h=>by unfold RVL at h ⊢;exact h
 | d::l,_,b,h=>by
  unfold RVL at h ⊢
  unfold kM at b
  rw[aq]at b
  obtain⟨x,r,e,q,t⟩:=h
  exact⟨x,r,e,RV.monoW g d x b.1 q,RVL.monoW g l r b.2 t⟩
end
mutual
theorem zC {n m:Nat}(h:n<=m):∀ d:kL,d.bnd n=true->d.bnd m=true
 | .non,_=>rfl
 | .bl _,_=>rfl
 | .int _,_=>rfl
 | .str _,_=>rfl
 | .tup l,b=>by unfold kO at b ⊢;exact D_bndL_mono h l b
 | .ref k,b=>by unfold kO at b ⊢;exact decide_eq_true (ar (of_decide_eq_true b) h)
 | .fn _,_=>rfl
 | .clo _ l,b=>by unfold kO at b ⊢;exact D_bndL_mono h l b
theorem D_bndL_mono {n m:Nat}(h:n<=m):∀ l:List kL,kM n l=true->kM m l=true
 | [],_=>rfl
 | d::l,b=>by
  unfold kM at b ⊢
  rw[aq]at b ⊢
  exact⟨zC h d b.1,D_bndL_mono h l b.2⟩
end
theorem bndL_iff {n:Nat}:∀ {l:List kL},kM n l=true↔∀ d∈l,d.bnd n=true
 | []=>by unfold kM;simp
 | d::l=>by
  unfold kM
  rw[aq,bndL_iff (l:=l)]
  simp
theorem zX {n:Nat}{l m:List kL}(h:kM n l=true)(h':kM n m=true):kM n (l++m)=true :=
 bndL_iff.mpr λ d hd=>(bK.mp hd).elim (bndL_iff.mp h d) (bndL_iff.mp h' d)
theorem bndL_sub {n:Nat}{l m:List kL}(h:kM n l=true)(s:∀ d∈m,d∈l):kM n m=true:=bndL_iff.mpr λ d hd=>bndL_iff.mp h d (s d hd)
theorem bndL_get {n:Nat}{l:List kL}{i:Nat}{d:kL}(h:kM n l=true)(e:l[i]?=some d):d.bnd n=true:=bndL_iff.mp h d (aS e)
section
variable {φ:Nat->Addr} {H:Hp}
theorem RVL.nil:RVL Γ φ H [] []:=by unfold RVL;rfl
theorem RVL.cons {d:kL}{l:List kL}{x:V}{h:List V}(a:RV Γ φ H d x)(b:RVL Γ φ H l h):RVL Γ φ H (d::l) (x::h):=by unfold RVL;exact⟨x,h,rfl,a,b⟩
theorem RVL.unnil {y:List V}(h:RVL Γ φ H [] y):y=[]:=by unfold RVL at h;exact h
theorem RVL.uncons {d:kL}{l:List kL}{y:List V}(h:RVL Γ φ H (d::l) y):∃ x r,y=x::r/\RV Γ φ H d x/\RVL Γ φ H l r:=by unfold RVL at h;exact h
theorem RVL.length:∀ {l:List kL} {y:List V},RVL Γ φ H l y->y.length=l.length
 | [],_,h=>by rw[h.unnil];rfl
 | d::l,_,h=>by
  obtain⟨x,r,rfl,_,t⟩:=h.uncons
  rw[aW,aW,RVL.length t]
theorem RVL.get:∀ {l:List kL} {C:List V} {i:Nat} {d:kL},RVL Γ φ H l C->l[i]?=some d->∃ x,C[i]?=some x/\RV Γ φ H d x
 | [],_,_,_,_,e=>by simp at e
 | d::l,_,0,d',h,e=>by
  obtain⟨x,r,rfl,q,t⟩:=h.uncons
  have e':d=d':=by simpa using e
  subst e'
  exact⟨x,rfl,q⟩
 | d::l,_,i+1,_,h,e=>by
  obtain⟨x,r,rfl,q,t⟩:=h.uncons
  obtain⟨y,e1,e2⟩:=RVL.get (i:=i) t (by simpa using e)
  exact⟨y,by simpa using e1,e2⟩
theorem RVL.append:∀ {l m:List kL} {y ys:List V},RVL Γ φ H l y->RVL Γ φ H m ys->RVL Γ φ H (l++m) (y++ys)
 | [],_,_,_,h,h'=>by rw[h.unnil];exact h'
 | d::l,_,_,_,h,h'=>by
  obtain⟨x,r,rfl,q,t⟩:=h.uncons
  exact .cons q (RVL.append t h')
theorem RVL.drop:∀ {l:List kL} {y:List V} (n:Nat),RVL Γ φ H l y->RVL Γ φ H (l.drop n) (y.drop n)
 | _,_,0,h=>h
 | [],_,n+1,h=>by rw[h.unnil];exact .nil
 | d::l,_,n+1,h=>by
  obtain⟨x,r,rfl,q,t⟩:=h.uncons
  exact RVL.drop n t
theorem RVL.take:∀ {l:List kL} {y:List V} (n:Nat),RVL Γ φ H l y->RVL Γ φ H (l.take n) (y.take n)
 | _,_,0,h=>.nil
 | [],_,n+1,h=>by rw[h.unnil];exact .nil
 | d::l,_,n+1,h=>by
  obtain⟨x,r,rfl,q,t⟩:=h.uncons
  exact .cons q (RVL.take n t)
theorem RVL.set:∀ {l:List kL} {y:List V} {d:kL} {x:V} (i:Nat),RVL Γ φ H l y->RV Γ φ H d x->RVL Γ φ H (l.set i d) (y.set i x)
 | [],_,_,_,_,h,_=>by rw[h.unnil];exact .nil
 | d::l,_,_,_,0,h,q=>by
  obtain⟨x,r,rfl,_,t⟩:=h.uncons
  exact .cons q t
 | d::l,_,_,_,i+1,h,q=>by
  obtain⟨x,r,rfl,q',t⟩:=h.uncons
  exact .cons q' (RVL.set i t q)
theorem RVL.reverse:∀ {l:List kL} {y:List V},RVL Γ φ H l y->RVL Γ φ H l.reverse y.reverse
 | [],_,h=>by rw[h.unnil];exact .nil
 | d::l,_,h=>by
  obtain⟨x,r,rfl,q,t⟩:=h.uncons
  rw[dX,dX]
  exact(RVL.reverse t).append (.cons q .nil)
theorem RV.intE {i:Int}{v:V}(h:RV Γ φ H (.int i) v):v=.int i:=by unfold RV at h;exact h
theorem RV.blE {i:Bool}{v:V}(h:RV Γ φ H (.bl i) v):v=.bl i:=by unfold RV at h;exact h
theorem RV.nonE {v:V}(h:RV Γ φ H .non v):v=.non:=by unfold RV at h;exact h
theorem RV.strE {x:List Nat}{v:V}(h:RV Γ φ H (.str x) v):v=.str ⟨x.toArray⟩:=by unfold RV at h;exact h.1
theorem RV.strL {x:List Nat}{v:V}(h:RV Γ φ H (.str x) v):x.length<=kT:=by unfold RV at h;exact h.2
theorem RV.tupE {l:List kL}{v:V}(h:RV Γ φ H (.tup l) v):∃ a y,v=.ref a/\SqT Γ.K H a y/\RVL Γ φ H l y:=by unfold RV at h;exact h
theorem RV.refE {n:Nat}{v:V}(h:RV Γ φ H (.ref n) v):v=.ref (φ n):=by unfold RV at h;exact h
theorem RV.intI {i:Int}:RV Γ φ H (.int i) (.int i):=by unfold RV;rfl
theorem RV.blI {i:Bool}:RV Γ φ H (.bl i) (.bl i):=by unfold RV;rfl
theorem RV.nonI:RV Γ φ H .non .non:=by unfold RV;rfl
theorem RV.strI {x:List Nat}(h:x.length<=kT):RV Γ φ H (.str x) (.str ⟨x.toArray⟩):=by unfold RV;exact⟨rfl,h⟩
theorem RV.tupI {l:List kL}{a:Addr}{y:List V}(h:SqT Γ.K H a y)(q:RVL Γ φ H l y):RV Γ φ H (.tup l) (.ref a):=by unfold RV;exact⟨a,y,rfl,h,q⟩
theorem RV.refI {n:Nat}:RV Γ φ H (.ref n) (.ref (φ n)):=by unfold RV;rfl
end
noncomputable def SqF (K:ab)(H:Hp)(a:Addr)(xs:List V):Prop:=SqL K H a xs/\∀ H',Kp H H'->SqL K H' a xs
noncomputable def keyOf:kL->Option Key
 | .int i=>some (.inl i)
 | .str x=>some (.inr ⟨x.toArray⟩)
 | _=>none
noncomputable def RVD (Γ:Gm)(φ:Nat->Addr)(H:Hp):List (kL×kL)->List (Key×V)->Prop
 | [],kvs=>kvs=[]
 | (d,e)::l,kvs=>∃ k v r,kvs=(k,v)::r/\keyOf d=some k/\RV Γ φ H e v/\RVD Γ φ H l r
variable (Γ)
noncomputable def RO (φ:Nat->Addr)(H:Hp)(a:Addr):lf->Prop
 | .lst l=>∃ xs,H a=some (.lst xs)/\RVL Γ φ H l xs
 | .ro l=>∃ xs,SqF Γ.K H a xs/\RVL Γ φ H l xs
 | .dic l=>∃ kvs,H a=some (.dK kvs)/\RVD Γ φ H l kvs
 | .ins _ _=>False
noncomputable abbrev okd:lf->Nat:=DV.O.kd
noncomputable def isMut:lf->Bool
 | .ro _=>false
 | _=>true
structure Rp (φ:Nat->Addr)(H:Hp)(s:kK):Prop where
 inj:∀(i j:Nat) (o o':lf),s[i]?=some o->s[j]?=some o'->isMut o=true->isMut o'=true->φ i=φ j->i=j
 obj:∀(i:Nat) (o:lf),s[i]?=some o->RO Γ φ H (φ i) o
 wf:∀(i:Nat) (o:lf),s[i]?=some o->o.bnd s.length=true
 tab:TabsH Γ.T H
structure RE (φ:Nat->Addr)(H:Hp)(n:Nat)(ρ:kN)(σ:St):Prop where
 len:ρ.length=σ.length
 val:∀(i:Nat) (d:kL),ρ[i]?=some (some d)->d.bnd n=true/\∃ v,σ[i]?=some (some v)/\RV Γ φ H d v
structure Gr (φ:Nat->Addr)(s:kK)(H:Hp)(φ':Nat->Addr)(s':kK)(H':Hp):Prop where
 w:Gw φ s.length H φ' H'
 le:s.length<=s'.length
 new:∀ i:Nat,s.length<=i->i<s'.length->H (φ' i)=none
 kd:∀(i:Nat) (o o':lf),s[i]?=some o->s'[i]?=some o'->okd o'=okd o
 st:∀ b,H b≠none->H' b≠none
 fr:∀ b o,H b=some o->(∀ ps,o≠.tbl ps)->(∀(i:Nat) (ob:lf),s[i]?=some ob->isMut ob=true->φ i≠b)->H' b=some o
variable {Γ}
theorem okd_mut {o y:lf}(h:okd y=okd o)(m:isMut y=true):isMut o=true:=by
 cases o with
 | ro _=>cases y with
  | ro _=>cases m
  | _=>cases h
 | _=>rfl
theorem Gr.mu {φ φ':Nat->Addr}{s s':kK}{H H':Hp}(g:Gr φ s H φ' s' H')(i:Nat)(o h:lf)(e:s[i]?=some o)(e':s'[i]?=some h)(m:isMut h=true):isMut o=true:=okd_mut (g.kd i o h e e') m
theorem Gr.refl (φ:Nat->Addr)(s:kK)(H:Hp):Gr φ s H φ s H:=⟨⟨λ _ _=>rfl,Kp.refl H⟩,ah _,λ i G y=>absurd y (by omega),λ i o C e e'=>by rw[e]at e';cases e';rfl,λ _ h=>h,λ _ _ h _ _=>h⟩
theorem Gr.trans {φ φ1 φ2:Nat->Addr}{s s1 s2:kK}{H J H2:Hp}(a:Gr φ s H φ1 s1 J)(b:Gr φ1 s1 J φ2 s2 H2)(_h:s.length<=s1.length):Gr φ s H φ2 s2 H2:=by
 refine⟨⟨λ i y=>(b.w.map i (ar y a.le)).trans (a.w.map i y),a.w.kp.trans b.w.kp⟩,am a.le b.le,λ i h1 h2=>?_,λ i o o' e e'=>?_,λ c h=>b.st c (a.st c h),λ c o h Z ne=>?_⟩
 ·by_cases y:i<s1.length
  ·rw[b.w.map i y];exact a.new i h1 y
  ·have e:=b.new i (by omega) h2
   cases q:H (φ2 i)with
   | none=>rfl
   | some o=>exact absurd e (a.st _ (by rw[q];simp))
 ·have hl:i<s1.length:=ar (ac.mp e).1 a.le
  obtain⟨G,e1⟩:∃ G,s1[i]?=some G:=⟨s1[i],ag hl⟩
  exact(b.kd i G o' e1 e').trans (a.kd i o G e e1)
 ·refine b.fr c o (a.fr c o h Z ne) Z λ i ob e m z=>?_
  by_cases y:i<s.length
  ·obtain⟨C,Y⟩:∃ C,s[i]?=some C:=⟨s[i],ag y⟩
   exact ne i C Y (a.mu i C ob Y e m) (by rw[<-a.w.map i y];exact z)
  ·have:=a.new i (by omega) (ac.mp e).1
   rw[z,h]at this;cases this
theorem RV.mono {φ φ':Nat->Addr}{s s':kK}{H H':Hp}(g:Gr φ s H φ' s' H')(d:kL)(v:V)(b:d.bnd s.length=true)(h:RV Γ φ H d v):RV Γ φ' H' d v:=RV.monoW g.w d v b h
theorem RVL.mono {φ φ':Nat->Addr}{s s':kK}{H H':Hp}(g:Gr φ s H φ' s' H')(d:List kL)(v:List V)(b:kM s.length d=true)(h:RVL Γ φ H d v):RVL Γ φ' H' d v:=RVL.monoW g.w d v b h
theorem RE.mono {φ φ':Nat->Addr}{s s':kK}{H H':Hp}{ρ:kN}{σ:St}(h:RE Γ φ H s.length ρ σ)(g:Gr φ s H φ' s' H')(hn:s.length<=s'.length):RE Γ φ' H' s'.length ρ σ :=
 ⟨h.len,λ i d e=>by
  obtain⟨b,v,e1,e2⟩:=h.val i d e
  exact⟨zC hn d b,v,e1,RV.mono g d v b e2⟩⟩
noncomputable def After (Γ:Gm)(φ:Nat->Addr)(s:kK)(H:Hp)(d:kL)(s':kK)(Q:VK):Prop :=
 ∀ v φ' H',Gr φ s H φ' s' H'->s.length<=s'.length->d.bnd s'.length=true->RV Γ φ' H' d v->Rp Γ φ' H' s'->Q v H'
theorem After.trans {φ φ1:Nat->Addr}{s s1 s':kK}{H y:Hp}{d:kL}{Q:VK}(h:After Γ φ s H d s' Q)(g:Gr φ s H φ1 s1 y)(l:s.length<=s1.length):After Γ φ1 s1 y d s' Q :=
 λ v φ' H' g' C b r p=>h v φ' H' (g.trans g' l) (am l C) b r p
theorem After.here {φ:Nat->Addr}{s:kK}{H:Hp}{d:kL}{Q:VK}{v:V}(h:After Γ φ s H d s Q)(p:Rp Γ φ H s)(b:d.bnd s.length=true)(r:RV Γ φ H d v):Q v H :=
 h v φ H (Gr.refl φ s H) (ah _) b r p
theorem RVD.monoW {φ φ':Nat->Addr}{n:Nat}{H H':Hp}(g:Gw φ n H φ' H'):∀(l:List (kL×kL)) (y:List (Key×V)),kM n (l.map (·.2))=true->RVD Γ φ H l y->RVD Γ φ' H' l y
 | [],_,_,h=>h
 | (d,e)::l,_,b,h=>by
  obtain⟨k,v,r,e1,e2,G,C⟩:=h
  rw[aN]at b
  unfold kM at b
  rw[aq]at b
  exact⟨k,v,r,e1,e2,RV.monoW g e v b.1 G,RVD.monoW g l r b.2 C⟩
theorem RO.mono {φ φ':Nat->Addr}{n:Nat}{H H':Hp}{a:Addr}{o:lf}(h:RO Γ φ H a o)(g:Gw φ n H φ' H')(b:o.bnd n=true)(hl:isMut o=true->∀ u,H a=some u->H' a=some u):RO Γ φ' H' a o:=by
 cases o with
 | lst l =>
  unfold kR at b
  obtain⟨C,e,r⟩:=h
  exact⟨C,hl rfl _ e,RVL.monoW g l C b r⟩
 | ro l =>
  unfold kR at b
  obtain⟨C,e,r⟩:=h
  exact⟨C,⟨e.2 _ g.kp,λ H2 k=>e.2 _ (g.kp.trans k)⟩,RVL.monoW g l C b r⟩
 | dic l =>
  unfold kR at b
  rw[aq]at b
  obtain⟨y,e,r⟩:=h
  exact⟨y,hl rfl _ e,RVD.monoW g l y b.2 r⟩
 | ins _ _=>exact h.elim
theorem RO.there {φ:Nat->Addr}{H:Hp}{a:Addr}{o:lf}(h:RO Γ φ H a o)(m:isMut o=true):∃ u,H a=some u/\fixd u=false/\∀ ps,u≠.tbl ps:=by
 cases o with
 | lst l=>obtain⟨y,e,_⟩:=h;exact⟨_,e,rfl,by nofun⟩
 | ro l=>cases m
 | dic l=>obtain⟨y,e,_⟩:=h;exact⟨_,e,rfl,by nofun⟩
 | ins _ _=>exact h.elim
theorem Rp.addr {φ:Nat->Addr}{H:Hp}{s:kK}(p:Rp Γ φ H s){i:Nat}{l:List kL}(e:s[i]?=some (.lst l)):∃ h,H (φ i)=some (.lst h)/\RVL Γ φ H l h:=p.obj i _ e
theorem qD {n m:Nat}(h:n<=m)(o:lf)(b:o.bnd n=true):o.bnd m=true:=by
 cases o with
 | lst l=>unfold kR at b ⊢;exact D_bndL_mono h l b
 | ro l=>unfold kR at b ⊢;exact D_bndL_mono h l b
 | dic l =>
  unfold kR at b ⊢
  rw[aq]at b ⊢
  exact⟨D_bndL_mono h _ b.1,D_bndL_mono h _ b.2⟩
 | ins c l=>unfold kR at b ⊢;exact D_bndL_mono h _ b
theorem TabsH.keepF {T:List (Addr×Str)}{H H':Hp}(h:TabsH T H)(k:∀ b o,(fixd o=true\/∃ ps,o=.tbl ps)->H b=some o->H' b=some o):TabsH T H':=λ y hy=>by
 obtain⟨ps,e,t,c⟩:=h y hy
 refine⟨ps,k _ _ (.inr ⟨_,rfl⟩) e,t,λ pos C q=>?_⟩
 obtain⟨G,e1,e2⟩:=c pos C q
 exact⟨G,e1,k _ _ (.inl rfl) e2⟩
theorem Rp.new {φ:Nat->Addr}{H:Hp}{s:kK}{p:Addr}{u:HO}{o:lf}(r:Rp Γ φ H s)(G:H p=none)(hb:o.bnd s.length=true)
  (ho:∀ φ' H',Gw φ s.length H φ' H'->H' p=some u->RO Γ φ' H' p o):Gr φ s H (λ i=>if i=s.length then p else φ i) (s++[o]) (upd H p u)/\Rp Γ (λ i=>if i=s.length then p else φ i) (upd H p u) (s++[o]):=by
 have g:Gw φ s.length H (λ i=>if i=s.length then p else φ i) (upd H p u):=⟨λ i y=>if_neg (ay y),(Kp.refl H).new G⟩
 have key:∀ i C,(s++[o])[i]?=some C->(i<s.length/\s[i]?=some C)\/(i=s.length/\C=o):=λ i C e=>by
  rcases fA i s.length with h|h|h
  ·rw[aD h]at e;exact .inl ⟨h,e⟩
  ·subst h;simp at e;exact .inr ⟨rfl,e.symm⟩
  ·rw[bD (by simp;omega)]at e;cases e
 refine⟨⟨g,by simp,λ i h1 h2=>?_,λ i o1 o2 e1 e2=>?_,λ b hb=>?_,λ b ob hb _ _=>by rw[zb (zE hb G)];exact hb⟩,λ i j Z oj Y ej mi mj e=>?_,λ i C e=>?_,λ i C e=>?_,r.tab.new G⟩
 ·rw[aR,c8]at h2
  rw[if_pos (by omega)];exact G
 ·rcases key i o2 e2 with⟨_,e⟩|⟨y,_⟩
  ·rw[e1]at e;cases e;rfl
  ·have:=(ac.mp e1).1;omega
 ·unfold upd;split
  ·simp
  ·exact hb
 ·rcases key i Z Y with⟨y,Y⟩|⟨y,rfl⟩<;>rcases key j oj ej with⟨hj,ej⟩|⟨hj,ej'⟩
  ·rw[if_neg (ay y),if_neg (ay hj)]at e
   exact r.inj i j Z oj Y ej mi mj e
  ·rw[if_neg (ay y),if_pos hj]at e
   obtain⟨u,J,_,_⟩:=(r.obj i Z Y).there mi
   rw[e,G]at J;cases J
  ·rw[if_neg (ay hj),if_pos y]at e
   obtain⟨u,J,_,_⟩:=(r.obj j oj ej).there mj
   rw[<-e,G]at J;cases J
  ·rw[y,hj]
 ·rcases key i C e with⟨y,e⟩|⟨y,rfl⟩
  ·show RO Γ _ _ (if i=s.length then p else φ i) C
   rw[if_neg (ay y)]
   exact(r.obj i C e).mono g (r.wf i C e) λ _ v hv=>by rw[zb (zE hv G)];exact hv
  ·show RO Γ _ _ (if i=s.length then p else φ i) C
   rw[if_pos y]
   exact ho _ _ g zn
 ·rw[aR,c8]
  rcases key i C e with⟨y,e⟩|⟨y,rfl⟩
  ·exact qD (dk _) _ (r.wf i C e)
  ·exact qD (dk _) _ hb
theorem Rp.set {φ:Nat->Addr}{H:Hp}{s:kK}{k:Nat}{u:HO}{o C:lf}(r:Rp Γ φ H s)(hk:s[k]?=some C)(Y:isMut C=true)(hb:o.bnd s.length=true)
  (ho:∀ H',Gw φ s.length H φ H'->H' (φ k)=some u->RO Γ φ H' (φ k) o) (a0:okd o=okd C:=by rfl):Gr φ s H φ (s.set k o) (upd H (φ k) u)/\Rp Γ φ (upd H (φ k) u) (s.set k o):=by
 obtain⟨v0,J,f0,a1⟩:=(r.obj k C hk).there Y
 have Z:k<s.length:=(ac.mp hk).1
 have g:Gw φ s.length H φ (upd H (φ k) u):=⟨λ _ _=>rfl,(Kp.refl H).put J f0⟩
 have key:∀ i y,(s.set k o)[i]?=some y->(i≠k/\s[i]?=some y)\/(i=k/\y=o):=λ i y e=>by
  by_cases h:i=k
  ·subst h;rw[aY Z]at e;exact .inr ⟨rfl,(aw e).symm⟩
  ·rw[be (bT h)]at e;exact .inl ⟨h,e⟩
 have mm:∀ i y,(s.set k o)[i]?=some y->isMut y=true->∃ G,s[i]?=some G/\isMut G=true:=λ i y e m=>by
  rcases key i y e with⟨_,e⟩|⟨h,_⟩
  ·exact⟨y,e,m⟩
  ·exact⟨C,by rw[h];exact hk,Y⟩
 refine⟨⟨g,by simp,λ i h1 h2=>by rw[bA]at h2;omega,λ i o1 o2 e1 e2=>?_,λ b hb=>?_,λ b ob hb nt ne=>by rw[zb (bT (ne k C hk Y))];exact hb⟩,λ i j oi oj ei ej mi mj e=>?_,λ i y e=>?_,λ i y e=>?_,r.tab.keepF λ b v hv q=>?_⟩
 ·rcases key i o2 e2 with⟨_,e⟩|⟨h,rfl⟩
  ·rw[e1]at e;cases e;rfl
  ·subst h;rw[hk]at e1;cases e1;exact a0
 ·unfold upd;split
  ·simp
  ·exact hb
 ·obtain⟨o1,e1,m1⟩:=mm i oi ei mi
  obtain⟨o2,e2,m2⟩:=mm j oj ej mj
  exact r.inj i j o1 o2 e1 e2 m1 m2 e
 ·rcases key i y e with⟨h,e⟩|⟨h,rfl⟩
  ·refine(r.obj i y e).mono g (r.wf i y e) λ m v hv=>?_
   rw[zb λ z=>h (r.inj i k y C e hk m Y z)];exact hv
  ·subst h
   exact ho _ g zn
 ·rw[bA]
  rcases key i y e with⟨_,e⟩|⟨_,rfl⟩
  ·exact r.wf i y e
  ·exact hb
 ·rw[zb λ z=>by
   subst z;rw[J]at q;cases q
   rcases hv with h|⟨ps,h⟩
   ·rw[f0]at h;cases h
   ·exact a1 _ h]
  exact q
theorem Rp.same {φ:Nat->Addr}{H H':Hp}{s:kK}(r:Rp Γ φ H s)(e:Same H H'):Gr φ s H φ s H'/\Rp Γ φ H' s:=by
 have g:Gw φ s.length H φ H':=⟨λ _ _=>rfl,λ b o h _=>e b o h⟩
 exact⟨⟨g,ah _,λ i J y=>absurd y (by omega),λ i o G e e'=>by rw[e]at e';cases e';rfl,λ b hb=>by
  cases q:H b with
  | none=>exact absurd q hb
  | some o=>rw[e b o q];simp,λ b o h _ _=>e b o h⟩,r.inj,λ i o h=>(r.obj i o h).mono g (r.wf i o h) λ _ u C=>e _ u C,r.wf,r.tab.same e⟩
section
variable {φ:Nat->Addr} {H:Hp} {s:kK} {Q:VK}
theorem After.alloc {l:List kL}{y:List V}(h:After Γ φ s H (.ref s.length) (s++[.lst l]) Q)(r:Rp Γ φ H s)(hl:RVL Γ φ H l y)(hb:kM s.length l=true){p:Addr}(C:H p=none):Q (.ref p) (upd H p (.lst y)):=by
 obtain⟨g,G⟩:=r.new (o:=.lst l) (u:=.lst y) C hb λ φ' H' g e=>⟨y,e,RVL.monoW g l y hb hl⟩
 have:=h (.ref p) _ _ g (by simp) (by unfold kO;simp) (by unfold RV;simp) G
 exact this
theorem After.tup {l:List kL}{y:List V}(h:After Γ φ s H (.tup l) s Q)(r:Rp Γ φ H s)(hl:RVL Γ φ H l y)(hb:kM s.length l=true){p:Addr}(C:H p=none):Q (.ref p) (upd H p (.tup y)):=by
 obtain⟨g,G⟩:=r.same (H':=upd H p (.tup y)) ((Same.refl H).new C)
 exact h _ _ _ g (ah _) (by unfold kO;exact hb) (RV.tupI (SqT.of zn) (RVL.mono g l y hb hl)) G
theorem After.put {k:Nat}{l l0:List kL}{y:List V}{d:kL}{v:V}(h:After Γ φ s H d (s.set k (.lst l)) Q)(r:Rp Γ φ H s)(hk:s[k]?=some (.lst l0))(hl:RVL Γ φ H l y)(hb:kM s.length l=true)
  (hd:d.bnd s.length=true) (hv:RV Γ φ H d v):Q v (upd H (φ k) (.lst y)):=by
 obtain⟨g,C⟩:=r.set (o:=.lst l) (u:=.lst y) hk rfl hb λ H' g e=>⟨y,e,RVL.monoW g l y hb hl⟩
 exact h _ _ _ g (by simp) (by rw[bA];exact hd) (RV.mono g d v hd hv) C
end
variable {Γ:Gm}
theorem keyOf_inj {a b:kL}{k:Key}(ha:keyOf a=some k)(hb:keyOf b=some k):a=b:=by
 cases a with
 | int i =>
  cases ha
  cases b with
  | int j=>cases hb;rfl
  | str y=>cases hb
  | _=>cases hb
 | str x =>
  cases ha
  cases b with
  | int j=>cases hb
  | str y =>
   have h:=aw hb
   injection h with h
   injection h with h
   have C:y=x:=by simpa using h
   rw[C]
  | _=>cases hb
 | _=>cases ha
theorem key_some {d:kL}(h:d.key=true):∃ k,keyOf d=some k:=by
 cases d with
 | int i=>exact⟨_,rfl⟩
 | str x=>exact⟨_,rfl⟩
 | _=>cases h
theorem key_kV {φ:Nat->Addr}{H:Hp}{d:kL}{k:Key}{v:V}(h:keyOf d=some k)(r:RV Γ φ H d v):v=kV k:=by
 cases d with
 | int i=>cases h;exact r.intE
 | str x=>cases h;exact r.strE
 | _=>cases h
theorem RVD.val {φ:Nat->Addr}{H:Hp}{d:kL}{k:Key}(hk:keyOf d=some k):∀ {l:List (kL×kL)} {y:List (Key×V)},RVD Γ φ H l y->(lq d l=none/\valV y k=none)\/∃ e v,lq d l=some e/\valV y k=some v/\RV Γ φ H e v/\e∈l.map (·.2)
 | [],y,h=>by
  have h:y=[]:=h
  subst h
  exact .inl ⟨rfl,rfl⟩
 | (a,e)::l,y,h=>by
  obtain⟨C,v,r,rfl,e2,J,G⟩:=h
  by_cases z:a=d
  ·subst z
   rw[hk]at e2;cases e2
   exact .inr ⟨e,v,by unfold lq;rw[if_pos rfl],valV_pos rfl,J,by simp⟩
  ·have zk:¬ C=k:=λ q=>z (keyOf_inj e2 (by rw[q];exact hk))
   have Y:lq d ((a,e)::l)=lq d l:=by
    conv=>lhs;unfold lq
    rw[if_neg z]
   rw[Y,valV_neg (show ¬(C,v).1=k from zk)]
   rcases RVD.val hk G with q|⟨e',v',Z,q2,q3,q4⟩
   ·exact .inl q
   ·exact .inr ⟨e',v',Z,q2,q3,by simp at q4 ⊢;exact .inr q4⟩
theorem RVD.repl {φ:Nat->Addr}{H:Hp}{d e:kL}{k:Key}{v:V}(hk:keyOf d=some k)(hv:RV Γ φ H e v):∀ {l:List (kL×kL)} {y:List (Key×V)},RVD Γ φ H l y->RVD Γ φ H (l.map λ p=>if p.1=d then(p.1,e)else p) (y.map λ C=>if C.1=k then(C.1,v)else C)
 | [],y,h=>by
  have h:y=[]:=h
  subst h;exact(rfl:([]:List (Key×V))=[])
 | (a,e0)::l,y,h=>by
  obtain⟨G,v0,r,rfl,e2,Y,J⟩:=h
  rw[aN,aN]
  by_cases z:a=d
  ·subst z
   rw[hk]at e2;cases e2
   rw[if_pos rfl,if_pos rfl]
   exact⟨k,v,_,rfl,hk,hv,RVD.repl hk hv J⟩
  ·have Z:¬ G=k:=λ q=>z (keyOf_inj e2 (by rw[q];exact hk))
   rw[if_neg z,if_neg Z]
   exact⟨G,v0,_,rfl,e2,Y,RVD.repl hk hv J⟩
theorem RVD.snoc {φ:Nat->Addr}{H:Hp}{d e:kL}{k:Key}{v:V}(hk:keyOf d=some k)(hv:RV Γ φ H e v):∀ {l:List (kL×kL)} {y:List (Key×V)},RVD Γ φ H l y->RVD Γ φ H (l++[(d,e)]) (y++[(k,v)])
 | [],y,h=>by
  have h:y=[]:=h
  subst h;exact⟨k,v,[],rfl,hk,hv,rfl⟩
 | (a,e0)::l,y,h=>by
  obtain⟨C,v0,r,rfl,e2,J,G⟩:=h
  exact⟨C,v0,_,rfl,e2,J,RVD.snoc hk hv G⟩
theorem RVD.put {φ:Nat->Addr}{H:Hp}{d e:kL}{k:Key}{v:V}{l:List (kL×kL)}{y:List (Key×V)}(hk:keyOf d=some k)(hv:RV Γ φ H e v)(h:RVD Γ φ H l y):RVD Γ φ H (lb d e l) (putK y k v):=by
 unfold lb putK
 rw[valV_any]
 rcases h.val hk with⟨C,q2⟩|⟨e',v',C,q2,_⟩
 ·rw[C,q2];exact h.snoc hk hv
 ·rw[C,q2];exact h.repl hk hv
theorem RVD.length {φ:Nat->Addr}{H:Hp}:∀ {l:List (kL×kL)} {y:List (Key×V)},RVD Γ φ H l y->y.length=l.length
 | [],y,h=>by
  have h:y=[]:=h
  subst h;rfl
 | (a,e)::l,y,h=>by
  obtain⟨G,v,r,rfl,e2,J,C⟩:=h
  rw[aW,aW,RVD.length C]
theorem putD_bnd {n:Nat}{d e:kL}{l:List (kL×kL)}(h:(DV.O.dic l).bnd n=true)(hd:d.bnd n=true)(G:e.bnd n=true):(DV.O.dic (lb d e l)).bnd n=true:=by
 unfold kR at h ⊢
 rw[aq]at h ⊢
 obtain⟨Y,J⟩:=h
 have g1:=bndL_iff.mp Y
 have C:=bndL_iff.mp J
 unfold lb
 refine⟨bndL_iff.mpr λ x hx=>?_,bndL_iff.mpr λ x hx=>?_⟩
 ·obtain⟨p,y,rfl⟩:=aB.mp hx
  split at y
  ·obtain⟨q,hq,rfl⟩:=aB.mp y
   split
   ·exact g1 _ (bp (f:=(·.1)) hq)
   ·exact g1 _ (bp (f:=(·.1)) hq)
  ·rcases bK.mp y with q|q
   ·exact g1 _ (bp (f:=(·.1)) q)
   ·rw[aZ.mp q];exact hd
 ·obtain⟨p,y,rfl⟩:=aB.mp hx
  split at y
  ·obtain⟨q,hq,rfl⟩:=aB.mp y
   split
   ·exact G
   ·exact C _ (bp (f:=(·.2)) hq)
  ·rcases bK.mp y with q|q
   ·exact C _ (bp (f:=(·.2)) q)
   ·rw[aZ.mp q];exact G
theorem eqL_cons {f:kL->kL->Option Bool}{a b:kL}{l m:List kL}{z:Bool}(h:k7 f (a::l) (b::m)=some z):∃ x y,f a b=some x/\k7 f l m=some y/\z=(x&&y):=by
 unfold k7 at h
 cases e1:f a b with
 | none=>rw[e1]at h;cases h
 | some x =>
  cases e2:k7 f l m with
  | none=>rw[e1,e2]at h;cases h
  | some y=>rw[e1,e2]at h;exact⟨x,y,rfl,rfl,(aw h).symm⟩
theorem eqL_at {f:kL->kL->Option Bool}:∀ {l m:List kL} {z:Bool},k7 f l m=some z->∃ e:Nat->Bool,(∀ j d d',l[j]?=some d->m[j]?=some d'->f d d'=some (e j))/\((l.length==m.length)&&(ae (min l.length m.length)).all e)=z
 | [],[],z,h=>by
  unfold k7 at h
  cases h
  exact⟨λ _=>true,λ j d d' h=>by simp at h,by simp⟩
 | [],b::m,z,h=>by
  unfold k7 at h
  cases h
  exact⟨λ _=>true,λ j d d' h=>by simp at h,by simp⟩
 | a::l,[],z,h=>by
  unfold k7 at h
  cases h
  exact⟨λ _=>true,λ j d d' J C=>by simp at C,by simp⟩
 | a::l,b::m,z,h=>by
  obtain⟨x,y,e1,e2,Y⟩:=eqL_cons h
  obtain⟨e,J,C⟩:=eqL_at e2
  refine⟨λ j=>match j with|0=>x|j+1=>e j,λ j d d' g1 G=>?_,?_⟩
  ·cases j with
   | zero=>simp at g1 G;subst g1;subst G;exact e1
   | succ j=>exact J j d d' (by simpa using g1) (by simpa using G)
  ·rw[aW,aW,show min (l.length+1) (m.length+1)=min l.length m.length+1 by omega,gr,eA,List.all_map,Y,<-C]
   have:((l.length+1==m.length+1)=(l.length==m.length)):=by
    by_cases q:l.length=m.length
    ·simp[q]
    ·have:¬ l.length+1=m.length+1:=by omega
     simp[q]
   rw[this]
   show((l.length==m.length)&&(x&&(ae _).all e))=_
   cases x<;>cases(l.length==m.length)<;>simp
section
variable {X:Cx} {pins:List (Addr×Obj)} {σ:St} {H:Hp} {sh:af} {φ:Nat->Addr} {s:kK}
theorem lst_not_tup (I:Inv X pins σ H sh){a:Addr}{y ys:List V}(h:H a=some (.lst y))(h':SqT X.K H a ys):False:=by
 rcases h' with(z|⟨o,z⟩)|⟨o,its,n,hk,_⟩
 ·rw[h]at z;cases z
 ·rw[h]at z;cases z
 ·have:=(I.bs a o (I.mod.kin a o hk)).2
  rw[h]at this;cases this
theorem rv_two (I:Inv X pins σ H sh)(hK:X.K=Γ.K)(R:Rp Γ φ H s){a b:kL}{x:V}(J:RV Γ φ H a x)(y:RV Γ φ H b x)(n1:k9 s a≠9)(C:k9 s b≠9):a=b\/∃ l m p Y,a=.tup l/\b=.tup m/\x=.ref p/\RVL Γ φ H l Y/\RVL Γ φ H m Y:=by
 have G:∀ {r:Nat},k9 s (.ref r)≠9->∃ l,s[r]?=some (.lst l):=λ {r} h=>by
  have h:(match s[r]? with|some (DV.O.lst l)=>4|_=>9:Nat)≠9:=h
  cases hs:s[r]? with
  | none=>rw[hs]at h;exact absurd rfl h
  | some o =>
   rw[hs]at h
   cases o with
   | lst l=>exact⟨l,rfl⟩
   | _=>exact absurd rfl h
 cases a with
 | non=>have e:=J.nonE;subst e;cases b with
  | non=>exact .inl rfl
  | bl _=>cases y.blE
  | int _=>cases y.intE
  | str _=>cases y.strE
  | tup _=>obtain⟨_,_,e,_⟩:=y.tupE;cases e
  | ref _=>cases y.refE
  | fn _=>exact absurd rfl C
  | clo _ _=>exact absurd rfl C
 | bl p=>have e:=J.blE;subst e;cases b with
  | non=>cases y.nonE
  | bl _=>cases y.blE;exact .inl rfl
  | int _=>cases y.intE
  | str _=>cases y.strE
  | tup _=>obtain⟨_,_,e,_⟩:=y.tupE;cases e
  | ref _=>cases y.refE
  | fn _=>exact absurd rfl C
  | clo _ _=>exact absurd rfl C
 | int p=>have e:=J.intE;subst e;cases b with
  | non=>cases y.nonE
  | bl _=>cases y.blE
  | int _=>cases y.intE;exact .inl rfl
  | str _=>cases y.strE
  | tup _=>obtain⟨_,_,e,_⟩:=y.tupE;cases e
  | ref _=>cases y.refE
  | fn _=>exact absurd rfl C
  | clo _ _=>exact absurd rfl C
 | str p=>have e:=J.strE;subst e;cases b with
  | non=>cases y.nonE
  | bl _=>cases y.blE
  | int _=>cases y.intE
  | str q =>
   have e':p.toArray=q.toArray:=Str.mk.inj (V.str.inj y.strE)
   have a0:p=q:=by simpa using congrArg iM e'
   subst a0;exact .inl rfl
  | tup _=>obtain⟨_,_,e,_⟩:=y.tupE;cases e
  | ref _=>cases y.refE
  | fn _=>exact absurd rfl C
  | clo _ _=>exact absurd rfl C
 | tup l =>
  obtain⟨p,Y,e,Z,d1⟩:=J.tupE;subst e;cases b with
  | non=>cases y.nonE
  | bl _=>cases y.blE
  | int _=>cases y.intE
  | str _=>cases y.strE
  | tup m =>
   obtain⟨p',ys,e,q2,d2⟩:=y.tupE
   cases e
   rw[<-hK]at Z q2
   rw[I.tuple_inj q2 Z]at d2
   exact .inr ⟨l,m,p,Y,rfl,rfl,rfl,d1,d2⟩
  | ref r =>
   cases y.refE
   obtain⟨m,hm⟩:=G C
   obtain⟨ys,hy,_⟩:=R.addr hm
   rw[<-hK]at Z
   exact(lst_not_tup I hy Z).elim
  | fn _=>exact absurd rfl C
  | clo _ _=>exact absurd rfl C
 | ref r =>
  have e:=J.refE;subst e
  obtain⟨l,hl⟩:=G n1
  obtain⟨Y,hx,_⟩:=R.addr hl
  cases b with
  | non=>cases y.nonE
  | bl _=>cases y.blE
  | int _=>cases y.intE
  | str _=>cases y.strE
  | tup m =>
   obtain⟨p',ys,e,q2,d2⟩:=y.tupE
   cases e
   rw[<-hK]at q2
   exact(lst_not_tup I hx q2).elim
  | ref r' =>
   obtain⟨m,hm⟩:=G C
   have e:φ r=φ r':=V.ref.inj y.refE
   rw[R.inj r r' _ _ hl hm rfl rfl e]
   exact .inl rfl
  | fn _=>exact absurd rfl C
  | clo _ _=>exact absurd rfl C
 | fn _=>exact absurd rfl n1
 | clo _ _=>exact absurd rfl n1
theorem jm {a b:kL}{z:Bool}(h:kW s a b=some z):lH a b=some z\/(lH a b=none/\ln (k9 s a) (k9 s b)=false/\z=false):=by
 unfold kW at h
 cases e:lH a b with
 | some w=>rw[e]at h;exact .inl h
 | none =>
  rw[e]at h
  cases q:ln (k9 s a) (k9 s b)with
  | true=>rw[q]at h;cases h
  | false=>rw[q]at h;exact .inr ⟨rfl,rfl,(aw h).symm⟩
theorem eqLit_kd {a b:kL}{z:Bool}(h:lH a b=some z):k9 s a≠9/\k9 s b≠9:=by
 cases a<;>cases b<;>first|(cases h;done)|(constructor<;>(intro z;cases z))
theorem eqAtom_kd {a b:kL}{z:Bool}(h:kW s a b=some z):k9 s a≠9/\k9 s b≠9:=by
 rcases jm h with h|⟨_,h,_⟩
 ·exact eqLit_kd h
 ·unfold ln at h
  simp only[eD,beq_eq_false_iff_ne]at h
  exact⟨h.1.1,h.1.2⟩
theorem eqAtom_self {a:kL}{z:Bool}(h:kW s a a=some z):z=true:=by
 rcases jm h with h|⟨_,h,_⟩
 ·cases a<;>cases h<;>first|rfl|exact beq_self_eq_true _
 ·unfold ln at h;simp at h
theorem eqv_same (I:Inv X pins σ H sh)(hK:X.K=Γ.K)(R:Rp Γ φ H s):∀(n:Nat) (a b:kL) (x:V) (z:Bool),kU s n a b=some z->RV Γ φ H a x->RV Γ φ H b x->z=true:=by
 have J:∀(a b:kL) (x:V) (z:Bool),kW s a b=some z->RV Γ φ H a x->RV Γ φ H b x->z=true:=by
  intro a b x z h y C
  rcases rv_two I hK R y C (eqAtom_kd h).1 (eqAtom_kd h).2 with e|⟨l,m,_,_,rfl,rfl,_⟩
  ·subst e;exact eqAtom_self h
  ·rcases jm h with h|⟨_,h,_⟩
   ·cases h
   ·unfold ln at h;simp[k9]at h
 intro n
 induction n with
 | zero=>intro a b x z h;unfold kU at h;exact J a b x z h
 | succ n ih =>
  have Y:∀(l m:List kL) (G:List V) (z:Bool),k7 (kU s n) l m=some z->RVL Γ φ H l G->RVL Γ φ H m G->z=true:=by
   intro l
   induction l with
   | nil =>
    intro m G z h y C
    cases m with
    | nil=>unfold k7 at h;exact(aw h).symm
    | cons b m=>obtain⟨x,r,e,_⟩:=C.uncons;rw[y.unnil]at e;cases e
   | cons a l ihl =>
    intro m G z h y C
    cases m with
    | nil=>obtain⟨x,r,e,_⟩:=y.uncons;rw[C.unnil]at e;cases e
    | cons b m =>
     obtain⟨p,q,e1,e2,ez⟩:=eqL_cons h
     obtain⟨v,r,rfl,g1,g2⟩:=y.uncons
     obtain⟨v',r',e,g3,g4⟩:=C.uncons
     cases e
     rw[ez,ih a b v p e1 g1 g3,ihl m r q e2 g2 g4];rfl
  intro a b x z h y C
  unfold kU at h
  split at h
  ·rename_i l m
   obtain⟨a,G,rfl,q1,d1⟩:=y.tupE
   obtain⟨b,ys,e,q2,d2⟩:=C.tupE
   cases e
   rw[<-hK]at q1 q2
   rw[I.tuple_inj q2 q1]at d2
   exact Y l m G z h d1 d2
  ·rename_i p q
   split at h
   ·rename_i l m hl hm
    obtain⟨G,e1,d1⟩:=R.addr hl
    obtain⟨ys,e2,d2⟩:=R.addr hm
    have e:=y.refE.symm.trans C.refE
    have e':φ p=φ q:=V.ref.inj e
    rw[e',e2]at e1
    have e3:ys=G:=by injection (aw e1)
    subst e3
    split at h
    ·exact Y l m ys z h d1 d2
    ·rename_i Z;exact absurd (d1.length.symm.trans d2.length) Z
   ·cases h
  ·exact J a b x z h y C
end
variable {Γ:Gm}
inductive Vw (sh:af):Nat->Value->Prop where
 | non:Vw sh 0 .none
 | bl (b:Bool):Vw sh 1 (.bool b)
 | int (i:Int) (t:Tok):Vw sh 1 (.int i t)
 | str (x:Str) (t:Tok):Vw sh 2 (.str x t)
 | tup {l:Addr} {items:Array Value} (h:sh.heap.IsTuple l items):Vw sh 3 (.ref l)
 | lst {l:Addr} {items:Array Value} (h:sh.heap.IsList l items):Vw sh 4 (.ref l)
theorem Vw.eq {A:aV}{sh:af}{k G:Nat}{u v:Value}(a:Vw sh k u)(b:Vw sh G v)(C:k≠G)(y:A.units<cLine):gu A sh u v false:=by
 cases a with
 | non=>cases b with
  | non=>exact absurd rfl C
  | bl b=>exact SeqAt.EqAt.none_bool b
  | int i t=>exact SeqAt.EqAt.none_int i t
  | str x t=>exact SeqAt.EqAt.none_str x t
  | tup h=>exact SeqAt.EqAt.none_tuple h y
  | lst h=>exact SeqAt.EqAt.none_list h y
 | bl a=>cases b with
  | non=>exact SeqAt.EqAt.bool_none a
  | bl b=>exact absurd rfl C
  | int i t=>exact absurd rfl C
  | str x t=>exact SeqAt.EqAt.bool_str a x t
  | tup h=>exact SeqAt.EqAt.bool_tuple a h y
  | lst h=>exact SeqAt.EqAt.bool_list a h y
 | int a q=>cases b with
  | non=>exact SeqAt.EqAt.int_none a q
  | bl b=>exact absurd rfl C
  | int i t=>exact absurd rfl C
  | str x t=>exact iu a q x t
  | tup h=>exact SeqAt.EqAt.int_tuple a q h y
  | lst h=>exact SeqAt.EqAt.int_list a q h y
 | str a q=>cases b with
  | non=>exact SeqAt.EqAt.str_none a q
  | bl b=>exact SeqAt.EqAt.str_bool a q b
  | int i t=>exact iw a q i t
  | str x t=>exact absurd rfl C
  | tup h=>exact SeqAt.EqAt.str_tuple a q h y
  | lst h=>exact SeqAt.EqAt.str_list a q h y
 | tup g=>cases b with
  | non=>exact SeqAt.EqAt.tuple_none g y
  | bl b=>exact SeqAt.EqAt.tuple_bool b g y
  | int i t=>exact SeqAt.EqAt.tuple_int i t g y
  | str x t=>exact SeqAt.EqAt.tuple_str x t g y
  | tup h=>exact absurd rfl C
  | lst h=>exact SeqAt.EqAt.tuple_list g h y
 | lst g=>cases b with
  | non=>exact SeqAt.EqAt.list_none g y
  | bl b=>exact SeqAt.EqAt.list_bool b g y
  | int i t=>exact SeqAt.EqAt.list_int i t g y
  | str x t=>exact SeqAt.EqAt.list_str x t g y
  | tup h=>exact SeqAt.EqAt.list_tuple g h y
  | lst h=>exact absurd rfl C
theorem Vw.rc {A:aV}{sh:af}{k G:Nat}{u v:Value}(a:Vw sh k u)(b:Vw sh G v)(C:k≠G)(y:A.units<cLine):kJ A sh u v false:=by
 cases a with
 | non=>cases b with
  | non=>exact absurd rfl C
  | bl b=>exact SeqAt.RcAt.none_bool b
  | int i t=>exact SeqAt.RcAt.none_int i t
  | str x t=>exact SeqAt.RcAt.none_str x t
  | tup h=>exact SeqAt.RcAt.none_tuple h y
  | lst h=>exact SeqAt.RcAt.none_list h y
 | bl a=>cases b with
  | non=>exact SeqAt.RcAt.bool_none a
  | bl b=>exact absurd rfl C
  | int i t=>exact absurd rfl C
  | str x t=>exact SeqAt.RcAt.bool_str a x t
  | tup h=>exact SeqAt.RcAt.bool_tuple a h y
  | lst h=>exact SeqAt.RcAt.bool_list a h y
 | int a q=>cases b with
  | non=>exact SeqAt.RcAt.int_none a q
  | bl b=>exact absurd rfl C
  | int i t=>exact absurd rfl C
  | str x t=>exact SeqAt.RcAt.int_str a q x t
  | tup h=>exact SeqAt.RcAt.int_tuple a q h y
  | lst h=>exact SeqAt.RcAt.int_list a q h y
 | str a q=>cases b with
  | non=>exact SeqAt.RcAt.str_none a q
  | bl b=>exact SeqAt.RcAt.str_bool a q b
  | int i t=>exact SeqAt.RcAt.str_int a q i t
  | str x t=>exact absurd rfl C
  | tup h=>exact SeqAt.RcAt.str_tuple a q h y
  | lst h=>exact SeqAt.RcAt.str_list a q h y
 | tup g=>cases b with
  | non=>exact SeqAt.RcAt.tuple_none g y
  | bl b=>exact SeqAt.RcAt.tuple_bool b g y
  | int i t=>exact SeqAt.RcAt.tuple_int i t g y
  | str x t=>exact SeqAt.RcAt.tuple_str x t g y
  | tup h=>exact absurd rfl C
  | lst h=>exact SeqAt.RcAt.tuple_list g h y
 | lst g=>cases b with
  | non=>exact SeqAt.RcAt.list_none g y
  | bl b=>exact SeqAt.RcAt.list_bool b g y
  | int i t=>exact SeqAt.RcAt.list_int i t g y
  | str x t=>exact SeqAt.RcAt.list_str x t g y
  | tup h=>exact SeqAt.RcAt.list_tuple g h y
  | lst h=>exact absurd rfl C
theorem Vw.ne {A:aV}{sh:af}{k G:Nat}{u v:Value}(a:Vw sh k u)(b:Vw sh G v)(C:k≠G)(y:A.units<cLine):kq A sh u v true:=by
 cases a with
 | non=>cases b with
  | non=>exact absurd rfl C
  | bl b=>exact SeqAt.RcNeAt.none_bool b
  | int i t=>exact SeqAt.RcNeAt.none_int i t
  | str x t=>exact SeqAt.RcNeAt.none_str x t
  | tup h=>exact SeqAt.RcNeAt.none_tuple h y
  | lst h=>exact SeqAt.RcNeAt.none_list h y
 | bl a=>cases b with
  | non=>exact SeqAt.RcNeAt.bool_none a
  | bl b=>exact absurd rfl C
  | int i t=>exact absurd rfl C
  | str x t=>exact SeqAt.RcNeAt.bool_str a x t
  | tup h=>exact SeqAt.RcNeAt.bool_tuple a h y
  | lst h=>exact SeqAt.RcNeAt.bool_list a h y
 | int a q=>cases b with
  | non=>exact SeqAt.RcNeAt.int_none a q
  | bl b=>exact absurd rfl C
  | int i t=>exact absurd rfl C
  | str x t=>exact SeqAt.RcNeAt.int_str a q x t
  | tup h=>exact SeqAt.RcNeAt.int_tuple a q h y
  | lst h=>exact SeqAt.RcNeAt.int_list a q h y
 | str a q=>cases b with
  | non=>exact SeqAt.RcNeAt.str_none a q
  | bl b=>exact SeqAt.RcNeAt.str_bool a q b
  | int i t=>exact SeqAt.RcNeAt.str_int a q i t
  | str x t=>exact absurd rfl C
  | tup h=>exact SeqAt.RcNeAt.str_tuple a q h y
  | lst h=>exact SeqAt.RcNeAt.str_list a q h y
 | tup g=>cases b with
  | non=>exact SeqAt.RcNeAt.tuple_none g y
  | bl b=>exact SeqAt.RcNeAt.tuple_bool b g y
  | int i t=>exact SeqAt.RcNeAt.tuple_int i t g y
  | str x t=>exact SeqAt.RcNeAt.tuple_str x t g y
  | tup h=>exact absurd rfl C
  | lst h=>exact SeqAt.RcNeAt.tuple_list g h y
 | lst g=>cases b with
  | non=>exact SeqAt.RcNeAt.list_none g y
  | bl b=>exact SeqAt.RcNeAt.list_bool b g y
  | int i t=>exact SeqAt.RcNeAt.list_int i t g y
  | str x t=>exact SeqAt.RcNeAt.list_str x t g y
  | tup h=>exact SeqAt.RcNeAt.list_tuple g h y
  | lst h=>exact absurd rfl C
theorem mk_beq (a b:List Nat):((⟨a.toArray⟩:Str)==⟨b.toArray⟩)=(a==b):=by
 by_cases e:a=b
 ·subst e;simp
 ·have:(⟨a.toArray⟩:Str)≠⟨b.toArray⟩:=λ q=>e (by simpa using congrArg (λ z=>z.cps.toList) q)
  rw[beq_eq_false_iff_ne.mpr this,beq_eq_false_iff_ne.mpr e]
structure Cmp (A:aV)(sh:af)(u v:Value)(z:Bool):Prop where
 rc:kJ A sh u v z
 ne:kq A sh u v (!z)
section
variable {X:Cx} {pins:List (Addr×Obj)} {σ:St} {H:Hp} {sh:af} {φ:Nat->Addr} {s:kK}
theorem vw_of (I:Inv X pins σ H sh)(C:X.K=Γ.K)(R:Rp Γ φ H s){d:kL}{x:V}{u:Value}(h:RV Γ φ H d x)(r:RelV x u)(hk:k9 s d≠9):Vw sh (k9 s d) u:=by
 cases d with
 | non=>have e:=h.nonE;subst e;cases r;exact .non
 | bl b=>have e:=h.blE;subst e;cases r;exact .bl b
 | int i=>have e:=h.intE;subst e;obtain⟨t,rfl⟩:=r;exact .int i t
 | str y=>have e:=h.strE;subst e;obtain⟨t,rfl⟩:=r;exact .str _ t
 | tup l =>
  obtain⟨a,G,e,q,_⟩:=h.tupE
  subst e;cases r
  rw[<-C]at q
  obtain⟨its,_,t,_⟩:=I.tuple q
  exact .tup t
 | ref n =>
  have e:=h.refE;subst e;cases r
  have hk:(match s[n]? with|some (DV.O.lst l)=>4|_=>9:Nat)≠9:=hk
  show Vw sh (match s[n]? with|some (DV.O.lst l)=>4|_=>9:Nat) _
  cases hs:s[n]? with
  | none=>rw[hs]at hk;exact absurd rfl hk
  | some o =>
   rw[hs]at hk
   cases o with
   | lst l =>
    obtain⟨G,e,_⟩:=R.addr hs
    obtain⟨its,_,t,_⟩:=I.list (SqL.of e)
    exact .lst t.isList
   | _=>exact absurd rfl hk
 | fn _=>exact absurd rfl hk
 | clo _ _=>exact absurd rfl hk
theorem eqAtom_ok (I:Inv X pins σ H sh)(hK:X.K=Γ.K)(R:Rp Γ φ H s){a b:kL}{x y:V}{u v:Value}{A:aV}{z:Bool}(h:kW s a b=some z)(G:RV Γ φ H a x)(C:RV Γ φ H b y)(r1:RelV x u)(J:RelV y v)(Y:A.units<cLine) :
  gu A sh u v z/\Cmp A sh u v z:=by
 rcases jm h with h|⟨_,hn,hz⟩
 ·cases a<;>cases b<;>try cases h
  ·cases G.nonE;cases C.nonE;cases r1;cases J
   exact⟨gG _,SeqAt.RcAt.none_none,SeqAt.RcNeAt.none_none⟩
  ·cases G.blE;cases C.blE;cases r1;cases J
   exact⟨SeqAt.EqAt.bool_bool _ _,SeqAt.RcAt.bool_bool _ _,SeqAt.RcNeAt.bool_bool _ _⟩
  ·cases G.blE;cases C.intE;cases r1;obtain⟨t',rfl⟩:=J
   exact⟨SeqAt.EqAt.bool_int _ _ _,SeqAt.RcAt.bool_int _ _ _,SeqAt.RcNeAt.bool_int _ _ _⟩
  ·cases G.intE;cases C.blE;obtain⟨t,rfl⟩:=r1;cases J
   exact⟨SeqAt.EqAt.int_bool _ _ _,SeqAt.RcAt.int_bool _ _ _,SeqAt.RcNeAt.int_bool _ _ _⟩
  ·cases G.intE;cases C.intE;obtain⟨t,rfl⟩:=r1;obtain⟨t',rfl⟩:=J
   exact⟨SeqAt.EqAt.int_int _ _ _ _,SeqAt.RcAt.int_int _ _ _ _,SeqAt.RcNeAt.int_int _ _ _ _⟩
  ·cases G.strE;cases C.strE;obtain⟨t,rfl⟩:=r1;obtain⟨t',rfl⟩:=J
   rw[<-mk_beq]
   exact⟨SeqAt.EqAt.str_str _ _ _ _,SeqAt.RcAt.str_str _ _ _ _,SeqAt.RcNeAt.str_str _ _ _ _⟩
 ·subst hz
  unfold ln at hn
  simp only[eD,beq_eq_false_iff_ne]at hn
  have Z:=vw_of I hK R G r1 hn.1.1
  have w2:=vw_of I hK R C J hn.1.2
  exact⟨Z.eq w2 hn.2 Y,Z.rc w2 hn.2 Y,Z.ne w2 hn.2 Y⟩
theorem eqv_ok (I:Inv X pins σ H sh)(hK:X.K=Γ.K)(R:Rp Γ φ H s):∀(n:Nat) (a b:kL) (x y:V) (u v:Value) (A:aV) (z:Bool),kU s n a b=some z->RV Γ φ H a x->RV Γ φ H b y->RelV x u->RelV y v->Room n A ->
  gu A sh u v z/\Cmp A sh u v z:=by
 intro n
 induction n with
 | zero=>intro a b x y u v A z h h1 h2 r1 r2 G;unfold kU at h;exact eqAtom_ok I hK R h h1 h2 r1 r2 G.units0
 | succ n ih =>
  have C:∀ {l m:List kL} {xs ys:List V} {its its':List Value} {A:aV} {e:Nat->Bool},RVL Γ φ H l xs->RVL Γ φ H m ys->Vals xs its->Vals ys its'->Room n A->(∀ j d d',l[j]?=some d->m[j]?=some d'->kU s n d d'=some (e j)) ->
    ∀ j (h1:j<its.toArray.size) (h2:j<its'.toArray.size),gu A sh its.toArray[j] its'.toArray[j] (e j):=by
   intro l m xs ys its its' A e d1 d2 Z v2 G he j h1 h2
   have l1:=Z.length
   have l2:=v2.length
   have e1:=d1.length
   have e2:=d2.length
   have a2:j<its.length:=by simpa using h1
   have a3:j<its'.length:=by simpa using h2
   have hj:j<l.length:=by omega
   have a1:j<m.length:=by omega
   obtain⟨x,ex,dx⟩:=d1.get (ag hj)
   obtain⟨y,ey,dy⟩:=d2.get (ag a1)
   obtain⟨u,eu,ru⟩:=Z.get ex
   obtain⟨w,ew,a4⟩:=v2.get ey
   have g1:its.toArray[j]=u:=by
    have:=ag a2
    rw[eu]at this
    simpa using(aw this).symm
   have g2:its'.toArray[j]=w:=by
    have:=ag a3
    rw[ew]at this
    simpa using(aw this).symm
   rw[g1,g2]
   exact(ih _ _ x y u w A (e j) (he j _ _ (ag hj) (ag a1)) dx dy ru a4 G).1
  intro a b x y u v A z h h1 h2 r1 r2 G
  have hz:=h
  unfold kU at h
  split at h
  ·rename_i l m
   obtain⟨p,xs,ex,q1,d1⟩:=id h1.tupE
   obtain⟨q,ys,ey,q2,d2⟩:=id h2.tupE
   subst ex;subst ey
   cases r1;cases r2
   rw[<-hK]at q1 q2
   obtain⟨its,Z,t1,_⟩:=I.tuple q1
   obtain⟨its',v2,t2,_⟩:=I.tuple q2
   obtain⟨e,he,J⟩:=eqL_at h
   have l1:=Z.length
   have l2:=v2.length
   have e1:=d1.length
   have e2:=d2.length
   have sz:((ae (min its.toArray.size its'.toArray.size)).all e&&its.toArray.size==its'.toArray.size)=z:=by
    rw[<-J,Bool.and_comm,show its.toArray.size=l.length by simp;omega,show its'.toArray.size=m.length by simp;omega]
   have key:=SeqAt.RcAt.tuples (A:=A) (s:=sh) (e:=e) t1 t2 G.units0 (C d1 d2 Z v2 G.in1 he)
   have Y:=SeqAt.RcNeAt.tuples (A:=A) (s:=sh) (e:=e) t1 t2 G.units0 (C d1 d2 Z v2 G.in1 he)
   rw[sz]at key Y
   refine⟨?_,key,Y⟩
   by_cases hab:p=q
   ·subst hab
    rw[eqv_same I hK R _ _ _ _ _ hz h1 h2]
    exact gG _
   ·exact iJ hab key
  ·rename_i p q
   split at h
   ·rename_i l m hl hm
    obtain⟨xs,e1,d1⟩:=R.addr hl
    obtain⟨ys,e2,d2⟩:=R.addr hm
    have ex:=h1.refE
    have ey:=h2.refE
    subst ex;subst ey
    cases r1;cases r2
    obtain⟨its,Z,t1,_⟩:=I.list (SqL.of e1)
    obtain⟨its',v2,t2,_⟩:=I.list (SqL.of e2)
    have l1:=Z.length
    have l2:=v2.length
    have c1:=d1.length
    have c2:=d2.length
    have fin:Cmp A sh (.ref (φ p)) (.ref (φ q)) z:=by
     split at h
     ·rename_i a0
      obtain⟨e,he,J⟩:=eqL_at h
      have sz:(ae its.toArray.size).all e=z:=by
       rw[<-J,show its.toArray.size=l.length by simp;omega,a0]
       simp
      have key:=SeqAt.RcAt.lists (A:=A) (s:=sh) (e:=e) t1.isList t2.isList (by simp;omega) G.units0 (C d1 d2 Z v2 G.in1 he)
      have Y:=SeqAt.RcNeAt.lists (A:=A) (s:=sh) (e:=e) t1.isList t2.isList (by simp;omega) G.units0 (C d1 d2 Z v2 G.in1 he)
      rw[sz]at key Y
      exact⟨key,Y⟩
     ·rename_i a0
      cases h
      have hs:(its.toArray.size != its'.toArray.size)=true:=by simp;omega
      exact⟨SeqAt.RcAt.lists_lengths t1.isList t2.isList hs G.units0,SeqAt.RcNeAt.lists_lengths t1.isList t2.isList hs G.units0⟩
    refine⟨?_,fin⟩
    by_cases hab:φ p=φ q
    ·rw[eqv_same I hK R _ _ _ _ _ hz RV.refI (by rw[hab];exact RV.refI),hab]
     exact gG _
    ·exact iJ hab fin.rc
   ·cases h
  ·exact eqAtom_ok I hK R h h1 h2 r1 r2 G.units0
end
variable {Γ:Gm} {X:Cx}
noncomputable def opOf:mr->Operator
 | .add=>.Add|.sub=>.Sub|.mul=>.Mult|.fdiv=>.FloorDiv|.mod=>.Mod|.pow=>.Pow|.shl=>.LShift|.shr=>.RShift|.band=>.BitAnd|.bor=>.BitOr
noncomputable def copOf:l8->CmpOp
 | .eq=>.Eq|.ne=>.NotEq|.lt=>.Lt|.le=>.LtE|.gt=>.Gt|.ge=>.GtE|.isin=>.In|.notin=>.NotIn
noncomputable def rOp (Γ:Gm)(f:kL->kL->kK->kP kL):R2:=λ x y H Q=>∃ φ s a b d s',Rp Γ φ H s/\RV Γ φ H a x/\RV Γ φ H b y/\a.bnd s.length=true/\b.bnd s.length=true/\f a b s=.ok d s'/\After Γ φ s H d s' Q
theorem qr {d e:kL}{s t:kK}(h:l9 d s=.ok e t):d=e/\s=t:=by
 unfold l9 at h
 cases h
 exact⟨rfl,rfl⟩
theorem qI {o:lf}{e:kL}{s t:kK}(h:lj o s=.ok e t):e=.ref s.length/\t=s++[o]:=by
 unfold lj at h
 cases h
 exact⟨rfl,rfl⟩
theorem str_app (a b:List Nat):(⟨a.toArray⟩:Str)++⟨b.toArray⟩=⟨(a++b).toArray⟩:=by
 show Str.append _ _=_
 unfold Str.append
 simp
theorem qN:kT<=aI:=by rw[fm];decide
theorem op_mulB:OpR X (b7 .Mult) (rI (λ i j=>DV.mulOk i j=true) λ i j=>.int (i*j)):=opI λ i j _ _ _ _ _ hc q=>mul_int q (by
 unfold DV.mulOk at hc
 simp only[bO,aq,decide_eq_true_eq]at hc
 rcases hc with(h|h)|⟨y,C⟩
 ·exact CMul.ok (.inl (by omega))
 ·exact CMul.ok (.inr (by omega))
 ·unfold DV.BIG at y C
  exact IntMulOk.of_le (m:=60000) (n:=60000) (intBits_le_iff.mpr y) (intBits_le_iff.mpr C) (by decide))
theorem rep_fold (l:List Nat):∀(n:Nat) (h:Array Nat),(ao n l.toArray).foldl (·++·) h=h++(k8 n l).toArray
 | 0,h=>by simp[k8]
 | n+1,h=>by
  rw[bM,ci,rep_fold l n]
  simp[k8,iy]
theorem rep_one (l:List Nat):k8 1 l=l:=by simp[k8]
theorem rep_nil:∀ n,k8 n []=[]
 | 0=>rfl
 | n+1=>by simp[k8,rep_nil n]
theorem rep_len (l:List Nat):∀ n,(k8 n l).length=l.length*n
 | 0=>by simp[k8]
 | n+1=>by simp[k8,rep_len l n,dQ];omega
theorem op_mulS:OpR X (b7 .Mult) (λ x y H Q=>∃(l:List Nat) (n:Int),x=.str ⟨l.toArray⟩/\y=.int n/\(0<=n/\n<=1000000/\l.length*n.toNat<=kT)/\Q (.str ⟨(k8 n.toNat l).toArray⟩) H):=by
 intro J s σ H x y v u Q I rx Z h
 obtain⟨l,n,rfl,rfl,⟨h0,Y,h2⟩,q⟩:=h
 obtain⟨t,rfl⟩:=rx
 obtain⟨t',rfl⟩:=Z
 have C:(⟨l.toArray⟩:Str).length=l.length:=by show l.toArray.size=_;simp
 have hL:=qN
 have a1:=line63
 refine SB.mul ⟨?_,λ hn _=>?_,λ hn _=>?_⟩ λ t2 k=>?_
 ·rw[decide_eq_false (by omega),decide_eq_false (by omega)];rfl
 ·rw[C]
  have G:1<=n:=by omega
  intro a0
  have h3:(l.length:Int)*n<=1000000:=by
   have:((l.length*n.toNat:Nat):Int)<=(kT:Nat):=Int.ofNat_le.mpr h2
   rw[gF,ie h0]at this
   have e:((kT:Nat):Int)=1000000:=by unfold kT;rfl
   omega
  have h4:(l.length:Int)<=1000000:=by
   have:(l.length:Int)*1<=(l.length:Int)*n:=eF G (by omega)
   omega
  have h5:(1000000:Int)<=(2^63 - 1) / n:=by
   rw[Int.le_ediv_iff_mul_le (by omega)]
   have:(1000000:Int)*n<=1000000*1000000:=eF Y (by omega)
   omega
  omega
 ·rw[C]
  unfold kb
  exact decide_eq_false (by omega)
 ·have e:Txt.mul ⟨l.toArray⟩ n=⟨(k8 n.toNat l).toArray⟩:=by
   unfold Txt.mul
   split
   ·have:n.toNat=0:=by omega
    rw[this];rfl
   ·split
    ·rename_i hc
     rw[bO]at hc
     rcases hc with hc|hc
     ·have:n=1:=by simpa using hc
      subst this
      show(⟨l.toArray⟩:Str)=⟨(k8 1 l).toArray⟩
      rw[rep_one]
     ·have:l=[]:=by
       have:=eq_of_beq hc
       rw[C]at this
       exact cL.mp this
      subst this
      rw[rep_nil]
    ·show(⟨(ao n.toNat l.toArray).foldl (·++·) #[]⟩:Str)=_
     rw[rep_fold];simp
  rw[e]
  exact⟨.str _,H,I.tok _,⟨_,rfl⟩,q⟩
theorem bndL_repD {n:Nat}{l:List kL}(h:kM n l=true):∀ k,kM n (mn k l)=true
 | 0=>rfl
 | k+1=>zX h (bndL_repD h k)
theorem RVL.repD {φ:Nat->Addr}{H:Hp}{l:List kL}{y:List V}(h:RVL Γ φ H l y):∀ k,RVL Γ φ H (mn k l) (repT k y)
 | 0=>RVL.nil
 | k+1=>h.append (RVL.repD h k)
theorem repT_flat {α:Type}(h:List α):∀ k,repT k h=(ao k h).flatten
 | 0=>rfl
 | k+1=>by rw[bM,dg,<-repT_flat h k];rfl
theorem op_bin (hK:X.K=Γ.K)(op:mr):OpR X (b7 (opOf op)) (rOp Γ (DV.qM op)):=by
 intro G s σ H x y v u Q I Z Y h
 obtain⟨φ,st,a,b,d,a0,R,ha,hb,na,nb,C,q⟩:=h
 cases op with
 | add =>
  cases a with
  | int a =>
   cases b with
   | int b =>
    change(l9 _) st=_ at C
    obtain⟨rfl,rfl⟩:=qr C
    have ex:=ha.intE;have J:=hb.intE;subst ex;subst J
    exact op_add G s σ H _ _ v u Q I Z Y ⟨_,_,rfl,rfl,q.here R rfl RV.intI⟩
   | _=>cases C
  | str a =>
   cases b with
   | str b =>
    change(if _ then _ else _:lK kL) st=_ at C
    split at C
    ·rename_i hl
     obtain⟨rfl,rfl⟩:=qr C
     have ex:=ha.strE;have J:=hb.strE;subst ex;subst J
     refine op_add_str G s σ H _ _ v u Q I Z Y ⟨_,_,rfl,rfl,?_,?_⟩
     ·show a.toArray.size+b.toArray.size<=_
      simp only[au]
      exact am hl qN
     ·rw[str_app];exact q.here R rfl (RV.strI (by rw[aR];exact hl))
    ·cases C
   | _=>cases C
  | tup a =>
   cases b with
   | tup b =>
    change(if _ then _ else _:lK kL) st=_ at C
    split at C
    ·rename_i hl
     obtain⟨rfl,rfl⟩:=qr C
     obtain⟨p,xs,rfl,h1,d1⟩:=ha.tupE
     obtain⟨p',ys,rfl,h2,d2⟩:=hb.tupE
     refine op_catK hK G s σ H _ _ v u Q I Z Y ⟨p,p',xs,ys,rfl,rfl,h1,h2,?_,λ t H' e ht=>?_⟩
     ·rw[d1.length,d2.length];exact am hl qN
     ·obtain⟨g,r'⟩:=R.same e
      unfold kO at na nb
      exact q _ _ _ g (ah _) (by unfold kO;exact zX na nb) (RV.tupI ht ((RVL.mono g _ _ na d1).append (RVL.mono g _ _ nb d2))) r'
    ·cases C
   | _=>cases C
  | ref a =>
   cases b with
   | ref b =>
    change(match st[a]?,st[b]? with|some (DV.O.lst l),some (DV.O.lst m)=>if l.length+m.length<=kT then lj (.lst (l++m)) st else .bad|_,_=>.bad:kP kL)=_ at C
    split at C
    ·rename_i l m h1 h2
     split at C
     ·rename_i hl
      obtain⟨rfl,rfl⟩:=qI C
      obtain⟨xs,e1,d1⟩:=R.addr h1
      obtain⟨ys,e2,d2⟩:=R.addr h2
      have ex:=ha.refE;have J:=hb.refE;subst ex;subst J
      have b1:=R.wf _ _ h1
      have b2:=R.wf _ _ h2
      unfold kR at b1 b2
      refine op_cat G s σ H _ _ v u Q I Z Y ⟨φ a,φ b,xs,ys,rfl,rfl,e1,e2,?_,λ p hp=>?_⟩
      ·rw[d1.length,d2.length];exact am hl qN
      ·exact q.alloc R (d1.append d2) (zX b1 b2) hp
     ·cases C
    ·cases C
   | _=>cases C
  | _=>cases C
 | sub =>
  cases a with
  | int a =>
   cases b with
   | int b =>
    change(l9 _) st=_ at C
    obtain⟨rfl,rfl⟩:=qr C
    have ex:=ha.intE;have J:=hb.intE;subst ex;subst J
    exact op_sub G s σ H _ _ v u Q I Z Y ⟨_,_,rfl,rfl,q.here R rfl RV.intI⟩
   | _=>cases C
  | _=>cases C
 | mul =>
  cases a with
  | int a =>
   cases b with
   | int b =>
    change(if _ then _ else _:lK kL) st=_ at C
    split at C
    ·rename_i hc
     obtain⟨rfl,rfl⟩:=qr C
     have ex:=ha.intE;have J:=hb.intE;subst ex;subst J
     exact op_mulB G s σ H _ _ v u Q I Z Y ⟨_,_,rfl,rfl,hc,q.here R rfl RV.intI⟩
    ·cases C
   | _=>cases C
  | str a =>
   cases b with
   | int b =>
    change(if _ then _ else _:lK kL) st=_ at C
    split at C
    ·rename_i hc
     obtain⟨rfl,rfl⟩:=qr C
     have ex:=ha.strE;have J:=hb.intE;subst ex;subst J
     exact op_mulS G s σ H _ _ v u Q I Z Y ⟨_,_,rfl,rfl,hc,q.here R rfl (RV.strI (by rw[rep_len];exact hc.2.2))⟩
    ·cases C
   | _=>cases C
  | tup a =>
   cases b with
   | int b =>
    change(if _ then _ else _:lK kL) st=_ at C
    split at C
    ·rename_i hc
     obtain⟨rfl,rfl⟩:=qr C
     obtain⟨p,xs,rfl,h1,d1⟩:=ha.tupE
     have J:=hb.intE;subst J
     refine op_mulT hK G s σ H _ _ v u Q I Z Y ⟨p,xs,_,rfl,rfl,h1,⟨hc.1,hc.2.1,by rw[d1.length];exact hc.2.2⟩,λ t H' e ht=>?_⟩
     obtain⟨g,r'⟩:=R.same e
     unfold kO at na
     exact q _ _ _ g (ah _) (by unfold kO;exact bndL_repD na _) (RV.tupI ht (RVL.repD (RVL.mono g _ _ na d1) _)) r'
    ·cases C
   | _=>cases C
  | ref a =>
   cases b with
   | int b =>
    change(match st[a]? with|some (DV.O.lst l)=>if 0<=b/\b<=1000000/\l.length*b.toNat<=kT then lj (.lst (mn b.toNat l)) st else .bad|_=>.bad:kP kL)=_ at C
    split at C
    ·rename_i l h1
     split at C
     ·rename_i hc
      obtain⟨rfl,rfl⟩:=qI C
      obtain⟨xs,e1,d1⟩:=R.addr h1
      have ex:=ha.refE;have J:=hb.intE;subst ex;subst J
      have b1:=R.wf _ _ h1
      unfold kR at b1
      refine op_rep G s σ H _ _ v u Q I Z Y ⟨φ a,b,xs,rfl,rfl,e1,by omega,by omega,?_,λ p hp=>?_⟩
      ·rw[d1.length];exact am hc.2.2 qN
      ·rw[<-repT_flat];exact q.alloc R (RVL.repD d1 _) (bndL_repD b1 _) hp
     ·cases C
    ·cases C
   | _=>cases C
  | _=>cases C
 | fdiv =>
  cases a with
  | int a =>
   cases b with
   | int b =>
    change(if _ then _ else _:lK kL) st=_ at C
    split at C
    ·rename_i hc
     obtain⟨rfl,rfl⟩:=qr C
     have ex:=ha.intE;have J:=hb.intE;subst ex;subst J
     refine op_fdivL G s σ H _ _ v u Q I Z Y ⟨_,_,rfl,rfl,⟨hc.1,?_⟩,q.here R rfl RV.intI⟩
     have:=hc.2
     unfold DV.DIVL at this
     simpa using this
    ·cases C
   | _=>cases C
  | _=>cases C
 | mod =>
  cases a with
  | int a =>
   cases b with
   | int b =>
    change(if _ then _ else _:lK kL) st=_ at C
    split at C
    ·rename_i hc
     obtain⟨rfl,rfl⟩:=qr C
     have ex:=ha.intE;have J:=hb.intE;subst ex;subst J
     exact op_mod G s σ H _ _ v u Q I Z Y ⟨_,_,rfl,rfl,hc,q.here R rfl RV.intI⟩
    ·cases C
   | _=>cases C
  | _=>cases C
 | pow =>
  cases a with
  | int a =>
   cases b with
   | int b =>
    change(if _ then _ else _:lK kL) st=_ at C
    split at C
    ·rename_i hc
     obtain⟨rfl,rfl⟩:=qr C
     have ex:=ha.intE;have J:=hb.intE;subst ex;subst J
     exact op_pow G s σ H _ _ v u Q I Z Y ⟨_,_,rfl,rfl,hc,q.here R rfl RV.intI⟩
    ·cases C
   | _=>cases C
  | _=>cases C
 | shl =>
  cases a with
  | int a =>
   cases b with
   | int b =>
    change(if _ then _ else _:lK kL) st=_ at C
    split at C
    ·rename_i hc
     obtain⟨rfl,rfl⟩:=qr C
     have ex:=ha.intE;have J:=hb.intE;subst ex;subst J
     exact op_shl G s σ H _ _ v u Q I Z Y ⟨_,_,rfl,rfl,hc,q.here R rfl RV.intI⟩
    ·cases C
   | _=>cases C
  | _=>cases C
 | shr =>
  cases a with
  | int a =>
   cases b with
   | int b =>
    change(if _ then _ else _:lK kL) st=_ at C
    split at C
    ·rename_i hc
     obtain⟨rfl,rfl⟩:=qr C
     have ex:=ha.intE;have J:=hb.intE;subst ex;subst J
     exact op_shr G s σ H _ _ v u Q I Z Y ⟨_,_,rfl,rfl,hc,q.here R rfl RV.intI⟩
    ·cases C
   | _=>cases C
  | _=>cases C
 | band=>cases C
 | bor=>cases C
variable {Γ:Gm} {X:Cx} {pins:List (Addr×Obj)} {σ:St} {H:Hp} {sh:af} {φ:Nat->Addr} {s:kK}
theorem eqv_kd {n:Nat}{a b:kL}{z:Bool}(h:kU s n a b=some z):k9 s a≠9:=by
 cases n with
 | zero=>unfold kU at h;exact(eqAtom_kd h).1
 | succ n =>
  unfold kU at h
  split at h
  ·simp[k9]
  ·split at h
   ·rename_i y _;simp[k9,y]
   ·cases h
  ·exact(eqAtom_kd h).1
theorem eqv_congr (I:Inv X pins σ H sh)(J:X.K=Γ.K)(R:Rp Γ φ H s):∀(n:Nat) (a b c:kL) (x:V) (p q:Bool),RV Γ φ H a x->RV Γ φ H b x->kU s n a c=some p->kU s n b c=some q->p=q:=by
 intro n
 induction n with
 | zero =>
  intro a b c x p q y h e1 e2
  rcases rv_two I J R y h (eqv_kd e1) (eqv_kd e2)with e|⟨l,m,_,_,rfl,rfl,_⟩
  ·subst e;rw[e1]at e2;exact aw e2
  ·unfold kU at e1 e2
   have:kW s (.tup l) c=kW s (.tup m) c:=by unfold kW;cases c<;>rfl
   rw[this,e2]at e1;exact(aw e1).symm
 | succ n ih =>
  have G:∀(l m k:List kL) (C:List V) (p q:Bool),RVL Γ φ H l C->RVL Γ φ H m C->k7 (kU s n) l k=some p->k7 (kU s n) m k=some q->p=q:=by
   intro l
   induction l with
   | nil =>
    intro m k C p q y h e1 e2
    have:=y.unnil;subst this
    have Z:m=[]:=by have:=h.length;exact cL.mp this.symm
    subst Z
    rw[e1]at e2;exact aw e2
   | cons a l ihl =>
    intro m k C p q y h e1 e2
    obtain⟨x,r,rfl,g1,g2⟩:=y.uncons
    cases m with
    | nil=>have:=h.unnil;cases this
    | cons b m =>
     obtain⟨x',r',e,g3,g4⟩:=h.uncons
     cases e
     cases k with
     | nil=>unfold k7 at e1 e2;rw[<-aw e1,<-aw e2]
     | cons c k =>
      obtain⟨p1,p2,a1,a2,a3⟩:=eqL_cons e1
      obtain⟨q1,q2,b1,b2,b3⟩:=eqL_cons e2
      rw[a3,b3,ih a b c x p1 q1 g1 g3 a1 b1,ihl m k r p2 q2 g2 g4 a2 b2]
  intro a b c x p q y h e1 e2
  rcases rv_two I J R y h (eqv_kd e1) (eqv_kd e2)with e|⟨l,m,_,C,rfl,rfl,_,d1,d2⟩
  ·subst e;rw[e1]at e2;exact aw e2
  ·cases c with
   | tup k=>unfold kU at e1 e2;exact G l m k C p q d1 d2 e1 e2
   | _ =>
    unfold kU at e1 e2
    simp only at e1 e2
    have Y:kW s (.tup l)=kW s (.tup m):=by funext c;unfold kW;cases c<;>rfl
    rw[Y]at e1
    exact aw (e1.symm.trans e2)
theorem inL_at {x:kL}:∀ {l:List kL} {z:Bool},lB s x l=some z->∃ e:Nat->Bool,(∀ j d,l[j]?=some d->kU s kZ d x=some (e j))/\(z=true↔∃ j,j<l.length/\e j=true)
 | [],z,h=>by
  unfold lB at h
  cases h
  exact⟨λ _=>true,λ j d h=>by simp at h,by simp⟩
 | y::l,z,h=>by
  unfold lB at h
  cases e1:kU s kZ y x with
  | none=>rw[e1]at h;cases h
  | some a =>
   cases e2:lB s x l with
   | none=>rw[e1,e2]at h;cases h
   | some b =>
    rw[e1,e2]at h
    obtain⟨e,G,C⟩:=inL_at e2
    refine⟨λ j=>match j with|0=>a|j+1=>e j,λ j d g=>?_,?_⟩
    ·cases j with
     | zero=>simp at g;subst g;exact e1
     | succ j=>exact G j d (by simpa using g)
    ·have hz:(a||b)=z:=aw h
     rw[<-hz,bO,C]
     constructor
     ·rintro(q|⟨j,hj,q⟩)
      ·exact⟨0,by simp,q⟩
      ·exact⟨j+1,by simpa using hj,q⟩
     ·rintro⟨j,hj,q⟩
      cases j with
      | zero=>exact .inl q
      | succ j=>exact .inr ⟨j,by simpa using hj,q⟩
theorem in_fun (I:Inv X pins σ H sh)(hK:X.K=Γ.K)(R:Rp Γ φ H s){x:kL}{xv:V}{xu:Value}(hx:RV Γ φ H x xv)(rx:RelV xv xu){l:List kL}{ys:List V}{its:List Value}(hl:RVL Γ φ H l ys)(hv:Vals ys its){z:Bool}(h:lB s x l=some z){A:aV}(hr:Room kZ A) :
  ∃ e:Value->Bool,(∀ y,y∈its.toArray->gu A sh y xu (e y))/\its.toArray.any e=z:=by
 obtain⟨e,Z,h2⟩:=inL_at h
 have len:its.length=l.length:=by rw[<-hv.length];exact hl.length
 have C:∀ j u,its[j]?=some u->∃ d y,l[j]?=some d/\ys[j]?=some y/\RV Γ φ H d y/\RelV y u:=λ j u g=>by
  have hj:j<l.length:=by rw[<-len];exact(ac.mp g).1
  obtain⟨y,g1,g2⟩:=hl.get (ag hj)
  obtain⟨u',G,Y⟩:=hv.get g1
  rw[g]at G;cases G
  exact⟨_,y,ag hj,g1,g2,Y⟩
 classical
 let f:Value->Bool:=λ u=>decide (∃ j,its[j]?=some u/\e j=true)
 have hf:∀ j u,its[j]?=some u->f u=e j:=λ j u g=>by
  obtain⟨d,y,g1,g2,G,Y⟩:=C j u g
  cases q:e j with
  | true=>exact decide_eq_true ⟨j,g,q⟩
  | false =>
   refine decide_eq_false λ⟨k,g',q'⟩=>?_
   obtain⟨d',y',k1,k2,k3,k4⟩:=C k u g'
   have ey:y'=y:=k4.inj Y
   subst ey
   have:=eqv_congr I hK R _ d d' x _ _ _ G k3 (Z j d g1) (Z k d' k1)
   rw[q,q']at this;cases this
 refine⟨f,λ u hu=>?_,?_⟩
 ·obtain⟨j,hj,g⟩:=cE.mp (by simpa using hu:u∈its)
  have g':its[j]?=some u:=by rw[ag hj,g]
  obtain⟨d,y,g1,g2,G,Y⟩:=C j u g'
  rw[hf j u g']
  exact(eqv_ok I hK R _ d x y xv u xu A _ (Z j d g1) G hx Y rx hr).1
 ·have e1:its.toArray.any f=true↔z=true:=by
   rw[h2,List.any_toArray,i7]
   constructor
   ·rintro⟨u,hu,q⟩
    obtain⟨j,hj,g⟩:=cE.mp hu
    have g':its[j]?=some u:=by rw[ag hj,g]
    exact⟨j,by omega,by rw[<-hf j u g'];exact q⟩
   ·rintro⟨j,hj,q⟩
    have J:j<its.length:=by omega
    exact⟨its[j],jG J,by rw[hf j _ (ag J)];exact q⟩
  cases z<;>cases q:its.toArray.any f
  ·rfl
  ·have:=e1.mp q;cases this
  ·rw[q]at e1;have:=e1.mpr rfl;cases this
  ·rfl
variable {Γ:Gm} {X:Cx}
theorem bind_inv {α β:Type}{r:kP α}{f:α->kK->kP β}{b:β}{t:kK}(h:r.bind f=.ok b t):∃ a s,r=.ok a s/\f a s=.ok b t:=DV.R.bind_inv h
theorem inM_ok (hK:X.K=Γ.K)(hr:Room (kZ+1) X.A)(neg:Bool){C:List (Addr×Obj)}{sh:af}{σ:St}{H:Hp}{x y:V}{v u:Value}{φ:Nat->Addr}{st a1:kK}{a b:kL}{z:Bool}
  (I:Inv X C σ H sh) (rx:RelV x v) (ry:RelV y u) (R:Rp Γ φ H st) (ha:RV Γ φ H a x) (hb:RV Γ φ H b y) (h:ma a b st=.ok z a1) :
  a1=st/\∀ Q:Value->af->Prop,(∀ a0,Inv X C σ H a0->Q (.bool (if neg then !z else z)) a0)->wpAny (model X.prog X.w) X.A (cW (if neg then .NotIn else .In) v u) Q X.xe sh:=by
 unfold ma at h
 cases b with
 | tup l =>
  simp only at h
  cases e:lB st a l with
  | none=>rw[e]at h;cases h
  | some w =>
   rw[e]at h
   cases h
   obtain⟨p,ys,rfl,q,d⟩:=hb.tupE
   cases ry
   rw[<-hK]at q
   obtain⟨its,rv,t,_⟩:=I.tuple q
   obtain⟨f,G,Z⟩:=in_fun I hK R ha rx d rv e (A:=X.A.in1) hr.in1
   refine⟨rfl,λ Q hq=>?_⟩
   cases neg with
   | false=>exact SeqAt.in_tupleAt f t G (by rw[Z];exact hq _ I)
   | true=>exact SeqAt.notIn_tupleAt f t G (by rw[Z];exact hq _ I)
 | str y0 =>
  simp only at h
  split at h
  case h_2=>cases h
  rename_i c
  cases h
  refine⟨rfl,λ Q hq=>?_⟩
  have e1:=ha.strE
  have e2:=hb.strE
  subst e1 e2
  obtain⟨t1,rfl⟩:=rx
  obtain⟨t2,rfl⟩:=ry
  have Y:=km (⟨y0.toArray⟩:Str) c
  cases neg with
  | false=>exact in_str (by rw[show(⟨[c].toArray⟩:Str)=⟨#[c]⟩from rfl,Y];simpa using hq _ I)
  | true=>exact notIn_str (by rw[show(⟨[c].toArray⟩:Str)=⟨#[c]⟩from rfl,Y];simpa using hq _ I)
 | ref r =>
  simp only at h
  cases hs:st[r]? with
  | none=>rw[hs]at h;cases h
  | some o =>
   rw[hs]at h
   cases o with
   | lst l =>
    simp only at h
    cases e:lB st a l with
    | none=>rw[e]at h;cases h
    | some w =>
     rw[e]at h
     cases h
     obtain⟨ys,e1,d⟩:=R.addr hs
     have ey:=hb.refE;subst ey
     cases ry
     obtain⟨its,rv,t,_⟩:=I.list (SqL.of e1)
     obtain⟨f,G,Z⟩:=in_fun I hK R ha rx d rv e (A:=X.A.in1) hr.in1
     refine⟨rfl,λ Q hq=>?_⟩
     cases neg with
     | false=>exact SeqAt.in_listAt f t.isList G (by rw[Z];exact hq _ I)
     | true=>exact SeqAt.notIn_listAt f t.isList G (by rw[Z];exact hq _ I)
   | dic l =>
    simp only at h
    split at h
    case isFalse=>cases h
    rename_i J
    cases h
    obtain⟨k,hk⟩:=key_some J
    obtain⟨a2,e1,d⟩:=R.obj r _ hs
    have ey:=hb.refE;subst ey
    cases ry
    have ex:=key_kV hk ha;subst ex
    have ez:(lq a l).isSome=(valV a2 k).isSome:=by
     rcases d.val hk with⟨q1,q2⟩|⟨_,_,q1,q2,_⟩<;>rw[q1,q2]<;>rfl
    refine⟨rfl,λ Q hq=>?_⟩
    rw[ez]at hq
    cases neg with
    | false=>exact d_in (hu_of hr) I (DGet.k e1) rx hq
    | true=>exact d_notIn (hu_of hr) I (DGet.k e1) rx hq
   | ro l=>cases h
   | ins c l=>cases h
 | _=>cases h
theorem ord_inv {op:l8}{a b d:kL}{st y:kK}(ho:op=.lt\/op=.le\/op=.gt\/op=.ge)(h:DV.qv op a b st=.ok d y):∃ i j,a=.int i/\b=.int j:=by
 rcases ho with rfl|rfl|rfl|rfl <;>
 (cases a with
 | int i =>
  (cases b with
  | int j=>exact⟨i,j,rfl,rfl⟩
  | _=>cases h)
 | _=>cases h)
theorem op_cmp (hK:X.K=Γ.K)(hr:Room (kZ+1) X.A)(op:l8):OpR X (cW (copOf op)) (rOp Γ (DV.qv op)):=by
 intro G s σ H x y v u Q I Z Y h
 obtain⟨φ,st,a,b,d,J,R,ha,hb,na,nb,C,q⟩:=h
 cases op with
 | eq =>
  have C:DV.eqM a b st=.ok d J:=C
  unfold DV.eqM at C
  cases e:kU st kZ a b with
  | none=>rw[e]at C;cases C
  | some z =>
   rw[e]at C;cases C
   exact(eqv_ok I hK R _ a b x y v u X.A z e ha hb Z Y (hr.mono (by omega))).2.rc X.prog X.w X.xe _ ⟨.bl z,H,I,rfl,q.here R rfl RV.blI⟩
 | ne =>
  have C:(match kU st kZ a b with|some r=>.ok (.bl (!r)) st|none=>.bad:kP kL)=.ok d J:=C
  cases e:kU st kZ a b with
  | none=>rw[e]at C;cases C
  | some z =>
   rw[e]at C;cases C
   exact(eqv_ok I hK R _ a b x y v u X.A z e ha hb Z Y (hr.mono (by omega))).2.ne X.prog X.w X.xe _ ⟨.bl (!z),H,I,rfl,q.here R rfl RV.blI⟩
 | lt =>
  obtain⟨i,j,rfl,rfl⟩:=ord_inv (.inl rfl) C
  cases C
  have ex:=ha.intE;have ey:=hb.intE;subst ex;subst ey
  exact op_lt G s σ H _ _ v u Q I Z Y ⟨_,_,rfl,rfl,q.here R rfl RV.blI⟩
 | le =>
  obtain⟨i,j,rfl,rfl⟩:=ord_inv (.inr (.inl rfl)) C
  cases C
  have ex:=ha.intE;have ey:=hb.intE;subst ex;subst ey
  exact op_le G s σ H _ _ v u Q I Z Y ⟨_,_,rfl,rfl,q.here R rfl RV.blI⟩
 | gt =>
  obtain⟨i,j,rfl,rfl⟩:=ord_inv (.inr (.inr (.inl rfl))) C
  cases C
  have ex:=ha.intE;have ey:=hb.intE;subst ex;subst ey
  exact op_gt G s σ H _ _ v u Q I Z Y ⟨_,_,rfl,rfl,q.here R rfl RV.blI⟩
 | ge =>
  obtain⟨i,j,rfl,rfl⟩:=ord_inv (.inr (.inr (.inr rfl))) C
  cases C
  have ex:=ha.intE;have ey:=hb.intE;subst ex;subst ey
  exact op_ge G s σ H _ _ v u Q I Z Y ⟨_,_,rfl,rfl,q.here R rfl RV.blI⟩
 | isin =>
  have C:(ma a b st).bind (λ r s=>.ok (.bl r) s)=.ok d J:=C
  obtain⟨z,s1,e1,e2⟩:=bind_inv C
  obtain⟨rfl,w⟩:=inM_ok hK hr false I Z Y R ha hb e1
  cases e2
  exact w _ λ s' I'=>⟨.bl z,H,I',rfl,q.here R rfl RV.blI⟩
 | notin =>
  have C:(ma a b st).bind (λ r s=>.ok (.bl (!r)) s)=.ok d J:=C
  obtain⟨z,s1,e1,e2⟩:=bind_inv C
  obtain⟨rfl,w⟩:=inM_ok hK hr true I Z Y R ha hb e1
  cases e2
  exact w _ λ s' I'=>⟨.bl (!z),H,I',rfl,q.here R rfl RV.blI⟩
theorem atI_of {φ:Nat->Addr}{H:Hp}{l:List kL}{y:List V}{i:Int}{d:kL}(h:RVL Γ φ H l y)(e:((lC l.length i).bind λ j=>l[j]?)=some d):∃ v,atI y i=some v/\RV Γ φ H d v:=by
 cases hj:lC l.length i with
 | none=>rw[hj]at e;cases e
 | some j =>
  rw[hj]at e
  obtain⟨v,e1,e2⟩:=h.get (show l[j]?=some d from e)
  refine⟨v,?_,e2⟩
  unfold atI
  have:ixN y.length i=some j:=by rw[h.length];exact hj
  rw[this];exact e1
theorem ixn_mem {l:List kL}{i:Int}{d:kL}(e:((lC l.length i).bind λ j=>l[j]?)=some d):d∈l:=by
 cases hj:lC l.length i with
 | none=>rw[hj]at e;cases e
 | some j=>rw[hj]at e;exact aS (show l[j]?=some d from e)
theorem ix_ok (hK:X.K=Γ.K)(hu:X.A.units+1<cLine):IxR X (rOp Γ DV.ixM):=by
 intro J G Y s σ H x y v u Q I rx ry h hs
 obtain⟨φ,st,a,b,d,a3,R,ha,hb,na,nb,C,q⟩:=h
 unfold DV.ixM at C
 cases a with
 | tup l =>
  cases b with
  | int i =>
   simp only at C
   split at C
   ·rename_i d' e
    cases C
    obtain⟨p,xs,rfl,h1,d1⟩:=ha.tupE
    have Z:=hb.intE;subst Z
    obtain⟨w,e1,e2⟩:=atI_of d1 e
    unfold kO at na
    exact ix_tupK hK J G Y s σ H _ _ v u Q I rx ry ⟨p,xs,i,w,rfl,rfl,h1,e1,q.here R (bndL_iff.mp na _ (ixn_mem e)) e2⟩ hs
   ·cases C
  | _=>cases C
 | str l =>
  cases b with
  | int i =>
   simp only at C
   split at C
   ·rename_i c e
    cases C
    have hl:=ha.strL
    have ex:=ha.strE;have Z:=hb.intE;subst ex;subst Z
    exact ix_str J G Y s σ H _ _ v u Q I rx ry ⟨⟨l.toArray⟩,i,c,rfl,rfl,by show l.toArray.size<=_;rw[au];exact am hl qN,e,q.here R rfl (RV.strI (by simp;decide))⟩ hs
   ·cases C
  | _=>cases C
 | ref r =>
  have ex:=ha.refE;subst ex
  simp only at C
  cases hsr:st[r]? with
  | none=>rw[hsr]at C;cases C
  | some o =>
   rw[hsr]at C
   cases o with
   | lst l =>
    cases b with
    | int i =>
     simp only at C
     split at C
     ·rename_i d' e
      cases C
      have Z:=hb.intE;subst Z
      obtain⟨xs,e1,d1⟩:=R.addr hsr
      obtain⟨w,e2,e3⟩:=atI_of d1 e
      have wf:=R.wf _ _ hsr
      unfold kR at wf
      exact ix_listK hK J G Y s σ H _ _ v u Q I rx ry ⟨φ r,xs,i,w,rfl,rfl,SqL.of e1,e2,q.here R (bndL_iff.mp wf _ (ixn_mem e)) e3⟩ hs
     ·cases C
    | _=>cases C
   | ro l =>
    cases b with
    | int i =>
     simp only at C
     split at C
     ·rename_i d' e
      cases C
      have Z:=hb.intE;subst Z
      obtain⟨xs,e1,d1⟩:=R.obj _ _ hsr
      obtain⟨w,e2,e3⟩:=atI_of d1 e
      have wf:=R.wf _ _ hsr
      unfold kR at wf
      exact ix_listK hK J G Y s σ H _ _ v u Q I rx ry ⟨φ r,xs,i,w,rfl,rfl,e1.1,e2,q.here R (bndL_iff.mp wf _ (ixn_mem e)) e3⟩ hs
     ·cases C
    | _=>cases C
   | dic l =>
    simp only at C
    split at C
    case isFalse=>cases C
    rename_i a0
    obtain⟨k,hk⟩:=key_some a0
    obtain⟨a2,e1,d1⟩:=R.obj r _ hsr
    have Z:=key_kV hk hb;subst Z
    cases rx
    rcases d1.val hk with⟨q1,_⟩|⟨e,v',q1,q2,q3,q4⟩
    ·rw[q1]at C;cases C
    ·rw[q1]at C
     cases C
     have wf:=R.wf _ _ hsr
     unfold kR at wf
     rw[aq]at wf
     have g:DGet H (φ r) (kV k) (some v'):=by rw[<-q2];exact DGet.k e1
     exact tail_any (dict_typeIs I g) PySem.F.slot_dict_getitem.lookup (d_getItem hu I g ry λ w' s' I' a1=>⟨v',H,I',a1,q.here R (bndL_iff.mp wf.2 _ q4) q3⟩) hs
   | ins c l=>cases b<;>cases C
 | _=>cases b<;>cases C
theorem sbd_sIx (n d:Nat)(i:Int):HT.sIx n d (some i)=lw n i:=by
 show(if i<0 then(i+(n:Int)).toNat else min i.toNat n)=_
 unfold lw
 by_cases h:i<0
 ·rw[if_pos h,if_neg (by omega)]
 ·rw[if_neg h,if_pos (by omega)]
theorem cutV_L {φ:Nat->Addr}{H:Hp}{l:List kL}{G:List V}(h:RVL Γ φ H l G)(y C:Option Int):RVL Γ φ H (lr l y C) (cutV G y C):=by
 unfold lr cutV
 have e1:HT.sIx G.length 0 y=lI l.length y:=by
  cases y with
  | none=>rfl
  | some i=>rw[sbd_sIx,h.length];rfl
 have e2:HT.sIx G.length G.length C=lR l.length C:=by
  cases C with
  | none=>exact h.length
  | some i=>rw[sbd_sIx,h.length];rfl
 rw[e1,e2]
 exact(h.drop _).take _
theorem cutL_sub {α:Type}{l:List α}{y h:Option Int}:∀ d∈lr l y h,d∈l:=λ d hd=>List.mem_of_mem_drop (List.mem_of_mem_take hd)
theorem cutL_len {α:Type}(l:List α)(y h:Option Int):(lr l y h).length<=l.length:=by
 unfold lr
 rw[bz,fV]
 omega
theorem slIdx (y C:Option Int)(n:Nat):bC y C 1 n=(ae (lR n C - lI n y)).map (lI n y+·):=by
 rw[<-sliceRange_one]
 unfold bC
 have cl:∀ i:Int,max 0 (min (if i<0 then i+(n:Int)else i) (n:Int))=((lw n i:Nat):Int):=λ i=>by
  unfold lw
  by_cases h:i<0
  ·rw[if_pos h,if_neg (by omega)];omega
  ·rw[if_neg h,if_pos (by omega)];omega
 simp only[show((1:Int) > 0)=True by simp,if_true]
 cases y<;>cases C<;>simp only[cl,lI,lR]<;>rfl
theorem fm_range {l:List Nat}:∀(a k:Nat),a+k<=l.length->((ae k).map (a+·)).filterMap (λ x=>l.toArray[x]?)=(l.drop a).take k
 | a,0,_=>by simp
 | a,k+1,h=>by
  rw[cj,bB,List.filterMap_append,fm_range a k (by omega)]
  have hk:a+k<l.length:=by omega
  rw[List.take_add_one,List.getElem?_drop]
  simp[hk]
theorem slice_cut (l:List Nat)(y h:Option Int):eI ⟨l.toArray⟩ y h=⟨(lr l y h).toArray⟩:=by
 unfold eI
 have hn:(⟨l.toArray⟩:Str).length=l.length:=by show l.toArray.size=_;simp
 rw[hn,slIdx]
 have hb:lR l.length h<=l.length:=by
  cases h with
  | none=>exact ah _
  | some i=>show lw l.length i<=_;unfold lw;split<;>omega
 have ha:lI l.length y<=l.length:=by
  cases y with
  | none=>exact dj _
  | some i=>show lw l.length i<=_;unfold lw;split<;>omega
 unfold lr
 generalize lR l.length h=b at *
 generalize lI l.length y=a at *
 by_cases hc:((1:Int)==1&&((ae (b - a)).map (a+·)).length==l.length)=true
 ·rw[if_pos hc]
  have:b - a=l.length:=by simpa using hc
  have h0:a=0\/l.length=0:=by omega
  rcases h0 with h0|h0
  ·subst h0
   rw[this];simp
  ·have:l=[]:=cL.mp h0
   subst this;simp
 ·rw[if_neg hc]
  by_cases hab:a<=b
  ·have e:=fm_range (l:=l) a (b - a) (by omega)
   show(⟨(gU (λ x=>l.toArray[x]?) _).toArray⟩:Str)=_
   rw[e]
  ·rw[show b - a=0 by omega];simp
noncomputable def rSl (Γ:Gm):V->Option Int->Option Int->Hp->VK->Prop:=λ x lo hi H Q=>∃ φ s a d s',Rp Γ φ H s/\RV Γ φ H a x/\a.bnd s.length=true/\lS a lo hi s=.ok d s'/\After Γ φ s H d s' Q
theorem sl_ok (hK:X.K=Γ.K):SlR X (rSl Γ):=by
 intro y s σ H x v vl vu G J sl Q I rx hs pl pu h
 obtain⟨φ,st,a,d,a0,R,ha,Y,C,q⟩:=h
 unfold lS at C
 cases a with
 | tup l =>
  cases C
  obtain⟨p,Z,rfl,h1,d1⟩:=ha.tupE
  unfold kO at Y
  refine sl_tupK hK y s σ H _ v vl vu G J sl Q I rx hs pl pu ⟨p,Z,rfl,h1,λ t H' e ht=>?_⟩
  obtain⟨g,r'⟩:=R.same e
  exact q _ _ _ g (ah _) (by unfold kO;exact bndL_sub Y cutL_sub) (RV.tupI ht (cutV_L (RVL.mono g _ _ Y d1) G J)) r'
 | str l =>
  cases C
  have hl:=ha.strL
  have ex:=ha.strE;subst ex
  refine sl_str y s σ H _ v vl vu G J sl Q I rx hs pl pu ⟨_,rfl,by show l.toArray.size<=_;rw[au];exact am hl qN,?_⟩
  rw[slice_cut]
  exact q.here R rfl (RV.strI (am (cutL_len l G J) hl))
 | ref r =>
  have ex:=ha.refE;subst ex
  simp only at C
  cases hsr:st[r]? with
  | none=>rw[hsr]at C;cases C
  | some o =>
   rw[hsr]at C
   cases o with
   | lst l =>
    obtain⟨rfl,rfl⟩:=qI C
    obtain⟨Z,e1,d1⟩:=R.addr hsr
    have wf:=R.wf _ _ hsr
    unfold kR at wf
    exact sl_listK hK y s σ H _ v vl vu G J sl Q I rx hs pl pu ⟨φ r,Z,rfl,SqL.of e1,λ p hp=>q.alloc R (cutV_L d1 G J) (bndL_sub wf cutL_sub) hp⟩
   | _=>cases C
 | _=>cases C
variable {Γ:Gm} {X:Cx}
noncomputable def rCl (Γ:Gm)(f:List kL->kK->kP kL):List V->Hp->VK->Prop:=λ xs H Q=>∃ φ s l d s',Rp Γ φ H s/\RVL Γ φ H l xs/\kM s.length l=true/\f l s=.ok d s'/\After Γ φ s H d s' Q
theorem RVL.one {φ:Nat->Addr}{H:Hp}{d:kL}{y:List V}(h:RVL Γ φ H [d] y):∃ x,y=[x]/\RV Γ φ H d x:=by
 obtain⟨x,r,rfl,G,C⟩:=h.uncons
 rw[C.unnil];exact⟨x,rfl,G⟩
noncomputable def biN:ls->Option (String×Nat)
 | .len=>some ("len",1)|.abs=>some ("abs",1)|.min2=>some ("min",2)|.max2=>some ("max",2)|_=>none
theorem qC:∀ {l:List kL} {is:List Int},lE l=some is->l=is.map DV.D.int
 | [],is,h=>by unfold lE at h;cases h;rfl
 | d::l,is,h=>by
  cases d with
  | int i =>
   have h:(lE l).map (i::·)=some is:=h
   cases e:lE l with
   | none=>rw[e]at h;cases h
   | some m=>rw[e]at h;cases h;rw[qC e];rfl
  | _=>cases h
theorem blsOf_inv:∀ {l:List kL} {is:List Bool},lp l=some is->l=is.map DV.D.bl
 | [],is,h=>by unfold lp at h;cases h;rfl
 | d::l,is,h=>by
  cases d with
  | bl i =>
   have h:(lp l).map (i::·)=some is:=h
   cases e:lp l with
   | none=>rw[e]at h;cases h
   | some m=>rw[e]at h;cases h;rw[blsOf_inv e];rfl
  | _=>cases h
theorem RVL.ints {φ:Nat->Addr}{H:Hp}:∀ {is:List Int} {y:List V},RVL Γ φ H (is.map DV.D.int) y->y=is.map V.int
 | [],_,h=>h.unnil
 | i::is,_,h=>by
  obtain⟨x,r,rfl,G,C⟩:=RVL.uncons h
  rw[G.intE,RVL.ints C];rfl
theorem RVL.bls {φ:Nat->Addr}{H:Hp}:∀ {is:List Bool} {y:List V},RVL Γ φ H (is.map DV.D.bl) y->y=is.map V.bl
 | [],_,h=>h.unnil
 | i::is,_,h=>by
  obtain⟨x,r,rfl,G,C⟩:=RVL.uncons h
  rw[G.blE,RVL.bls C];rfl
theorem bi1_inv {f:kL->lK kL}{l:List kL}{s s':kK}{d:kL}(h:mf f l s=.ok d s'):∃ a,l=[a]/\f a s=.ok d s':=by
 match l,h with
 | [a],h=>exact⟨a,rfl,h⟩
 | [],h=>cases h
 | _::_::_,h=>cases h
theorem bi_ok (Y:X.K=Γ.K)(hc:X.calm=true){b:ls}{Z:String}{k:Nat}(hn:biN b=some (Z,k)):CallR X (.builtin Z) (rCl Γ (mq b)):=by
 intro y s σ H xs us Q I r h
 obtain⟨φ,st,l,d,J,R,hl,nl,C,q⟩:=h
 cases b with
 | len =>
  cases hn
  have C:mf DV.lenM l st=.ok d J:=C
  obtain⟨a,rfl,G⟩:=bi1_inv C
  clear C
  obtain⟨x,rfl,hx⟩:=hl.one
  unfold DV.lenM at G
  cases a with
  | tup l =>
   cases G
   obtain⟨p,ys,rfl,h1,d1⟩:=hx.tupE
   refine call_lenK Y y s σ H _ us Q I r ⟨p,ys,rfl,.inr h1,?_⟩
   rw[d1.length];exact q.here R rfl RV.intI
  | str l =>
   cases G
   have hL:=hx.strL
   have e:=hx.strE;subst e
   refine call_len_str y s σ H _ us Q I r ⟨_,rfl,by show l.toArray.size<=_;rw[au];exact am hL qN,?_⟩
   show Q (.int ((l.toArray.size:Nat):Int)) H
   rw[au]
   exact q.here R rfl RV.intI
  | ref n =>
   have e:=hx.refE;subst e
   simp only at G
   cases hs:st[n]? with
   | none=>rw[hs]at G;cases G
   | some o =>
    rw[hs]at G
    cases o with
    | lst l =>
     cases G
     obtain⟨ys,e1,d1⟩:=R.addr hs
     refine call_lenK Y y s σ H _ us Q I r ⟨φ n,ys,rfl,.inl (SqL.of e1),?_⟩
     rw[d1.length];exact q.here R rfl RV.intI
    | ro l =>
     cases G
     obtain⟨ys,e1,d1⟩:=R.obj _ _ hs
     refine call_lenK Y y s σ H _ us Q I r ⟨φ n,ys,rfl,.inl e1.1,?_⟩
     rw[d1.length];exact q.here R rfl RV.intI
    | dic l=>cases G
    | ins c l=>cases G
  | _=>cases G
 | abs =>
  cases hn
  have C:(match lE l with|some [i]=>.ok (.int (if i<0 then -i else i)) st|_=>.bad:kP kL)=.ok d J:=C
  split at C
  ·rename_i i e
   cases C
   have:=qC e;subst this
   have:=RVL.ints hl;subst this
   exact call_abs y s σ H _ us Q I r ⟨i,rfl,q.here R rfl RV.intI⟩
  ·cases C
 | min2 =>
  cases hn
  have C:(match lE l with|some [a,b]=>.ok (.int (if b<a then b else a)) st|_=>.bad:kP kL)=.ok d J:=C
  split at C
  ·rename_i a b e
   cases C
   have:=qC e;subst this
   have:=RVL.ints hl;subst this
   exact call_min2 hc y s σ H _ us Q I r ⟨_,_,rfl,q.here R rfl RV.intI⟩
  ·cases C
 | max2 =>
  cases hn
  have C:(match lE l with|some [a,b]=>.ok (.int (if b > a then b else a)) st|_=>.bad:kP kL)=.ok d J:=C
  split at C
  ·rename_i a b e
   cases C
   have:=qC e;subst this
   have:=RVL.ints hl;subst this
   exact call_max2 hc y s σ H _ us Q I r ⟨_,_,rfl,q.here R rfl RV.intI⟩
  ·cases C
 | _=>cases hn
theorem int_ok:CallR X (.type "int") (rCl Γ (mq .int)):=by
 intro y s σ H Y us Q I r h
 obtain⟨φ,st,l,d,G,R,hl,J,C,q⟩:=h
 have C:(match lp l with|some [b]=>.ok (.int (if b then 1 else 0)) st|_=>.bad:kP kL)=.ok d G:=C
 split at C
 ·rename_i b e
  cases C
  have:=blsOf_inv e;subst this
  have:=RVL.bls hl;subst this
  exact call_int1 y s σ H _ us Q I r (.inr ⟨b,rfl,q.here R rfl RV.intI⟩)
 ·cases C
noncomputable def kName:Nat->String
 | 1 => "int" | 2 => "bool" | 3 => "str" | 4 => "tuple" | _ => "list"
theorem kit_all {K:ab}(k:Nat)(hk:1<=k/\k<=5):cy K (.type "NoneType") (.type (kName k))=some false/\cy K (.type "bool") (.type (kName k))=some (k==1||k==2) /\
  cy K (.type "int") (.type (kName k))=some (k==1)/\cy K (.type "str") (.type (kName k))=some (k==3)/\cy K (.type "tuple") (.type (kName k))=some (k==4)/\cy K (.type "list") (.type (kName k))=some (k==5):=by
 obtain⟨y,C⟩:=hk
 rcases(by omega:k=1\/k=2\/k=3\/k=4\/k=5)with h|h|h|h|h<;>subst h<;>refine⟨?_,?_,?_,?_,?_,?_⟩<;>with_unfolding_all rfl
theorem isinst_tup {y:List (Addr×Obj)}{σ:St}{H:Hp}{s:af}{A:aV}{E:Value->af->Prop}{Q:Value->af->Prop}{c:Value}{b:Bool}{a:Addr}{G:List V}(I:Inv X y σ H s)(C:SqT X.K H a G)(e:cy X.K (.type "tuple") c=some b)
  (h:∀ tk,Q (.bool b) { s with toks:=tk }):wpAny (model X.prog X.w) A (call (.builtin "isinstance") [.ref a,c]) Q E s:=by
 obtain⟨its,_,⟨o,g1,J,_⟩,_⟩:=I.tuple C
 exact bL iA I.kIn ⟨o,g1,J⟩ e (λ z=>nomatch z) h
theorem isK_ok (hK:X.K=Γ.K){k:Nat}(hk:1<=k/\k<=5):CallR X (.builtin "isinstance") (λ J H Q=>∃ x,J=[x,.ty (kName k)]/\rCl Γ (mf (mw k)) [x] H Q):=by
 intro Y s σ H J us Q I r h
 obtain⟨x,rfl,φ,st,l,d,C,R,hl,nl,Z,q⟩:=h
 obtain⟨a,rfl,y⟩:=bi1_inv Z
 clear Z
 obtain⟨u,w',rfl,r1,r2⟩:=vals2 r
 cases r2
 obtain⟨x',e',hx⟩:=hl.one
 cases e'
 obtain⟨k0,k1,k2,k3,k4,k5⟩:=kit_all (K:=X.K) k hk
 unfold mw at y
 cases a with
 | non=>cases y;have e:=hx.nonE;subst e;exact jh I r1 .non k0 λ tk=>⟨.bl _,H,I.tok _,rfl,q.here R rfl RV.blI⟩
 | bl b=>cases y;have e:=hx.blE;subst e;exact jh I r1 (.bl b) k1 λ tk=>⟨.bl _,H,I.tok _,rfl,q.here R rfl RV.blI⟩
 | int b=>cases y;have e:=hx.intE;subst e;exact jh I r1 (.int b) k2 λ tk=>⟨.bl _,H,I.tok _,rfl,q.here R rfl RV.blI⟩
 | str b=>cases y;have e:=hx.strE;subst e;exact jh I r1 (.str _) k3 λ tk=>⟨.bl _,H,I.tok _,rfl,q.here R rfl RV.blI⟩
 | tup l =>
  cases y
  obtain⟨p,ys,rfl,G,d1⟩:=hx.tupE
  cases r1
  rw[<-hK]at G
  exact isinst_tup I G k4 λ tk=>⟨.bl _,H,I.tok _,rfl,q.here R rfl RV.blI⟩
 | ref n =>
  have e:=hx.refE;subst e
  have y:(match st[n]? with|some (.lst _)=>.ok (.bl (k==5)) st|_=>.bad:kP kL)=.ok d C:=y
  cases hs:st[n]? with
  | none=>rw[hs]at y;cases y
  | some o =>
   rw[hs]at y
   cases o with
   | lst l =>
    cases y
    obtain⟨ys,e1,d1⟩:=R.addr hs
    exact jh I r1 (.lst e1) k5 λ tk=>⟨.bl _,H,I.tok _,rfl,q.here R rfl RV.blI⟩
   | _=>cases y
 | _=>cases y
variable {X:Cx}
theorem vals_bl {bs:List Bool}{its:List Value}(r:Vals (bs.map V.bl) its){i:Nat}{v:Value}(h:its[i]?=some v):∃ z,bs[i]?=some z/\v=Value.bool z:=by
 induction bs generalizing its i with
 | nil=>rw[cq]at r;cases r;simp at h
 | cons b bs ih =>
  rw[aN]at r
  cases r with
  | cons r1 r2 =>
   cases i with
   | zero =>
    cases r1
    have:_=v:=aw h
    exact⟨b,rfl,this.symm⟩
   | succ i=>exact ih r2 h
theorem range_all {bs:List Bool}:(ae bs.length).all (λ i=>bs.getD i false)=bs.all id:=by
 rw[dF,aP,aP]
 constructor
 ·intro h b hb
  obtain⟨i,y,e⟩:=cE.mp hb
  have:=h i (bq.mpr y)
  rw[aG,ag y]at this
  rw[<-e];exact this
 ·intro h i y
  have y:=bq.mp y
  rw[aG,ag y]
  exact h _ (jG y)
theorem call_allL {K:ab}(hc:X.calm=true)(hK:X.K=K):CallR X (.builtin "all") (λ J H Q=>∃(a:Addr) (bs:List Bool),J=[.ref a]/\SqL K H a (bs.map V.bl)/\Q (.bl (bs.all id)) H):=by
 subst hK
 intro Y s σ H J us Q I r h
 obtain⟨a,bs,rfl,hS,q⟩:=h
 obtain⟨u,rfl,ru⟩:=vals1 r
 cases ru
 obtain⟨its,Z,C,hz⟩:=I.list hS
 have hl:=Z.length
 rw[az]at hl
 refine call_all_walk (da C.isList ?_)
 have G:a<s.heap.objs.size:=by obtain⟨o,_,e,_⟩:=C;exact aC e
 have W:=j3 (prog:=X.prog) (w:=X.w) (A:=X.A.in1) (I.ok.hd hc) s.heap.objs.size a (ay G) its.toArray
 refine⟨_,_,_,_,_,_,λ i=>bs.getD i false,rfl,W,⟨⟨_,aO _ rfl,rfl,rfl⟩,?_⟩,λ i v s' Q' E' y hQ=>?_,λ h' tk k=>?_⟩
 ·obtain⟨o,e,r⟩:=C.isList
  exact⟨o,ai _ e,r⟩
 ·obtain⟨z,e1,e2⟩:=vals_bl Z (i:=i) (v:=v) (by have y:its.toArray[i]?=some v:=y;rw[cA]at y;exact y)
  subst e2
  refine bW ?_
  have:bs.getD i false=z:=by rw[aG,e1];rfl
  rw[<-this];exact hQ
 ·have es:its.toArray.size=bs.length:=by rw[au];omega
  rw[es,range_all]
  refine⟨.bl (bs.all id),H,I.kept (h':=h') (t':=tk) λ b o q=>k b o ?_ (ai _ q),rfl,q⟩
  intro z
  have z':b=s.heap.objs.size:=by simpa using z
  exact absurd (aC q) (by rw[z'];exact bu _)
noncomputable def sgV (x:List Nat):List V:=x.map λ c=>.str ⟨#[c]⟩
theorem vals_of {vs:List V}{y:List Value}(hl:vs.length=y.length)(h:∀(i:Nat) (x:V) (u:Value),vs[i]?=some x->y[i]?=some u->RelV x u):Vals vs y:=by
 induction vs generalizing y with
 | nil=>cases y with
  | nil=>exact .nil
  | cons _ _=>cases hl
 | cons v vs ih=>cases y with
  | nil=>cases hl
  | cons a y=>exact .cons (h 0 v a rfl rfl) (ih (by simpa using hl) λ i x u e1 e2=>h (i+1) x u e1 e2)
theorem vals_signs {x:List Nat}{y:Array Value}(h:ItemsOf (SignAt ⟨x.toArray⟩) y x.length):Vals (sgV x) y.toList:=by
 have hl:(sgV x).length=y.toList.length:=by unfold sgV;rw[az];simpa using h.1.symm
 refine vals_of hl λ i v u e1 e2=>?_
 obtain⟨c,t,C,G⟩:=h.2 i u (by rw[<-Array.getElem?_toList];exact e2)
 unfold sgV at e1
 rw[av]at e1
 have C:x[i]?=some c:=by simpa using C
 rw[C]at e1
 cases e1
 exact⟨t,G⟩
theorem call_tupleS (hc:X.calm=true):CallR X (.type "tuple") (λ J H Q=>∃ x:List Nat,J=[.str ⟨x.toArray⟩]/\x.length<=kT/\∀ l,H l=none->Q (.ref l) (upd H l (.tup (sgV x)))):=by
 intro y s σ H J us Q I r h
 obtain⟨x,rfl,hl,q⟩:=h
 obtain⟨u,rfl,rx⟩:=vals1 r
 obtain⟨t,rfl⟩:=rx
 have hz:(sgV x).length<=aI:=by unfold sgV;rw[az];exact am hl qN
 refine call_tuple_str (I.ok.hd hc) _ t (λ h' tk C kp G=>?_) (by show x.toArray.size<=_;rw[au];exact am hl qN)
 have G:ItemsOf (SignAt ⟨x.toArray⟩) C x.length:=by simpa using G
 have Z:=vals_signs G
 have Y:Inv X y σ H { s with heap:=h',toks:=tk }:=I.kept (t':=tk) kp
 have I2:Inv X y σ (upd H h'.objs.size (.tup (sgV x))) { s with heap:=h'.push { cls:=.type "tuple",data:=.seq C },toks:=tk } :=
  Y.laid (t':=tk) (λ b o e=>ai _ e) (ah _) (show ObjOk X.prog X.w _ _ _ (.tup (sgV x))from⟨hz,C.toList,Z,i4 _ _⟩)
 exact⟨.ref h'.objs.size,_,I2,rfl,q _ (Y.hok.fresh (ah _))⟩
theorem call_listS (hc:X.calm=true):CallR X (.type "list") (λ G H Q=>∃ x:List Nat,G=[.str ⟨x.toArray⟩]/\x.length<=kT/\∀ l,H l=none->Q (.ref l) (upd H l (.lst (sgV x)))):=by
 intro J s σ H G us Q I r h
 obtain⟨x,rfl,hl,q⟩:=h
 obtain⟨u,rfl,rx⟩:=vals1 r
 obtain⟨t,rfl⟩:=rx
 have hz:(sgV x).length<=aI:=by unfold sgV;rw[az];exact am hl qN
 refine call_list_str (I.ok.hd hc) _ t (λ h' tk y Y kp e C=>?_) (by show x.toArray.size<=_;rw[au];exact am hl qN)
 have C:ItemsOf (SignAt ⟨x.toArray⟩) y x.length:=by simpa using C
 have Z:=vals_signs C
 exact⟨.ref s.heap.objs.size,_,I.laid (t':=tk) kp (ah _) (show ObjOk X.prog X.w _ h' _ (.lst (sgV x))from⟨hz,y.toList,Y,Z,e⟩),rfl,q _ (I.hok.fresh (ah _))⟩
section
variable {Γ:Gm} {φ φ':Nat->Addr} {H H' H1 H2 H3:Hp} {clos:List (Str×Addr)} {s s':kK}
theorem qB (hc:Cells clos H){a:Addr}{u:HO}(e:H a=some u)(h:∀ o,u≠.frz o (.own a)):isC clos a≠true:=λ z=>by
 obtain⟨o,v,q,_⟩:=hc.at z
 rw[e]at q;cases q;exact h o rfl
theorem SqT.dropC {K:ab}{a:Addr}{y:List V}(hc:Cells clos H)(h:SqT K H a y):SqT K (Drop clos H) a y:=by
 rcases h with(h|⟨o,h⟩)|h
 ·exact .inl (.inl (by rw[Drop.ne (qB hc h (λ _ z=>by cases z))];exact h))
 ·exact .inl (.inr ⟨o,by rw[Drop.ne (qB hc h (λ _ z=>by cases z))];exact h⟩)
 ·exact .inr h
theorem SqL.dropC {K:ab}{a:Addr}{y:List V}(hc:Cells clos H)(h:SqL K H a y):SqL K (Drop clos H) a y:=by
 rcases h with(h|⟨o,h⟩)|h
 ·exact .inl (.inl (by rw[Drop.ne (qB hc h (λ _ z=>by cases z))];exact h))
 ·exact .inl (.inr ⟨o,by rw[Drop.ne (qB hc h (λ _ z=>by cases z))];exact h⟩)
 ·exact .inr h
theorem SqF.dropC {K:ab}{a:Addr}{y:List V}(hc:Cells clos H)(h:SqF K H a y):SqF K (Drop clos H) a y:=by
 refine⟨SqL.dropC hc h.1,λ H2 k=>?_⟩
 have hk:Kp H (λ b=>if isC clos b=true then H b else H2 b):=λ b o e f=>by
  by_cases z:isC clos b=true
  ·show(if isC clos b=true then H b else H2 b)=_;rw[if_pos z];exact e
  ·show(if isC clos b=true then H b else H2 b)=_
   rw[if_neg z]
   exact k b o (by rw[Drop.ne z];exact e) f
 have q:=h.2 _ hk
 have at_:∀ u,(if isC clos a=true then H a else H2 a)=some u->(∀ o,u≠.frz o (.own a))->H2 a=some u:=λ u e C=>by
  by_cases z:isC clos a=true
  ·rw[if_pos z]at e
   exact absurd z (qB hc e C)
  ·rw[if_neg z]at e;exact e
 rcases q with(q|⟨o,q⟩)|q
 ·exact .inl (.inl (at_ _ q (λ _ z=>by cases z)))
 ·exact .inl (.inr ⟨o,at_ _ q (λ _ z=>by cases z)⟩)
 ·exact .inr q
mutual
theorem RV.dropC (hc:Cells clos H):∀(d:kL) (v:V),d.ncl=true->RV Γ φ H d v->RV Γ φ (Drop clos H) d v
 | .non,_,_,h=>by unfold RV at h ⊢;exact h
 | .bl _,_,_,h=>by unfold RV at h ⊢;exact h
 | .int _,_,_,h=>by unfold RV at h ⊢;exact h
 | .str _,_,_,h=>by unfold RV at h ⊢;exact h
 | .tup l,_,n,h=>by
  unfold RV at h ⊢
  unfold my at n
  obtain⟨a,y,e,q,r⟩:=h
  exact⟨a,y,e,SqT.dropC hc q,RVL.dropC hc l y n r⟩
 | .ref k,_,_,h=>by unfold RV at h ⊢;exact h
 | .fn _,_,_,h=>by unfold RV at h ⊢;exact h
 | .clo id cs,_,n,h=>by unfold my at n;cases n
theorem RVL.dropC (hc:Cells clos H):∀(l:List kL) (y:List V),lD l=true->RVL Γ φ H l y->RVL Γ φ (Drop clos H) l y
 | [],_,_,h=>by unfold RVL at h ⊢;exact h
 | d::l,_,n,h=>by
  unfold lD at n
  rw[aq]at n
  obtain⟨x,r,e,G,C⟩:=h.uncons
  subst e
  exact .cons (RV.dropC hc d x n.1 G) (RVL.dropC hc l r n.2 C)
end
theorem RVD.dropC (hc:Cells clos H):∀(l:List (kL×kL)) (y:List (Key×V)),lD (l.map (·.2))=true->RVD Γ φ H l y->RVD Γ φ (Drop clos H) l y
 | [],_,_,h=>h
 | (d,e)::l,_,n,h=>by
  obtain⟨k,v,r,e1,e2,G,C⟩:=h
  rw[aN]at n
  unfold lD at n
  rw[aq]at n
  exact⟨k,v,r,e1,e2,RV.dropC hc e v n.1 G,RVD.dropC hc l r n.2 C⟩
theorem RO.dropC {a:Addr}{o:lf}(hc:Cells clos H)(h:RO Γ φ H a o)(n:o.ncl=true):RO Γ φ (Drop clos H) a o:=by
 cases o with
 | lst l =>
  obtain⟨y,e,r⟩:=h
  exact⟨y,by rw[Drop.ne (qB hc e (λ _ z=>by cases z))];exact e,RVL.dropC hc l y n r⟩
 | ro l =>
  obtain⟨y,e,r⟩:=h
  exact⟨y,SqF.dropC hc e,RVL.dropC hc l y n r⟩
 | dic l =>
  obtain⟨y,e,r⟩:=h
  exact⟨y,by rw[Drop.ne (qB hc e (λ _ z=>by cases z))];exact e,RVD.dropC hc l y n r⟩
 | ins _ _=>exact h.elim
theorem TabsH.dropC {T:List (Addr×Str)}(hc:Cells clos H)(h:TabsH T H):TabsH T (Drop clos H):=λ y hy=>by
 obtain⟨ps,e,t,c⟩:=h y hy
 refine⟨ps,by rw[Drop.ne (qB hc e (λ _ z=>by cases z))];exact e,t,λ pos C q=>?_⟩
 obtain⟨G,e1,e2⟩:=c pos C q
 exact⟨G,e1,by rw[Drop.ne (qB hc e2 (λ _ z=>by unfold qK at z;cases z))];exact e2⟩
theorem Rp.dropC (hc:Cells clos H)(r:Rp Γ φ H s)(n:s.all mz=true):Rp Γ φ (Drop clos H) s :=
 ⟨r.inj,λ i o e=>RO.dropC hc (r.obj i o e) (aP.mp n o (aS e)),r.wf,TabsH.dropC hc r.tab⟩
theorem Gr.caught {N:List Str}{kd:Str->Option bN}{σ:St}(y:Caught clos N kd σ H1 H2)(g:Gr φ s H2 φ' s' H3):Gr φ s H1 φ' s' (Drop clos H3):=by
 have h:∀ b o,H1 b=some o->isC clos b≠true:=λ b o e z=>by rw[y.free b z]at e;cases e
 have up:∀ b o,H1 b=some o->H2 b=some o:=λ b o e=>by rw[y.ne b (h b o e)];exact e
 refine⟨⟨g.w.map,λ b o e f=>?_⟩,g.le,λ i Y C=>?_,g.kd,λ b e=>?_,λ b o e J G=>?_⟩
 ·rw[Drop.ne (h b o e)];exact g.w.kp b o (up b o e) f
 ·have:=g.new i Y C
  by_cases z:isC clos (φ' i)=true
  ·exact y.free _ z
  ·rw[<-y.ne _ z];exact this
 ·cases q:H1 b with
  | none=>exact absurd q e
  | some o =>
   rw[Drop.ne (h b o q)]
   exact g.st b (by rw[up b o q];simp)
 ·rw[Drop.ne (h b o e)];exact g.fr b o (up b o e) J G
theorem putC_same (h:∀ b,isC clos b=true->H' b=none):Same H' (Put clos H H'):=λ b o e=>by
 rw[Put.ne (λ z=>by rw[h b z]at e;cases e)];exact e
theorem Gr.put (hc:Cells clos H)(y:∀ b,isC clos b=true->H' b=none)(Y:∀ b o,Γ.K.lookup b=some o->H b=none)(R':Rp Γ φ' H' s')(g:Gr φ s (Drop clos H) φ' s' H'):Gr φ s H φ' s' (Put clos H H'):=by
 refine⟨⟨g.w.map,λ b o e f=>?_⟩,g.le,λ i Z J=>?_,g.kd,λ b e=>?_,λ b o e nt no=>?_⟩
 ·by_cases z:isC clos b=true
  ·rw[Put.cell z];exact e
  ·rw[Put.ne z];exact g.w.kp b o (by rw[Drop.ne z];exact e) f
 ·have hd:=g.new i Z J
  by_cases z:isC clos (φ' i)=true
  ·have C:=y _ z
   obtain⟨o,eo⟩:∃ o,s'[i]?=some o:=⟨s'[i],ag J⟩
   have h:=R'.obj i o eo
   cases o with
   | lst l=>obtain⟨G,e,_⟩:=h;rw[C]at e;cases e
   | ro l =>
    obtain⟨G,e,_⟩:=h
    rcases e.1 with(e|⟨_,e⟩)|⟨ob,its,n,e,_⟩
    ·rw[C]at e;cases e
    ·rw[C]at e;cases e
    ·exact Y _ _ e
   | dic l=>obtain⟨G,e,_⟩:=h;rw[C]at e;cases e
   | ins _ _=>exact h.elim
  ·rw[Drop.ne z]at hd;exact hd
 ·by_cases z:isC clos b=true
  ·rw[Put.cell z];exact e
  ·rw[Put.ne z];exact g.st b (by rw[Drop.ne z];exact e)
 ·by_cases z:isC clos b=true
  ·rw[Put.cell z];exact e
  ·rw[Put.ne z];exact g.fr b o (by rw[Drop.ne z];exact e) nt no
theorem tLam_of2 {T:List (Addr×Str)}{cells:List (Str×Addr)}{P:Addr}{q:Str}{params:a9}{body:Expr}{scope:Scope}{pos:Pos}{σ:St}{H:Hp}{Q:VK}(hT:TabsH T H)(nd:(T.map (·.1)).Nodup)(hm:(P,q)∈T)
  (go:∀(f:Addr) (H':Hp),SameT H H'->(∀ b,H b≠none->H' b≠none)->TabsH T H'->H f=none->(∃ pm C J,H' f=some (lamO f (bR "<lambda>" q params body scope (clOf cells scope.names []) pm (.ref C) J))/\H' C=some (qK C q))->Q (.ref f) H') :
  tLam cells P q params body scope pos σ H Q:=by
 obtain⟨ps,Z,ht,hc⟩:=hT _ hm
 refine⟨ps,Z,ht,λ hn C f pm J n1 n2 ne=>?_,λ cv e=>?_⟩
 ·have cP:C≠P:=λ z=>by rw[z,Z]at n1;cases n1
  have fP:f≠P:=λ z=>by rw[z,Z]at n2;cases n2
  have Y:∀ b,b≠P->H b≠none->∀ o1 o2 o3,upd (upd (upd H P o1) C o2) f o3 b=H b:=λ b z1 z2 o1 o2 o3=>by
   rw[zb λ z=>by subst z;exact z2 n2,zb λ z=>by subst z;exact z2 n1,zb z1]
  refine go f _ (λ b o d e=>?_) (λ b hb=>?_) (λ y hy=>?_) n2 ⟨pm,C,J,zn,by rw[zb ne,zn]⟩
  ·rw[Y b (λ z=>by subst z;rw[Z]at e;cases e;exact d _ rfl) (by rw[e];simp)];exact e
  ·by_cases z:b=P
   ·subst z;rw[zb (bT fP),zb (bT cP),zn];simp
   ·rw[Y b z hb];exact hb
  ·by_cases z:y.1=P
   ·have ey:y=(P,q):=by
     have:∀(l:List (Addr×Str)),(l.map (·.1)).Nodup->y∈l->(P,q)∈l->y=(P,q):=by
      intro l
      induction l with
      | nil=>intro _ h;simp at h
      | cons a l ih =>
       intro hn h1 h2
       rw[aN,cS]at hn
       rcases aH.mp h1 with e1|h1<;>rcases aH.mp h2 with e2|h2
       ·rw[e1,e2]
       ·exact absurd (by rw[<-e1,z];exact bp (f:=(·.1)) h2) hn.1
       ·exact absurd (by rw[<-e2,<-z];exact bp (f:=(·.1)) h1) hn.1
       ·exact ih hn.2 h1 h2
     exact this T nd hy hm
    subst ey
    refine⟨_,by rw[zb (bT fP),zb (bT cP),zn],?_,λ G cv e=>?_⟩
    ·rw[dA];exact TriplesOk_snoc _ _ _ _ ht
    ·rw[dA]at e
     rcases codeAmong_add _ ht e with e'|e'
     ·obtain⟨c2,e1,e2⟩:=hc G cv e'
      exact⟨c2,e1,by rw[Y c2 (λ z=>by subst z;rw[Z]at e2;unfold qK at e2;cases e2) (by rw[e2];simp)];exact e2⟩
     ·exact⟨C,e',by rw[zb ne,zn]⟩
   ·obtain⟨qs,e1,e2,e3⟩:=hT y hy
    refine⟨qs,by rw[Y y.1 z (by rw[e1];simp)];exact e1,e2,λ G cv e=>?_⟩
    obtain⟨c2,e4,e5⟩:=e3 G cv e
    exact⟨c2,e4,by rw[Y c2 (λ z=>by subst z;rw[Z]at e5;unfold qK at e5;cases e5) (by rw[e5];simp)];exact e5⟩
 ·obtain⟨C,e1,e2⟩:=hc pos cv e
  refine⟨C,e1,λ f pm J n=>go f _ (.of ((Same.refl H).new n)) (λ b hb=>by
   by_cases z:b=f
   ·subst z;rw[zn];simp
   ·rw[zb z];exact hb) (hT.new n) n ⟨pm,C,J,zn,?_⟩⟩
  rw[zb (zE e2 n)];exact e2
theorem def_ok2 {P:aM}{w:World}{K:ab}{mg:Str->Option Value}{base:Heap}{k:Nat}{f:Addr}{N ps fr:List Str}{name qual:Str}{params:a9}{body:List Stmt}{scope:Scope}{h:List (Str×Addr)}{cap:List V}{sp:Sp}
  (S:LamScope N ps fr scope) (len:∀ vs H Q E,sp vs H Q E->vs.length=ps.length) (a4:cap.length=fr.length)
  (a0:∀(G pm:Value) (c':Addr) (Z:Value) (us:List Value),us.length=ps.length->eB (cu name qual params body scope h .none .none G pm none (.ref c') Z) ⟨us,[]⟩=pure (ps.zip us))
  (Y:∀(A:aV) (outer:List Env) (s:af) (H:Hp) (cd:Value) (vs:List V) (Q:VK),Room k (A.deeper (cQ qual scope s.heap.objs.size f cd (aL (s.heap.objs.size+1) scope.names h)))->DefIn H f name qual params body scope fr cap h->(∀ b o,K.lookup b=some o->H b=none)->sp vs H Q E0 ->
   ∃ t,PSs (cxLam P w K mg base N qual scope f cd h A outer s H) body t/\t { nx:=λ _ H'=>(∀ b,isC h b=true->H' b=none)->Q .non (Put h H H'),rt:=λ v H'=>(∀ b,isC h b=true->H' b=none)->Q v (Put h H H') } (vs.map some++cap.map some) (Drop h H)) :
  ClOk P w K mg base (k+1) (λ H=>DefIn H f name qual params body scope fr cap h) f sp:=by
 refine⟨λ A outer s H us vs Q hr C hR r a1=>?_⟩
 have hl:=len _ _ _ _ a1
 obtain⟨G,pm,c',Z,h1,h2,h3,h4,h5,h6⟩:=id hR
 have a5:s.heap.NoLimit:=C.mod.nolimit.keeps λ b o e=>(C.bs b o e).1
 refine gJ hr.depth (lamO_get C.hok h1) rfl S.co S.gen rfl (codeO_get C.hok h2) ?_
 rw[a0 G pm c' Z us (by rw[<-r.length];exact hl)]
 refine aE (enter_clos S.kind (λ y hy=>?_) λ env he s1 x=>?_)
 ·rcases S.par y.1 (dE (show(y.1,y.2)∈ps.zip us from hy)).1 with q|q
  ·exact .inl q
  ·exact .inr ⟨q,qj q⟩
 ·subst he
  refine⟨a5.keeps x.toInCall.keep,codeAny_func ?_⟩
  obtain⟨t,ht,hq⟩:=Y A outer s H (.ref c') vs Q (hr.deeper _) hR (λ b o e=>(C.bs b o (C.mod.kin b o e)).2) a1
  have I:=inv_lam S hr.hd C hl a4 r h3 h4 h5 h6 x
  refine cg (ht [] s1 _ _ _ I hq) (λ fl s' hs=>?_) λ e s' hs=>hs.elim
  have fin:∀ {σ':St} {H':Hp} {v:V} {u:Value},Inv (cxLam P w K mg base N qual scope f (.ref c') h A outer s H) [] σ' H' s'->RelV v u->((∀ b,isC h b=true->H' b=none)->Q v (Put h H H'))->CE outer P w H s Q u s':=λ {σ' H' v u} J rv q=>by
   obtain⟨un,a3⟩:=lam_end C.hok h3 C.frf J.base J.hok
   have a2:∀ b,isC h b=true->H' b=none:=λ b y=>by
    obtain⟨o,v,z,_⟩:=h3.at y
    exact(show Un (frs outer) [] (Drop h H) H' s.heap s'.heap from J.base).free b o (C.hok b _ z).1 (Drop.cell y) (by simp)
   exact⟨v,_,J.os,J.bare,un,a3,rv,q a2⟩
  cases fl with
  | ret u =>
   obtain⟨v,σ',H',J,rv,q⟩:=hs
   exact fin J rv q
  | next =>
   obtain⟨σ',H',J,q⟩:=hs
   exact fin (v:=V.non) (u:=Value.none) J rfl q
  | brk =>
   obtain⟨_,_,_,q⟩:=hs
   exact bF q
  | cont =>
   obtain⟨_,_,_,q⟩:=hs
   exact bF q
theorem lam_ok2 {P:aM}{w:World}{K:ab}{mg:Str->Option Value}{base:Heap}{k:Nat}{f:Addr}{N ps fr:List Str}{qual:Str}{params:a9}{body:Expr}{scope:Scope}{h:List (Str×Addr)}{cap:List V}{sp:Sp}
  (S:LamScope N ps fr scope) (len:∀ vs H Q E,sp vs H Q E->vs.length=ps.length) (a3:cap.length=fr.length)
  (Z:∀(pm:Value) (c':Addr) (Y:Value) (us:List Value),us.length=ps.length->eB (bR "<lambda>" qual params body scope h pm (.ref c') Y) ⟨us,[]⟩=pure (ps.zip us))
  (G:∀(A:aV) (outer:List Env) (s:af) (H:Hp) (cd:Value) (vs:List V) (Q:VK),Room k (A.deeper (cQ qual scope s.heap.objs.size f cd (aL (s.heap.objs.size+1) scope.names h)))->LamAt H f qual params body scope fr cap h->(∀ b o,K.lookup b=some o->H b=none)->sp vs H Q E0 ->
   ∃ t,PE (cxLam P w K mg base N qual scope f cd h A outer s H) body t/\t (vs.map some++cap.map some) (Drop h H) λ v H'=>(∀ b,isC h b=true->H' b=none)->Q v (Put h H H')) :
  ClOk P w K mg base (k+1) (λ H=>LamAt H f qual params body scope fr cap h) f sp:=by
 refine⟨λ A outer s H us vs Q hr C hR r a0=>?_⟩
 have hl:=len _ _ _ _ a0
 obtain⟨pm,c',Y,h1,h2,h3,h4,h5,h6⟩:=id hR
 have a4:s.heap.NoLimit:=C.mod.nolimit.keeps λ b o e=>(C.bs b o e).1
 refine PySem.W.kla_callFunE hr.depth (lamO_get C.hok h1) rfl S.co S.gen rfl (codeO_get C.hok h2) ?_
 rw[Z pm c' Y us (by rw[<-r.length];exact hl)]
 refine aE (enter_clos S.kind (λ y hy=>?_) λ env he s1 x=>?_)
 ·rcases S.par y.1 (dE (show(y.1,y.2)∈ps.zip us from hy)).1 with q|q
  ·exact .inl q
  ·exact .inr ⟨q,qj q⟩
 ·subst he
  refine⟨a4.keeps x.toInCall.keep,PySem.W.kla_codeExpr ?_⟩
  obtain⟨t,ht,hq⟩:=G A outer s H (.ref c') vs Q (hr.deeper _) hR (λ b o e=>(C.bs b o (C.mod.kin b o e)).2) a0
  have I:=inv_lam S hr.hd C hl a3 r h3 h4 h5 h6 x
  refine cg (ht [] s1 _ _ _ I hq) (λ u s' hs=>?_) λ e s' hs=>hs.elim
  obtain⟨v,H',J,rv,q⟩:=hs
  obtain⟨un,a2⟩:=lam_end C.hok h3 C.frf J.base J.hok
  have a1:∀ b,isC h b=true->H' b=none:=λ b y=>by
   obtain⟨o,v,z,_⟩:=h3.at y
   exact(show Un (frs outer) [] (Drop h H) H' s.heap s'.heap from J.base).free b o (C.hok b _ z).1 (Drop.cell y) (by simp)
  exact⟨v,_,J.os,J.bare,un,a2,rv,q a1⟩
theorem Rp.sameT {φ:Nat->Addr}{H H':Hp}{s:kK}(r:Rp Γ φ H s)(e:SameT H H')(st:∀ b,H b≠none->H' b≠none)(tb:TabsH Γ.T H'):Gr φ s H φ s H'/\Rp Γ φ H' s:=by
 have kp:Kp H H':=λ b o h f=>e b o (λ ps z=>by subst z;cases f) h
 have Y:Gw φ s.length H φ H':=⟨λ _ _=>rfl,kp⟩
 refine⟨⟨Y,ah _,λ i h1 Z=>absurd Z (by omega),λ i o o' e e'=>by rw[e]at e';cases e';rfl,st,λ b o h G _=>e b o G h⟩,r.inj,λ i o C=>?_,r.wf,tb⟩
 exact(r.obj i o C).mono Y (r.wf i o C) λ m u J=>by
  obtain⟨u',y,_,G⟩:=(r.obj i o C).there m
  rw[J]at y;cases y
  exact e _ _ G J
theorem Cells.kp {H H':Hp}(h:Cells clos H)(k:Kp H H'):Cells clos H':=λ x c e=>by
 obtain⟨o,v,q,d⟩:=h x c e
 exact⟨o,v,k _ _ q rfl,d⟩
noncomputable def PVp (Γ : Gm) (cells : List (Str × Addr)) (N : List Str) (σ : St) (φ : Nat -> Addr) (H : Hp) (d : DV.D) (v : V) : Prop := RV Γ φ H d v \/ ∃ id cs, d = .clo id cs /\ ∃ f J, v = .ref f /\ Γ.lg id J /\ CloRaw H f J (clOf cells J.scope.names []) /\
      cs.length = J.fr.length /\ (∀ x, J.scope.names.lookup x = some .free -> ∃ c, cells.lookup x = some c) /\
      ∃ cap, RVL Γ φ H cs cap /\ ∀(i : Nat) (x : Str) (v : V), J.fr[i]? = some x -> cap[i]? = some v -> J.scope.names.lookup x = some .free /\ ∃ j : Nat, N[j]? = some x /\ σ[j]? = some (some v)
inductive PVL (Γ:Gm)(cells:List (Str×Addr))(N:List Str)(σ:St)(φ:Nat->Addr)(H:Hp):List kL->List V->Prop where
 | nil:PVL Γ cells N σ φ H [] []
 | cons {d v l vs} (a:PVp Γ cells N σ φ H d v) (b:PVL Γ cells N σ φ H l vs):PVL Γ cells N σ φ H (d::l) (v::vs)
theorem PVp.mono {cells:List (Str×Addr)}{N:List Str}{σ:St}{φ φ':Nat->Addr}{s s':kK}{H H':Hp}(g:Gr φ s H φ' s' H'){d:kL}{v:V}(b:d.bnd s.length=true)(h:PVp Γ cells N σ φ H d v):PVp Γ cells N σ φ' H' d v:=by
 rcases h with h|⟨id,cs,rfl,h⟩
 ·exact .inl (RV.mono g _ _ b h)
 ·obtain⟨f,J,e,y,G,Y,C,cap,Z,h7⟩:=h
  unfold kO at b
  exact .inr ⟨id,cs,rfl,f,J,e,y,G.kp g.w.kp,Y,C,cap,RVL.mono g cs cap b Z,h7⟩
theorem PVp.caught {cells:List (Str×Addr)}{N:List Str}{kd:Str->Option bN}{σ:St}{φ:Nat->Addr}{n:Nat}{G H2:Hp}(ca:Caught cells N kd σ G H2)(a0:∀ x c,cells.lookup x=some c->kd x=some .cell\/kd x=some .free){d:kL}{v:V}(b:d.bnd n=true)(h:PVp Γ cells N σ φ G d v):RV Γ φ H2 d v:=by
 have gw:Gw φ n G φ H2:=⟨λ _ _=>rfl,λ b o e _=>ca.same b o e⟩
 rcases h with h|⟨id,cs,rfl,h⟩
 ·exact RV.monoW gw _ _ b h
 ·obtain⟨f,J,e,h1,C,h4,Y,cap,h6,h7⟩:=h
  unfold kO at b
  unfold RV
  have y:∀(i:Nat) (x:Str) (v:V),J.fr[i]?=some x->cap[i]?=some v->J.scope.names.lookup x=some .free/\(kd x=some .cell\/kd x=some .free)/\∃ j:Nat,N[j]?=some x/\σ[j]?=some (some v):=λ i x v e1 e2=>by
   obtain⟨q1,q2⟩:=h7 i x v e1 e2
   obtain⟨c,q3⟩:=Y x q1
   exact⟨q1,a0 x c q3,q2⟩
  have Z:CloAt H2 f J cap (clOf cells J.scope.names []):=by
   unfold CloAt
   unfold CloRaw at C
   cases q:J.nm with
   | none=>rw[q]at C;exact lamAt_of ca C Y y
   | some p=>rw[q]at C;exact defIn_of ca C Y y
  exact⟨f,cap,J,_,e,h1,Z,by rw[h6.length,h4],RVL.monoW gw cs cap b h6⟩
theorem PVL.caught {cells:List (Str×Addr)}{N:List Str}{kd:Str->Option bN}{σ:St}{φ:Nat->Addr}{n:Nat}{C H2:Hp}(G:Caught cells N kd σ C H2)(y:∀ x c,cells.lookup x=some c->kd x=some .cell\/kd x=some .free){l:List kL}{vs:List V}(h:PVL Γ cells N σ φ C l vs)(b:kM n l=true):RVL Γ φ H2 l vs:=by
 induction h with
 | nil=>exact .nil
 | cons a _ ih =>
  unfold kM at b
  rw[aq]at b
  exact .cons (a.caught G y b.1) (ih b.2)
end
variable {Γ:Gm} {X:Cx}
noncomputable def TEv (Γ:Gm)(m:kN->kK->kP kL):TE:=λ σ H Q=>∃ φ ρ s d s',RE Γ φ H s.length ρ σ/\Rp Γ φ H s/\m ρ s=.ok d s'/\After Γ φ s H d s' Q
noncomputable def AfterL (Γ:Gm)(φ:Nat->Addr)(s:kK)(H:Hp)(l:List kL)(s':kK)(Q:List V->Hp->Prop):Prop :=
 ∀ vs φ' H',Gr φ s H φ' s' H'->s.length<=s'.length->kM s'.length l=true->RVL Γ φ' H' l vs->Rp Γ φ' H' s'->Q vs H'
noncomputable def TAv (Γ:Gm)(m:kN->kK->kP (List kL)):TA:=λ σ H Q=>∃ φ ρ s l s',RE Γ φ H s.length ρ σ/\Rp Γ φ H s/\m ρ s=.ok l s'/\AfterL Γ φ s H l s' Q
noncomputable def AfterB (Γ:Gm)(φ:Nat->Addr)(s:kK)(H:Hp)(b:Bool)(s':kK)(Q:Bool->Hp->Prop):Prop :=
 ∀ φ' H',Gr φ s H φ' s' H'->s.length<=s'.length->Rp Γ φ' H' s'->Q b H'
noncomputable def TTv (Γ:Gm)(m:kN->kK->kP kL):TT:=λ σ H Q=>∃ φ ρ s b s',RE Γ φ H s.length ρ σ/\Rp Γ φ H s/\m ρ s=.ok (.bl b) s'/\AfterB Γ φ s H b s' Q
theorem PE.imp {e:Expr}{t t':TE}(h:PE X e t)(i:∀ σ H Q,t' σ H Q->t σ H Q):PE X e t':=λ y s σ H Q I q=>h y s σ H Q I (i σ H Q q)
theorem PT.imp {e:Expr}{t t':TT}(h:PT X e t)(i:∀ σ H Q,t' σ H Q->t σ H Q):PT X e t':=λ y s σ H Q I q=>h y s σ H Q I (i σ H Q q)
theorem PA.imp {e:List Expr}{t t':TA}(h:PA X e t)(i:∀ σ H Q,t' σ H Q->t σ H Q):PA X e t':=λ pos y s σ H Q I q=>h pos y s σ H Q I (i σ H Q q)
theorem AfterB.trans {φ φ1:Nat->Addr}{s s1 s':kK}{H y:Hp}{b:Bool}{Q:Bool->Hp->Prop}(h:AfterB Γ φ s H b s' Q)(g:Gr φ s H φ1 s1 y)(l:s.length<=s1.length):AfterB Γ φ1 s1 y b s' Q :=
 λ φ' H' g' C p=>h φ' H' (g.trans g' l) (am l C) p
theorem tv_var (i:Nat){σ:St}{H:Hp}{Q:VK}(h:TEv Γ (λ ρ s=>DV.getV ρ i s) σ H Q):tVar i σ H Q:=by
 obtain⟨φ,ρ,s,d,s',E,R,y,q⟩:=h
 simp only[DV.getV]at y
 split at y
 ·rename_i d' e
  cases y
  obtain⟨b,v,e1,e2⟩:=E.val i _ e
  exact⟨v,e1,q.here R b e2⟩
 ·cases y
theorem tv_cst {c:kL}{v:V}(hb:∀ n,c.bnd n=true)(hv:∀ φ H,RV Γ φ H c v){σ:St}{H:Hp}{Q:VK}(h:TEv Γ (λ ρ s=>.ok c s) σ H Q):tC v σ H Q:=by
 obtain⟨φ,ρ,s,d,s',E,R,y,q⟩:=h
 cases y
 exact q.here R (hb _) (hv _ _)
theorem tv_op {Y G:kN->kK->kP kL}{f:kL->kL->kK->kP kL}{σ:St}{H:Hp}{Q:VK}(h:TEv Γ (λ ρ s=>(Y ρ s).bind λ x s=>(G ρ s).bind λ y s=>f x y s) σ H Q):tOp (rOp Γ f) (TEv Γ Y) (TEv Γ G) σ H Q:=by
 obtain⟨φ,ρ,s,d,s',E,R,C,q⟩:=h
 obtain⟨x,s1,e1,C⟩:=bind_inv C
 obtain⟨y,s2,e2,C⟩:=bind_inv C
 refine⟨φ,ρ,s,x,s1,E,R,e1,λ v1 φ1 H1 g1 l1 Z r1 R1=>?_⟩
 refine⟨φ1,ρ,s1,y,s2,E.mono g1 l1,R1,e2,λ v2 φ2 H2 J l2 b2 r2 R2=>?_⟩
 exact⟨φ2,s2,x,y,d,s',R2,RV.mono J x v1 Z r1,r2,zC l2 x Z,b2,C,q.trans (g1.trans J l1) (am l1 l2)⟩
theorem tv_un {m:kN->kK->kP kL}{f:kL->kK->kP kL}{r:V->Hp->VK->Prop}{σ:St}{H:Hp}{Q:VK}(h:TEv Γ (λ ρ s=>(m ρ s).bind λ x s=>f x s) σ H Q)
  (C:∀ φ s x d s' v H',Rp Γ φ H' s->RV Γ φ H' x v->x.bnd s.length=true->f x s=.ok d s'->After Γ φ s H' d s' Q->r v H' Q):tUn r (TEv Γ m) σ H Q:=by
 obtain⟨φ,ρ,s,d,s',E,R,y,q⟩:=h
 obtain⟨x,s1,e1,y⟩:=bind_inv y
 exact⟨φ,ρ,s,x,s1,E,R,e1,λ Y φ1 G g1 l1 J r1 R1=>C φ1 s1 x d s' Y G R1 r1 J y (q.trans g1 l1)⟩
theorem zZ {α:Type}{r:kP kL}{f:Bool->kK->kP α}{a:α}{t:kK}(h:kX r f=.ok a t):∃ b s,r=.ok (.bl b) s/\f b s=.ok a t:=by
 unfold kX at h
 obtain⟨d,s,e,h⟩:=bind_inv h
 cases d with
 | bl b=>exact⟨b,s,e,h⟩
 | _=>cases h
theorem tt_val {m:kN->kK->kP kL}{σ:St}{H:Hp}{Q:Bool->Hp->Prop}(h:TTv Γ m σ H Q):tB (TEv Γ m) σ H Q:=by
 obtain⟨φ,ρ,s,b,s',E,R,C,q⟩:=h
 refine⟨φ,ρ,s,.bl b,s',E,R,C,λ v φ' H' g l G r y=>?_⟩
 exact⟨b,r.blE,q φ' H' g l y⟩
theorem tt_test {m:kN->kK->kP kL}{σ:St}{H:Hp}{Q:Bool->Hp->Prop}(h:TTv Γ m σ H Q):tTest (TEv Γ m) σ H Q:=tt_val h
theorem tt_not {m:kN->kK->kP kL}{σ:St}{H:Hp}{Q:Bool->Hp->Prop}(h:TTv Γ (λ ρ s=>kX (m ρ s) λ b s=>.ok (.bl (!b)) s) σ H Q):tNot (TTv Γ m) σ H Q:=by
 obtain⟨φ,ρ,s,b,s',E,R,y,q⟩:=h
 obtain⟨c,s1,e1,y⟩:=zZ y
 cases y
 exact⟨φ,ρ,s,c,_,E,R,e1,q⟩
theorem tt_and {G C:kN->kK->kP kL}{σ:St}{H:Hp}{Q:Bool->Hp->Prop}(h:TTv Γ (λ ρ s=>kX (G ρ s) λ c s=>if c then kX (C ρ s) λ c s=>.ok (.bl c) s else .ok (.bl false) s) σ H Q):tAnd (TTv Γ G) (TTv Γ C) σ H Q:=by
 obtain⟨φ,ρ,s,b,s',E,R,y,q⟩:=h
 obtain⟨c,s1,e1,y⟩:=zZ y
 refine⟨φ,ρ,s,c,s1,E,R,e1,λ φ1 J g1 l1 R1=>?_⟩
 cases c with
 | true =>
  rw[if_pos rfl]at y ⊢
  obtain⟨Y,s2,e2,y⟩:=zZ y
  cases y
  exact⟨φ1,ρ,s1,_,_,E.mono g1 l1,R1,e2,q.trans g1 l1⟩
 | false =>
  rw[if_neg aQ]at y ⊢
  cases y
  exact q φ1 J g1 l1 R1
theorem tt_or {G C:kN->kK->kP kL}{σ:St}{H:Hp}{Q:Bool->Hp->Prop}(h:TTv Γ (λ ρ s=>kX (G ρ s) λ c s=>if c then .ok (.bl true) s else kX (C ρ s) λ c s=>.ok (.bl c) s) σ H Q):tOr (TTv Γ G) (TTv Γ C) σ H Q:=by
 obtain⟨φ,ρ,s,b,s',E,R,y,q⟩:=h
 obtain⟨c,s1,e1,y⟩:=zZ y
 refine⟨φ,ρ,s,c,s1,E,R,e1,λ φ1 J g1 l1 R1=>?_⟩
 cases c with
 | true =>
  rw[if_pos rfl]at y ⊢
  cases y
  exact q φ1 J g1 l1 R1
 | false =>
  rw[if_neg aQ]at y ⊢
  obtain⟨Y,s2,e2,y⟩:=zZ y
  cases y
  exact⟨φ1,ρ,s1,_,_,E.mono g1 l1,R1,e2,q.trans g1 l1⟩
theorem tv_not {m:kN->kK->kP kL}{σ:St}{H:Hp}{Q:VK}(h:TEv Γ (λ ρ s=>kX (m ρ s) λ b s=>.ok (.bl (!b)) s) σ H Q):tNotV (TEv Γ m) σ H Q:=by
 obtain⟨φ,ρ,s,d,s',E,R,y,q⟩:=h
 obtain⟨c,s1,e1,y⟩:=zZ y
 cases y
 exact⟨φ,ρ,s,.bl c,_,E,R,e1,λ v φ1 C g l b r R1=>⟨c,r.blE,q _ φ1 C g l rfl RV.blI R1⟩⟩
theorem tv_and {G C:kN->kK->kP kL}{σ:St}{H:Hp}{Q:VK}(h:TEv Γ (λ ρ s=>kX (G ρ s) λ c s=>if c then kX (C ρ s) λ c s=>.ok (.bl c) s else .ok (.bl false) s) σ H Q):tAndV (TEv Γ G) (TEv Γ C) σ H Q:=by
 obtain⟨φ,ρ,s,d,s',E,R,y,q⟩:=h
 obtain⟨c,s1,e1,y⟩:=zZ y
 refine⟨φ,ρ,s,.bl c,s1,E,R,e1,λ v φ1 J g1 l1 Y r1 R1=>⟨c,r1.blE,?_⟩⟩
 cases c with
 | true =>
  rw[if_pos rfl]at y ⊢
  obtain⟨c,s2,e2,y⟩:=zZ y
  cases y
  exact⟨φ1,ρ,s1,.bl c,_,E.mono g1 l1,R1,e2,q.trans g1 l1⟩
 | false =>
  rw[if_neg aQ]at y ⊢
  cases y
  exact q _ φ1 J g1 l1 rfl RV.blI R1
theorem tv_or {G C:kN->kK->kP kL}{σ:St}{H:Hp}{Q:VK}(h:TEv Γ (λ ρ s=>kX (G ρ s) λ c s=>if c then .ok (.bl true) s else kX (C ρ s) λ c s=>.ok (.bl c) s) σ H Q):tOrV (TEv Γ G) (TEv Γ C) σ H Q:=by
 obtain⟨φ,ρ,s,d,s',E,R,y,q⟩:=h
 obtain⟨c,s1,e1,y⟩:=zZ y
 refine⟨φ,ρ,s,.bl c,s1,E,R,e1,λ v φ1 J g1 l1 Y r1 R1=>⟨c,r1.blE,?_⟩⟩
 cases c with
 | true =>
  rw[if_pos rfl]at y ⊢
  cases y
  exact q _ φ1 J g1 l1 rfl RV.blI R1
 | false =>
  rw[if_neg aQ]at y ⊢
  obtain⟨c,s2,e2,y⟩:=zZ y
  cases y
  exact⟨φ1,ρ,s1,.bl c,_,E.mono g1 l1,R1,e2,q.trans g1 l1⟩
theorem tv_ite {mc G C:kN->kK->kP kL}{σ:St}{H:Hp}{Q:VK}(h:TEv Γ (λ ρ s=>kX (mc ρ s) λ k s=>if k then G ρ s else C ρ s) σ H Q):tIf (TTv Γ mc) (TEv Γ G) (TEv Γ C) σ H Q:=by
 obtain⟨φ,ρ,s,d,s',E,R,y,q⟩:=h
 obtain⟨c,s1,e1,y⟩:=zZ y
 refine⟨φ,ρ,s,c,s1,E,R,e1,λ φ1 J g1 l1 R1=>?_⟩
 cases c with
 | true =>
  rw[if_pos rfl]at y ⊢
  exact⟨φ1,ρ,s1,d,s',E.mono g1 l1,R1,y,q.trans g1 l1⟩
 | false =>
  rw[if_neg aQ]at y ⊢
  exact⟨φ1,ρ,s1,d,s',E.mono g1 l1,R1,y,q.trans g1 l1⟩
theorem ta_nil {σ:St}{H:Hp}{Q:List V->Hp->Prop}(h:TAv Γ (λ ρ s=>.ok [] s) σ H Q):tNil σ H Q:=by
 obtain⟨φ,ρ,s,d,s',E,R,y,q⟩:=h
 cases y
 exact q [] φ H (Gr.refl _ _ _) (ah _) rfl .nil R
theorem ta_cons {m:kN->kK->kP kL}{Y:kN->kK->kP (List kL)}{σ:St}{H:Hp}{Q:List V->Hp->Prop}(h:TAv Γ (λ ρ s=>(m ρ s).bind λ d s=>(Y ρ s).bind λ l s=>.ok (d::l) s) σ H Q):tCons (TEv Γ m) (TAv Γ Y) σ H Q:=by
 obtain⟨φ,ρ,s,l,s',E,R,C,q⟩:=h
 obtain⟨x,s1,e1,C⟩:=bind_inv C
 obtain⟨y,s2,e2,C⟩:=bind_inv C
 cases C
 refine⟨φ,ρ,s,x,s1,E,R,e1,λ Z φ1 H1 g1 l1 J r1 R1=>?_⟩
 refine⟨φ1,ρ,s1,y,_,E.mono g1 l1,R1,e2,λ v2 φ2 H2 G l2 b2 r2 R2=>?_⟩
 refine q (Z::v2) φ2 H2 (g1.trans G l1) (am l1 l2) ?_ (.cons (RV.mono G x Z J r1) r2) R2
 unfold kM
 rw[zC l2 x J,b2];rfl
theorem tv_call {C:kN->kK->kP (List kL)}{f:List kL->kK->kP kL}{σ:St}{H:Hp}{Q:VK}(h:TEv Γ (λ ρ s=>(C ρ s).bind λ l s=>f l s) σ H Q):tCB (rCl Γ f) (TAv Γ C) σ H Q:=by
 obtain⟨φ,ρ,s,d,s',E,R,y,q⟩:=h
 obtain⟨l,s1,e1,y⟩:=bind_inv y
 exact⟨φ,ρ,s,l,s1,E,R,e1,λ vs φ1 J g1 l1 G r1 R1=>⟨φ1,s1,l,d,s',R1,r1,G,y,q.trans g1 l1⟩⟩
theorem tv_sl {m:kN->kK->kP kL}{ml mh:kN->kK->kP kL}{σ:St}{H:Hp}{Q:VK} :
  (TEv Γ (λ ρ s=>(m ρ s).bind λ x s=>(ml ρ s).bind λ y s=>match y with|.int i=>lS x (some i) none s|_=>.bad) σ H Q->tSl (rSl Γ) (TEv Γ m) (tPart (TEv Γ ml)) tNoPart σ H Q) /\
  (TEv Γ (λ ρ s=>(m ρ s).bind λ x s=>(mh ρ s).bind λ y s=>match y with|.int i=>lS x none (some i) s|_=>.bad) σ H Q->tSl (rSl Γ) (TEv Γ m) tNoPart (tPart (TEv Γ mh)) σ H Q) /\
  (TEv Γ (λ ρ s=>(m ρ s).bind λ x s=>(ml ρ s).bind λ y s=>match y with|.int i=>(mh ρ s).bind (λ z s=>match z with|.int j=>lS x (some i) (some j) s|_=>.bad)|_=>.bad) σ H Q->tSl (rSl Γ) (TEv Γ m) (tPart (TEv Γ ml)) (tPart (TEv Γ mh)) σ H Q):=by
 refine⟨λ h=>?_,λ h=>?_,λ h=>?_⟩
 ·obtain⟨φ,ρ,s,d,s',E,R,C,q⟩:=h
  obtain⟨x,s1,e1,C⟩:=bind_inv C
  obtain⟨y,s2,e2,C⟩:=bind_inv C
  refine⟨φ,ρ,s,x,s1,E,R,e1,λ v1 φ1 H1 g1 l1 Y r1 R1=>?_⟩
  refine⟨φ1,ρ,s1,y,s2,E.mono g1 l1,R1,e2,λ v2 φ2 H2 J G b2 Z R2=>?_⟩
  cases y with
  | int i=>exact⟨i,Z.intE,φ2,s2,x,d,s',R2,RV.mono J x v1 Y r1,zC G x Y,C,q.trans (g1.trans J l1) (am l1 G)⟩
  | _=>cases C
 ·obtain⟨φ,ρ,s,d,s',E,R,C,q⟩:=h
  obtain⟨x,s1,e1,C⟩:=bind_inv C
  obtain⟨y,s2,e2,C⟩:=bind_inv C
  refine⟨φ,ρ,s,x,s1,E,R,e1,λ v1 φ1 H1 g1 l1 Y r1 R1=>?_⟩
  refine⟨φ1,ρ,s1,y,s2,E.mono g1 l1,R1,e2,λ v2 φ2 H2 J G b2 Z R2=>?_⟩
  cases y with
  | int i=>exact⟨i,Z.intE,φ2,s2,x,d,s',R2,RV.mono J x v1 Y r1,zC G x Y,C,q.trans (g1.trans J l1) (am l1 G)⟩
  | _=>cases C
 ·obtain⟨φ,ρ,s,d,s',E,R,C,q⟩:=h
  obtain⟨x,s1,e1,C⟩:=bind_inv C
  obtain⟨y,s2,e2,C⟩:=bind_inv C
  refine⟨φ,ρ,s,x,s1,E,R,e1,λ v1 φ1 H1 g1 l1 Y r1 R1=>?_⟩
  refine⟨φ1,ρ,s1,y,s2,E.mono g1 l1,R1,e2,λ v2 φ2 H2 J G b2 Z R2=>?_⟩
  cases y with
  | int i =>
   obtain⟨z,s3,e3,C⟩:=bind_inv C
   refine⟨i,Z.intE,φ2,ρ,s2,z,s3,E.mono (g1.trans J l1) (am l1 G),R2,e3,λ v3 φ3 H3 g3 l3 b3 r3 R3=>?_⟩
   cases z with
   | int j=>exact⟨j,r3.intE,φ3,s3,x,d,s',R3,RV.mono (J.trans g3 G) x v1 Y r1,zC (am G l3) x Y,C,q.trans ((g1.trans J l1).trans g3 (am l1 G)) (am (am l1 G) l3)⟩
   | _=>cases C
  | _=>cases C
variable {Γ:Gm} {X:Cx}
noncomputable def WalkOk (Γ:Gm)(J:It)(φ0:Nat->Addr)(H0:Hp)(s0:kK)(q:lL):Prop :=
 ∀ φ H s,Gr φ0 s0 H0 φ s H->s0.length<=s.length->Rp Γ φ H s->lx s0 s q.src=true->∀ i:Nat,
  (i<q.its.length->J.go i H/\∀ x H',J.yld i H x H'->Same H H'/\∀ d,q.its[i]?=some d->RV Γ φ H' d x)/\(q.its.length<=i->J.stop i H)
noncomputable def TIv (Γ:Gm)(m:kN->kK->kP lL):TI:=λ σ H R=>∃ φ ρ s q s',RE Γ φ H s.length ρ σ/\Rp Γ φ H s/\m ρ s=.ok q s' /\
 ∀ J φ' H',Gr φ s H φ' s' H'->s.length<=s'.length->kM s'.length q.its=true->Rp Γ φ' H' s'->WalkOk Γ J φ' H' s' q->R J H'
theorem PI.imp {tg e:Expr}{t t':TI}(h:PI X tg e t)(i:∀ σ H R,t' σ H R->t σ H R):PI X tg e t':=λ y s σ H R I q=>h y s σ H R I (i σ H R q)
theorem PI.or {tg e:Expr}{t t':TI}(h:PI X tg e t)(h':PI X tg e t'):PI X tg e (λ σ H R=>t σ H R\/t' σ H R):=λ y s σ H R I q=>q.elim (h y s σ H R I) (h' y s σ H R I)
theorem walk_tup {φ0:Nat->Addr}{H0:Hp}{s0:kK}{a:Addr}{G:List V}{l:List kL}(h:SqT Γ.K H0 a G)(hl:RVL Γ φ0 H0 l G)(hb:kM s0.length l=true):WalkOk Γ (Itt Γ.K a) φ0 H0 s0 ⟨l,[]⟩:=by
 intro φ H s g _ R _ i
 have h':=g.w.kp.sqT h
 have C:=RVL.mono g l G hb hl
 refine⟨λ hlt=>⟨⟨G,G[i]'(by rw[C.length];exact hlt),h',ag _⟩,λ x H' y=>?_⟩,λ J=>⟨G,h',by rw[C.length];exact J⟩⟩
 obtain⟨e,y⟩:=y
 subst e
 refine⟨Same.refl _,λ d hd=>?_⟩
 obtain⟨v,e1,e2⟩:=C.get hd
 rw[y G h']at e1;cases e1
 exact e2
theorem walk_ro {φ0:Nat->Addr}{H0:Hp}{s0:kK}{a:Addr}{G:List V}{l:List kL}(h:SqF Γ.K H0 a G)(hl:RVL Γ φ0 H0 l G)(hb:kM s0.length l=true):WalkOk Γ (Itl Γ.K a) φ0 H0 s0 ⟨l,[]⟩:=by
 intro φ H s g _ R _ i
 have h':=h.2 _ g.w.kp
 have C:=RVL.mono g l G hb hl
 refine⟨λ hlt=>⟨⟨G,G[i]'(by rw[C.length];exact hlt),h',ag _⟩,λ x H' y=>?_⟩,λ J=>⟨G,h',by rw[C.length];exact J⟩⟩
 obtain⟨e,y⟩:=y
 subst e
 refine⟨Same.refl _,λ d hd=>?_⟩
 obtain⟨v,e1,e2⟩:=C.get hd
 rw[y G h']at e1;cases e1
 exact e2
theorem walk_lst {φ0:Nat->Addr}{H0:Hp}{s0:kK}{r:Nat}{l:List kL}(Z:s0[r]?=some (.lst l)):WalkOk Γ (Itl Γ.K (φ0 r)) φ0 H0 s0 ⟨l,[r]⟩:=by
 intro φ H s g _ R Y i
 have G:r<s0.length:=(ac.mp Z).1
 have hs:s[r]?=some (.lst l):=by
  unfold lx at Y
  simp only[eA,iY,dC,decide_eq_true_eq]at Y
  rw[Y];exact Z
 obtain⟨C,e,h⟩:=R.addr hs
 rw[g.w.map r G]at e
 have h':SqL Γ.K H (φ0 r) C:=SqL.of e
 refine⟨λ hlt=>⟨⟨C,C[i]'(by rw[h.length];exact hlt),h',ag _⟩,λ x H' y=>?_⟩,λ J=>⟨C,h',by rw[h.length];exact J⟩⟩
 obtain⟨e,y⟩:=y
 subst e
 refine⟨Same.refl _,λ d hd=>?_⟩
 obtain⟨v,e1,e2⟩:=h.get hd
 rw[y C h']at e1;cases e1
 exact e2
theorem walk_str {φ0:Nat->Addr}{H0:Hp}{s0:kK}{l:List Nat}:WalkOk Γ (Its ⟨l.toArray⟩) φ0 H0 s0 ⟨l.map λ c=>.str [c],[]⟩:=by
 intro φ H s g _ R _ i
 have hsz:(⟨l.toArray⟩:Str).cps.size=l.length:=by simp
 refine⟨λ hlt=>?_,λ h=>?_⟩
 ·simp only[az]at hlt
  refine⟨show i<(⟨l.toArray⟩:Str).cps.size by rw[hsz];exact hlt,λ x H' y=>?_⟩
  obtain⟨e,c,hc,rfl⟩:=y
  subst e
  refine⟨Same.refl _,λ d hd=>?_⟩
  have C:l[i]?=some c:=by simpa using hc
  rw[av,C]at hd
  cases hd
  exact RV.strI (by simp;decide)
 ·simp only[az]at h
  show(⟨l.toArray⟩:Str).cps.size<=i
  rw[hsz];exact h
theorem walk_rng {φ0:Nat->Addr}{H0:Hp}{s0:kK}{a b:Int}:WalkOk Γ (Itr a (b - a).toNat) φ0 H0 s0 ⟨lV a b,[]⟩:=by
 intro φ H s g _ R _ i
 have hn:(lV a b).length=(b - a).toNat:=by simp[lV]
 refine⟨λ hlt=>⟨show i<(b - a).toNat by rw[<-hn];exact hlt,λ x H' y=>?_⟩,λ h=>show(b - a).toNat<=i by rw[<-hn];exact h⟩
 obtain⟨e,rfl⟩:=y
 subst e
 refine⟨Same.refl _,λ d hd=>?_⟩
 simp only[lV]at hd hlt
 rw[av,a7 (by simpa using hlt)]at hd
 cases hd
 exact RV.intI
theorem ti_rng1 {m:kN->kK->kP kL}{σ:St}{H:Hp}{R:It->Hp->Prop}(h:TIv Γ (λ ρ s=>(m ρ s).bind λ x s=>match x with|.int i=>if -mB<=i/\i<mB then .ok ⟨lV 0 i,[]⟩ s else .bad|_=>.bad) σ H R) :
  iRng1 (tCons (TEv Γ m) tNil) σ H R:=by
 obtain⟨φ,ρ,s,q,s',E,P,y,k⟩:=h
 obtain⟨x,s1,e1,y⟩:=bind_inv y
 refine⟨φ,ρ,s,x,s1,E,P,e1,λ v φ1 G g l b r J=>?_⟩
 cases x with
 | int i =>
  simp only at y
  split at y
  ·rename_i C
   cases y
   have hw:mB=2^62:=by decide
   rw[hw]at C
   refine⟨i,by rw[r.intE],C.1,C.2,k _ φ1 G g l ?_ J ?_⟩
   ·refine bndL_iff.mpr λ d hd=>?_
    simp only[lV,aB]at hd
    obtain⟨_,_,rfl⟩:=hd
    rfl
   ·have:=walk_rng (Γ:=Γ) (φ0:=φ1) (H0:=G) (s0:=s') (a:=0) (b:=i)
    rwa [kr]at this
  ·cases y
 | _=>cases y
theorem ti_seq {m:kN->kK->kP kL}{σ:St}{H:Hp}{R:It->Hp->Prop}(h:TIv Γ (λ ρ s=>(m ρ s).bind λ d s=>DV.seqM d s) σ H R) :
  iTup Γ.K (TEv Γ m) σ H R\/iList Γ.K (TEv Γ m) σ H R\/iStr (TEv Γ m) σ H R:=by
 obtain⟨φ,ρ,s,q,s',E,P,y,k⟩:=h
 obtain⟨x,s1,e1,y⟩:=bind_inv y
 unfold DV.seqM at y
 cases x with
 | tup l =>
  cases y
  refine .inl ⟨φ,ρ,s,_,_,E,P,e1,λ v φ1 G g l b r C=>?_⟩
  obtain⟨a,Y,rfl,h1,d1⟩:=r.tupE
  unfold kO at b
  exact⟨a,rfl,⟨Y,h1⟩,k _ φ1 G g l b C (walk_tup h1 d1 b)⟩
 | str l =>
  cases y
  refine .inr (.inr ⟨φ,ρ,s,_,_,E,P,e1,λ v φ1 G g J b r C=>?_⟩)
  refine⟨_,r.strE,k _ φ1 G g J ?_ C walk_str⟩
  refine bndL_iff.mpr λ d hd=>?_
  simp only[aB]at hd
  obtain⟨_,_,rfl⟩:=hd
  rfl
 | ref r =>
  simp only at y
  cases hs:s1[r]? with
  | none=>rw[hs]at y;cases y
  | some o =>
   rw[hs]at y
   cases o with
   | lst l =>
    cases y
    refine .inr (.inl ⟨φ,ρ,s,_,_,E,P,e1,λ v φ1 G g J b Z C=>?_⟩)
    have e:=Z.refE;subst e
    obtain⟨Y,e2,d1⟩:=C.addr hs
    have wf:=C.wf _ _ hs
    unfold kR at wf
    exact⟨φ1 r,rfl,⟨Y,SqL.of e2⟩,k _ φ1 G g J wf C (walk_lst hs)⟩
   | ro l =>
    cases y
    refine .inr (.inl ⟨φ,ρ,s,_,_,E,P,e1,λ v φ1 G g J b Z C=>?_⟩)
    have e:=Z.refE;subst e
    obtain⟨Y,e2,d1⟩:=C.obj _ _ hs
    have wf:=C.wf _ _ hs
    unfold kR at wf
    exact⟨φ1 r,rfl,⟨Y,e2.1⟩,k _ φ1 G g J wf C (walk_ro e2 d1 wf)⟩
   | dic l=>cases y
   | ins c l=>cases y
 | _=>cases y
variable {Γ:Gm} {X:Cx}
noncomputable def gsOf:List Nat->TGs
 | []=>gNil
 | i::is=>gCons (gName i) (gsOf is)
noncomputable def gOf (K:ab):lu->TG
 | .one i=>gName i
 | .tup is=>gTup K is.length (gsOf is)
theorem re_set {φ:Nat->Addr}{H:Hp}{n:Nat}{ρ ρ':kN}{σ:St}{i:Nat}{d:kL}{v:V}(E:RE Γ φ H n ρ σ)(r:RV Γ φ H d v)(b:d.bnd n=true)(h:ly ρ i d=some ρ'):RE Γ φ H n ρ' (σ.set i (some v)):=by
 unfold ly at h
 split at h
 ·rename_i y
  cases h
  refine⟨by rw[bA,bA];exact E.len,λ j e hj=>?_⟩
  by_cases hij:j=i
  ·subst hij
   rw[aY y]at hj
   cases hj
   exact⟨b,v,by rw[aY (by rw[<-E.len];exact y)],r⟩
  ·rw[be (bT hij)]at hj
   obtain⟨G,w,C,h3⟩:=E.val j e hj
   exact⟨G,w,by rw[be (bT hij)];exact C,h3⟩
 ·cases h
theorem gs_ok {φ:Nat->Addr}{H:Hp}{n:Nat}{Q:St->Hp->Prop}:∀(is:List Nat) (l:List kL) (y:List V) (ρ ρ':kN) (σ:St),RE Γ φ H n ρ σ->RVL Γ φ H l y->kM n l=true->lz ρ is l=some ρ'->(∀ σ',RE Γ φ H n ρ' σ'->Q σ' H)->gsOf is y σ H Q
 | [],[],y,ρ,ρ',σ,E,r,_,h,k=>by
  cases h
  exact⟨r.unnil,k σ E⟩
 | [],d::l,_,_,_,_,_,_,_,h,_=>by cases h
 | i::is,[],_,_,_,_,_,_,_,h,_=>by cases h
 | i::is,d::l,y,ρ,ρ',σ,E,r,b,h,k=>by
  have h:(ly ρ i d).bind (λ ρ=>lz ρ is l)=some ρ':=h
  obtain⟨x,C,rfl,J,G⟩:=r.uncons
  unfold kM at b
  rw[aq]at b
  cases e:ly ρ i d with
  | none=>rw[e]at h;cases h
  | some ρ1 =>
   rw[e]at h
   exact⟨x,C,rfl,gs_ok is l C ρ1 ρ' _ (re_set E J b.1 e) G b.2 h k⟩
theorem setVs_len {l:List kL}:∀ {is:List Nat} {ρ ρ':kN},lz ρ is l=some ρ'->is.length=l.length:=by
 induction l with
 | nil=>intro is ρ ρ' h;cases is with
  | nil=>rfl
  | cons i is=>cases h
 | cons d l ih=>intro is ρ ρ' h;cases is with
  | nil=>cases h
  | cons i is =>
   have h:(ly ρ i d).bind (λ ρ=>lz ρ is l)=some ρ':=h
   cases e:ly ρ i d with
   | none=>rw[e]at h;cases h
   | some ρ1=>rw[e]at h;rw[aW,aW,ih h]
theorem tg_ok {φ:Nat->Addr}{H:Hp}{n:Nat}{Q:St->Hp->Prop}{tg:lu}{d:kL}{v:V}{ρ ρ':kN}{σ:St}(E:RE Γ φ H n ρ σ)(r:RV Γ φ H d v)(b:d.bnd n=true)(h:kY ρ tg d=some ρ')(k:∀ σ',RE Γ φ H n ρ' σ'->Q σ' H):gOf Γ.K tg v σ H Q:=by
 cases tg with
 | one i=>exact k _ (re_set E r b h)
 | tup is =>
  cases d with
  | tup l =>
   have h:lz ρ is l=some ρ':=h
   obtain⟨a,y,rfl,C,d1⟩:=r.tupE
   unfold kO at b
   exact⟨a,y,rfl,C,by rw[d1.length,setVs_len h],gs_ok is l y ρ ρ' σ E d1 b h k⟩
  | _=>cases h
noncomputable def Off (φ:Nat->Addr)(s:kK)(b:Addr):Prop:=∀(i:Nat) (ob:lf),s[i]?=some ob->isMut ob=true->φ i≠b
theorem Off.mono {φ φ':Nat->Addr}{s s':kK}{H H':Hp}{b:Addr}{o:HO}(h:Off φ s b)(g:Gr φ s H φ' s' H')(hb:H b=some o):Off φ' s' b:=λ i ob e m z=>by
 by_cases C:i<s.length
 ·obtain⟨y,G⟩:∃ y,s[i]?=some y:=⟨s[i],ag C⟩
  exact h i y G (g.mu i y ob G e m) (by rw[<-g.w.map i C];exact z)
 ·have:=g.new i (by omega) (ac.mp e).1
  rw[z,hb]at this;cases this
theorem Off.new {φ:Nat->Addr}{s:kK}{H:Hp}{b:Addr}(r:Rp Γ φ H s)(h:H b=none):Off φ s b:=λ i ob e m z=>by
 obtain⟨u,y,_⟩:=(r.obj i ob e).there m
 rw[z,h]at y;cases y
theorem Rp.foreign {φ:Nat->Addr}{s:kK}{H:Hp}{b:Addr}{ys h:List V}(r:Rp Γ φ H s)(hb:H b=some (.lst ys))(ho:Off φ s b):Rp Γ φ (upd H b (.lst h)) s:=by
 have g:Gw φ s.length H φ (upd H b (.lst h)):=⟨λ _ _=>rfl,(Kp.refl H).put hb rfl⟩
 exact⟨r.inj,λ i o e=>(r.obj i o e).mono g (r.wf i o e) λ m u y=>by rw[zb (ho i o e m)];exact y,r.wf,r.tab.put hb⟩
theorem Gr.foreign {φ φ':Nat->Addr}{s s':kK}{H H':Hp}{b:Addr}{ys y:List V}(g:Gr φ s H φ' s' H')(h0:H b=none)(hb:H' b=some (.lst ys)):Gr φ s H φ' s' (upd H' b (.lst y)):=by
 have ne:∀ c o,H c=some o->c≠b:=λ c o e=>zE e h0
 refine⟨⟨g.w.map,λ c o e f=>?_⟩,g.le,g.new,g.kd,λ c hc=>?_,λ c o e C h=>?_⟩
 ·rw[zb (ne c o e)];exact g.w.kp c o e f
 ·unfold upd;split
  ·simp
  ·exact g.st c hc
 ·rw[zb (ne c o e)];exact g.fr c o e C h
noncomputable def AfterF (Γ:Gm)(φ:Nat->Addr)(s:kK)(H:Hp)(l:List kL)(s':kK)(Q:VK):Prop :=
 ∀ p ys φ' H',Gr φ s H φ' s' H'->s.length<=s'.length->kM s'.length l=true->H' p=some (.lst ys)->H p=none->Off φ' s' p->RVL Γ φ' H' l ys->Rp Γ φ' H' s'->Q (.ref p) H'
noncomputable def TFv (Γ:Gm)(m:kN->kK->kP (List kL)):TE:=λ σ H Q=>∃ φ ρ s l s',RE Γ φ H s.length ρ σ/\Rp Γ φ H s/\m ρ s=.ok l s'/\AfterF Γ φ s H l s' Q
theorem tf_list {m:kN->kK->kP (List kL)}{σ:St}{H:Hp}{Q:VK}(h:TEv Γ (λ ρ s=>(m ρ s).bind λ l s=>lj (.lst l) s) σ H Q):TFv Γ m σ H Q:=by
 obtain⟨φ,ρ,s,d,s',E,R,hm,q⟩:=h
 obtain⟨l,s1,e1,hm⟩:=bind_inv hm
 obtain⟨rfl,rfl⟩:=qI hm
 refine⟨φ,ρ,s,l,s1,E,R,e1,λ p ys φ' H' g hl hb hp h0 ho r J=>?_⟩
 have gw:Gw φ' s1.length H' (λ i=>if i=s1.length then p else φ' i) H':=⟨λ i y=>if_neg (ay y),Kp.refl _⟩
 have key:∀(i:Nat) (C:lf),(s1++[DV.O.lst l])[i]?=some C->(i<s1.length/\s1[i]?=some C)\/(i=s1.length/\C=.lst l):=λ i C e=>by
  rcases fA i s1.length with h|h|h
  ·rw[aD h]at e;exact .inl ⟨h,e⟩
  ·subst h;simp at e;exact .inr ⟨rfl,e.symm⟩
  ·rw[bD (by simp;omega)]at e;cases e
 have G:Gr φ s H (λ i=>if i=s1.length then p else φ' i) (s1++[.lst l]) H':=by
  refine⟨⟨λ i y=>by show(if i=s1.length then p else φ' i)=_;rw[if_neg (by omega)];exact g.w.map i y,g.w.kp⟩,by simp;omega,λ i h1 h2=>?_,λ i o C e e'=>?_,g.st,g.fr⟩
  ·by_cases y:i=s1.length
   ·show H (if i=s1.length then p else φ' i)=none
    rw[if_pos y];exact h0
   ·show H (if i=s1.length then p else φ' i)=none
    rw[if_neg y];exact g.new i h1 (by simp at h2;omega)
  ·rcases key i C e' with⟨_,e2⟩|⟨y,_⟩
   ·exact g.kd i o C e e2
   ·have:=(ac.mp e).1;omega
 have P:Rp Γ (λ i=>if i=s1.length then p else φ' i) H' (s1++[.lst l]):=by
  refine⟨λ i j oi Z Y ej mi mj e=>?_,λ i o e=>?_,λ i o e=>?_,J.tab⟩
  ·rcases key i oi Y with⟨y,Y⟩|⟨y,_⟩<;>rcases key j Z ej with⟨hj,ej⟩|⟨hj,_⟩
   ·rw[if_neg (ay y),if_neg (ay hj)]at e
    exact J.inj i j oi Z Y ej mi mj e
   ·rw[if_neg (ay y),if_pos hj]at e
    exact absurd e (ho i oi Y mi)
   ·rw[if_neg (ay hj),if_pos y]at e
    exact absurd e.symm (ho j Z ej mj)
   ·rw[y,hj]
  ·rcases key i o e with⟨y,e⟩|⟨y,rfl⟩
   ·show RO Γ _ _ (if i=s1.length then p else φ' i) o
    rw[if_neg (ay y)]
    exact(J.obj i o e).mono gw (J.wf i o e) λ _ u hu=>hu
   ·show RO Γ _ _ (if i=s1.length then p else φ' i) _
    rw[if_pos y]
    exact⟨ys,hp,RVL.monoW gw l ys hb r⟩
  ·rw[aR,c8]
   rcases key i o e with⟨_,e⟩|⟨_,rfl⟩
   ·exact qD (dk _) _ (J.wf i o e)
   ·exact qD (dk _) _ (by unfold kR;exact hb)
 exact q (.ref p) _ H' G (by simp;omega) (by unfold kO;simp) (by unfold RV;simp) P
theorem re_cap {φ:Nat->Addr}{H:Hp}{n:Nat}{ρ:kN}{σ:St}(E:RE Γ φ H n ρ σ)(h:List (Option Nat)):RE Γ φ H n (lM ρ h) (srcSt h σ):=by
 refine⟨by unfold lM srcSt;simp,λ i d e=>?_⟩
 unfold lM at e
 rw[av]at e
 cases q:h[i]? with
 | none=>rw[q]at e;cases e
 | some o =>
  rw[q]at e
  cases o with
  | none=>cases e
  | some j =>
   have e':(ρ[j]?).join=some d:=aw e
   have ej:ρ[j]?=some (some d):=by
    cases q2:ρ[j]? with
    | none=>rw[q2]at e';cases e'
    | some o2=>rw[q2]at e';exact congrArg some e'
   obtain⟨b,v,C,y⟩:=E.val j d ej
   refine⟨b,v,?_,y⟩
   unfold srcSt
   rw[av,q]
   show some ((σ[j]?).join)=_
   rw[C];rfl
theorem tf_comp {mI:kN->kK->kP lL}{mc me:kN->kK->kP kL}{tg:lu}{G:List (Option Nat)}{σ:St}{H:Hp}{Q:VK}
  (h:TFv Γ (λ ρ s=>(mI ρ s).bind λ q s0=>if q.its.length<=kT then lW (λ s=>lx s0 s q.src) (λ d ρ s=>match kY ρ tg d with
   | some ρ=>kX (mc ρ s) λ k s=>if k then(me ρ s).bind λ v s=>.ok (some v,ρ) s else .ok (none,ρ) s
   | none=>.bad) q.its (lM ρ G) s0 else .bad) σ H Q):tComp G (TIv Γ mI) (gOf Γ.K tg) (TTv Γ mc) (TEv Γ me) σ H Q:=by
 obtain⟨φ,ρ,s,l,s',E,R,hm,k⟩:=h
 obtain⟨q,s0,e1,hm⟩:=bind_inv hm
 split at hm
 case isFalse=>cases hm
 rename_i b4
 refine⟨φ,ρ,s,q,s0,E,R,e1,λ J φ1 H1 g1 l1 b1 R1 wk D hD=>?_⟩
 have h0:H D=none:=by
  cases e:H D with
  | none=>rfl
  | some o=>exact absurd hD (g1.st D (by rw[e];simp))
 refine⟨λ i m σ' H'=>∃ φ' ρ' t y ys rest,Gr φ1 s0 H1 φ' t H'/\Rp Γ φ' H' t/\RE Γ φ' H' t.length ρ' σ'/\H' D=some (.lst ys)/\Off φ' t D/\RVL Γ φ' H' y ys/\kM t.length y=true/\y.length<=i/\i<=q.its.length/\m=q.its.length - i /\
  lW (λ s=>lx s0 s q.src) (λ d ρ s=>match kY ρ tg d with
   | some ρ=>kX (mc ρ s) λ k s=>if k then(me ρ s).bind λ v s=>.ok (some v,ρ) s else .ok (none,ρ) s
   | none=>.bad) (q.its.drop i) ρ' t=.ok rest s'/\l=y++rest,⟨q.its.length,?_⟩,?_⟩
 ·obtain⟨g2,R2⟩:=R1.same (H':=upd H1 D (.lst [])) ((Same.refl H1).new hD)
  exact⟨φ1,lM ρ G,s0,[],[],l,g2,R2,re_cap ((E.mono g1 l1).mono g2 (ah _)) G,zn,Off.new R1 hD,.nil,rfl,ah _,dj _,by simp,by rw[gY];exact hm,rfl⟩
 ·rintro i m σ' H' ⟨φ',ρ',t,y,ys,rest,g,R',E',hy,a1,ra,ba,b6,hil,rfl,hc,hl⟩
  have C:=g.le
  rcases kt i q.its.length with hlt|hge
  ·have hd:q.its[i]?=some q.its[i]:=ag hlt
   rw[fg hlt]at hc
   unfold lW at hc
   split at hc
   case isFalse=>cases hc
   rename_i a2
   obtain⟨b2,b0⟩:=(wk φ' H' t g C R' a2 i).1 hlt
   refine .inr ⟨b2,_,λ σ2 H2 n=>⟨q.its.length - (i+1),by omega,n⟩,λ x H2 b3=>?_⟩
   obtain⟨sm,rv⟩:=b0 x H2 b3
   obtain⟨g2,R2⟩:=R'.same sm
   have rd:=rv _ hd
   have bd:(q.its[i]).bnd t.length=true:=zC C _ (bndL_get b1 hd)
   obtain⟨p,t3,hs,hc⟩:=bind_inv hc
   obtain⟨r2,t4,a5,hc⟩:=bind_inv hc
   cases hb:kY ρ' tg q.its[i]with
   | none=>rw[hb]at hs;cases hs
   | some ρ3 =>
    rw[hb]at hs
    refine tg_ok (E'.mono g2 (ah _)) rd bd hb λ σ3 E3=>?_
    obtain⟨c,t1,ec,hs⟩:=zZ hs
    refine⟨φ',ρ3,t,c,t1,E3,R2,ec,λ φ2 H4 g4 l4 R4=>?_⟩
    have a4:H2 D=some (.lst ys):=sm _ _ hy
    have a3:H4 D=some (.lst ys):=g4.fr D _ a4 (by nofun) a1
    have Y:Off φ2 t1 D:=a1.mono g4 a4
    have G4:=(g.trans g2 C).trans g4 C
    cases c with
    | true =>
     rw[if_pos rfl]at hs
     refine iteT ?_
     obtain⟨v,t2,ev,hs⟩:=bind_inv hs
     cases hs
     refine⟨φ2,ρ3,t1,v,t3,E3.mono g4 l4,R4,ev,λ w φ3 H5 g5 l5 b5 r5 R5=>?_⟩
     have Z:H5 D=some (.lst ys):=g5.fr D _ a3 (by nofun) Y
     have a0:Off φ3 t3 D:=Y.mono g5 a3
     refine⟨ys,Z,?_,?_⟩
     ·rw[ra.length]
      have:=qN
      omega
     ·have gw:Gw φ3 t3.length H5 φ3 (upd H5 D (.lst (ys++[w]))):=⟨λ _ _=>rfl,(Kp.refl H5).put Z rfl⟩
      have G5:=G4.trans g5 (am C l4)
      have GG:=g2.trans (g4.trans g5 l4) (ah _)
      have a6:RVL Γ φ3 H5 y ys:=RVL.mono GG _ _ ba ra
      have bb:kM t3.length (y++[v])=true:=zX (D_bndL_mono GG.le _ ba) (by unfold kM;rw[b5];rfl)
      refine⟨φ3,ρ3,t3,y++[v],ys++[w],r2,G5.foreign hD Z,R5.foreign Z a0,?_,zn,a0,RVL.monoW gw _ _ bb (a6.append (.cons r5 .nil)),bb,by simp;omega,hlt,rfl,?_,?_⟩
      ·have E5:=(E3.mono g4 l4).mono g5 l5
       exact⟨E5.len,λ j e hj=>by
        obtain⟨h1,z,h2,h3⟩:=E5.val j e hj
        exact⟨h1,z,h2,RV.monoW gw _ _ h1 h3⟩⟩
      ·cases hc;exact a5
      ·cases hc;rw[hl];simp
    | false =>
     rw[if_neg aQ]at hs
     refine iteF ?_
     cases hs
     have GG:=g2.trans g4 (ah _)
     exact⟨φ2,ρ3,t3,y,ys,r2,G4,R4,E3.mono g4 l4,a3,Y,RVL.mono GG _ _ ba ra,D_bndL_mono l4 _ ba,by omega,hlt,rfl,by cases hc;exact a5,by cases hc;exact hl⟩
  ·have hi:i=q.its.length:=by omega
   rw[gv hge]at hc
   unfold lW at hc
   split at hc
   case isFalse=>cases hc
   rename_i a2
   cases hc
   refine .inl ⟨(wk φ' H' s' g C R' a2 i).2 hge,?_⟩
   rw[bE]at hl
   subst hl
   exact k D ys φ' H' (g1.trans g l1) (am l1 C) ba hy h0 a1 ra R'
variable {Γ:Gm} {X:Cx}
noncomputable def EndC (Γ:Gm)(φ:Nat->Addr)(H:Hp)(n:Nat)(D:Ends):lv->Prop
 | .next ρ=>∀ σ,RE Γ φ H n ρ σ->D.nx σ H
 | .ret d=>∀ v,d.bnd n=true->RV Γ φ H d v->D.rt v H
 | .cont ρ=>∀ σ,RE Γ φ H n ρ σ->D.ct σ H
 | .brk ρ=>∀ σ,RE Γ φ H n ρ σ->D.bk σ H
noncomputable def AfterC (Γ:Gm)(φ:Nat->Addr)(s:kK)(H:Hp)(c:lv)(s':kK)(D:Ends):Prop :=
 ∀ φ' H',Gr φ s H φ' s' H'->s.length<=s'.length->Rp Γ φ' H' s'->EndC Γ φ' H' s'.length D c
noncomputable def TSv (Γ:Gm)(m:kN->kK->kP lv):TS:=λ D σ H=>∃ φ ρ s c s',RE Γ φ H s.length ρ σ/\Rp Γ φ H s/\m ρ s=.ok c s'/\AfterC Γ φ s H c s' D
theorem PS.imp {e:Stmt}{t t':TS}(h:PS X e t)(i:∀ D σ H,t' D σ H->t D σ H):PS X e t':=λ y s σ H Q I q=>h y s σ H Q I (i Q σ H q)
theorem PSs.imp {e:List Stmt}{t t':TS}(h:PSs X e t)(i:∀ D σ H,t' D σ H->t D σ H):PSs X e t':=λ y s σ H Q I q=>h y s σ H Q I (i Q σ H q)
theorem AfterC.trans {φ φ1:Nat->Addr}{s s1 s':kK}{H y:Hp}{c:lv}{D:Ends}(h:AfterC Γ φ s H c s' D)(g:Gr φ s H φ1 s1 y)(l:s.length<=s1.length):AfterC Γ φ1 s1 y c s' D :=
 λ φ' H' g' C p=>h φ' H' (g.trans g' l) (am l C) p
theorem AfterC.here {φ:Nat->Addr}{s:kK}{H:Hp}{c:lv}{D:Ends}(h:AfterC Γ φ s H c s D)(p:Rp Γ φ H s):EndC Γ φ H s.length D c:=h φ H (Gr.refl φ s H) (ah _) p
variable {D:Ends} {σ:St} {H:Hp}
theorem ts_next {m:kN->kK->kP lv}(y:∀ ρ s,m ρ s=.ok (.next ρ) s)(h:TSv Γ m D σ H):tNext D σ H:=by
 obtain⟨φ,ρ,s,c,s',E,R,e,q⟩:=h
 rw[y]at e;cases e
 exact q.here R σ E
theorem ts_ret {m:kN->kK->kP kL}(h:TSv Γ (λ ρ s=>(m ρ s).bind λ d s=>.ok (.ret d) s) D σ H):tRet (TEv Γ m) D σ H:=by
 obtain⟨φ,ρ,s,c,s',E,R,e,q⟩:=h
 obtain⟨x,s1,e1,e⟩:=bind_inv e
 cases e
 exact⟨φ,ρ,s,x,_,E,R,e1,λ v φ1 C g1 l1 y r1 R1=>q φ1 C g1 l1 R1 v y r1⟩
theorem ts_drop {m:kN->kK->kP kL}(h:TSv Γ (λ ρ s=>(m ρ s).bind λ _ s=>.ok (.next ρ) s) D σ H):tDrop (TEv Γ m) D σ H:=by
 obtain⟨φ,ρ,s,c,s',E,R,e,q⟩:=h
 obtain⟨x,s1,e1,e⟩:=bind_inv e
 cases e
 exact⟨φ,ρ,s,x,_,E,R,e1,λ v φ1 y g1 l1 C r1 R1=>q φ1 y g1 l1 R1 σ (E.mono g1 l1)⟩
theorem ts_asg {m:kN->kK->kP kL}{tg:lu}(h:TSv Γ (λ ρ s=>(m ρ s).bind λ d s=>match kY ρ tg d with|some ρ=>.ok (.next ρ) s|none=>.bad) D σ H):tAsg (TEv Γ m) (gOf Γ.K tg) D σ H:=by
 obtain⟨φ,ρ,s,c,s',E,R,e,q⟩:=h
 obtain⟨x,s1,e1,e⟩:=bind_inv e
 refine⟨φ,ρ,s,x,s1,E,R,e1,λ v φ1 C g1 l1 y r1 R1=>?_⟩
 cases hb:kY ρ tg x with
 | none=>rw[hb]at e;cases e
 | some ρ1 =>
  rw[hb]at e
  cases e
  exact tg_ok (E.mono g1 l1) r1 y hb λ σ' G=>q φ1 C g1 l1 R1 σ' G
theorem tf_list1 {m:kN->kK->kP (List kL)}(h:TSv Γ (λ ρ s=>((m ρ s).bind λ l s=>lj (.lst l) s).bind λ d s=>match kY ρ tg d with|some ρ=>.ok (.next ρ) s|none=>.bad) D σ H):tAsg (TFv Γ m) (gOf Γ.K tg) D σ H :=
 tf_list (ts_asg h)
noncomputable def rSetV (Γ:Gm):TSet:=λ o i v H Q=>∃ φ s x y d s',Rp Γ φ H s/\RV Γ φ H x o/\RV Γ φ H y i/\RV Γ φ H d v/\x.bnd s.length=true/\y.bnd s.length=true/\d.bnd s.length=true/\DV.setIx x y d s=.ok () s' /\
 ∀ φ' H',Gr φ s H φ' s' H'->s.length<=s'.length->Rp Γ φ' H' s'->Q H'
theorem ts_setIx {me mo mi:kN->kK->kP kL}(h:TSv Γ (λ ρ s=>(me ρ s).bind λ d s=>(mo ρ s).bind λ x s=>(mi ρ s).bind λ y s=>(DV.setIx x y d s).bind λ _ s=>.ok (.next ρ) s) D σ H) :
  tAsg (TEv Γ me) (gSub (TEv Γ mo) (TEv Γ mi) (rSetV Γ)) D σ H:=by
 obtain⟨φ,ρ,s,c,s',E,R,e,q⟩:=h
 obtain⟨d,s1,e1,e⟩:=bind_inv e
 obtain⟨x,s2,e2,e⟩:=bind_inv e
 obtain⟨y,s3,e3,e⟩:=bind_inv e
 obtain⟨u,s4,e4,e⟩:=bind_inv e
 cases e
 refine⟨φ,ρ,s,d,s1,E,R,e1,λ v1 φ1 H1 g1 l1 b1 r1 R1=>?_⟩
 refine⟨φ1,ρ,s1,x,s2,E.mono g1 l1,R1,e2,λ v2 φ2 H2 g2 J Y r2 R2=>?_⟩
 have G2:=g1.trans g2 l1
 have L2:=am l1 J
 refine⟨φ2,ρ,s2,y,s3,E.mono G2 L2,R2,e3,λ v3 φ3 H3 G C b3 r3 R3=>?_⟩
 refine⟨φ3,s3,x,y,d,_,R3,RV.mono G x v2 Y r2,r3,RV.mono (g2.trans G J) d v1 b1 r1,zC C x Y,b3,zC (am J C) d b1,e4,λ φ4 H4 g4 l4 R4=>?_⟩
 have Z:=G2.trans G L2
 have L3:=am L2 C
 exact q φ4 H4 (Z.trans g4 L3) (am L3 l4) R4 σ (E.mono (Z.trans g4 L3) (am L3 l4))
theorem set_ok (hu:X.A.units+1<cLine):PSet X (rSetV Γ):=by
 intro J sh σ H o i v ov iv u Q I ro ri rv h
 obtain⟨φ,s,x,y,d,s',R,rx,ry,rd,bx,Z,bd,C,q⟩:=h
 cases x with
 | ref r =>
  have C:(match s[r]? with
   | some (.lst l)=>(match y with
    | .int i=>(match lC l.length i with|some j=>DV.R.ok () (s.set r (.lst (l.set j d)))|none=>.bad)
    | _=>.bad)
   | some (.dic l)=>if y.key&&decide (l.length<kT)then .ok () (s.set r (.dic (lb y d l)))else .bad
   | _=>.bad)=.ok () s':=C
  cases e:s[r]? with
  | none=>rw[e]at C;cases C
  | some ob =>
   rw[e]at C
   cases ob with
   | lst l =>
    cases y with
    | int k =>
     have C:(match lC l.length k with|some j=>DV.R.ok () (s.set r (.lst (l.set j d)))|none=>.bad)=.ok () s':=C
     cases ej:lC l.length k with
     | none=>rw[ej]at C;cases C
     | some j =>
      rw[ej]at C
      cases C
      obtain⟨xs,h1,G⟩:=R.addr e
      have hb:kM s.length (l.set j d)=true:=bndL_iff.mpr λ z hz=>by
       rcases fh hz with h|h
       ·exact bndL_iff.mp (by have:=R.wf r _ e;unfold kR at this;exact this) z h
       ·subst h;exact bd
      refine set_list J sh σ H o i v ov iv u Q I ro ri rv ⟨φ r,xs,k,j,rx.refE,ry.intE,h1,?_,?_⟩
      ·rw[G.length];exact ej
      ·obtain⟨g,R'⟩:=R.set (o:=.lst (l.set j d)) (u:=.lst (xs.set j v)) e rfl hb λ H' g e=>⟨_,e,RVL.monoW g _ _ hb (G.set j rd)⟩
       exact q _ _ g (by simp) R'
    | _=>cases C
   | dic l =>
    have C:(if y.key&&decide (l.length<kT)then DV.R.ok () (s.set r (.dic (lb y d l)))else .bad)=.ok () s':=C
    split at C
    case isFalse=>cases C
    rename_i hc
    cases C
    rw[aq]at hc
    obtain⟨k,hk⟩:=key_some hc.1
    have hlt:=of_decide_eq_true hc.2
    obtain⟨a0,h1,G⟩:=R.obj r _ e
    have ex:=rx.refE;subst ex
    cases ro
    have ey:=key_kV hk ry;subst ey
    have hb:(DV.O.dic (lb y d l)).bnd s.length=true:=putD_bnd (R.wf r _ e) Z bd
    have Y:kM s.length ((lb y d l).map (·.2))=true:=by
     unfold kR at hb
     rw[aq]at hb
     exact hb.2
    obtain⟨g,R'⟩:=R.set (o:=.dic (lb y d l)) (u:=.dK (putK a0 k v)) e rfl hb λ H' g e=>⟨_,e,RVD.monoW g _ _ Y (G.put hk rd)⟩
    exact d_setItem hu I (DPut.k h1 (by rw[G.length];exact ar hlt qN)) ri rv λ s4 I4=>⟨_,I4,q _ _ g (by simp) R'⟩
   | _=>cases C
 | _=>cases C
theorem ts_if {mc:kN->kK->kP kL}{G C:kN->kK->kP lv}(h:TSv Γ (λ ρ s=>kX (mc ρ s) λ k s=>if k then G ρ s else C ρ s) D σ H):tIfS (TTv Γ mc) (TSv Γ G) (TSv Γ C) D σ H:=by
 obtain⟨φ,ρ,s,d,s',E,R,y,q⟩:=h
 obtain⟨c,s1,e1,y⟩:=zZ y
 refine⟨φ,ρ,s,c,s1,E,R,e1,λ φ1 J g1 l1 R1=>?_⟩
 cases c with
 | true =>
  rw[if_pos rfl]at y ⊢
  exact⟨φ1,ρ,s1,d,s',E.mono g1 l1,R1,y,q.trans g1 l1⟩
 | false =>
  rw[if_neg aQ]at y ⊢
  exact⟨φ1,ρ,s1,d,s',E.mono g1 l1,R1,y,q.trans g1 l1⟩
theorem ts_seq {Y G:kN->kK->kP lv}(h:TSv Γ (λ ρ s=>(Y ρ s).bind λ c s=>match c with|.next ρ=>G ρ s|c=>.ok c s) D σ H):tSeq (TSv Γ Y) (TSv Γ G) D σ H:=by
 obtain⟨φ,ρ,s,c,s',E,R,y,q⟩:=h
 obtain⟨J,s1,e1,y⟩:=bind_inv y
 refine⟨φ,ρ,s,J,s1,E,R,e1,λ φ1 C g1 l1 R1=>?_⟩
 cases J with
 | next ρ1=>exact λ σ1 Z=>⟨φ1,ρ1,s1,c,s',Z,R1,y,q.trans g1 l1⟩
 | ret d=>cases y;exact q φ1 C g1 l1 R1
 | cont ρ=>cases y;exact q φ1 C g1 l1 R1
 | brk ρ=>cases y;exact q φ1 C g1 l1 R1
theorem ts_while {mc:kN->kK->kP kL}{J:kN->kK->kP lv}(h:TSv Γ (DV.whl mc J) D σ H):tWhile (TTv Γ mc) (TSv Γ J) D σ H:=by
 obtain⟨φ,ρ,s,c,s',E,R,y,q⟩:=h
 unfold DV.whl at y
 split at y
 case isFalse=>cases y
 rename_i hn
 generalize hn.choose=n at y
 refine⟨λ n σ H=>∃ φ ρ s,RE Γ φ H s.length ρ σ/\Rp Γ φ H s/\DV.jF mc J n ρ s=.ok c s'/\AfterC Γ φ s H c s' D,⟨n,φ,ρ,s,E,R,y,q⟩,?_⟩
 clear E R y q hn
 rintro n σ H ⟨φ,ρ,s,E,R,y,q⟩
 cases n with
 | zero=>cases y
 | succ n =>
  unfold DV.jF at y
  obtain⟨b,s1,e1,y⟩:=zZ y
  refine⟨φ,ρ,s,b,s1,E,R,e1,λ φ1 Z g1 l1 R1=>?_⟩
  cases b with
  | false =>
   rw[if_neg aQ]at y ⊢
   cases y
   exact q φ1 Z g1 l1 R1 σ (E.mono g1 l1)
  | true =>
   rw[if_pos rfl]at y ⊢
   obtain⟨Y,s2,e2,y⟩:=bind_inv y
   refine⟨_,λ σ' H' w=>⟨n,du n,w⟩,φ1,ρ,s1,Y,s2,E.mono g1 l1,R1,e2,λ φ2 H2 g2 l2 R2=>?_⟩
   have G:=g1.trans g2 l1
   have L:=am l1 l2
   cases Y with
   | next ρ1=>exact λ σ1 C=>⟨φ2,ρ1,s2,C,R2,y,q.trans G L⟩
   | cont ρ1=>exact λ σ1 C=>⟨φ2,ρ1,s2,C,R2,y,q.trans G L⟩
   | ret d=>cases y;exact q φ2 H2 G L R2
   | brk ρ=>cases y;exact q φ2 H2 G L R2
theorem ts_for {mI : DV.Env -> DV.Sto -> DV.R DV.Sq} {mb : DV.Env -> DV.Sto -> DV.R DV.Ct} {tg : DV.Tg} (h : TSv Γ (λ ρ s => (mI ρ s).bind λ q s0 => DV.forL (λ s => DV.chk s0 s q.src) (λ d ρ s => match DV.bindT ρ tg d with
      | some ρ => mb ρ s
      | none => .bad) q.its ρ s0) D σ H) : tFor (TIv Γ mI) (gOf Γ.K tg) (TSv Γ mb) D σ H := by
  obtain⟨φ, ρ, s, c, s', E, R, hm, k⟩ := h
  obtain⟨q, s0, e1, hm⟩ := bind_inv hm
  refine⟨φ, ρ, s, q, s0, E, R, e1, λ J φ1 H1 g1 l1 b1 R1 wk => ?_⟩
  refine⟨λ i m σ' H' => ∃ φ' ρ' t, Gr φ1 s0 H1 φ' t H' /\ Rp Γ φ' H' t /\ RE Γ φ' H' t.length ρ' σ' /\ i <= q.its.length /\ m = q.its.length - i /\
    lT (λ s => lx s0 s q.src) (λ d ρ s => match kY ρ tg d with
      | some ρ => mb ρ s
      | none => .bad) (q.its.drop i) ρ' t = .ok c s', ⟨q.its.length, ?_⟩, ?_⟩
  · exact⟨φ1, ρ, s0, Gr.refl _ _ _, R1, E.mono g1 l1, dj _, by simp, by rw[gY]; exact hm⟩
  · rintro i m σ' H' ⟨φ', ρ', t, g, R', E', hil, rfl, hc⟩
    have hle := g.le
    rcases kt i q.its.length with hlt|hge
    · have hd : q.its[i]? = some q.its[i] := ag hlt
      rw[fg hlt]at hc
      unfold lT at hc
      split at hc
      case isFalse => cases hc
      rename_i hck
      obtain⟨hgo, hy2⟩ := (wk φ' H' t g hle R' hck i).1 hlt
      refine .inr ⟨hgo, _, λ σ2 H2 n => ⟨q.its.length - (i + 1), by omega, n⟩, λ x H2 hyl => ?_⟩
      obtain⟨sm, rv⟩ := hy2 x H2 hyl
      obtain⟨g2, R2⟩ := R'.same sm
      have rd := rv _ hd
      have bd : (q.its[i]).bnd t.length = true := zC hle _ (bndL_get b1 hd)
      obtain⟨c1, t3, hs, hc⟩ := bind_inv hc
      cases hb : kY ρ' tg q.its[i]with
      | none => rw[hb]at hs; cases hs
      | some ρ3 =>
        rw[hb]at hs
        refine tg_ok (E'.mono g2 (ah _)) rd bd hb λ σ3 E3 => ?_
        refine⟨φ', ρ3, t, c1, t3, E3, R2, hs, λ φ2 H4 g4 l4 R4 => ?_⟩
        have G4 := (g.trans g2 hle).trans g4 hle
        have L4 := am hle l4
        have GG := g1.trans G4 l1
        cases c1 with
        | next ρ1 => exact λ σ1 E1 => ⟨φ2, ρ1, t3, G4, R4, E1, hlt, rfl, hc⟩
        | cont ρ1 => exact λ σ1 E1 => ⟨φ2, ρ1, t3, G4, R4, E1, hlt, rfl, hc⟩
        | ret d => cases hc; exact k φ2 H4 GG (am l1 L4) R4
        | brk ρ => cases hc; exact k φ2 H4 GG (am l1 L4) R4
    · rw[gv hge]at hc
      unfold lT at hc
      split at hc
      case isFalse => cases hc
      rename_i hck
      cases hc
      exact .inl ⟨(wk φ' H' s' g hle R' hck i).2 hge, k φ' H' (g1.trans g l1) (am l1 hle) R' σ' E'⟩
structure Ck where
 N:List Str
 sc:Scope
 lk:String->List Nat->Expr->Bool
noncomputable abbrev ck0 (N:List Str)(sc:Scope):Ck:=⟨N,sc,λ _ _ _=>false⟩
noncomputable def Ck.vis (c:Ck)(x:Str):Bool:=match c.sc.names.lookup x with|some .local=>true|some .cell=>true|some .free=>true|_=>false
noncomputable def Ck.loc (c:Ck)(x:Str):Bool:=match c.sc.names.lookup x with|some .local=>true|some .cell=>true|_=>false
noncomputable def Ck.gl (c:Ck)(x:Str):Bool:=(match c.sc.names.lookup x with|some .globalImplicit=>true|_=>false)&&!(x==("__debug__":Str))&&!decide (x=("__name__":Str))
noncomputable def Ck.var (c:Ck)(i:Nat)(x:Str):Bool:=decide (c.N[i]?=some x)&&c.vis x&&!(x==("__debug__":Str))&&!(x==("__classdict__":Str))
noncomputable def shp:Expr->Bool
 | .Starred ..=>false
 | .Set ..=>false
 | .SetComp ..=>false
 | .DictComp ..=>false
 | .GeneratorExp ..=>false
 | .Slice ..=>false
 | .NamedExpr ..=>false
 | _=>true
noncomputable def noComp:Expr->Bool
 | .ListComp ..=>false
 | .SetComp ..=>false
 | .DictComp ..=>false
 | _=>true
noncomputable def noTup:Expr->Bool
 | .Tuple ..=>false
 | _=>true
noncomputable def abOk:Expr->Bool
 | .Call _ [] [] _=>false
 | _=>true
noncomputable def mC:DV.Cn->Const->Bool
 | .non,.none=>true
 | .bl b,.bool c=>b==c
 | .int i,.int j=>decide (i=j)
 | .str x,.str y=>decide (y=⟨x.toArray⟩)&&decide (x.length<=1000)
 | _,_=>false
noncomputable def mTgs (ck:Ck):List Nat->List Expr->Bool
 | [],[]=>true
 | i::is,.Name x _::es=>decide (ck.N[i]?=some x)&&ck.loc x&&mTgs ck is es
 | _,_=>false
noncomputable def mTg (ck:Ck):lu->Expr->Bool
 | .one i,.Name x _=>decide (ck.N[i]?=some x)&&ck.loc x
 | .tup is,.Tuple es _ _=>mTgs ck is es
 | _,_=>false
noncomputable def tgN:Expr->List Str
 | .Name x _=>[x]
 | .Tuple es _ _=>es.filterMap λ e=>match e with|.Name x _=>some x|_=>none
 | _=>[]
noncomputable def ckC (ck:Ck)(tgt:Expr)(caps:List (Option Nat))(scope:Scope):Ck:=⟨tgN tgt++(caps.filterMap id).map λ j=>ck.N.getD j "",scope,λ _ _ _=>false⟩
noncomputable def mComp (ck:Ck)(tg:lu)(tgt iter:Expr)(caps:List (Option Nat))(scope:Scope):Bool :=
 qo (ckC ck tgt caps scope).N caps scope ck.N ck.sc&&decide ((ckC ck tgt caps scope).N.Nodup)&&mTg (ckC ck tgt caps scope) tg tgt&&shp iter
noncomputable def biT:ls->Option Str
 | .len=>some "len" | .abs=>some "abs" | .min2=>some "min" | .max2=>some "max" | .int=>some "int" | _=>none
noncomputable def biK:ls->Option (Nat×Str)
 | .isInt=>some (1, "int")|.isBool=>some (2, "bool")|.isStr=>some (3, "str")|.isTup=>some (4, "tuple")|.isList=>some (5, "list")|_=>none
noncomputable def mkT:lX->Option Str
 | .tuple=>some "tuple" | .list=>some "list" | _=>none
noncomputable def mkF:lX->Option Str
 | .all=>some "all" | .min=>some "min" | _=>none
noncomputable def mtT:lY->Option (Str×Nat)
 | .append=>some ("append",1)|_=>none
noncomputable def asLam:lF->Bool
 | .nil=>false
 | .ex _ as=>asLam as
 | .lam _ _ _=>true
 | .fn _ as=>asLam as
noncomputable def biOk (ck:Ck)(b:ls)(x:Str)(xs:List Expr)(m1 m2:Bool):Bool:=match biK b with
 | some p=>(match xs with|[_,.Name y _]=>decide (x=("isinstance":Str))&&ck.gl x&&decide (y=p.2)&&ck.gl y&&m2|_=>false)
 | none=>(match xs with|_::_=>decide (biT b=some x)&&ck.gl x&&m1|[]=>false)
mutual
noncomputable def mE (ck:Ck):lJ->Expr->Bool
 | .var i,E=>match E with|.Name x _=>ck.var i x|_=>false
 | .cst c,E=>match E with|.Constant v _ _=>mC c v|_=>false
 | .glob g,E=>match E with|.Name x _=>decide (x=(g:Str))&&ck.gl x|_=>false
 | .bin op a b,E=>match E with|.BinOp l o r _=>decide (o=opOf op)&&mE ck a l&&mE ck b r|_=>false
 | .neg a,E=>match E with|.UnaryOp .USub l _=>mE ck a l|_=>false
 | .not a,E=>match E with|.UnaryOp .Not l _=>mE ck a l|_=>false
 | .cmp op a b,E=>match E with|.Compare l [o] [r] _=>decide (o=copOf op)&&mE ck a l&&mE ck b r|_=>false
 | .chain _ _ _ _ _,_=>false
 | .isN a,E=>match E with|.Compare l [.Is] [.Constant .none _ _] _=>mE ck a l|_=>false
 | .notN a,E=>match E with|.Compare l [.IsNot] [.Constant .none _ _] _=>mE ck a l|_=>false
 | .isB _ _,_=>false
 | .notB _ _,_=>false
 | .and a b,E=>match E with
  | .BoolOp .And [l,r] _=>mE ck a l&&mE ck b r
  | .BoolOp .And (l::m::r::es) p=>mE ck a l&&mE ck b (.BoolOp .And (m::r::es) p)
  | _=>false
 | .or a b,E=>match E with
  | .BoolOp .Or [l,r] _=>mE ck a l&&mE ck b r
  | .BoolOp .Or (l::m::r::es) p=>mE ck a l&&mE ck b (.BoolOp .Or (m::r::es) p)
  | _=>false
 | .ite c a b,E=>match E with|.IfExp t l r _=>mE ck c t&&mE ck a l&&mE ck b r|_=>false
 | .tup es,E=>match E with|.Tuple xs _ _=>mEs ck es xs&&decide (xs.length<=1000)|_=>false
 | .lst es,E=>match E with|.List xs _=>mEs ck es xs&&decide (xs.length<=1000)|_=>false
 | .dic ks vs,E=>match E with|.Dict a b _=>(match a,b with|[],[]=>mEs ck ks []&&mEs ck vs []|[some x],[y]=>mEs ck ks [x]&&mEs ck vs [y]|_,_=>false)|_=>false
 | .slL _ _,_=>false
 | .slU a hi,E=>match E with|.Subscript o (.Slice none (some h) none _) _=>mE ck a o&&mE ck hi h|_=>false
 | .slLU _ _ _,_=>false
 | .rev _,_=>false
 | .ix a b,E=>match E with|.Subscript o i _=>mE ck a o&&mE ck b i|_=>false
 | .call f as,E=>match E with|.Call (.Name x _) xs [] _=>decide (x=(f:Str))&&ck.gl x&&mAs ck as xs|_=>false
 | .callC f as,E=>match E with|.Call (.Name x _) (y::ys) [] _=>decide (x=(f:Str))&&ck.gl x&&asLam as&&mAsC ck as (y::ys)|_=>false
 | .callV i es,E=>match E with|.Call (.Name x _) (y::ys) [] _=>ck.var i x&&mEs ck es (y::ys)|_=>false
 | .bi b es,E=>match E with|.Call (.Name x _) xs [] _=>biOk ck b x xs (mEs ck es xs) (mEs ck es (xs.take 1))|_=>false
 | .mk k l,E=>match E with
  | .Call (.Name x _) [a] [] _=>ck.gl x&&shp a&&((decide (mkT k=some x)&&mL ck 2 l a)||(decide (mkF k=some x)&&mL ck 1 l a))
  | .ListComp e gs sc p=>decide (k=.list)&&mL ck 0 l (.ListComp e gs sc p)
  | _=>false
 | .mkD k l d,E=>match E with
  | .Call (.Name x _) [a] [⟨some y,de,_⟩] _=>decide (k=.min)&&decide (x=("min":Str))&&decide (y=("default":Str))&&ck.gl x&&shp a&&mL ck 1 l a&&mE ck d de
  | _=>false
 | .meth m o es,E=>match E with
  | .Call (.Attribute ob x ap) xs [] cp=>decide (mtT m=some (x,xs.length))&&abOk ob&&(ap.endLine==cp.line)&&mE ck o ob&&mEs ck es xs
  | _=>false
 | .ext o l,E=>match E with
  | .Call (.Attribute ob x ap) [a] [] cp=>decide (x=("extend":Str))&&abOk ob&&(ap.endLine==cp.line)&&mE ck o ob&&mL ck 1 l a&&shp a
  | _=>false
 | .extS _ _,_=>false
 | .mks _ _,_=>false
 | .mkDs _ _ _,_=>false
 | .join _ _,_=>false
noncomputable def mEs (ck:Ck):lc->List Expr->Bool
 | .nil,xs=>match xs with|[]=>true|_=>false
 | .cons e es,xs=>match xs with|x::xs=>mE ck e x&&shp x&&mEs ck es xs|_=>false
noncomputable def mAs (ck:Ck):lF->List Expr->Bool
 | .nil,xs=>match xs with|[]=>true|_=>false
 | .ex e es,xs=>match xs with|x::xs=>mE ck e x&&shp x&&mAs ck es xs|_=>false
 | .lam _ _ _,_=>false
 | .fn _ _,_=>false
noncomputable def mAsC (ck:Ck):lF->List Expr->Bool
 | .nil,xs=>match xs with|[]=>true|_=>false
 | .ex e es,xs=>match xs with|x::xs=>mE ck e x&&shp x&&mAsC ck es xs|_=>false
 | .lam id caps es,xs=>match xs with|x::xs=>ck.lk id caps x&&shp x&&mAsC ck es xs|_=>false
 | .fn _ _,_=>false
noncomputable def mI (ck:Ck)(tgt:Expr):DV.I->Expr->Bool
 | .rng1 a,E=>match E with|.Call (.Name x _) [l] [] _=>decide (x=("range":Str))&&ck.gl x&&mE ck a l&&shp l|_=>false
 | .rng2 _ _,_=>false
 | .seq e,x=>mE ck e x&&shp x
 | .rng3 _ _ _,_=>false
 | .enum (.seq _),_=>false
 | .zip (.seq _) (.seq _),_=>false
 | .enum _,_=>false
 | .zip _ _,_=>false
 | .items _,_=>false
noncomputable def mL (ck:Ck)(k:Nat):DV.L->Expr->Bool
 | .comp tg it e caps,E=>match E with|.ListComp elt [⟨tgt,iter,[],z⟩] scope _=>decide (z=0)&&mComp ck tg tgt iter caps scope&&mI ck tgt it iter&&mE (ckC ck tgt caps scope) e elt|_=>false
 | .compIf tg it c e caps,E=>match E with|.ListComp elt [⟨tgt,iter,[i],z⟩] scope _=>decide (z=0)&&mComp ck tg tgt iter caps scope&&mI ck tgt it iter&&mE (ckC ck tgt caps scope) c i&&mE (ckC ck tgt caps scope) e elt|_=>false
 | .disp es,E=>match E with|.List xs _=>decide (1<=k)&&mEs ck es xs&&decide (xs.length<=1000)|_=>false
 | .seq e,x=>decide (k=2)&&mE ck e x
end
theorem ff {p:Prop}(h:false=true):p:=Bool.noConfusion h
noncomputable def noAnn:a9->Bool
 | ⟨[], args, none, [], [], none, []⟩ => args.all λ y => y.annotation.isNone
 | _=>false
noncomputable def nst1:List Stmt->Option (Str×a9×Expr×Pos×Scope×Pos×List Stmt)
 | .FunctionDef nm params [.Return (some b) rp] [] none [] scope none nm' pos::xs=>if nm'=nm then some (nm,params,b,rp,scope,pos,xs)else none
 | _=>none
noncomputable def nst2 (nm:Str):List Stmt->Option (Str×Pos×Expr×Pos×Pos×Pos)
 | [.Return (some (.Call (.Name g gp) [a,.Name x p2] [] cp)) rp2]=>if x=nm then some (g,gp,a,p2,cp,rp2)else none
 | _=>none
noncomputable def nstS:mD->lZ->Option (Nat×String×lJ×String×List Nat)
 | .und i,.cons (.ret (.callC g (.ex e (.lam id caps .nil)))) .nil=>some (i,g,e,id,caps)
 | _,_=>none
noncomputable def mNest (ck:Ck)(s:mD)(ss:lZ)(S:List Stmt):Bool :=
 (nstS s ss).any λ d=>(nst1 S).any λ q=>(nst2 q.1 q.2.2.2.2.2.2).any λ r =>
  decide (ck.N[d.1]?=some q.1)&&ck.loc q.1&&ck.var d.1 q.1&&ck.lk d.2.2.2.1 d.2.2.2.2 (.NamedExpr (.Name q.1 q.2.2.2.1) (.Lambda q.2.1 q.2.2.1 q.2.2.2.2.1 q.2.2.2.2.2.1) q.2.2.2.2.2.1)&&decide (r.1=(d.2.1:Str))&&ck.gl r.1&&mE ck d.2.2.1 r.2.2.1&&shp r.2.2.1&&noAnn q.2.1
mutual
noncomputable def mS (ck:Ck):mD->Stmt->Bool
 | .asg tg e,S=>match S with
  | .Assign [t] v _=>mTg ck tg t&&mE ck e v&&(match tg with|.one _=>true|.tup _=>noTup v&&noComp v)
  | _=>false
 | .setIx o i e,S=>match S with|.Assign [.Subscript ob ix _] v _=>mE ck o ob&&mE ck i ix&&mE ck e v&&noComp v&&noTup v|_=>false
 | .aug _ _,_=>false
 | .ex e,S=>match S with|.Expr v _=>mE ck e v&&noComp v|_=>false
 | .ret e,S=>match S with|.Return (some v) _=>mE ck e v|_=>false
 | .retN,_=>false
 | .ite c a b,S=>match S with|.If t l r _=>mE ck c t&&mSs ck a l&&mSs ck b r|_=>false
 | .whl c b,S=>match S with|.While t l [] _=>mE ck c t&&mSs ck b l|_=>false
 | .for_ tg it b,S=>match S with|.For tgt iter l [] _=>mTg ck tg tgt&&mI ck tgt it iter&&mSs ck b l|_=>false
 | .pass,_=>false
 | .cont,_=>false
 | .brk,_=>false
 | .raise,_=>true
 | .und _,_=>false
noncomputable def mSs (ck:Ck):lZ->List Stmt->Bool
 | .nil,xs=>match xs with|[]=>true|_=>false
 | .cons s ss,xs=>match xs with|x::xs=>mNest ck s ss (x::xs)||(mS ck s x&&mSs ck ss xs)|_=>false
end
theorem mE_shp {y:Ck}{e:lJ}{E:Expr}(h:mE y e E=true):shp E=true:=by
 cases E<;>first|rfl|(exfalso;cases e<;>exact ff h)
theorem mI_shp {C:Ck}{y:Expr}{e:DV.I}{E:Expr}(h:mI C y e E=true):shp E=true:=by
 cases e with
 | seq e=>have h:(mE C e E&&shp E)=true:=h;rw[aq]at h;exact h.2
 | enum a=>cases E<;>first|rfl|(exfalso;cases a<;>exact ff h)
 | zip a b=>cases E<;>first|rfl|(exfalso;cases a<;>first|exact ff h|(cases b<;>exact ff h))
 | _=>cases E<;>first|rfl|exact ff h
theorem zq {e:Expr}{es:List Expr}{env:Env}(h:shp e=true):bo (e::es) env=(false,eval e env)::bo es env:=by
 cases e<;>first|rfl|cases h
theorem zM {env:Env}{pos:Pos}:∀ {es:List Expr},(∀ e∈es,shp e=true)->(dU pos (bo es env)).any (·.1)=false/\(dU pos (bo es env)).all (λ x=>!x.1)=true
 | [],_=>⟨rfl,rfl⟩
 | e::es,h=>by
  have C:=zq (es:=es) (env:=env) (h e (aF ..))
  obtain⟨y,h3⟩:=zM (env:=env) (pos:=pos) (es:=es) λ x hx=>h x (ax _ hx)
  rw[C]
  unfold dU at y h3 ⊢
  simp only[aN,fM,eA,y,h3]
  exact⟨rfl,rfl⟩
theorem fold_ok {e:Expr}{env:Env}(h:shp e=true)(x:Value):db e env x=pure x:=by
 cases e<;>first|rfl|cases h
theorem behind_ok {e:Expr}{op:CmpOp}(h:shp e=true):cX op e=false:=by
 cases e<;>first|rfl|cases h
theorem swap_ok {e:Expr}{t:Option Expr}{l:Nat}{env:Env}(h:noComp e=true):fR e t l env=pure false:=by
 cases e<;>first|rfl|cases h
theorem base_ok {e:Expr}{f:Str}{env:Env}(h:abOk e=true):fI e f env (eval e env)=eval e env:=by
 cases e with
 | Call g a k p =>
  cases g with
  | Name x p' =>
   cases a with
   | nil=>cases k with
    | nil=>cases h
    | cons _ _=>rfl
   | cons _ _=>rfl
  | _=>rfl
 | _=>rfl
theorem stores_ok {tg e:Expr}{env:Env}(h:noTup e=true):swappedStores [tg] e env=pure none:=by
 cases e with
 | Tuple _ _ _=>cases h
 | _=>cases tg<;>rfl
theorem plainIx_ok {e:Expr}(h:shp e=true):PlainIx e:=by
 intro o i
 cases e<;>first|rfl|cases h
noncomputable def spV (Γ:Gm)(c:List kL->kK->kP kL):Sp:=λ vs H Q _=>rCl Γ c vs H Q
noncomputable def bNames:List Str:=["len", "abs", "min", "max", "int", "isinstance", "bool", "str", "tuple", "list", "range", "sum", "all", "any", "sorted", "zip", "enumerate", "ord"]
noncomputable def spL (Γ:Gm)(c:List kL->List kL->kK->kP kL)(cap:List V):Sp:=λ vs H Q _=>∃ φ s cs l d s',Rp Γ φ H s/\RVL Γ φ H l vs/\RVL Γ φ H cs cap/\kM s.length l=true/\kM s.length cs=true/\c cs l s=.ok d s'/\After Γ φ s H d s' Q
noncomputable def LamI.own (J:LamI):Str:=match J.nm with|none => "<lambda>" | some p=>p.1
noncomputable def lamText (J:LamI)(params:a9)(body:Expr)(scope:Scope)(pos:Pos):Expr:=match J.nm with
 | none=>.Lambda params body scope pos
 | some p=>.NamedExpr (.Name p.1 p.2) (.Lambda params body scope pos) pos
structure LamHere (Γ:Gm)(X:Cx)(N:List Str)(id:String)(caps:List Nat)(params:a9)(body:Expr)(scope:Scope)(c P:Addr)(J:LamI):Prop where
 code:X.env.code=.ref c
 hd:bS X.base c P
 bm:BM X.mg X.base
 ck:lamCheck scope X.env.scope=true
 df:j4 params X.env=([],[])
 lg:Γ.lg id J
 q:J.qual=X.env.qual++J.own
 p:J.params=params
 b:J.body=body
 s:J.scope=scope
 len:J.fr.length=caps.length
 at_:∀(i j:Nat) (x:Str),caps[i]?=some j->J.fr[i]?=some x->N[j]?=some x
 fr:∀ x∈J.fr,scope.names.lookup x=some .free
 cl:∀ x,scope.names.lookup x=some .free->∃ c,X.env.cells.lookup x=some c
 tab:(P,J.qual)∈Γ.T
 nd:(Γ.T.map (·.1)).Nodup
 fn:∀ x,X.fn x=true
 kd:∀ x c,X.env.cells.lookup x=some c->X.env.kindOf x=some .cell\/X.env.kindOf x=some .free
structure CG (Γ:Gm)(F:lh)(n:Nat)(X:Cx)(ck:Ck):Prop where
 K:X.K=Γ.K
 N:X.N=ck.N
 nd:ck.N.Nodup
 xe:X.xe=λ _ _=>False
 calm:X.calm=true
 deep:kZ+1<=n
 room:Room n X.A
 sc:∀ x k,ck.sc.names.lookup x=some k->X.env.scope.names.lookup x=some k\/(k=.free/\X.env.scope.names.lookup x=some .cell)
 fn:∀ x,ck.sc.names.lookup x=some .cell->X.fn x=true
 bi:∀ x∈bNames,X.mg x=none
 call:∀ f:String,(∀ l s,F.call f l s=.bad)\/∃ a fd ps,FnOk X.prog X.w X.K X.mg X.base CX0 n a fd ps (spV Γ (F.call f))/\X.mg (f:Str)=some (.ref a)/\cb X.K (.ref a)=true/\Binds X.K fd ps []
 con:∀ x d,F.con x=some d->∃ v u,X.mg (x:Str)=some u/\RelV v u/\(∀ m,d.bnd m=true)/\∀ φ H,RV Γ φ H d v
 lam:∀ id caps E,ck.lk id caps E=true->∃ c P params body scope pos J,E=lamText J params body scope pos/\LamHere Γ X ck.N id caps params body scope c P J
 cl:∀(id:String) (J:LamI) (f:Addr) (cap:List V) (clos:List (Str×Addr)),Γ.lg id J->cap.length=J.fr.length->ClOk X.prog X.w X.K X.mg X.base n (λ H=>CloAt H f J cap clos) f (spL Γ (F.lam id) cap)
 fa:∀(f:String) (a:Addr),Γ.fa f=some a->X.mg (f:Str)=some (.ref a)/\∃ oc od fd sl,X.K.lookup a=some ⟨oc,od,.func fd,sl⟩
 fk:DV.FK F
section
variable {Γ:Gm} {F:lh} {n:Nat} {X:Cx} {ck:Ck}
theorem CG.vis (G:CG Γ F n X ck){x:Str}(h:ck.vis x=true):Vis X.env.scope x:=by
 unfold Ck.vis at h
 split at h
 ·rename_i e;rcases G.sc _ _ e with z|⟨z,_⟩
  ·exact .inl z
  ·cases z
 ·rename_i e;rcases G.sc _ _ e with z|⟨z,_⟩
  ·exact .inr (.inl z)
  ·cases z
 ·rename_i e;rcases G.sc _ _ e with z|⟨_,z⟩
  ·exact .inr (.inr z)
  ·exact .inr (.inl z)
 ·cases h
theorem CG.loc (G:CG Γ F n X ck){x:Str}(h:ck.loc x=true):Loc X.env.scope x/\(X.fn x=true\/X.env.scope.names.lookup x=some .local):=by
 unfold Ck.loc at h
 split at h
 ·rename_i e;rcases G.sc _ _ e with z|⟨z,_⟩
  ·exact⟨.inl z,.inr z⟩
  ·cases z
 ·rename_i e;rcases G.sc _ _ e with z|⟨z,_⟩
  ·exact⟨.inr z,.inl (G.fn _ e)⟩
  ·cases z
 ·cases h
theorem CG.gl (G:CG Γ F n X ck){x:Str}(h:ck.gl x=true):Gl X x/\(x==("__debug__":Str))=false/\x ≠ "__name__":=by
 unfold Ck.gl at h
 simp only[aq,fB]at h
 obtain⟨⟨y,C⟩,h3⟩:=h
 refine⟨?_,C,of_decide_eq_false h3⟩
 split at y
 ·rename_i e;rcases G.sc _ _ e with z|⟨z,_⟩
  ·exact z
  ·cases z
 ·cases y
theorem cg_tgs (G:CG Γ F n X ck):∀ {is:List Nat} {es:List Expr},mTgs ck is es=true->PGs X es (gsOf is)/\(cx es X.env).length=is.length/\(cx es X.env).findIdx? (·.1)=none
 | [],[],_=>⟨pgs_nil,rfl,rfl⟩
 | [],_::_,h=>by cases h
 | i::is,[],h=>by cases h
 | i::is,e::es,h=>by
  cases e with
  | Name x p =>
   unfold mTgs at h
   simp only[aq,decide_eq_true_eq]at h
   obtain⟨⟨C,y⟩,h3⟩:=h
   obtain⟨l1,J⟩:=G.loc y
   obtain⟨a,b,c⟩:=cg_tgs G h3
   have hs:cx (.Name x p::es) X.env=(false,f8 (.Name x p) X.env)::cx es X.env:=rfl
   refine⟨pgs_cons (pg_name (by rw[G.N];exact G.nd) (by rw[G.N];exact C) l1 J) a (by rw[hs];rfl),by rw[hs,aW,aW,b],?_⟩
   rw[hs,List.findIdx?_cons]
   simp[c]
  | _=>cases h
theorem cg_tg (G:CG Γ F n X ck){tg:lu}{e:Expr}(h:mTg ck tg e=true):PG X e (gOf Γ.K tg):=by
 unfold mTg at h
 split at h
 ·simp only[aq,decide_eq_true_eq]at h
  obtain⟨l1,y⟩:=G.loc h.2
  exact pg_name (by rw[G.N];exact G.nd) (by rw[G.N];exact h.1) l1 y
 ·obtain⟨a,b,c⟩:=cg_tgs G h
  exact pg_tupK G.K G.calm a b c
 ·cases h
theorem CG.comp (G:CG Γ F n X ck){tg:lu}{Y iter:Expr}{J:List (Option Nat)}{scope:Scope}(h:mComp ck tg Y iter J scope=true) :
  qo (ckC ck Y J scope).N J scope X.N X.env.scope=true/\shp iter=true /\
  ∀(C:Addr) (cells:List (Str×Addr)) (s:af) (H:Hp) (ex:List Addr),CG Γ F n (zU X (ckC ck Y J scope).N scope C cells s H ex) (ckC ck Y J scope)/\PG (zU X (ckC ck Y J scope).N scope C cells s H ex) Y (gOf Γ.K tg):=by
 unfold mComp at h
 simp only[aq,decide_eq_true_eq]at h
 obtain⟨⟨⟨Z,h2⟩,h3⟩,h4⟩:=h
 refine⟨?_,h4,λ C cells s H ex=>?_⟩
 ·rw[G.N]
  unfold qo at Z ⊢
  simp only[aq]at Z ⊢
  obtain⟨⟨⟨⟨⟨a1,a2⟩,a3⟩,a4⟩,a5⟩,a6⟩:=Z
  refine⟨⟨⟨⟨⟨a1,?_⟩,a3⟩,a4⟩,a5⟩,a6⟩
  rw[aP]at a2 ⊢
  intro y hy
  have:=a2 y hy
  rw[bO]at this ⊢
  rcases this with q|q
  ·exact .inl q
  ·right
   rw[bO]at q ⊢
   rcases q with q|q
   ·rcases G.sc _ _ (eq_of_beq q)with z|⟨z,_⟩
    ·left;rw[z];exact beq_self_eq_true _
    ·cases z
   ·rcases G.sc _ _ (eq_of_beq q)with z|⟨_,z⟩
    ·right;rw[z];exact beq_self_eq_true _
    ·left;rw[z];exact beq_self_eq_true _
 ·have G':CG Γ F n (zU X (ckC ck Y J scope).N scope C cells s H ex) (ckC ck Y J scope):=by
   refine⟨G.K,rfl,h2,rfl,G.calm,G.deep,G.room,λ x k e=>?_,λ x e=>?_,G.bi,G.call,G.con,λ _ _ _ h=>(by cases h),G.cl,G.fa,G.fk⟩
   ·have q:=qP (env:=X.env) e
    have q':(ef scope X.env).names.lookup x=some (if(k==NameKind.free&&X.env.scope.kind==.function&&X.env.kindOf x==some .cell)then NameKind.cell else k):=q
    show(ef scope X.env).names.lookup x=some k\/_
    rw[q']
    split
    ·rename_i hc
     simp only[aq]at hc
     exact .inr ⟨eq_of_beq hc.1.1,rfl⟩
    ·exact .inl rfl
   ·show(scope.names.lookup x==some .cell)=true
    rw[show scope.names.lookup x=some .cell from e];rfl
  exact⟨G',cg_tg G' h3⟩
end
section
variable {Γ:Gm} {F:lh} {n:Nat} {X:Cx} {ck:Ck} {σ:St} {H:Hp} {Q:VK}
theorem TEv.eq {m m':kN->kK->kP kL}(e:∀ ρ s,m ρ s=m' ρ s)(q:TEv Γ m σ H Q):TEv Γ m' σ H Q:=by
 have:m=m':=funext λ ρ=>funext λ s=>e ρ s
 subst this;exact q
theorem TTv.eq {m m':kN->kK->kP kL}{Q:Bool->Hp->Prop}(e:∀ ρ s,m ρ s=m' ρ s)(q:TTv Γ m σ H Q):TTv Γ m' σ H Q:=by
 have:m=m':=funext λ ρ=>funext λ s=>e ρ s
 subst this;exact q
theorem TAv.eq {m m':kN->kK->kP (List kL)}{Q:List V->Hp->Prop}(e:∀ ρ s,m ρ s=m' ρ s)(q:TAv Γ m σ H Q):TAv Γ m' σ H Q:=by
 have:m=m':=funext λ ρ=>funext λ s=>e ρ s
 subst this;exact q
theorem TFv.eq {m m':kN->kK->kP (List kL)}(e:∀ ρ s,m ρ s=m' ρ s)(q:TFv Γ m σ H Q):TFv Γ m' σ H Q:=by
 have:m=m':=funext λ ρ=>funext λ s=>e ρ s
 subst this;exact q
theorem TIv.eq {m m':kN->kK->kP lL}{R:It->Hp->Prop}(e:∀ ρ s,m ρ s=m' ρ s)(q:TIv Γ m σ H R):TIv Γ m' σ H R:=by
 have:m=m':=funext λ ρ=>funext λ s=>e ρ s
 subst this;exact q
theorem TSv.eq {m m':kN->kK->kP lv}{D:Ends}(e:∀ ρ s,m ρ s=m' ρ s)(q:TSv Γ m D σ H):TSv Γ m' D σ H:=by
 have:m=m':=funext λ ρ=>funext λ s=>e ρ s
 subst this;exact q
noncomputable def EvT (Γ:Gm)(X:Cx)(E:Expr)(m:kN->kK->kP kL):Prop:=PE X E (TEv Γ m)/\PT X E (TTv Γ m)
theorem EvT.val {E:Expr}{m:kN->kK->kP kL}(h:PE X E (TEv Γ m))(C:∀ y,dG E X.env y=(do let v <- y;standAt E.pos;iL [v] (truthy v)):=by intro _;rfl):EvT Γ X E m :=
 ⟨h,(pt_val h C).imp λ σ H Q q=>tt_val q⟩
theorem pt_ifExp {c a b:Expr}{pos:Pos}{G tb J:TT}(hc:PT X c G)(ha:PT X a tb)(hb:PT X b J):PT X (.IfExp c a b pos) (λ σ H Q=>G σ H λ k C=>if k=true then tb σ C Q else J σ C Q):=by
 intro y s σ H Q I h
 have e:dG (.IfExp c a b pos) X.env (eval (.IfExp c a b pos) X.env)=(do if <- dG c X.env (eval c X.env)then dG a X.env (eval a X.env)else dG b X.env (eval b X.env)):=by rw[dG]
 rw[e]
 refine aj (thn (hc y s σ H _ I h) λ k s1 ⟨C,Z,Y⟩=>?_)
 cases k with
 | true=>exact ha y s1 σ C Q Z Y
 | false=>exact hb y s1 σ C Q Z Y
theorem tt_ite {mc J G:kN->kK->kP kL}{Q:Bool->Hp->Prop}(h:TTv Γ (λ ρ s=>kX (mc ρ s) λ k s=>if k then J ρ s else G ρ s) σ H Q):TTv Γ mc σ H λ k C=>if k=true then TTv Γ J σ C Q else TTv Γ G σ C Q:=by
 obtain⟨φ,ρ,s,d,s',E,R,y,q⟩:=h
 obtain⟨c,s1,e1,y⟩:=zZ y
 refine⟨φ,ρ,s,c,s1,E,R,e1,λ φ1 C g1 l1 R1=>?_⟩
 cases c with
 | true =>
  rw[if_pos rfl]at y ⊢
  exact⟨φ1,ρ,s1,d,s',E.mono g1 l1,R1,y,q.trans g1 l1⟩
 | false =>
  rw[if_neg aQ]at y ⊢
  exact⟨φ1,ρ,s1,d,s',E.mono g1 l1,R1,y,q.trans g1 l1⟩
section
variable {a b c:lJ} {l r t:Expr} {pos:Pos}
theorem ev_bin' (G:CG Γ F n X ck)(op:mr)(ha:EvT Γ X l (kQ F a))(hb:EvT Γ X r (kQ F b)):EvT Γ X (.BinOp l (opOf op) r pos) (kQ F (.bin op a b)) :=
 .val ((pe_op (op_bin G.K op) ha.1 hb.1).imp λ σ H Q q=>tv_op (TEv.eq (λ ρ s=>rfl) q))
theorem ev_neg' (ha:EvT Γ X l (kQ F a)):EvT Γ X (.UnaryOp .USub l pos) (kQ F (.neg a)) :=
 .val ((pe_un un_neg ha.1).imp λ σ H Q q=>tv_un (f:=λ x s=>match x with|.int i=>.ok (.int (-i)) s|_=>.bad) (TEv.eq (λ ρ s=>rfl) q) λ φ s x d s' v H' R r y h k=>by
  cases x with
  | int i =>
   cases h
   exact⟨i,r.intE,k.here R rfl RV.intI⟩
  | _=>cases h)
theorem ev_not' (ha:EvT Γ X l (kQ F a)):EvT Γ X (.UnaryOp .Not l pos) (kQ F (.not a)) :=
 ⟨(pe_not ha.1).imp λ σ H Q q=>tv_not (TEv.eq (λ ρ s=>rfl) q),(pt_not ha.2).imp λ σ H Q q=>tt_not (TTv.eq (λ ρ s=>rfl) q)⟩
theorem ev_cmp' (G:CG Γ F n X ck)(op:l8)(hs:shp r=true)(ha:EvT Γ X l (kQ F a))(hb:EvT Γ X r (kQ F b)):EvT Γ X (.Compare l [copOf op] [r] pos) (kQ F (.cmp op a b)):=by
 have ho:=op_cmp (Γ:=Γ) G.K (G.room.mono G.deep) op
 refine⟨(pe_cmpR ho ha.1 hb.1 (behind_ok hs)).imp λ σ H Q q=>tv_op (TEv.eq (λ ρ s=>rfl) q),(pt_cmpR ho ha.1 hb.1 (behind_ok hs)).imp λ σ H Q q=>?_⟩
 have q:=tt_test q
 exact tv_op (TEv.eq (λ ρ s=>rfl) q)
theorem RV.nonIff {φ:Nat->Addr}{x:kL}{v:V}(r:RV Γ φ H x v):decide (v=.non)=decide (x=.non):=by
 cases x with
 | non=>rw[r.nonE];rfl
 | bl b=>rw[r.blE];rfl
 | int i=>rw[r.intE];rfl
 | str z=>rw[r.strE];rfl
 | tup l=>obtain⟨a,h,rfl,_⟩:=r.tupE;rfl
 | ref k=>rw[r.refE];rfl
 | fn f=>unfold RV at r;obtain⟨a,_,rfl⟩:=r;rfl
 | clo f cs=>unfold RV at r;obtain⟨f,_,_,_,rfl,_⟩:=r;rfl
theorem ev_isN' {j pos'}(ha:EvT Γ X l (kQ F a)):EvT Γ X (.Compare l [.Is] [.Constant .none j pos'] pos) (kQ F (.isN a)):=by
 have key:∀ σ H Q,TEv Γ (kQ F (.isN a)) σ H Q->tIsN (TEv Γ (kQ F a)) σ H Q:=λ σ H Q q=>by
  obtain⟨φ,ρ,s,d,s',E,R,h,k⟩:=q
  obtain⟨x,s1,e1,h⟩:=bind_inv h
  cases h
  refine⟨φ,ρ,s,x,_,E,R,e1,λ v φ1 y g1 l1 C r1 R1=>?_⟩
  show Q (.bl (decide (v=.non))) y
  rw[r1.nonIff]
  exact k _ φ1 y g1 l1 rfl RV.blI R1
 exact⟨(pe_cmp (pc_isN ha.1)).imp key,(pt_cmp (pc_isN ha.1)).imp λ σ H Q q=>key _ _ _ (tt_val q)⟩
theorem ev_notN' {j pos'}(ha:EvT Γ X l (kQ F a)):EvT Γ X (.Compare l [.IsNot] [.Constant .none j pos'] pos) (kQ F (.notN a)):=by
 have key:∀ σ H Q,TEv Γ (kQ F (.notN a)) σ H Q->tNotN (TEv Γ (kQ F a)) σ H Q:=λ σ H Q q=>by
  obtain⟨φ,ρ,s,d,s',E,R,h,k⟩:=q
  obtain⟨x,s1,e1,h⟩:=bind_inv h
  cases h
  refine⟨φ,ρ,s,x,_,E,R,e1,λ v φ1 y g1 l1 C r1 R1=>?_⟩
  show Q (.bl (!decide (v=.non))) y
  rw[r1.nonIff]
  exact k _ φ1 y g1 l1 rfl RV.blI R1
 exact⟨(pe_cmp (pc_notN ha.1)).imp key,(pt_cmp (pc_notN ha.1)).imp λ σ H Q q=>key _ _ _ (tt_val q)⟩
theorem bool_pw {op:BoolOp}{es:List Expr}{t:TT}(h:PT X (.BoolOp op es pos) t):PW X (.BoolOp op es pos) t:=by
 intro C y s σ H Q I q
 have:=h y s σ H Q I q
 have e:∀ w,dG (.BoolOp op es pos) X.env w=allTrue op es X.env:=λ w=>by rw[dG]
 rw[e]at this ⊢
 exact this
theorem ev_and2 (ha:EvT Γ X l (kQ F a))(hb:EvT Γ X r (kQ F b)):EvT Γ X (.BoolOp .And [l,r] pos) (kQ F (.and a b)) :=
 ⟨(pe_and ha.1 (pe_one hb.1)).imp λ σ H Q q=>tv_and (TEv.eq (λ ρ s=>rfl) q),(pw_and ha.2 (pw_and1 hb.2)).pt.imp λ σ H Q q=>tt_and (TTv.eq (λ ρ s=>rfl) q)⟩
theorem ev_and3 {es:List Expr}(ha:EvT Γ X l (kQ F a))(hb:EvT Γ X (.BoolOp .And (r::es) pos) (kQ F b)):EvT Γ X (.BoolOp .And (l::r::es) pos) (kQ F (.and a b)) :=
 ⟨(pe_and ha.1 hb.1).imp λ σ H Q q=>tv_and (TEv.eq (λ ρ s=>rfl) q),(pw_and ha.2 (bool_pw hb.2)).pt.imp λ σ H Q q=>tt_and (TTv.eq (λ ρ s=>rfl) q)⟩
theorem ev_or2 (ha:EvT Γ X l (kQ F a))(hb:EvT Γ X r (kQ F b)):EvT Γ X (.BoolOp .Or [l,r] pos) (kQ F (.or a b)) :=
 ⟨(pe_or ha.1 (pe_one hb.1)).imp λ σ H Q q=>tv_or (TEv.eq (λ ρ s=>rfl) q),(pw_or ha.2 (pw_or1 hb.2)).pt.imp λ σ H Q q=>tt_or (TTv.eq (λ ρ s=>rfl) q)⟩
theorem ev_or3 {es:List Expr}(ha:EvT Γ X l (kQ F a))(hb:EvT Γ X (.BoolOp .Or (r::es) pos) (kQ F b)):EvT Γ X (.BoolOp .Or (l::r::es) pos) (kQ F (.or a b)) :=
 ⟨(pe_or ha.1 hb.1).imp λ σ H Q q=>tv_or (TEv.eq (λ ρ s=>rfl) q),(pw_or ha.2 (bool_pw hb.2)).pt.imp λ σ H Q q=>tt_or (TTv.eq (λ ρ s=>rfl) q)⟩
theorem ev_ite' (hc:EvT Γ X t (kQ F c))(ha:EvT Γ X l (kQ F a))(hb:EvT Γ X r (kQ F b)):EvT Γ X (.IfExp t l r pos) (kQ F (.ite c a b)) :=
 ⟨(pe_ifExp hc.2 ha.1 hb.1).imp λ σ H Q q=>tv_ite (TEv.eq (λ ρ s=>rfl) q),(pt_ifExp hc.2 ha.2 hb.2).imp λ σ H Q q=>tt_ite (TTv.eq (λ ρ s=>rfl) q)⟩
theorem ev_ix' (G:CG Γ F n X ck)(hs:shp r=true)(ha:EvT Γ X l (kQ F a))(hb:EvT Γ X r (kQ F b)):EvT Γ X (.Subscript l r pos) (kQ F (.ix a b)) :=
 .val ((pe_ix (ix_ok G.K (hu_of G.room)) ha.1 hb.1 (plainIx_ok hs)).imp λ σ H Q q=>tv_op (TEv.eq (λ ρ s=>rfl) q))
theorem ev_slU' {h:Pos}(G:CG Γ F n X ck)(ha:EvT Γ X l (kQ F a))(hb:EvT Γ X r (kQ F b)):EvT Γ X (.Subscript l (.Slice none (some r) none h) pos) (kQ F (.slU a b)) :=
 .val ((pe_slice (sl_ok G.K) ha.1 po_none (po_some hb.1)).imp λ σ H Q q=>(tv_sl (ml:=kQ F b)).2.1 (TEv.eq (λ ρ s=>rfl) q))
end
end
section
variable {Γ:Gm} {F:lh} {n:Nat} {X:Cx} {ck:Ck} {σ:St} {H:Hp} {Q:VK}
theorem evs_len:∀ {es:lc} {ρ:kN} {s s':kK} {l:List kL} {y:List Expr} {C:Ck},li F es ρ s=.ok l s'->mEs C es y=true->l.length=y.length
 | .nil,ρ,s,s',l,y,C,h,m=>by
  cases h
  cases y with
  | nil=>rfl
  | cons _ _=>rw[mEs]at m<;>first|cases m|(intros;simp_all)
 | .cons e es,ρ,s,s',l,y,C,h,m=>by
  obtain⟨d,s1,e1,h⟩:=bind_inv h
  obtain⟨r,s2,e2,h⟩:=bind_inv h
  cases h
  cases y with
  | nil=>rw[mEs]at m<;>first|cases m|(intros;simp_all)
  | cons x y =>
   rw[mEs,aq]at m
   rw[aW,aW,evs_len e2 m.2]
theorem mEs_shp:∀ {es:lc} {C:List Expr},mEs ck es C=true->∀ x∈C,shp x=true
 | .nil,[],_,x,hx=>by cases hx
 | .nil,_::_,m,_,_=>by rw[mEs]at m<;>first|cases m|(intros;simp_all)
 | .cons e es,[],m,x,hx=>by cases hx
 | .cons e es,y::C,m,x,hx=>by
  rw[mEs,aq,aq]at m
  rcases aH.mp hx with h|h
  ·rw[h];exact m.1.2
  ·exact mEs_shp m.2 x h
theorem mAs_shp:∀ {es:lF} {C:List Expr},mAs ck es C=true->∀ x∈C,shp x=true
 | .nil,[],_,x,hx=>by cases hx
 | .nil,_::_,m,_,_=>by rw[mAs]at m<;>first|cases m|(intros;simp_all)
 | .ex e es,[],m,x,hx=>by cases hx
 | .lam _ _ _,_,m,_,_=>by rw[mAs]at m<;>first|cases m|(intros;simp_all)
 | .fn _ _,_,m,_,_=>by rw[mAs]at m<;>first|cases m|(intros;simp_all)
 | .ex e es,y::C,m,x,hx=>by
  rw[mAs,aq,aq]at m
  rcases aH.mp hx with h|h
  ·rw[h];exact m.1.2
  ·exact mAs_shp m.2 x h
theorem pa_cons' {e:lJ}{x:Expr}{h:List Expr}{y:kN->kK->kP (List kL)}(hs:shp x=true)(G:PE X x (TEv Γ (kQ F e)))(C:PA X h (TAv Γ y)) :
  PA X (x::h) (TAv Γ (λ ρ s=>(kQ F e ρ s).bind λ d s=>(y ρ s).bind λ l s=>.ok (d::l) s)) :=
 (qe G C (zq hs)).imp λ σ H Q q=>ta_cons q
theorem le1000 {k:Nat}(h:k<=1000):k<=aI:=by rw[fm];omega
theorem pe_tup' {es:lc}{y:List Expr}{k:Nat}{pos:Pos}(m:mEs ck es y=true)(hz:y.length<=1000)(h:PA X y (TAv Γ (li F es))):EvT Γ X (.Tuple y k pos) (kQ F (.tup es)) :=
 .val ((pe_tup h).imp λ σ H Q q=>tv_tup' hz m q)
where
 tv_tup' {es:lc} {y:List Expr} {σ:St} {H:Hp} {Q:VK} (hz:y.length<=1000) (m:mEs ck es y=true) (q:TEv Γ (kQ F (.tup es)) σ H Q):tTup (TAv Γ (li F es)) σ H Q:=by
  obtain⟨φ,ρ,s,d,s',E,R,C,q⟩:=q
  obtain⟨l,s1,e1,C⟩:=bind_inv C
  cases C
  refine⟨φ,ρ,s,l,_,E,R,e1,λ vs φ1 Y g1 l1 J r1 R1=>⟨by rw[r1.length,evs_len e1 m];exact le1000 hz,λ p G=>?_⟩⟩
  exact(q.trans g1 l1).tup R1 r1 J G
theorem pe_lst' {es:lc}{y:List Expr}{pos:Pos}(m:mEs ck es y=true)(hz:y.length<=1000)(h:PA X y (TAv Γ (li F es))):EvT Γ X (.List y pos) (kQ F (.lst es)):=by
 refine .val ((pe_lst h).imp λ σ H Q q=>?_)
 obtain⟨φ,ρ,s,d,s',E,R,C,q⟩:=q
 obtain⟨l,s1,e1,C⟩:=bind_inv C
 obtain⟨rfl,rfl⟩:=qI C
 refine⟨φ,ρ,s,l,_,E,R,e1,λ vs φ1 Y g1 l1 J r1 R1=>⟨by rw[r1.length,evs_len e1 m];exact le1000 hz,λ p G=>?_⟩⟩
 exact(q.trans g1 l1).alloc R1 r1 J G
theorem pe_call' {f:String}{y:lF}{C:List Expr}{p pos:Pos}(G:CG Γ F n X ck)(hg:ck.gl (f:Str)=true)(m:mAs ck y C=true)(h:PA X C (TAv Γ (lA F y))):EvT Γ X (.Call (.Name (f:Str) p) C [] pos) (kQ F (.call f y)):=by
 refine .val ?_
 obtain⟨g1,g2,g3⟩:=G.gl hg
 rcases G.call f with hbad|⟨a,fd,ps,Z,J,hk,hb⟩
 ·intro a0 s σ H Q I q
  obtain⟨φ,ρ,s,d,s',E,R,Y,q⟩:=q
  obtain⟨l,s1,e1,Y⟩:=bind_inv Y
  rw[hbad]at Y
  cases Y
 have key:∀ σ H Q,TEv Γ (kQ F (.call f y)) σ H Q->tCall (spV Γ (F.call f)) [] E0 (TAv Γ (lA F y)) σ H Q:=λ σ H Q q=>by
  have:=tv_call (TEv.eq (m':=λ ρ s=>(lA F y ρ s).bind λ l s=>F.call f l s) (λ ρ s=>rfl) q)
  unfold tCB at this
  unfold tCall spV
  simpa only[bE]using this
 cases C with
 | nil =>
  have h0:PE X (.Call (.Name (f:Str) p) [] [] pos) (tCall (spV Γ (F.call f)) [] E0 tNil):=pe_call0 Z G.room g1 J hk hb .nil pass0 g2
  cases y with
  | nil =>
   refine h0.imp λ σ H Q q=>?_
   have q1:=key σ H Q q
   unfold tCall at q1 ⊢
   exact ta_nil (TAv.eq (λ ρ s=>rfl) q1)
  | _=>rw[mAs]at m<;>first|cases m|(intros;simp_all)
 | cons x C =>
  have hs:=mAs_shp m
  exact(pe_call Z G.room g1 J hk hb .nil pass0 h g2 (zq (hs x (aF ..))) (zM λ e he=>hs e (ax _ he)).1).imp key
noncomputable def BiC (Γ:Gm)(X:Cx)(b:ls)(x:Str):Prop:=(∃ id,bf x=some (.builtin id)/\CallR X (.builtin id) (rCl Γ (mq b)))\/∃ T,bf x=some (.type T)/\CallR X (.type T) (rCl Γ (mq b))
theorem biT_ok (G:CG Γ F n X ck){b:ls}{x:Str}(h:biT b=some x):x∈bNames/\BiC Γ X b x:=by
 cases b<;>first|cases h|skip
 ·exact⟨by decide,.inl ⟨_,b_len,bi_ok G.K G.calm (k:=1) rfl⟩⟩
 ·exact⟨by decide,.inl ⟨_,b_abs,bi_ok G.K G.calm (k:=1) rfl⟩⟩
 ·exact⟨by decide,.inr ⟨_,b_int,int_ok⟩⟩
 ·exact⟨by decide,.inl ⟨_,b_min,bi_ok G.K G.calm (k:=2) rfl⟩⟩
 ·exact⟨by decide,.inl ⟨_,b_max,bi_ok G.K G.calm (k:=2) rfl⟩⟩
theorem pe_bi' {b:ls}{es:lc}{x:Str}{y:Expr}{C:List Expr}{p pos:Pos}(G:CG Γ F n X ck)(hb:biT b=some x)(hg:ck.gl x=true)(m:mEs ck es (y::C)=true)(h:PA X (y::C) (TAv Γ (li F es))) :
  EvT Γ X (.Call (.Name x p) (y::C) [] pos) (kQ F (.bi b es)):=by
 refine .val ?_
 obtain⟨g1,g2,g3⟩:=G.gl hg
 obtain⟨Z,hc⟩:=biT_ok G hb
 have hs:=mEs_shp m
 have s1:=zq (es:=C) (env:=X.env) (hs y (aF ..))
 have s2:=(zM (env:=X.env) (pos:=pos) λ e he=>hs e (ax _ he)).1
 rcases hc with⟨id,J,Y⟩|⟨T,J,Y⟩
 ·exact(pe_callB Y g1 (G.bi _ Z) J h g3 g2 s1 s2).imp λ σ H Q q=>tv_call (TEv.eq (λ ρ s=>rfl) q)
 ·exact(pe_callTy Y g1 (G.bi _ Z) J h g3 g2 s1 s2).imp λ σ H Q q=>tv_call (TEv.eq (λ ρ s=>rfl) q)
theorem biK_ok {b:ls}{k:Nat}{t:Str}(h:biK b=some (k,t)):(1<=k/\k<=5)/\t∈bNames/\bf t=some (.type (kName k))/\mq b=mf (mw k):=by
 cases b<;>cases h
 ·exact⟨by omega,by decide,b_int,rfl⟩
 ·exact⟨by omega,by decide,b_bool,rfl⟩
 ·exact⟨by omega,by decide,b_str,rfl⟩
 ·exact⟨by omega,by decide,b_tuple,rfl⟩
 ·exact⟨by omega,by decide,b_list,rfl⟩
noncomputable def PEs (Γ:Gm)(F:lh)(X:Cx):lc->List Expr->Prop
 | .nil,[]=>True
 | .cons e es,x::xs=>(shp x=true/\EvT Γ X x (kQ F e))/\PEs Γ F X es xs
 | _,_=>False
theorem pes_pa:∀ {es:lc} {y:List Expr},PEs Γ F X es y->PA X y (TAv Γ (li F es))
 | .nil,[],_=>pa_nil.imp λ σ H Q q=>ta_nil (TAv.eq (λ ρ s=>rfl) q)
 | .nil,_::_,h=>h.elim
 | .cons _ _,[],h=>h.elim
 | .cons e es,x::y,h=>(pa_cons' h.1.1 h.1.2.1 (pes_pa h.2)).imp λ σ H Q q=>TAv.eq (λ ρ s=>rfl) q
theorem pe_isi' {b:ls}{es:lc}{k:Nat}{t:Str}{a:Expr}{p J pos:Pos}(G:CG Γ F n X ck)(hb:biK b=some (k,t))(hg:ck.gl "isinstance"=true)(Y:ck.gl t=true)(h:PEs Γ F X es [a]) :
  EvT Γ X (.Call (.Name "isinstance" p) [a,.Name t J] [] pos) (kQ F (.bi b es)):=by
 refine .val ?_
 obtain⟨g1,g2,g3⟩:=G.gl hg
 obtain⟨t1,t2,t3⟩:=G.gl Y
 obtain⟨hk,y,hv,Z⟩:=biK_ok hb
 have C:PE X (.Name t J) (tC (.ty (kName k))):=pe_bltn t1 (G.bi _ y) hv rfl t3 t2
 cases es with
 | nil=>exact h.elim
 | cons e es =>
  cases es with
  | cons _ _=>exact h.2.elim
  | nil =>
   obtain⟨⟨hs,ha,_⟩,_⟩:=h
   have hA:PA X [a,.Name t J] (tCons (TEv Γ (kQ F e)) (tCons (tC (.ty (kName k))) tNil)):=qe ha (qe C pa_nil (zq rfl)) (zq hs)
   refine(pe_callB (isK_ok G.K hk) g1 (G.bi _ (by decide)) b_isinstance hA g3 g2 (zq hs) (zM λ e he=>by rw[aZ.mp he];rfl).1).imp λ σ H Q q=>?_
   obtain⟨φ,ρ,s,d,s',E,R,y,q⟩:=q
   obtain⟨l,s1,e1,y⟩:=bind_inv y
   obtain⟨x,s2,e2,e1⟩:=bind_inv e1
   obtain⟨l2,s3,e3,e1⟩:=bind_inv e1
   cases e3
   cases e1
   rw[Z]at y
   refine⟨φ,ρ,s,x,_,E,R,e2,λ v φ1 H1 g1 l1 b1 r1 R1=>?_⟩
   exact⟨v,rfl,φ1,_,[x],d,s',R1,.cons r1 .nil,by unfold kM;rw[b1];rfl,y,q.trans g1 l1⟩
end
section
variable {Γ:Gm} {F:lh} {n:Nat} {X:Cx} {ck:Ck} {σ:St} {H:Hp}
noncomputable def TAp (Γ:Gm)(cells:List (Str×Addr))(N:List Str)(m:kN->kK->kP (List kL)):TA:=λ σ H Q=>∃ φ ρ s l s',RE Γ φ H s.length ρ σ/\Rp Γ φ H s/\m ρ s=.ok l s' /\
 ∀ vs φ' H',Gr φ s H φ' s' H'->s.length<=s'.length->kM s'.length l=true->PVL Γ cells N σ φ' H' l vs->Rp Γ φ' H' s'->Q vs H'
theorem TAp.eq {cells:List (Str×Addr)}{N:List Str}{m m':kN->kK->kP (List kL)}{Q:List V->Hp->Prop}(e:∀ ρ s,m ρ s=m' ρ s)(q:TAp Γ cells N m σ H Q):TAp Γ cells N m' σ H Q:=by
 obtain⟨φ,ρ,s,l,s',E,R,h,q⟩:=q
 exact⟨φ,ρ,s,l,s',E,R,by rw[<-e];exact h,q⟩
theorem tap_nil {cells:List (Str×Addr)}{N:List Str}{Q:List V->Hp->Prop}(h:TAp Γ cells N (λ ρ s=>.ok [] s) σ H Q):tNil σ H Q:=by
 obtain⟨φ,ρ,s,l,s',E,R,y,q⟩:=h
 cases y
 exact q [] φ H (Gr.refl _ _ _) (ah _) rfl .nil R
theorem tap_ex {cells:List (Str×Addr)}{N:List Str}{m:kN->kK->kP kL}{Y:kN->kK->kP (List kL)}{Q:List V->Hp->Prop}(h:TAp Γ cells N (λ ρ s=>(m ρ s).bind λ d s=>(Y ρ s).bind λ l s=>.ok (d::l) s) σ H Q):tCons (TEv Γ m) (TAp Γ cells N Y) σ H Q:=by
 obtain⟨φ,ρ,s,l,s',E,R,C,q⟩:=h
 obtain⟨x,s1,e1,C⟩:=bind_inv C
 obtain⟨y,s2,e2,C⟩:=bind_inv C
 cases C
 refine⟨φ,ρ,s,x,s1,E,R,e1,λ v φ1 H1 g1 l1 J r1 R1=>?_⟩
 refine⟨φ1,ρ,s1,y,s',E.mono g1 l1,R1,e2,λ vs φ2 H2 G Z b2 r2 R2=>?_⟩
 exact q (v::vs) φ2 H2 (g1.trans G l1) (am l1 Z) (by unfold kM;rw[zC Z x J,b2];rfl) (.cons (PVp.mono G J (.inl r1)) r2) R2
theorem getVs_get {ρ:kN}:∀ {is:List Nat} {cs:List kL},k6 ρ is=some cs->cs.length=is.length/\∀(i j:Nat),is[i]?=some j->∃ d,cs[i]?=some d/\ρ[j]?=some (some d)
 | [],cs,h=>by cases h;exact⟨rfl,λ i j e=>by cases e⟩
 | k::is,cs,h=>by
  unfold k6 at h
  cases e:ρ[k]? with
  | none=>rw[e]at h;cases h
  | some o =>
   cases o with
   | none=>rw[e]at h;cases h
   | some d =>
    cases e2:k6 ρ is with
    | none=>rw[e,e2]at h;cases h
    | some l =>
     rw[e,e2]at h
     cases h
     obtain⟨G,C⟩:=getVs_get e2
     refine⟨by rw[aW,aW,G],λ i j y=>?_⟩
     cases i with
     | zero=>cases y;exact⟨d,rfl,e⟩
     | succ i=>exact C i j y
theorem cap_of {φ:Nat->Addr}{s:kK}{ρ:kN}(E:RE Γ φ H s.length ρ σ):∀ {is:List Nat} {cs:List kL},k6 ρ is=some cs->∃ cap,RVL Γ φ H cs cap/\kM s.length cs=true/\∀(i j:Nat) (v:V),is[i]?=some j->cap[i]?=some v->σ[j]?=some (some v)
 | [],cs,h=>by cases h;exact⟨[],.nil,rfl,λ i j v e=>by cases e⟩
 | k::is,cs,h=>by
  unfold k6 at h
  cases e:ρ[k]? with
  | none=>rw[e]at h;cases h
  | some o =>
   cases o with
   | none=>rw[e]at h;cases h
   | some d =>
    cases e2:k6 ρ is with
    | none=>rw[e,e2]at h;cases h
    | some l =>
     rw[e,e2]at h
     cases h
     obtain⟨cap,Y,G,h3⟩:=cap_of E e2
     obtain⟨hb,v,J,hv⟩:=E.val k d e
     refine⟨v::cap,.cons hv Y,by unfold kM;rw[hb,G];rfl,λ i j w C y=>?_⟩
     cases i with
     | zero=>cases C;cases y;exact J
     | succ i=>exact h3 i j w C y
theorem pa_lam {id:String}{h:List Nat}{params:a9}{body:Expr}{scope:Scope}{pos:Pos}{c P:Addr}{J:LamI}{xs:List Expr}{ms:kN->kK->kP (List kL)}(L:LamHere Γ X X.N id h params body scope c P J)(hnm:J.nm=none)(h2:PA X xs (TAp Γ X.env.cells X.N ms)) :
  PA X (.Lambda params body scope pos::xs) (TAp Γ X.env.cells X.N (λ ρ s=>match k6 ρ h with|some cs=>(ms ρ s).bind λ l s=>.ok (.clo id cs::l) s|none=>.bad)):=by
 refine(qe (pe_lambda L.code L.hd L.bm L.ck L.df) h2).imp λ σ H Q q=>?_
 obtain⟨φ,ρ,s,l,s',E,R,C,q⟩:=q
 have C:(match k6 ρ h with|some cs=>(ms ρ s).bind λ l s=>DV.R.ok (DV.D.clo id cs::l) s|none=>DV.R.bad)=.ok l s':=C
 cases eg:k6 ρ h with
 | none=>rw[eg]at C;cases C
 | some cs =>
  rw[eg]at C
  obtain⟨y,s2,e2,C⟩:=bind_inv C
  cases C
  obtain⟨cap,Z,G,hσ⟩:=cap_of E eg
  have Y:=(getVs_get eg).1
  have hq:J.qual=X.env.qual ++ "<lambda>":=by rw[L.q];unfold LamI.own;rw[hnm]
  rw[<-hq]
  refine tLam_of2 R.tab L.nd L.tab λ f H' e st tb hf ho=>?_
  obtain⟨g1,R1⟩:=R.sameT e st tb
  refine⟨φ,ρ,s,y,s',E.mono g1 (ah _),R1,e2,λ vs φ2 H2 g2 l2 b2 r2 R2=>?_⟩
  refine q (.ref f::vs) φ2 H2 (g1.trans g2 (ah _)) l2 (by unfold kM kO;rw[D_bndL_mono l2 cs G,b2];rfl) (.cons ?_ r2) R2
  have p1:PVp Γ X.env.cells X.N σ φ H' (.clo id cs) (.ref f):=by
   refine .inr ⟨id,cs,rfl,f,J,rfl,L.lg,by unfold CloRaw;rw[hnm];dsimp only;rw[L.p,L.b,L.s];exact ho,by rw[Y,L.len],by rw[L.s];exact L.cl,cap,RVL.mono g1 cs cap G Z,λ i x v e1 e3=>?_⟩
   have hi:i<h.length:=by rw[<-L.len];exact(ac.mp e1).1
   have hj:h[i]?=some h[i]:=ag hi
   exact⟨by rw[L.s];exact L.fr x (aS e1),h[i],L.at_ i _ x hj e1,hσ i _ v hj e3⟩
  exact p1.mono g2 (by unfold kO;exact G)
theorem pe_callC' {f:String}{ms:kN->kK->kP (List kL)}{e:Expr}{es:List Expr}{p pos:Pos}(G:CG Γ F n X ck)(hg:ck.gl (f:Str)=true)(Y:∀ x,X.fn x=true)(Z:∀ x c,X.env.cells.lookup x=some c->X.env.kindOf x=some .cell\/X.env.kindOf x=some .free)
  (hs:∀ y∈e::es,shp y=true) (h:PA X (e::es) (TAp Γ X.env.cells X.N ms)) :
  PE X (.Call (.Name (f:Str) p) (e::es) [] pos) (TEv Γ (λ ρ s=>(ms ρ s).bind λ l s=>(F.call f l s).bind λ d s'=>if(d.ncl&&s'.all mz)=true then .ok d s' else .bad)):=by
 obtain⟨g1,g2,g3⟩:=G.gl hg
 rcases G.call f with hb|⟨a,fd,ps,hF,a0,hk,hB⟩
 ·intro a1 s σ H Q I q
  obtain⟨φ,ρ,s,d,s',E,R,C,q⟩:=q
  obtain⟨l,s1,e1,C⟩:=bind_inv C
  rw[hb]at C;cases C
 ·refine(pe_callC hF G.room g1 a0 hk hB Y h g2 (zq (hs e (aF ..))) (zM λ y hy=>hs y (ax _ hy)).1).imp λ σ H Q q=>?_
  obtain⟨φ,ρ,s,d,s',E,R,C,q⟩:=q
  obtain⟨l,s1,e1,C⟩:=bind_inv C
  obtain⟨d2,s2,e2,C⟩:=bind_inv C
  split at C
  case isFalse=>cases C
  rename_i hn
  cases C
  rw[aq]at hn
  refine⟨φ,ρ,s,l,s1,E,R,e1,λ vs φ1 H1 gg l1 b1 r1 R1=>λ H2 J=>?_⟩
  obtain⟨gs,R2⟩:=R1.same J.same
  refine⟨φ1,s1,l,d,s',R2,r1.caught J Z b1,b1,e2,λ v φ' H3 g' l' b' r' R'=>?_⟩
  have hc:Cells X.env.cells H3:=J.cells.kp g'.w.kp
  exact q v φ' (Drop X.env.cells H3) (gg.trans (Gr.caught J g') l1) (am l1 l') b' (RV.dropC hc d v hn.1 r') (R'.dropC hc hn.2)
theorem pe_callV' {i:Nat}{x:Str}{es:lc}{e:Expr}{xs:List Expr}{p pos:Pos}(G:CG Γ F n X ck)(hv:ck.var i x=true)(hs:∀ y∈e::xs,shp y=true)(h:PA X (e::xs) (TAv Γ (li F es)))(a1:PE X (.Name x p) (tVar i)) :
  PE X (.Call (.Name x p) (e::xs) [] pos) (TEv Γ (kQ F (.callV i es))):=by
 refine(pe_callV rfl rfl rfl rfl rfl G.room a1 h (zq (hs e (aF ..))) (zM λ y hy=>hs y (ax _ hy)).1).imp λ σ H Q q=>?_
 obtain⟨φ,ρ,s,d,s',E,R,C,q⟩:=q
 have C:((li F es ρ s).bind λ l s=>match ρ[i]? with
  | some (some (.fn f))=>F.call f l s
  | some (some (.clo id cs))=>F.lam id cs l s
  | _=>.bad)=.ok d s':=C
 obtain⟨l,s1,e1,C⟩:=bind_inv C
 cases eρ:ρ[i]? with
 | none=>rw[eρ]at C;cases C
 | some o =>
  cases o with
  | none=>rw[eρ]at C;cases C
  | some v0 =>
   obtain⟨hb,v,hσ,rv⟩:=E.val i v0 eρ
   cases v0 with
   | fn f =>
    rw[eρ]at C
    have C:F.call f l s1=.ok d s':=C
    unfold RV at rv
    obtain⟨a,ha,e2⟩:=rv
    subst e2
    obtain⟨h1,h2⟩:=G.fa f a ha
    rcases G.call f with hb|⟨a',fd,ps,hF,a2,hk,hB⟩
    ·rw[hb]at C;cases C
    ·rw[h1]at a2
     cases a2
     refine⟨a,hσ,.inr h2,φ,ρ,s,l,s1,E,R,e1,λ vs φ1 H1 g1 l1 b1 r1 R1=>?_⟩
     exact⟨.inr h2,_,_,ClOk.ofFn hF hB,trivial,φ1,s1,l,d,s',R1,r1,b1,C,q.trans g1 l1⟩
   | clo id cs =>
    rw[eρ]at C
    have C:F.lam id cs l s1=.ok d s':=C
    unfold RV at rv
    unfold kO at hb
    obtain⟨f,cap,J,Y,e2,a4,a0,a3,a5⟩:=rv
    subst e2
    have fin:∀ H',CloAt H' f J cap Y->FnIn X.K H' f:=λ H' h'=>h'.fn
    refine⟨f,hσ,fin H a0,φ,ρ,s,l,s1,E,R,e1,λ vs φ1 H1 g1 l1 b1 r1 R1=>?_⟩
    have Z:=a0.kp g1.w.kp
    exact⟨fin H1 Z,_,_,G.cl id J f cap Y a4 a3,Z,φ1,s1,cs,l,d,s',R1,r1,RVL.mono g1 cs cap hb a5,b1,D_bndL_mono l1 cs hb,C,q.trans g1 l1⟩
   | _=>rw[eρ]at C;cases C
end
section
variable {Γ:Gm} {F:lh} {n:Nat} {X:Cx} {ck:Ck} {σ:St} {H:Hp} {Q:VK}
noncomputable def SeqV (K:ab)(H:Hp)(v:V)(ys:List V):Prop:=(∃ a,v=.ref a/\(SqL K H a ys\/SqT K H a ys))\/∃ x:List Nat,v=.str ⟨x.toArray⟩/\x.length<=kT/\ys=sgV x
noncomputable def TLv (Γ:Gm)(m:kN->kK->kP (List kL)):TE:=λ σ H Q=>∃ φ ρ s l s',RE Γ φ H s.length ρ σ/\Rp Γ φ H s/\m ρ s=.ok l s' /\
 ∀ v ys φ' H',Gr φ s H φ' s' H'->s.length<=s'.length->kM s'.length l=true->SeqV Γ.K H' v ys->RVL Γ φ' H' l ys->Rp Γ φ' H' s'->Q v H'
theorem tl_fresh {m:kN->kK->kP (List kL)}(h:TLv Γ m σ H Q):TFv Γ m σ H Q:=by
 obtain⟨φ,ρ,s,l,s',E,R,G,q⟩:=h
 exact⟨φ,ρ,s,l,s',E,R,G,λ p ys φ' H' g hl hb y h0 ho r C=>q (.ref p) ys φ' H' g hl hb (.inl ⟨p,rfl,.inl (SqL.of y)⟩) r C⟩
theorem rvl_signs {φ:Nat->Addr}:∀ x:List Nat,RVL Γ φ H (x.map λ c=>.str [c]) (sgV x)
 | []=>.nil
 | c::x=>.cons (RV.strI (by unfold kT;simp)) (rvl_signs x)
theorem bndL_signs {k:Nat}:∀ x:List Nat,kM k (x.map λ c=>.str [c])=true
 | []=>rfl
 | c::x=>by rw[aN];unfold kM;rw[bndL_signs x];rfl
theorem tl_seq {m:kN->kK->kP kL}(h:TLv Γ (λ ρ s=>(m ρ s).bind λ d s=>DV.lstM d s) σ H Q):TEv Γ m σ H Q:=by
 obtain⟨φ,ρ,s,l,s',E,R,y,q⟩:=h
 obtain⟨d,s1,e1,y⟩:=bind_inv y
 refine⟨φ,ρ,s,d,s1,E,R,e1,λ v φ1 Y g1 l1 Z r1 R1=>?_⟩
 cases d with
 | tup l' =>
  cases y
  obtain⟨a,J,rfl,G,C⟩:=r1.tupE
  unfold kO at Z
  exact q _ J φ1 Y g1 l1 Z (.inl ⟨a,rfl,.inr G⟩) C R1
 | str x =>
  cases y
  exact q v (sgV x) φ1 Y g1 l1 (bndL_signs x) (.inr ⟨x,r1.strE,r1.strL,rfl⟩) (rvl_signs x) R1
 | ref k =>
  have y:(match s1[k]? with
   | some (.lst l)=>DV.R.ok l s1
   | some (.ro l)=>.ok l s1
   | _=>.bad)=.ok l s':=y
  rw[r1.refE]
  cases e:s1[k]? with
  | none=>rw[e]at y;cases y
  | some ob =>
   rw[e]at y
   cases ob with
   | lst l' =>
    cases y
    obtain⟨J,G,C⟩:=R1.addr e
    have:=R1.wf k _ e
    unfold kR at this
    exact q _ J φ1 Y g1 l1 this (.inl ⟨_,rfl,.inl (SqL.of G)⟩) C R1
   | ro l' =>
    cases y
    obtain⟨J,G,C⟩:=R1.obj k _ e
    have:=R1.wf k _ e
    unfold kR at this
    exact q _ J φ1 Y g1 l1 this (.inl ⟨_,rfl,.inl G.1⟩) C R1
   | _=>cases y
 | _=>cases y
theorem TLv.eq {m m':kN->kK->kP (List kL)}(e:∀ ρ s,m ρ s=m' ρ s)(q:TLv Γ m σ H Q):TLv Γ m' σ H Q:=by
 have:m=m':=funext λ ρ=>funext λ s=>e ρ s
 subst this;exact q
theorem pe_mkTuple {m:kN->kK->kP (List kL)}{a:Expr}{p pos:Pos}(G:CG Γ F n X ck)(Y:ck.gl "tuple"=true)(hs:shp a=true)(h:PE X a (TLv Γ m)) :
  PE X (.Call (.Name "tuple" p) [a] [] pos) (TEv Γ (λ ρ s=>(m ρ s).bind λ l s=>lN .tuple l s)):=by
 obtain⟨g1,g2,g3⟩:=G.gl Y
 refine(pe_callTy ((call_tupleK G.K).or (call_tupleS G.calm)) g1 (G.bi _ (by decide)) b_tuple (qe h pa_nil (zq hs)) g3 g2 (zq hs) rfl).imp λ σ H Q q=>?_
 obtain⟨φ,ρ,s,d,s',E,R,y,q⟩:=q
 obtain⟨l,s1,e1,y⟩:=bind_inv y
 cases y
 refine⟨φ,ρ,s,l,_,E,R,e1,λ v ys φ1 Z g1 l1 J hq r1 R1=>?_⟩
 rcases hq with⟨a,rfl,hq|hq⟩|⟨x,rfl,hx,rfl⟩
 ·exact .inl ⟨a,ys,rfl,.inl ⟨hq,λ p C=>(q.trans g1 l1).tup R1 r1 J C⟩⟩
 ·exact .inl ⟨a,ys,rfl,.inr ⟨hq,q _ φ1 Z g1 l1 (by unfold kO;exact J) (RV.tupI hq r1) R1⟩⟩
 ·exact .inr ⟨x,rfl,hx,λ p C=>(q.trans g1 l1).tup R1 r1 J C⟩
theorem pe_mkList {m:kN->kK->kP (List kL)}{a:Expr}{p pos:Pos}(G:CG Γ F n X ck)(Y:ck.gl "list"=true)(hs:shp a=true)(h:PE X a (TLv Γ m)) :
  PE X (.Call (.Name "list" p) [a] [] pos) (TEv Γ (λ ρ s=>(m ρ s).bind λ l s=>lN .list l s)):=by
 obtain⟨g1,Z,g3⟩:=G.gl Y
 refine(pe_callTy ((call_listK G.K).or (call_listS G.calm)) g1 (G.bi _ (by decide)) b_list (qe h pa_nil (zq hs)) g3 Z (zq hs) rfl).imp λ σ H Q q=>?_
 obtain⟨φ,ρ,s,d,s',E,R,y,q⟩:=q
 obtain⟨l,s1,e1,y⟩:=bind_inv y
 obtain⟨rfl,rfl⟩:=qI y
 refine⟨φ,ρ,s,l,_,E,R,e1,λ v ys φ1 H1 g1 l1 J hq r1 R1=>?_⟩
 rcases hq with⟨a,rfl,hq⟩|⟨x,rfl,hx,rfl⟩
 ·exact .inl ⟨a,ys,rfl,hq,λ p C=>(q.trans g1 l1).alloc R1 r1 J C⟩
 ·exact .inr ⟨x,rfl,hx,λ p C=>(q.trans g1 l1).alloc R1 r1 J C⟩
theorem pe_mk' {m:kN->kK->kP (List kL)}{k:lX}{x:Str}{a:Expr}{p pos:Pos}(G:CG Γ F n X ck)(hk:mkT k=some x)(y:ck.gl x=true)(hs:shp a=true)(h:PE X a (TLv Γ m)) :
  PE X (.Call (.Name x p) [a] [] pos) (TEv Γ (λ ρ s=>(m ρ s).bind λ l s=>lN k l s)):=by
 cases k<;>cases hk
 ·exact pe_mkTuple G y hs h
 ·exact pe_mkList G y hs h
noncomputable def FrC (Γ:Gm)(X:Cx)(x:Str)(k:lX):Prop:=∃ id r,bf x=some (.builtin id)/\x∈bNames/\CallR X (.builtin id) r/\∀ φ H s l ys p d s' Q,Rp Γ φ H s->RVL Γ φ H l ys->H p=some (.lst ys)->lN k l s=.ok d s'->After Γ φ s H d s' Q->r [.ref p] H Q
theorem fold_min:∀(l:List Int) (a:Int),(l.foldl min a=a\/l.foldl min a∈l)/\l.foldl min a<=a/\∀ y∈l,l.foldl min a<=y
 | [],a=>⟨.inl rfl,dP _,λ y hy=>by cases hy⟩
 | b::l,a=>by
  obtain⟨C,G,h3⟩:=fold_min l (min a b)
  rw[ci]
  refine⟨?_,by omega,λ y hy=>?_⟩
  ·rcases C with h|h
   ·rw[h]
    rcases ku a b with z|z
    ·left;omega
    ·right;rw[show min a b=b by omega];exact aF ..
   ·exact .inr (ax _ h)
  ·rcases aH.mp hy with z|z
   ·rw[z];omega
   ·exact h3 y z
theorem minI_min {l:List Int}{m:Int}(h:lG l=some m):m∈l/\∀ y∈l,m<=y:=by
 cases l with
 | nil=>cases h
 | cons a l =>
  cases h
  obtain⟨G,C,h3⟩:=fold_min l a
  refine⟨?_,λ y hy=>?_⟩
  ·rcases G with h|h
   ·rw[h];exact aF ..
   ·exact ax _ h
  ·rcases aH.mp hy with z|z
   ·rw[z];exact C
   ·exact h3 y z
theorem frc_all (G:CG Γ F n X ck){k:lX}{x:Str}(hk:mkF k=some x):FrC Γ X x k:=by
 cases k<;>cases hk
 ·refine⟨_,_,b_all,by decide,call_allL G.calm G.K,λ φ H s l ys p d s' Q R r C h q=>?_⟩
  unfold lN at h
  dsimp only at h
  cases e:lp l with
  | none=>rw[e]at h;cases h
  | some bs =>
   rw[e]at h
   cases h
   have:=blsOf_inv e
   subst this
   exact⟨p,bs,rfl,SqL.of (by rw[<-r.bls];exact C),q.here R rfl RV.blI⟩
 ·refine⟨_,_,b_min,by decide,call_minL G.calm G.K,λ φ H s l ys p d s' Q R r C h q=>?_⟩
  unfold lN at h
  dsimp only at h
  cases e:lE l with
  | none=>rw[e]at h;cases h
  | some is =>
   rw[e]at h
   have h:(match lG is with|some m=>DV.R.ok (DV.D.int m) s|none=>.bad)=.ok d s':=h
   cases e2:lG is with
   | none=>rw[e2]at h;cases h
   | some mm =>
    rw[e2]at h
    cases h
    have:=qC e
    subst this
    refine⟨p,is,rfl,SqL.of (by rw[<-r.ints];exact C),(λ(z:is=[])=>by rw[z]at e2;cases e2),λ m h y=>?_⟩
    obtain⟨a,b⟩:=minI_min e2
    have:m=mm:=jO (y mm a) (b m h)
    rw[this]
    exact q.here R rfl RV.intI
theorem pe_mkF {m:kN->kK->kP (List kL)}{k:lX}{x:Str}{a:Expr}{p pos:Pos}(G:CG Γ F n X ck)(hk:mkF k=some x)(J:ck.gl x=true)(hs:shp a=true)(h:PE X a (TFv Γ m)) :
  PE X (.Call (.Name x p) [a] [] pos) (TEv Γ (λ ρ s=>(m ρ s).bind λ l s=>lN k l s)):=by
 obtain⟨g1,g2,g3⟩:=G.gl J
 obtain⟨id,r,hb,hx,hc,C⟩:=frc_all (Γ:=Γ) G hk
 refine(pe_callB hc g1 (G.bi _ hx) hb (qe h pa_nil (zq hs)) g3 g2 (zq hs) rfl).imp λ σ H Q q=>?_
 obtain⟨φ,ρ,s,d,s',E,R,y,q⟩:=q
 obtain⟨l,s1,e1,y⟩:=bind_inv y
 exact⟨φ,ρ,s,l,_,E,R,e1,λ p ys φ1 Y g1 l1 b1 Z h0 ho r1 R1=>C φ1 Y s1 l ys p d s' Q R1 r1 Z y (q.trans g1 l1)⟩
theorem pe_mkD {md:kN->kK->kP (kL)}{ml:kN->kK->kP (List kL)}{a de:Expr}{p pos kp:Pos}(G:CG Γ F n X ck)(hg:ck.gl "min"=true)(hs:shp a=true)(h:PE X a (TFv Γ ml))(hd:PE X de (TEv Γ md)) :
  PE X (.Call (.Name "min" p) [a] [⟨some "default",de,kp⟩] pos) (TEv Γ (λ ρ s=>(ml ρ s).bind λ l s=>(md ρ s).bind λ d s=>DV.mkD .min l d s)):=by
 obtain⟨g1,g2,g3⟩:=G.gl hg
 refine(pe_minD rfl G.calm g1 (G.bi _ (by decide)) h hd (zq hs)).imp λ σ H Q q=>?_
 obtain⟨φ,ρ,s,d,s',E,R,C,q⟩:=q
 obtain⟨l,s1,e1,C⟩:=bind_inv C
 obtain⟨d0,s2,e2,C⟩:=bind_inv C
 refine⟨φ,ρ,s,l,s1,E,R,e1,λ p ys φ1 H1 g1 l1 b1 hp h0 ho r1 R1=>?_⟩
 refine⟨φ1,ρ,s1,d0,s2,E.mono g1 l1,R1,e2,λ v φ2 H2 g2 l2 b2 r2 R2=>?_⟩
 have Z:H2 p=some (.lst ys):=g2.fr p _ hp (by nofun) (λ i ob e mu=>ho i ob e mu)
 unfold DV.mkD at C
 dsimp only at C
 cases e:lE l with
 | none=>rw[e]at C;cases C
 | some is =>
  rw[e]at C
  have hm2:(match lG is with|some m=>DV.R.ok (DV.D.int m) s2|none=>DV.R.ok d0 s2)=.ok d s':=C
  have:=qC e
  subst this
  have hq:=q.trans (g1.trans g2 l1) (am l1 l2)
  refine⟨p,is,rfl,SqL.of (by rw[<-r1.ints];exact Z),λ z=>?_,λ m J Y=>?_⟩
  ·subst z
   cases hm2
   exact hq.here R2 b2 r2
  ·clear e2
   cases e2:lG is with
   | none =>
    cases is with
    | nil=>cases J
    | cons _ _=>cases e2
   | some mm =>
    rw[e2]at hm2
    cases hm2
    obtain⟨x,y⟩:=minI_min e2
    have:m=mm:=jO (Y mm x) (y m J)
    rw[this]
    exact hq.here R2 rfl RV.intI
theorem lst_then {φ φ':Nat->Addr}{s s':kK}{H':Hp}{r:Nat}{l:List kL}(R:Rp Γ φ H s)(g:Gr φ s H φ' s' H')(hb:r<s.length)(e:s'[r]?=some (.lst l)):tyV Γ.K "list" (.ref (φ r)) H:=by
 obtain⟨h,y⟩:∃ h,s[r]?=some h:=⟨s[r],ag hb⟩
 have J:=g.mu r h _ y e rfl
 have ho:=R.obj r h y
 cases h with
 | lst l0 =>
  obtain⟨G,C,_⟩:=ho
  exact .inl ⟨rfl,G,SqL.of C⟩
 | ro _=>cases J
 | dic _=>have:=g.kd r _ _ y e;cases this
 | ins _ _=>exact ho.elim
noncomputable def mtR (Γ:Gm)(m:lY):V->List V->Hp->VK->Prop:=λ x vs H Q=>∃ φ s a l d s',Rp Γ φ H s/\RV Γ φ H a x/\RVL Γ φ H l vs/\a.bnd s.length=true/\kM s.length l=true/\lU m a l s=.ok d s'/\After Γ φ s H d s' Q
theorem LIM_lt:kT<aI:=by rw[fm];decide
theorem meth_lst {m:lY}{x:Str}{k:Nat}(y:mtT m=some (x,k)){a:kL}{l:List kL}{s s':kK}{d:kL}(h:lU m a l s=.ok d s'):∃ r l0,a=.ref r/\s[r]?=some (.lst l0):=by
 have go:∀ {r:Nat} {f:List kL->kP kL},(match s[r]? with|some (.lst l)=>f l|_=>.bad)=.ok d s'->∃ l0,s[r]?=some (.lst l0):=λ {r f} h=>by
  cases e:s[r]? with
  | none=>rw[e]at h;cases h
  | some ob =>
   cases ob with
   | lst l0=>exact⟨l0,rfl⟩
   | _=>rw[e]at h;cases h
 unfold lU at h
 split at h
 ·obtain⟨l0,e⟩:=go h;exact⟨_,l0,rfl,e⟩
 ·obtain⟨l0,e⟩:=go h;exact⟨_,l0,rfl,e⟩
 ·obtain⟨l0,e⟩:=go h;exact⟨_,l0,rfl,e⟩
 ·obtain⟨l0,e⟩:=go h;exact⟨_,l0,rfl,e⟩
 ·obtain⟨l0,e⟩:=go h;exact⟨_,l0,rfl,e⟩
 ·cases h
theorem m_append:MtR X "list.append" (mtR Γ .append):=by
 intro G sh σ H x vs v us Q I rx rv h
 obtain⟨φ,s,a,l,d,s',R,ra,rl,ba,bl,C,q⟩:=h
 obtain⟨r,l0,rfl,e⟩:=meth_lst (m:=.append) rfl C
 cases l with
 | nil=>cases C
 | cons y t =>
  cases t with
  | cons _ _=>cases C
  | nil =>
   simp only[lU,e]at C
   split at C
   case isFalse=>cases C
   rename_i hlt
   cases C
   obtain⟨z,rfl,rz⟩:=rl.one
   obtain⟨xs,Z,Y⟩:=R.addr e
   have J:kM s.length l0=true:=by have:=R.wf r _ e;unfold kR at this;exact this
   refine mt_append G sh σ H x [z] v us Q I rx rv ⟨φ r,xs,z,ra.refE,rfl,Z,by rw[Y.length];have:=LIM_lt;omega,?_⟩
   exact q.put R e (Y.append (.cons rz .nil)) (zX J bl) rfl RV.nonI
structure MtOk (Γ:Gm)(X:Cx)(m:lY)(x:Str):Prop where
 ex:∃ id,PySem.Slot "list" x id/\typeOf (.builtin id)=pure (.type "method_descriptor")/\MtR X id (mtR Γ m)
theorem mt_all (C:X.K=Γ.K)(y:Room (kZ+1) X.A){m:lY}{x:Str}{k:Nat}(h:mtT m=some (x,k)):MtOk Γ X m x:=by
 cases m<;>cases h
 ·exact⟨_,gK,PySem.F.type_list_append,m_append⟩
theorem pe_meth' {m:lY}{o:lJ}{es:lc}{ob:Expr}{J:List Expr}{x:Str}{ap cp:Pos}(G:CG Γ F n X ck)(hm:mtT m=some (x,J.length))(hab:abOk ob=true)(hl:(ap.endLine==cp.line)=true)(ho:PE X ob (TEv Γ (kQ F o)))
  (a2:mEs ck es J=true) (h:PEs Γ F X es J):EvT Γ X (.Call (.Attribute ob x ap) J [] cp) (kQ F (.meth m o es)):=by
 refine .val ?_
 obtain⟨id,slot,a1,hr⟩:=(mt_all (Γ:=Γ) (X:=X) G.K (G.room.mono G.deep) hm).ex
 have hs:=mEs_shp a2
 have key:∀ σ H Q,TEv Γ (kQ F (.meth m o es)) σ H Q->tBM Γ.K "list" (mtR Γ m) (TEv Γ (kQ F o)) (TAv Γ (li F es)) σ H Q:=λ σ H Q q=>by
  obtain⟨φ,ρ,s,d,s',E,R,C,q⟩:=q
  obtain⟨a,s1,e1,C⟩:=bind_inv C
  obtain⟨l,s2,e2,C⟩:=bind_inv C
  refine⟨φ,ρ,s,a,s1,E,R,e1,λ v φ1 H1 g1 l1 Y r1 R1=>?_⟩
  obtain⟨r,l0,rfl,er⟩:=meth_lst hm C
  rw[r1.refE]
  have hk:∀ φ2 H2,Gr φ1 s1 H1 φ2 s2 H2->tyV Γ.K "list" (.ref (φ1 r)) H1:=λ φ2 H2 g2=>lst_then R1 g2 (by unfold kO at Y;exact of_decide_eq_true Y) er
  have a0:TAv Γ (li F es) σ H1 λ J H2=>mtR Γ m (.ref (φ1 r)) J H2 Q:=by
   refine⟨φ1,ρ,s1,l,s2,E.mono g1 l1,R1,e2,λ vs φ2 H2 g2 l2 b2 r2 R2=>?_⟩
   refine⟨φ2,s2,.ref r,l,d,s',R2,?_,r2,zC l2 _ Y,b2,C,q.trans (g1.trans g2 l1) (am l1 l2)⟩
   have:=RV.mono g2 _ _ Y r1
   rw[r1.refE]at this
   exact this
  refine⟨?_,a0⟩
  have hlt:r<s1.length:=by unfold kO at Y;exact of_decide_eq_true Y
  obtain⟨o0,e0⟩:∃ o0,s1[r]?=some o0:=⟨s1[r],ag hlt⟩
  have Z:=R1.obj r o0 e0
  cases o0 with
  | lst l0 =>
   obtain⟨J,h1,_⟩:=Z
   exact .inl ⟨rfl,J,SqL.of h1⟩
  | ro l0 =>
   obtain⟨J,h1,_⟩:=Z
   exact .inl ⟨rfl,J,h1.1⟩
  | dic _ =>
   obtain⟨o',eo,ek⟩:=DV.evs_kr G.fk es ρ s1 _ _ e2 r _ e0
   rw[er]at eo;cases eo;cases ek
  | ins _ _=>exact Z.elim
 cases J with
 | nil =>
  have p0:PE X (.Call (.Attribute ob x ap) [] [] cp) (tBM0 X.K "list" (mtR Γ m) (TEv Γ (kQ F o))):=pe_bm0 dR slot a1 hr ho (base_ok hab) hl
  rw[G.K]at p0
  refine p0.imp λ σ H Q q=>?_
  cases es with
  | cons _ _=>exact h.elim
  | nil =>
   obtain⟨φ,ρ,s,d,s',E,R,C,k⟩:=key σ H Q q
   refine⟨φ,ρ,s,d,s',E,R,C,λ v φ1 H1 g1 l1 Y r1 R1=>?_⟩
   obtain⟨h1,h2⟩:=k v φ1 H1 g1 l1 Y r1 R1
   exact⟨h1,ta_nil (TAv.eq (λ ρ s=>rfl) h2)⟩
 | cons y ys =>
  refine(pe_bmK G.K dR slot a1 hr ho (pes_pa h) (base_ok hab) ?_ hl (zq (hs y (aF ..))) (zM λ e he=>hs e (ax _ he)).1).imp key
  rw[(zM hs).2]
  have:(y::ys).length<=1:=by
   unfold mtT at hm
   split at hm<;>first|(have:=aw hm;have:=congrArg Prod.snd this;simp at this;simp;omega)|cases hm
  simp only[dD,eK,kx]
  show(true&&decide ((y::ys).length+0+0<30))=true
  rw[dD]
  exact decide_eq_true (by omega)
end
section
variable {Γ:Gm} {F:lh} {n:Nat} {X:Cx} {ck:Ck} {σ:St} {H:Hp} {Q:VK}
theorem pe_ext' {o:lJ}{m:kN->kK->kP (List kL)}{ob a:Expr}{ap cp:Pos}(G:CG Γ F n X ck)(hab:abOk ob=true)(hl:(ap.endLine==cp.line)=true)(ho:PE X ob (TEv Γ (kQ F o)))(hs:shp a=true)(h:PE X a (TFv Γ m))(a0:∀ ρ s,DV.KR s (m ρ s)) :
  PE X (.Call (.Attribute ob "extend" ap) [a] [] cp) (TEv Γ (λ ρ s=>(kQ F o ρ s).bind λ x s=>(m ρ s).bind λ q s=>DV.extM x q s)):=by
 refine(pe_bmK G.K dR gL PySem.F.type_list_extend mt_extend ho (qe h pa_nil (zq hs)) (base_ok hab) ?_ hl (zq hs) rfl).imp λ σ H Q q=>?_
 ·rw[(zM (es:=[a]) λ e he=>by rw[aZ.mp he];exact hs).2];rfl
 ·obtain⟨φ,ρ,s,d,s',E,R,y,q⟩:=q
  obtain⟨x,s1,e1,y⟩:=bind_inv y
  obtain⟨l,s2,e2,y⟩:=bind_inv y
  refine⟨φ,ρ,s,x,s1,E,R,e1,λ v φ1 H1 g1 l1 b1 r1 R1=>?_⟩
  cases x with
  | ref r =>
   have y:(match s2[r]? with
    | some (.lst m)=>if m.length+l.length<=kT then DV.R.ok DV.D.non (s2.set r (.lst (m++l)))else .bad
    | _=>.bad)=.ok d s':=y
   cases e:s2[r]? with
   | none=>rw[e]at y;cases y
   | some ob' =>
    rw[e]at y
    cases ob' with
    | lst l0 =>
     have y:(if l0.length+l.length<=kT then DV.R.ok DV.D.non (s2.set r (.lst (l0++l)))else .bad)=.ok d s':=y
     split at y
     case isFalse=>cases y
     rename_i a3
     cases y
     have hlt:r<s1.length:=by unfold kO at b1;exact of_decide_eq_true b1
     have a2:tyV Γ.K "list" (.ref (φ1 r)) H1:=by
      obtain⟨Z,e0⟩:∃ Z,s1[r]?=some Z:=⟨s1[r],ag hlt⟩
      have C:=R1.obj r Z e0
      cases Z with
      | lst l0 =>
       obtain⟨Y,J,_⟩:=C
       exact .inl ⟨rfl,Y,SqL.of J⟩
      | ro l0 =>
       obtain⟨Y,J,_⟩:=C
       exact .inl ⟨rfl,Y,J.1⟩
      | dic _ =>
       obtain⟨o',eo,ek⟩:=a0 ρ s1 _ _ e2 r _ e0
       rw[e]at eo;cases eo;cases ek
      | ins _ _=>exact C.elim
     rw[r1.refE]
     refine⟨a2,φ1,ρ,s1,l,s2,E.mono g1 l1,R1,e2,λ p ys φ2 H2 g2 l2 b2 hp h0 ho r2 R2=>?_⟩
     obtain⟨Y,J,h2⟩:=R2.addr e
     have a1:kM s2.length l0=true:=by have:=R2.wf r _ e;unfold kR at this;exact this
     refine⟨φ1 r,p,Y,ys,rfl,rfl,by rw[<-g2.w.map r hlt];exact J,hp,by rw[h2.length,r2.length];have:=LIM_lt;omega,?_⟩
     rw[<-g2.w.map r hlt]
     exact(q.trans (g1.trans g2 l1) (am l1 l2)).put R2 e (h2.append r2) (zX a1 b2) rfl RV.nonI
    | _=>cases y
  | _=>cases y
theorem PIf.imp {e:List Expr}{t t':TT}(h:PIf X e t)(i:∀ σ H Q,t' σ H Q->t σ H Q):PIf X e t':=λ y s σ H Q I q=>h y s σ H Q I (i σ H Q q)
structure CompF (Γ:Gm)(X:Cx)(m:kN->kK->kP (List kL))(E:Expr):Prop where
 ex:∃ elt tgt iter ifs scope pos N' caps wi g tc te,E=.ListComp elt [⟨tgt,iter,ifs,0⟩] scope pos/\qo N' caps scope X.N X.env.scope=true/\PI X tgt iter wi /\
  (∀(C:Addr) (cells:List (Str×Addr)) (s:af) (H:Hp) (ex:List Addr),PG (zU X N' scope C cells s H ex) tgt g/\PIf (zU X N' scope C cells s H ex) ifs tc/\PE (zU X N' scope C cells s H ex) elt te) /\
  (∀ x,db iter X.env x=pure x)/\∀ σ H Q,TFv Γ m σ H Q->tComp caps wi g tc te σ H Q
theorem CompF.pe {m:kN->kK->kP (List kL)}{E:Expr}(h:CompF Γ X m E)(hc:X.calm=true):PE X E (TFv Γ m):=by
 obtain⟨a1,a0,iter,Y,scope,pos,C,y,wi,g,tc,te,rfl,Z,G,h3,h4,J⟩:=h.ex
 exact(pe_comp C y Z G hc h3 h4).imp J
theorem comp_if {tg:lu}{mI:kN->kK->kP lL}{mc Y:kN->kK->kP kL}{h:List (Option Nat)}{J y iter i:Expr}{scope:Scope}{pos:Pos}(G:CG Γ F n X ck)(hm:mComp ck tg y iter h scope=true)
  (hi:PI X y iter (TIv Γ mI)) (hc:∀ C cells s H ex,PT (zU X (ckC ck y h scope).N scope C cells s H ex) i (TTv Γ mc)) (Z:∀ C cells s H ex,PE (zU X (ckC ck y h scope).N scope C cells s H ex) J (TEv Γ Y)) :
  CompF Γ X (λ ρ s=>(mI ρ s).bind λ q s0=>if q.its.length<=kT then lW (λ s=>lx s0 s q.src) (λ d ρ s=>match kY ρ tg d with
   | some ρ=>kX (mc ρ s) λ k s=>if k then(Y ρ s).bind λ v s=>.ok (some v,ρ) s else .ok (none,ρ) s
   | none=>.bad) q.its (lM ρ h) s0 else .bad) (.ListComp J [⟨y,iter,[i],0⟩] scope pos):=by
 obtain⟨c1,c2,c3⟩:=G.comp hm
 exact⟨J,y,iter,[i],scope,pos,_,h,_,_,_,_,rfl,c1,hi,λ C cells s H ex=>⟨(c3 C cells s H ex).2,pif_one (hc C cells s H ex),Z C cells s H ex⟩,fold_ok c2,λ σ H Q q=>tf_comp q⟩
theorem comp_all {tg:lu}{mI:kN->kK->kP lL}{Z:kN->kK->kP kL}{h:List (Option Nat)}{J y iter:Expr}{scope:Scope}{pos:Pos}(G:CG Γ F n X ck)(Y:mComp ck tg y iter h scope=true)
  (hi:PI X y iter (TIv Γ mI)) (he:∀ C cells s H ex,PE (zU X (ckC ck y h scope).N scope C cells s H ex) J (TEv Γ Z)) :
  CompF Γ X (λ ρ s=>(mI ρ s).bind λ q s0=>if q.its.length<=kT then lW (λ s=>lx s0 s q.src) (λ d ρ s=>match kY ρ tg d with
   | some ρ=>(Z ρ s).bind λ v s=>.ok (some v,ρ) s
   | none=>.bad) q.its (lM ρ h) s0 else .bad) (.ListComp J [⟨y,iter,[],0⟩] scope pos):=by
 obtain⟨c1,c2,c3⟩:=G.comp Y
 refine⟨J,y,iter,[],scope,pos,_,h,_,_,TTv Γ (λ ρ s=>.ok (.bl true) s),_,rfl,c1,hi,λ C cells s H ex=>⟨(c3 C cells s H ex).2,pif_nil.imp λ σ H Q q=>?_,he C cells s H ex⟩,fold_ok c2,λ σ H Q q=>tf_comp (TFv.eq (λ ρ s=>?_) q)⟩
 ·obtain⟨φ,ρ,s,b,s',E,R,Y,q⟩:=q
  cases Y
  exact q φ H (Gr.refl _ _ _) (ah _) R
 ·congr 1
theorem pi_seq' {tg:Expr}{e:lJ}{E:Expr}(G:CG Γ F n X ck)(h:PE X E (TEv Γ (kQ F e))):PI X tg E (TIv Γ (mF F (.seq e))):=by
 refine(PI.or (pi_tupK G.K h) (PI.or (pi_listK G.K h) (pi_str h))).imp λ σ H R q=>ti_seq (TIv.eq (λ ρ s=>rfl) q)
theorem pi_rng1' {tg:Expr}{a:lJ}{l:Expr}{p pos:Pos}(G:CG Γ F n X ck)(y:ck.gl "range"=true)(hs:shp l=true)(h:PE X l (TEv Γ (kQ F a))):PI X tg (.Call (.Name "range" p) [l] [] pos) (TIv Γ (mF F (.rng1 a))) :=
 (pi_range1 (G.gl y).1 (G.bi _ (by decide)) (qe h pa_nil (zq hs)) (zq hs)).imp λ σ H R q=>ti_rng1 (TIv.eq (λ ρ s=>rfl) q)
theorem td_new (h:TEv Γ (λ ρ s=>lj (.dic []) s) σ H Q):tDNewK σ H Q:=by
 obtain⟨φ,ρ,s,d,s',E,R,C,q⟩:=h
 obtain⟨rfl,rfl⟩:=qI C
 intro p y
 obtain⟨g,G⟩:=R.new (o:=.dic []) (u:=.dK []) y rfl λ φ' H' g e=>⟨[],e,rfl⟩
 exact q (.ref p) _ _ g (by simp) (by unfold kO;simp) (by unfold RV;simp) G
theorem td_one {mk mv:kN->kK->kP kL}(h:TEv Γ (λ ρ s=>(mk ρ (s++[.dic []])).bind λ kd s1=>(mv ρ s1).bind λ G s2=>if kd.key=true/\s2[s.length]?=some (.dic [])then .ok (.ref s.length) (s2.set s.length (.dic [(kd,G)]))else .bad) σ H Q):tDisp [(TEv Γ mk,TEv Γ mv)] σ H Q:=by
 obtain⟨φ,ρ,s,d,s',E,R,y,q⟩:=h
 obtain⟨kd,s1,e1,y⟩:=bind_inv y
 obtain⟨G,s2,e2,y⟩:=bind_inv y
 split at y
 case isFalse=>cases y
 rename_i hc
 cases y
 intro p hp
 obtain⟨g0,R0⟩:=R.new (o:=.dic []) (u:=.dK []) hp rfl λ φ' H' g e=>⟨[],e,rfl⟩
 have l0:s.length<=(s++[DV.O.dic []]).length:=by simp
 refine⟨_,ρ,s++[DV.O.dic []],kd,s1,E.mono g0 l0,R0,e1,λ v1 φ1 H1 g1 l1 b1 r1 R1=>?_⟩
 refine⟨φ1,ρ,s1,G,s2,(E.mono g0 l0).mono g1 l1,R1,e2,λ Z φ2 H2 J l2 b2 r2 R2=>?_⟩
 have C:φ2 s.length=p:=by
  rw[J.w.map s.length (ar (by simp) l1),g1.w.map s.length (by simp)];simp
 obtain⟨k,hk⟩:=key_some hc.1
 have ek:=key_kV hk (RV.mono J kd v1 b1 r1)
 obtain⟨Y,z1,z2⟩:=R2.obj s.length _ hc.2
 have z2:Y=[]:=z2
 subst z2
 rw[C]at z1
 refine⟨z1,[(k,Z)],by rw[ek];rfl,by simp,?_⟩
 have hb:(DV.O.dic [(kd,G)]).bnd s2.length=true:=by
  unfold kR
  simp only[aN,cq,kM,dC,aq]
  exact⟨zC l2 _ b1,b2⟩
 obtain⟨g3,R3⟩:=R2.set (o:=.dic [(kd,G)]) (u:=.dK [(k,Z)]) hc.2 rfl hb λ H' g e=>⟨_,e,k,Z,[],rfl,hk,RV.monoW g _ _ b2 r2,rfl⟩
 rw[C]at g3 R3
 have L:s.length<=s2.length:=am l0 (am l1 l2)
 have lt:s.length<s2.length:=ar (by simp) (am l1 l2)
 exact q (.ref p) _ _ (((g0.trans g1 l0).trans J (am l0 l1)).trans g3 L) (by rw[bA];exact L) (by unfold kO;rw[bA];exact decide_eq_true lt) (by unfold RV;rw[C]) R3
end
section
variable {Γ:Gm} {F:lh} {n:Nat}
theorem cst_ok {X:Cx}{c:DV.Cn}{v:Const}{k:Nat}{pos:Pos}(h:mC c v=true):EvT Γ X (.Constant v k pos) (kQ F (.cst c)):=by
 refine .val ?_
 unfold mC at h
 split at h
 ·exact pe_non.imp λ σ H Q q=>tv_cst (c:=.non) (λ _=>rfl) (λ _ _=>RV.nonI) (TEv.eq (λ ρ s=>rfl) q)
 ·rename_i b c
  have e:=eq_of_beq h
  subst e
  exact pe_bl.imp λ σ H Q q=>tv_cst (c:=.bl b) (λ _=>rfl) (λ _ _=>RV.blI) (TEv.eq (λ ρ s=>rfl) q)
 ·rename_i i j
  have e:=of_decide_eq_true h
  subst e
  exact pe_int.imp λ σ H Q q=>tv_cst (c:=.int i) (λ _=>rfl) (λ _ _=>RV.intI) (TEv.eq (λ ρ s=>rfl) q)
 ·rename_i x y
  rw[aq]at h
  have e:=of_decide_eq_true h.1
  have e2:=of_decide_eq_true h.2
  subst e
  exact pe_str.imp λ σ H Q q=>tv_cst (c:=.str x) (λ _=>rfl) (λ _ _=>RV.strI (by unfold kT;omega)) (TEv.eq (λ ρ s=>rfl) q)
 ·cases h
theorem disp_ok {X:Cx}{ck:Ck}{es:lc}{y:List Expr}{pos:Pos}(m:mEs ck es y=true)(hz:y.length<=1000)(h:PA X y (TAv Γ (li F es))):PE X (.List y pos) (TFv Γ (DV.evL F (.disp es))):=by
 refine(pe_lst h).imp λ σ H Q q=>?_
 obtain⟨φ,ρ,s,l,s',E,R,G,q⟩:=q
 refine⟨φ,ρ,s,l,s',E,R,G,λ vs φ1 J g1 l1 Z r1 R1=>⟨by rw[r1.length,evs_len G m];exact le1000 hz,λ p C=>?_⟩⟩
 obtain⟨Y,R2⟩:=R1.same (H':=upd J p (.lst vs)) ((Same.refl J).new C)
 refine q p vs φ1 _ (g1.trans Y l1) l1 Z zn ?_ (Off.new R1 C) (RVL.mono Y _ _ Z r1) R2
 cases e:H p with
 | none=>rfl
 | some o=>exact absurd C (g1.st p (by rw[e];simp))
theorem CompF.eq {X:Cx}{m m':kN->kK->kP (List kL)}{E:Expr}(c:CompF Γ X m E)(e:∀ ρ s,m' ρ s=m ρ s):CompF Γ X m' E:=by
 have:m'=m:=funext λ ρ=>funext λ s=>e ρ s
 subst this;exact c
theorem zA {a b:Bool}(h:(a&&b)=true):a=true/\b=true:=by rw[aq]at h;exact h
theorem glob_ok {X:Cx}{J:Ck}{g:String}{p:Pos}(G:CG Γ F n X J)(h:J.gl (g:Str)=true):EvT Γ X (.Name (g:Str) p) (kQ F (.glob g)):=by
 refine .val ?_
 obtain⟨g1,Z,g3⟩:=G.gl h
 cases e:F.con g with
 | none =>
  intro C s σ H Q I q
  obtain⟨φ,ρ,s,d,s',E,R,y,q⟩:=q
  have y:(match F.con g with|some d=>DV.R.ok d s|none=>.bad)=.ok d s':=y
  rw[e]at y
  cases y
 | some d =>
  obtain⟨v,u,Y,h2,h3,h4⟩:=G.con g d e
  exact(pe_glob g1 Y h2 Z).imp λ σ H Q q=>tv_cst (c:=d) h3 h4 (TEv.eq (λ ρ s=>by show(match F.con g with|some d=>DV.R.ok d s|none=>.bad)=DV.R.ok d s;rw[e]) q)
theorem var_ok {X:Cx}{y:Ck}{i:Nat}{x:Str}{p:Pos}(G:CG Γ F n X y)(h:y.var i x=true):EvT Γ X (.Name x p) (kQ F (.var i)):=by
 refine .val ?_
 unfold Ck.var at h
 obtain⟨h,Y⟩:=zA h
 obtain⟨h,h3⟩:=zA h
 obtain⟨J,C⟩:=zA h
 have e1:(x==("__debug__":Str))=false:=by simpa using h3
 have e2:(x==("__classdict__":Str))=false:=by simpa using Y
 exact(pe_var (by rw[G.N];exact of_decide_eq_true J) (G.vis C) e1 e2).imp λ σ H Q q=>tv_var i (TEv.eq (λ ρ s=>rfl) q)
theorem var_pe {X:Cx}{y:Ck}{i:Nat}{x:Str}{p:Pos}(G:CG Γ F n X y)(h:y.var i x=true):PE X (.Name x p) (tVar i):=by
 unfold Ck.var at h
 obtain⟨h,Y⟩:=zA h
 obtain⟨h,h3⟩:=zA h
 obtain⟨J,C⟩:=zA h
 exact pe_var (by rw[G.N];exact of_decide_eq_true J) (G.vis C) (by simpa using h3) (by simpa using Y)
theorem mAsC_shp {J:Ck}:∀ {es:lF} {G:List Expr},mAsC J es G=true->∀ x∈G,shp x=true
 | .nil,[],_,x,hx=>by cases hx
 | .nil,_::_,h,_,_=>ff h
 | .ex e es,[],h,_,_=>ff h
 | .ex e es,y::ys,h,x,hx=>by
  obtain⟨h,h3⟩:=zA h
  obtain⟨Y,C⟩:=zA h
  rcases aH.mp hx with rfl|hx
  ·exact C
  ·exact mAsC_shp h3 x hx
 | .lam _ _ es,[],h,_,_=>ff h
 | .lam _ _ es,y::ys,h,x,hx=>by
  obtain⟨h,h3⟩:=zA h
  obtain⟨Y,C⟩:=zA h
  rcases aH.mp hx with rfl|hx
  ·exact C
  ·exact mAsC_shp h3 x hx
 | .fn _ _,_,h,_,_=>ff h
theorem mAsC_lam {G:Ck}:∀ {es:lF} {Y:List Expr},mAsC G es Y=true->asLam es=true->∃ id C E,G.lk id C E=true
 | .nil,_,_,h=>by cases h
 | .ex e es,[],h,_=>ff h
 | .ex e es,y::ys,h,hl=>by
  obtain⟨h,h3⟩:=zA h
  exact mAsC_lam h3 hl
 | .lam id C es,[],h,_=>ff h
 | .lam id C es,y::ys,h,_=>by
  obtain⟨h,h3⟩:=zA h
  obtain⟨J,Z⟩:=zA h
  exact⟨id,C,y,J⟩
 | .fn _ _,_,h,_=>ff h
theorem bad_ok {X:Cx}{E:Expr}{m:kN->kK->kP kL}(h:∀ ρ s,m ρ s=.bad):EvT Γ X E m:=by
 refine⟨λ y s σ H Q I q=>?_,λ y s σ H Q I q=>?_⟩
 ·obtain⟨φ,ρ,s,d,s',E,R,C,q⟩:=q
  rw[h]at C;cases C
 ·obtain⟨φ,ρ,s,d,s',E,R,C,q⟩:=q
  rw[h]at C;cases C
inductive LK (Γ:Gm)(X:Cx)(m:kN->kK->kP (List kL))(E:Expr)(k:Nat):Prop where
 | c (h:CompF Γ X m E):LK Γ X m E k
 | f (hk:1<=k) (h:PE X E (TFv Γ m)):LK Γ X m E k
 | s (hk:k=2) (h:PE X E (TLv Γ m)):LK Γ X m E k
theorem lc_of {X:Cx}{m:kN->kK->kP (List kL)}{E:Expr}(h:LK Γ X m E 0):CompF Γ X m E:=by
 cases h with
 | c h=>exact h
 | f hk h=>omega
 | s hk h=>omega
theorem lf_of {X:Cx}{y:Ck}{m:kN->kK->kP (List kL)}{E:Expr}(G:CG Γ F n X y)(h:LK Γ X m E 1):PE X E (TFv Γ m):=by
 cases h with
 | c h=>exact h.pe G.calm
 | f hk h=>exact h
 | s hk h=>omega
theorem l2_of {X:Cx}{y:Ck}{m:kN->kK->kP (List kL)}{E:Expr}(G:CG Γ F n X y)(h:LK Γ X m E 2):PE X E (TLv Γ m):=by
 cases h with
 | c h=>exact(h.pe G.calm).imp λ σ H Q q=>tl_fresh q
 | f hk h=>exact h.imp λ σ H Q q=>tl_fresh q
 | s hk h=>exact h
theorem biOk_inv {C:Ck}{b:ls}{x:Str}{G:List Expr}{es:lc}(h:biOk C b x G (mEs C es G) (mEs C es (G.take 1))=true) :
  (∃ k t a y Y,biK b=some (k,t)/\G=[a,.Name y Y]/\x=("isinstance":Str)/\y=t/\C.gl x=true/\C.gl y=true/\mEs C es [a]=true)\/∃ a ys,G=a::ys/\biT b=some x/\C.gl x=true/\mEs C es (a::ys)=true:=by
 unfold biOk at h
 cases hk:biK b with
 | none =>
  rw[hk]at h
  cases G with
  | nil=>exact ff h
  | cons a ys =>
   obtain⟨h,h3⟩:=zA h
   obtain⟨Z,J⟩:=zA h
   exact .inr ⟨a,ys,rfl,of_decide_eq_true Z,J,h3⟩
 | some p =>
  rw[hk]at h
  cases G with
  | nil=>exact ff h
  | cons a ys=>cases ys with
   | nil=>exact ff h
   | cons b ys=>cases b with
    | Name y Y=>cases ys with
     | nil =>
      obtain⟨h,h5⟩:=zA h
      obtain⟨h,h4⟩:=zA h
      obtain⟨h,h3⟩:=zA h
      obtain⟨Z,J⟩:=zA h
      exact .inl ⟨p.1,p.2,a,y,Y,rfl,rfl,of_decide_eq_true Z,of_decide_eq_true h3,J,h4,h5⟩
     | cons _ _=>exact ff h
    | _=>exact ff h
mutual
theorem sE:∀(e:lJ) (E:Expr) (X:Cx) (C:Ck),CG Γ F n X C->mE C e E=true->EvT Γ X E (kQ F e)
 | .var i,E,X,C,G,h=>by
  cases E with
  | Name x p =>
   exact var_ok G h
  | _=>exact ff h
 | .cst c,E,X,C,G,h=>by
  cases E with
  | Constant v k p =>
   exact cst_ok h
  | _=>exact ff h
 | .glob g,E,X,C,G,h=>by
  cases E with
  | Name x p =>
   obtain⟨Y,J⟩:=zA h
   have e:=of_decide_eq_true Y
   subst e
   exact glob_ok G J
  | _=>exact ff h
 | .bin op a b,E,X,C,G,h=>by
  cases E with
  | BinOp l o r pE =>
   obtain⟨h,h3⟩:=zA h
   obtain⟨Y,J⟩:=zA h
   have e:=of_decide_eq_true Y
   subst e
   exact ev_bin' G op (sE a _ X C G J) (sE b _ X C G h3)
  | _=>exact ff h
 | .neg a,E,X,C,G,h=>by
  cases E with
  | UnaryOp o l p =>
   cases o with
   | USub =>
    exact ev_neg' (sE a _ X C G h)
   | _=>exact ff h
  | _=>exact ff h
 | .not a,E,X,C,G,h=>by
  cases E with
  | UnaryOp o l p =>
   cases o with
   | Not =>
    exact ev_not' (sE a _ X C G h)
   | _=>exact ff h
  | _=>exact ff h
 | .cmp op a b,E,X,C,G,h=>by
  cases E with
  | Compare l os rs pE =>
   cases os with
   | cons o os_0 =>
    cases os_0 with
    | nil =>
     cases rs with
     | cons r rs_0 =>
      cases rs_0 with
      | nil =>
       obtain⟨h,h3⟩:=zA h
       obtain⟨Y,J⟩:=zA h
       have e:=of_decide_eq_true Y
       subst e
       exact ev_cmp' G op (mE_shp h3) (sE a _ X C G J) (sE b _ X C G h3)
      | _=>exact ff h
     | _=>exact ff h
    | _=>exact ff h
   | _=>exact ff h
  | _=>exact ff h
 | .chain _ _ _ _ _,E,X,C,G,h=>ff h
 | .isN a,E,X,C,G,h=>by
  cases E with
  | Compare l os rs pE =>
   cases os with
   | cons o os1 =>
    cases o with
    | Is =>
     cases os1 with
     | nil =>
      cases rs with
      | cons r rs1 =>
       cases r with
       | Constant v k p1 =>
        cases v with
        | none =>
         cases rs1 with
         | nil =>
          exact ev_isN' (sE a _ X C G h)
         | _=>exact ff h
        | _=>exact ff h
       | _=>exact ff h
      | _=>exact ff h
     | _=>exact ff h
    | _=>exact ff h
   | _=>exact ff h
  | _=>exact ff h
 | .notN a,E,X,C,G,h=>by
  cases E with
  | Compare l os rs pE =>
   cases os with
   | cons o os1 =>
    cases o with
    | IsNot =>
     cases os1 with
     | nil =>
      cases rs with
      | cons r rs1 =>
       cases r with
       | Constant v k p1 =>
        cases v with
        | none =>
         cases rs1 with
         | nil =>
          exact ev_notN' (sE a _ X C G h)
         | _=>exact ff h
        | _=>exact ff h
       | _=>exact ff h
      | _=>exact ff h
     | _=>exact ff h
    | _=>exact ff h
   | _=>exact ff h
  | _=>exact ff h
 | .isB _ _,E,X,C,G,h=>ff h
 | .notB _ _,E,X,C,G,h=>ff h
 | .and a b,E,X,C,G,h=>by
  cases E with
  | BoolOp op vs p=>cases op with
   | And =>
    cases vs with
    | nil=>exact ff h
    | cons l vs=>cases vs with
     | nil=>exact ff h
     | cons r vs=>cases vs with
      | nil =>
       obtain⟨Y,J⟩:=zA h
       exact ev_and2 (sE a _ X C G Y) (sE b _ X C G J)
      | cons r2 vs =>
       obtain⟨Y,J⟩:=zA h
       exact ev_and3 (sE a _ X C G Y) (sE b _ X C G J)
   | _=>exact ff h
  | _=>exact ff h
 | .or a b,E,X,C,G,h=>by
  cases E with
  | BoolOp op vs p=>cases op with
   | Or =>
    cases vs with
    | nil=>exact ff h
    | cons l vs=>cases vs with
     | nil=>exact ff h
     | cons r vs=>cases vs with
      | nil =>
       obtain⟨Y,J⟩:=zA h
       exact ev_or2 (sE a _ X C G Y) (sE b _ X C G J)
      | cons r2 vs =>
       obtain⟨Y,J⟩:=zA h
       exact ev_or3 (sE a _ X C G Y) (sE b _ X C G J)
   | _=>exact ff h
  | _=>exact ff h
 | .ite c a b,E,X,C,G,h=>by
  cases E with
  | IfExp tE l r pE =>
   obtain⟨h,h3⟩:=zA h
   obtain⟨Y,J⟩:=zA h
   exact ev_ite' (sE c _ X C G Y) (sE a _ X C G J) (sE b _ X C G h3)
  | _=>exact ff h
 | .tup es,E,X,C,G,h=>by
  cases E with
  | Tuple xs k p =>
   obtain⟨Y,J⟩:=zA h
   exact pe_tup' Y (of_decide_eq_true J) (pes_pa (sEs es _ X C G Y))
  | _=>exact ff h
 | .lst es,E,X,C,G,h=>by
  cases E with
  | List xs p =>
   obtain⟨Y,J⟩:=zA h
   exact pe_lst' Y (of_decide_eq_true J) (pes_pa (sEs es _ X C G Y))
  | _=>exact ff h
 | .dic .nil .nil,E,X,C,G,h=>by
  cases E with
  | Dict a b p=>cases a with
   | nil=>cases b with
    | nil=>exact .val (pe_dnewK.imp λ σ H Q q=>td_new (TEv.eq (λ ρ s=>rfl) q))
    | _=>exact ff h
   | cons x a=>cases x with
    | none=>exact ff h
    | some x=>cases a with
     | nil=>cases b with
      | nil=>exact ff h
      | cons y b=>cases b with
       | nil=>exact ff h
       | _=>exact ff h
     | _=>exact ff h
  | _=>exact ff h
 | .dic (.cons k .nil) (.cons v .nil),E,X,C,G,h=>by
  cases E with
  | Dict a b p=>cases a with
   | nil=>cases b with
    | nil=>exact ff h
    | _=>exact ff h
   | cons x a=>cases x with
    | none=>exact ff h
    | some x=>cases a with
     | nil=>cases b with
      | nil=>exact ff h
      | cons y b=>cases b with
       | nil =>
        obtain⟨Y,J⟩:=zA h
        obtain⟨Y,_⟩:=zA Y
        obtain⟨Y,_⟩:=zA Y
        obtain⟨J,_⟩:=zA J
        obtain⟨J,_⟩:=zA J
        exact .val ((pe_disp (pps_cons (sE k _ X C G Y).1 (sE v _ X C G J).1 pps_nil) rfl rfl (by nofun) (by show 1<=15;decide)).imp λ σ H Q q=>td_one (TEv.eq (λ ρ s=>rfl) q))
       | _=>exact ff h
     | _=>exact ff h
  | _=>exact ff h
 | .dic .nil (.cons _ _),E,X,C,G,h=>bad_ok λ _ _=>rfl
 | .dic (.cons _ .nil) .nil,E,X,C,G,h=>bad_ok λ _ _=>rfl
 | .dic (.cons _ .nil) (.cons _ (.cons _ _)),E,X,C,G,h=>bad_ok λ _ _=>rfl
 | .dic (.cons _ (.cons _ _)) _,E,X,C,G,h=>bad_ok λ _ _=>rfl
 | .ix a b,E,X,C,G,h=>by
  cases E with
  | Subscript o i p =>
   obtain⟨Y,J⟩:=zA h
   exact ev_ix' G (mE_shp J) (sE a _ X C G Y) (sE b _ X C G J)
  | _=>exact ff h
 | .slL _ _,E,X,C,G,h=>ff h
 | .slU a hi,E,X,C,G,h=>by
  cases E with
  | Subscript o i p =>
   cases i with
   | Slice lo hi st p2 =>
    cases lo with
    | none =>
     cases hi with
     | some l =>
      cases st with
      | none =>
       obtain⟨Y,J⟩:=zA h
       exact ev_slU' G (sE a _ X C G Y) (sE hi _ X C G J)
      | _=>exact ff h
     | _=>exact ff h
    | _=>exact ff h
   | _=>exact ff h
  | _=>exact ff h
 | .slLU _ _ _,E,X,C,G,h=>ff h
 | .rev _,E,X,C,G,h=>ff h
 | .call f as,E,X,C,G,h=>by
  cases E with
  | Call fE xs kw p =>
   cases fE with
   | Name x pN =>
    cases kw with
    | nil =>
     obtain⟨h,h3⟩:=zA h
     obtain⟨Y,J⟩:=zA h
     have e:=of_decide_eq_true Y
     subst e
     exact pe_call' G J h3 (sAs as _ X C G h3)
    | _=>exact ff h
   | _=>exact ff h
  | _=>exact ff h
 | .callC f as,E,X,C,G,h=>by
  cases E with
  | Call fE xs kw p =>
   cases fE with
   | Name x pN =>
    cases xs with
    | cons y ys =>
     cases kw with
     | nil =>
      obtain⟨h,h3⟩:=zA h
      obtain⟨h,Z⟩:=zA h
      obtain⟨Y,J⟩:=zA h
      have e:=of_decide_eq_true Y
      subst e
      obtain⟨id,a0,E',hlk⟩:=mAsC_lam h3 Z
      obtain⟨_,_,_,_,_,_,_,_,L⟩:=G.lam id a0 E' hlk
      exact .val ((pe_callC' G J L.fn L.kd (mAsC_shp h3) (sAsC as _ X C G h3)).imp λ σ H Q q=>TEv.eq (λ ρ s=>rfl) q)
     | _=>exact ff h
    | _=>exact ff h
   | _=>exact ff h
  | _=>exact ff h
 | .callV i es,E,X,C,G,h=>by
  cases E with
  | Call fE xs kw p =>
   cases fE with
   | Name x pN =>
    cases xs with
    | cons y ys =>
     cases kw with
     | nil =>
      obtain⟨Y,J⟩:=zA h
      exact .val (pe_callV' G Y (mEs_shp J) (pes_pa (sEs es _ X C G J)) (var_pe G Y))
     | _=>exact ff h
    | _=>exact ff h
   | _=>exact ff h
  | _=>exact ff h
 | .bi b es,E,X,C,G,h=>by
  cases E with
  | Call fE xs kw p =>
   cases fE with
   | Name x pN =>
    cases kw with
    | nil =>
     have h:biOk C b x xs (mEs C es xs) (mEs C es (xs.take 1))=true:=h
     rcases biOk_inv h with⟨k,t,a,y,py,hk,rfl,rfl,rfl,J,Z,h5⟩|⟨a,ys,rfl,Y,J,h3⟩
     ·exact pe_isi' G hk J Z (sEs es _ X C G h5)
     ·exact pe_bi' G Y J h3 (pes_pa (sEs es _ X C G h3))
    | _=>exact ff h
   | _=>exact ff h
  | _=>exact ff h
 | .mk k l,E,X,C,G,h=>by
  cases E with
  | ListComp e gs sc p =>
   obtain⟨Y,J⟩:=zA h
   have e:=of_decide_eq_true Y
   subst e
   exact .val (((lc_of (sL l _ X C G 0 J)).pe G.calm).imp λ σ H Q q=>tf_list (TEv.eq (λ ρ s=>rfl) q))
  | Call fE xs kw p =>
   cases fE with
   | Name x pN =>
    cases xs with
    | cons a xs_0 =>
     cases xs_0 with
     | nil =>
      cases kw with
      | nil =>
       obtain⟨h,Z⟩:=zA h
       obtain⟨J,h3⟩:=zA h
       rw[bO]at Z
       rcases Z with Z|Z
       ·obtain⟨h5,h6⟩:=zA Z
        exact .val ((pe_mk' G (of_decide_eq_true h5) J h3 (l2_of G (sL l _ X C G 2 h6))).imp λ σ H Q q=>TEv.eq (λ ρ s=>rfl) q)
       ·obtain⟨h5,h6⟩:=zA Z
        exact .val ((pe_mkF G (of_decide_eq_true h5) J h3 (lf_of G (sL l _ X C G 1 h6))).imp λ σ H Q q=>TEv.eq (λ ρ s=>rfl) q)
      | _=>exact ff h
     | _=>exact ff h
    | _=>exact ff h
   | _=>exact ff h
  | _=>exact ff h
 | .mks _ _,E,X,C,G,h=>ff h
 | .mkDs _ _ _,E,X,C,G,h=>ff h
 | .mkD k l d,E,X,C,G,h=>by
  cases E with
  | Call fE xs kw p =>
   cases fE with
   | Name x pN =>
    cases xs with
    | cons a xs_0 =>
     cases xs_0 with
     | nil =>
      cases kw with
      | cons kk kw1 =>
       cases kk with
       | mk ky de kp =>
        cases ky with
        | some y =>
         cases kw1 with
         | nil =>
          obtain⟨h,h7⟩:=zA h
          obtain⟨h,h6⟩:=zA h
          obtain⟨h,h5⟩:=zA h
          obtain⟨h,Z⟩:=zA h
          obtain⟨h,h3⟩:=zA h
          obtain⟨Y,J⟩:=zA h
          have e:=of_decide_eq_true Y
          have e2:=of_decide_eq_true J
          have e3:=of_decide_eq_true h3
          subst e e2 e3
          exact .val ((pe_mkD G Z h5 (lf_of G (sL l _ X C G 1 h6)) (sE d _ X C G h7).1).imp λ σ H Q q=>TEv.eq (λ ρ s=>rfl) q)
         | _=>exact ff h
        | _=>exact ff h
      | _=>exact ff h
     | _=>exact ff h
    | _=>exact ff h
   | _=>exact ff h
  | _=>exact ff h
 | .meth m o es,E,X,C,G,h=>by
  cases E with
  | Call fE xs kw p =>
   cases fE with
   | Attribute ob x ap =>
    cases kw with
    | nil =>
     obtain⟨h,h5⟩:=zA h
     obtain⟨h,Z⟩:=zA h
     obtain⟨h,h3⟩:=zA h
     obtain⟨Y,J⟩:=zA h
     exact pe_meth' G (of_decide_eq_true Y) J h3 (sE o _ X C G Z).1 h5 (sEs es _ X C G h5)
    | _=>exact ff h
   | _=>exact ff h
  | _=>exact ff h
 | .ext o l,E,X,C,G,h=>by
  cases E with
  | Call fE xs kw p =>
   cases fE with
   | Attribute ob x ap =>
    cases xs with
    | cons a xs_0 =>
     cases xs_0 with
     | nil =>
      cases kw with
      | nil =>
       obtain⟨h,h6⟩:=zA h
       obtain⟨h,h5⟩:=zA h
       obtain⟨h,Z⟩:=zA h
       obtain⟨h,h3⟩:=zA h
       obtain⟨Y,J⟩:=zA h
       have e:=of_decide_eq_true Y
       subst e
       exact .val ((pe_ext' G J h3 (sE o _ X C G Z).1 h6 (lf_of G (sL l _ X C G 1 h5)) (DV.evL_kr G.fk l)).imp λ σ H Q q=>TEv.eq (λ ρ s=>rfl) q)
      | _=>exact ff h
     | _=>exact ff h
    | _=>exact ff h
   | _=>exact ff h
  | _=>exact ff h
 | .extS _ _,E,X,C,G,h=>ff h
 | .join _ _,E,X,C,G,h=>ff h
theorem sEs:∀(es:lc) (y:List Expr) (X:Cx) (C:Ck),CG Γ F n X C->mEs C es y=true->PEs Γ F X es y
 | .nil,y,X,C,G,h=>by
  cases y with
  | nil =>
   exact trivial
  | _=>exact ff h
 | .cons e es,y,X,C,G,h=>by
  cases y with
  | cons x y =>
   obtain⟨h,h3⟩:=zA h
   obtain⟨Y,J⟩:=zA h
   exact⟨⟨J,sE e _ X C G Y⟩,sEs es _ X C G h3⟩
  | _=>exact ff h
theorem sAs:∀(es:lF) (y:List Expr) (X:Cx) (C:Ck),CG Γ F n X C->mAs C es y=true->PA X y (TAv Γ (lA F es))
 | .nil,y,X,C,G,h=>by
  cases y with
  | nil =>
   exact pa_nil.imp λ σ H Q q=>ta_nil (TAv.eq (λ ρ s=>rfl) q)
  | _=>exact ff h
 | .ex e es,y,X,C,G,h=>by
  cases y with
  | cons x y =>
   obtain⟨h,h3⟩:=zA h
   obtain⟨Y,J⟩:=zA h
   exact(pa_cons' J (sE e _ X C G Y).1 (sAs es _ X C G h3)).imp λ σ H Q q=>TAv.eq (λ ρ s=>rfl) q
  | _=>exact ff h
 | .lam _ _ _,y,X,C,G,h=>ff h
 | .fn _ _,y,X,C,G,h=>ff h
theorem sAsC:∀(es:lF) (y:List Expr) (X:Cx) (C:Ck),CG Γ F n X C->mAsC C es y=true->PA X y (TAp Γ X.env.cells X.N (lA F es))
 | .nil,y,X,C,G,h=>by
  cases y with
  | nil =>
   exact pa_nil.imp λ σ H Q q=>tap_nil (TAp.eq (λ ρ s=>rfl) q)
  | _=>exact ff h
 | .ex e es,y,X,C,G,h=>by
  cases y with
  | cons x y =>
   obtain⟨h,h3⟩:=zA h
   obtain⟨Z,Y⟩:=zA h
   exact(qe (sE e _ X C G Z).1 (sAsC es _ X C G h3) (zq Y)).imp λ σ H Q q=>tap_ex (TAp.eq (λ ρ s=>rfl) q)
  | _=>exact ff h
 | .lam id caps es,y,X,C,G,h=>by
  cases y with
  | cons x y =>
   obtain⟨h,h3⟩:=zA h
   obtain⟨Z,Y⟩:=zA h
   obtain⟨c,P,params,body,scope,pos,J,e,L⟩:=G.lam id caps _ Z
   have hnm:J.nm=none:=by
    cases q:J.nm with
    | none=>rfl
    | some p=>unfold lamText at e;rw[q]at e;rw[e]at Y;cases Y
   unfold lamText at e
   rw[hnm]at e
   dsimp only at e
   subst e
   rw[<-G.N]at L
   exact(pa_lam L hnm (sAsC es _ X C G h3)).imp λ σ H Q q=>TAp.eq (λ ρ s=>rfl) q
  | _=>exact ff h
 | .fn _ _,y,X,C,G,h=>ff h
theorem sI:∀(i:DV.I) (E tg:Expr) (X:Cx) (y:Ck),CG Γ F n X y->mI y tg i E=true->PI X tg E (TIv Γ (mF F i))
 | .seq e,E,tg,X,y,G,h=>by
  obtain⟨C,J⟩:=zA h
  exact pi_seq' G (sE e _ X y G C).1
 | .rng1 a,E,tg,X,y,G,h=>by
  cases E with
  | Call fE xs kw p =>
   cases fE with
   | Name x pN =>
    cases xs with
    | cons l xs_0 =>
     cases xs_0 with
     | nil =>
      cases kw with
      | nil =>
       obtain⟨h,Y⟩:=zA h
       obtain⟨h,h3⟩:=zA h
       obtain⟨C,J⟩:=zA h
       have e:=of_decide_eq_true C
       subst e
       exact pi_rng1' G J Y (sE a _ X y G h3).1
      | _=>exact ff h
     | _=>exact ff h
    | _=>exact ff h
   | _=>exact ff h
  | _=>exact ff h
 | .rng2 _ _,E,tg,X,y,G,h=>ff h
 | .rng3 _ _ _,E,tg,X,y,G,h=>ff h
 | .enum (.seq _),E,tg,X,y,G,h=>ff h
 | .enum (.rng1 _),E,tg,X,y,G,h=>ff h
 | .enum (.rng2 _ _),E,tg,X,y,G,h=>ff h
 | .enum (.rng3 _ _ _),E,tg,X,y,G,h=>ff h
 | .enum (.enum _),E,tg,X,y,G,h=>ff h
 | .enum (.zip _ _),E,tg,X,y,G,h=>ff h
 | .enum (.items _),E,tg,X,y,G,h=>ff h
 | .zip (.seq _) (.seq _),E,tg,X,y,G,h=>ff h
 | .zip (.seq _) (.rng1 _),E,tg,X,y,G,h=>ff h
 | .zip (.seq _) (.rng2 _ _),E,tg,X,y,G,h=>ff h
 | .zip (.seq _) (.rng3 _ _ _),E,tg,X,y,G,h=>ff h
 | .zip (.seq _) (.enum _),E,tg,X,y,G,h=>ff h
 | .zip (.seq _) (.zip _ _),E,tg,X,y,G,h=>ff h
 | .zip (.seq _) (.items _),E,tg,X,y,G,h=>ff h
 | .zip (.rng1 _) _,E,tg,X,y,G,h=>ff h
 | .zip (.rng2 _ _) _,E,tg,X,y,G,h=>ff h
 | .zip (.rng3 _ _ _) _,E,tg,X,y,G,h=>ff h
 | .zip (.enum _) _,E,tg,X,y,G,h=>ff h
 | .zip (.zip _ _) _,E,tg,X,y,G,h=>ff h
 | .zip (.items _) _,E,tg,X,y,G,h=>ff h
 | .items _,E,tg,X,y,G,h=>ff h
theorem sL:∀(l:DV.L) (E:Expr) (X:Cx) (J:Ck),CG Γ F n X J->∀ k,mL J k l E=true->LK Γ X (DV.evL F l) E k
 | .comp tg it e caps,E,X,J,G,k,h=>by
  cases E with
  | ListComp elt gs scope p =>
   cases gs with
   | cons g gs1 =>
    cases g with
    | mk tgt iter ifs z =>
     cases ifs with
     | nil =>
      cases gs1 with
      | nil =>
       obtain⟨h,h3⟩:=zA h
       obtain⟨h,Y⟩:=zA h
       obtain⟨h0,y⟩:=zA h
       have Z:=of_decide_eq_true h0
       subst Z
       have c:=comp_all (pos:=p) G y (sI it _ _ X J G Y) λ C cells s H ex=>(sE e _ _ _ ((G.comp y).2.2 C cells s H ex).1 h3).1
       exact .c (c.eq λ ρ s=>rfl)
      | _=>exact ff h
     | _=>exact ff h
   | _=>exact ff h
  | _=>exact ff h
 | .compIf tg it i e caps,E,X,J,G,k,h=>by
  cases E with
  | ListComp elt gs scope p =>
   cases gs with
   | cons g gs1 =>
    cases g with
    | mk tgt iter ifs z =>
     cases ifs with
     | cons i1 ifs1 =>
      cases ifs1 with
      | nil =>
       cases gs1 with
       | nil =>
        obtain⟨h,h4⟩:=zA h
        obtain⟨h,h3⟩:=zA h
        obtain⟨h,Y⟩:=zA h
        obtain⟨h0,y⟩:=zA h
        have Z:=of_decide_eq_true h0
        subst Z
        have c:=comp_if (pos:=p) G y (sI it _ _ X J G Y) (λ C cells s H ex=>(sE i _ _ _ ((G.comp y).2.2 C cells s H ex).1 h3).2) λ C cells s H ex=>(sE e _ _ _ ((G.comp y).2.2 C cells s H ex).1 h4).1
        exact .c (c.eq λ ρ s=>rfl)
       | _=>exact ff h
      | _=>exact ff h
     | _=>exact ff h
   | _=>exact ff h
  | _=>exact ff h
 | .disp es,E,X,J,G,k,h=>by
  cases E with
  | List xs p =>
   obtain⟨h,Y⟩:=zA h
   obtain⟨h0,y⟩:=zA h
   exact .f (of_decide_eq_true h0) (disp_ok y (of_decide_eq_true Y) (pes_pa (sEs es _ X J G y)))
  | _=>exact ff h
 | .seq e,E,X,J,G,k,h=>by
  obtain⟨h0,y⟩:=zA h
  exact .s (of_decide_eq_true h0) ((sE e _ X J G y).1.imp λ σ H Q q=>tl_seq (TLv.eq (λ ρ s=>rfl) q))
end
end
section
variable {Γ:Gm} {F:lh} {n:Nat}
theorem asg_comp {X:Cx}{ck:Ck}{m:kN->kK->kP (List kL)}{E:Expr}{x:Str}{i:Nat}{px pos:Pos}(G:CG Γ F n X ck)(c:CompF Γ X m E)(hi:ck.N[i]?=some x)(hl:ck.loc x=true) :
  PS X (.Assign [.Name x px] E pos) (tAsg (TFv Γ m) (gName i)):=by
 obtain⟨a0,Z,iter,C,scope,p2,N',h,wi,g,tc,te,rfl,h1,h2,h3,h4,h5⟩:=c.ex
 obtain⟨l1,l2⟩:=G.loc hl
 have nd:X.N.Nodup:=by rw[G.N];exact G.nd
 have J:X.N[i]?=some x:=by rw[G.N];exact hi
 generalize hb:((X.env.blockKind==.function&&X.env.kindOf x==some .local&&px.line==(Expr.ListComp a0 [⟨Z,iter,C,0⟩] scope p2).pos.line&&!(scope.names.any λ(n,k)=>n==x&&(k==.local||k==.cell))))=b
 have Y:fR (.ListComp a0 [⟨Z,iter,C,0⟩] scope p2) (some (.Name x px)) pos.line X.env=pure b:=by rw[<-hb];rfl
 have imp:∀ D σ H,tAsg (TFv Γ m) (gName i) D σ H->tAsg (tComp h wi g tc te) (gName i) D σ H:=λ D σ H q=>h5 _ _ _ q
 cases b with
 | true =>
  have y:X.env.scope.names.lookup x=some .local:=by
   simp only[aq]at hb
   exact eq_of_beq hb.1.1.2
  exact(ps_setComp N' h nd J y h1 h2 G.calm h3 h4 Y).imp imp
 | false=>exact(ps_set nd J l1 (pe_comp N' h h1 h2 G.calm h3 h4) Y l2).imp imp
theorem asg1_ok {X:Cx}{y:Ck}{e:lJ}{v:Expr}{x:Str}{i:Nat}{Z pos:Pos}(G:CG Γ F n X y)(J:y.N[i]?=some x)(hl:y.loc x=true)(h:mE y e v=true) :
  PS X (.Assign [.Name x Z] v pos) (TSv Γ (DV.ex F (.asg (.one i) e))):=by
 obtain⟨l1,l2⟩:=G.loc hl
 have nd:X.N.Nodup:=by rw[G.N];exact G.nd
 have C:X.N[i]?=some x:=by rw[G.N];exact J
 by_cases hc:noComp v=true
 ·exact(ps_set nd C l1 (sE e v X y G h).1 (swap_ok hc) l2).imp λ D σ H q=>ts_asg (tg:=.one i) (TSv.eq (λ ρ s=>rfl) q)
 ·have hs:=mE_shp h
  cases v with
  | ListComp elt gs sc p =>
   cases e with
   | mk k l =>
    obtain⟨Y,h2⟩:=zA h
    have e:=of_decide_eq_true Y
    subst e
    exact(asg_comp G (lc_of (sL l _ X y G 0 h2)) J hl).imp λ D σ H q=>tf_list1 (tg:=.one i) (TSv.eq (λ ρ s=>rfl) q)
   | _=>exact ff h
  | SetComp _ _ _ _=>cases hs
  | DictComp _ _ _ _ _=>cases hs
  | _=>exact absurd rfl hc
theorem tDef_of2 {T:List (Addr×Str)}{cells:List (Str×Addr)}{P:Addr}{q:Str}{name:Str}{params:a9}{body:List Stmt}{scope:Scope}{pos:Pos}{ix:Nat}{D0:Ends}{σ:St}{H:Hp}(hT:TabsH T H)(nd:(T.map (·.1)).Nodup)(hm:(P,q)∈T)
  (go:∀(f:Addr) (H':Hp),SameT H H'->(∀ b,H b≠none->H' b≠none)->TabsH T H'->H f=none->(∃ doc pm c' ctv,H' f=some (lamO f (cu name q params body scope (clOf cells scope.names []) .none .none doc pm none (.ref c') ctv))/\H' c'=some (qK c' q))->D0.nx (σ.set ix (some (.ref f))) H') :
  tDef cells P name q params body scope pos ix D0 σ H:=by
 obtain⟨ps,hP,ht,hc⟩:=hT _ hm
 refine⟨ps,hP,ht,λ hn c' f doc pm ctv n1 n2 ne=>?_,λ cv e=>?_⟩
 ·have cP:c'≠P:=λ z=>by rw[z,hP]at n1;cases n1
  have fP:f≠P:=λ z=>by rw[z,hP]at n2;cases n2
  have at':∀ b,b≠P->H b≠none->∀ o1 o2 o3,upd (upd (upd H P o1) c' o2) f o3 b=H b:=λ b z1 z2 o1 o2 o3=>by
   rw[zb λ z=>by subst z;exact z2 n2,zb λ z=>by subst z;exact z2 n1,zb z1]
  refine go f _ (λ b o d e=>?_) (λ b hb=>?_) (λ y hy=>?_) n2 ⟨doc,pm,c',ctv,zn,by rw[zb ne,zn]⟩
  ·rw[at' b (λ z=>by subst z;rw[hP]at e;cases e;exact d _ rfl) (by rw[e];simp)];exact e
  ·by_cases z:b=P
   ·subst z;rw[zb (bT fP),zb (bT cP),zn];simp
   ·rw[at' b z hb];exact hb
  ·by_cases z:y.1=P
   ·have ey:y=(P,q):=by
     have:∀(l:List (Addr×Str)),(l.map (·.1)).Nodup->y∈l->(P,q)∈l->y=(P,q):=by
      intro l
      induction l with
      | nil=>intro _ h;simp at h
      | cons a l ih =>
       intro hn h1 h2
       rw[aN,cS]at hn
       rcases aH.mp h1 with e1|h1<;>rcases aH.mp h2 with e2|h2
       ·rw[e1,e2]
       ·exact absurd (by rw[<-e1,z];exact bp (f:=(·.1)) h2) hn.1
       ·exact absurd (by rw[<-e2,<-z];exact bp (f:=(·.1)) h1) hn.1
       ·exact ih hn.2 h1 h2
     exact this T nd hy hm
    subst ey
    refine⟨_,by rw[zb (bT fP),zb (bT cP),zn],?_,λ pos2 cv e=>?_⟩
    ·rw[dA];exact TriplesOk_snoc _ _ _ _ ht
    ·rw[dA]at e
     rcases codeAmong_add _ ht e with e'|e'
     ·obtain⟨c2,e1,e2⟩:=hc pos2 cv e'
      exact⟨c2,e1,by rw[at' c2 (λ z=>by subst z;rw[hP]at e2;unfold qK at e2;cases e2) (by rw[e2];simp)];exact e2⟩
     ·exact⟨c',e',by rw[zb ne,zn]⟩
   ·obtain⟨qs,e1,e2,e3⟩:=hT y hy
    refine⟨qs,by rw[at' y.1 z (by rw[e1];simp)];exact e1,e2,λ pos2 cv e=>?_⟩
    obtain⟨c2,e4,e5⟩:=e3 pos2 cv e
    exact⟨c2,e4,by rw[at' c2 (λ z=>by subst z;rw[hP]at e5;unfold qK at e5;cases e5) (by rw[e5];simp)];exact e5⟩
 ·obtain⟨c',e1,e2⟩:=hc pos cv e
  refine⟨c',e1,λ f doc pm ctv n=>go f _ (.of ((Same.refl H).new n)) (λ b hb=>by
   by_cases z:b=f
   ·subst z;rw[zn];simp
   ·rw[zb z];exact hb) (hT.new n) n ⟨doc,pm,c',ctv,zn,?_⟩⟩
  rw[zb (zE e2 n)];exact e2
theorem ann_nil (env : Env) : ∀ l : List Arg, (l.all λ y => y.annotation.isNone) = true -> iq l env = []
 | [], _ => by unfold iq; rfl
 | ⟨x,some a,p⟩::l,h=>by simp at h
 | ⟨x,none,p⟩::l,h=>by
  unfold iq
  exact ann_nil env l (by simpa using h)
theorem noAnn_ok {params:a9}(h:noAnn params=true)(env:Env):params.defaults=[]/\params.kw_defaults=[]/\annTrees params none env=[]:=by
 unfold noAnn at h
 split at h
 ·refine⟨rfl,rfl,?_⟩
  unfold annTrees
  simp only[Option.toList,bE]
  rw[ann_nil env _ h];rfl
 ·cases h
theorem any_inv {α:Type}{o:Option α}{f:α->Bool}(h:o.any f=true):∃ a,o=some a/\f a=true:=by
 cases o with
 | none=>exact ff h
 | some a=>exact⟨a,rfl,h⟩
theorem nstS_inv {s:mD}{y:lZ}{d:Nat×String×lJ×String×List Nat}(h:nstS s y=some d):s=.und d.1/\y=.cons (.ret (.callC d.2.1 (.ex d.2.2.1 (.lam d.2.2.2.1 d.2.2.2.2 .nil)))) .nil:=by
 unfold nstS at h
 split at h
 ·cases h;exact⟨rfl,rfl⟩
 ·cases h
theorem nst1_inv {S:List Stmt}{q:Str×a9×Expr×Pos×Scope×Pos×List Stmt}(h:nst1 S=some q):S=.FunctionDef q.1 q.2.1 [.Return (some q.2.2.1) q.2.2.2.1] [] none [] q.2.2.2.2.1 none q.1 q.2.2.2.2.2.1::q.2.2.2.2.2.2:=by
 have y:∀ {p:Prop},(none:Option (Str×a9×Expr×Pos×Scope×Pos×List Stmt))=some q->p:=λ h=>nomatch h
 cases S with
 | cons x xs =>
  cases x with
  | FunctionDef nm params body dl ret tp scope ts nm2 pos =>
   cases body with
   | cons b1 bs =>
    cases b1 with
    | Return v rp =>
     cases v with
     | some b =>
      cases bs with
      | nil =>
       cases dl with
       | nil =>
        cases ret with
        | none =>
         cases tp with
         | nil =>
          cases ts with
          | none =>
           have h:(if nm2=nm then some (nm,params,b,rp,scope,pos,xs)else none)=some q:=h
           by_cases e:nm2=nm
           ·rw[if_pos e]at h;cases h;rw[e]
           ·rw[if_neg e]at h;exact y h
          | _=>exact y h
         | _=>exact y h
        | _=>exact y h
       | _=>exact y h
      | _=>exact y h
     | _=>exact y h
    | _=>exact y h
   | _=>exact y h
  | _=>exact y h
 | _=>exact y h
theorem nst2_inv {G:Str}{S:List Stmt}{r:Str×Pos×Expr×Pos×Pos×Pos}(h:nst2 G S=some r):S=[.Return (some (.Call (.Name r.1 r.2.1) [r.2.2.1,.Name G r.2.2.2.1] [] r.2.2.2.2.1)) r.2.2.2.2.2]:=by
 have C:∀ {p:Prop},(none:Option (Str×Pos×Expr×Pos×Pos×Pos))=some r->p:=λ h=>nomatch h
 cases S with
 | cons x xs =>
  cases x with
  | Return v rp2 =>
   cases v with
   | some e =>
    cases e with
    | Call f as kw cp =>
     cases f with
     | Name g gp =>
      cases as with
      | cons a as1 =>
       cases as1 with
       | cons y as2 =>
        cases y with
        | Name x p2 =>
         cases as2 with
         | nil =>
          cases kw with
          | nil =>
           cases xs with
           | nil =>
            have h:(if x=G then some (g,gp,a,p2,cp,rp2)else none)=some r:=h
            by_cases e:x=G
            ·rw[if_pos e]at h;cases h;rw[e]
            ·rw[if_neg e]at h;exact C h
           | _=>exact C h
          | _=>exact C h
         | _=>exact C h
        | _=>exact C h
       | _=>exact C h
      | _=>exact C h
     | _=>exact C h
    | _=>exact C h
   | _=>exact C h
  | _=>exact C h
 | _=>exact C h
theorem s_nest {X:Cx}{ck:Ck}{s:mD}{ss:lZ}{S:List Stmt}(G:CG Γ F n X ck)(hM:mNest ck s ss S=true):PSs X S (TSv Γ (mG F (.cons s ss))):=by
 obtain⟨⟨i,g,e,id,y⟩,e1,hA⟩:=any_inv hM
 clear hM
 obtain⟨⟨C,params,b,rp,scope,pos,xs⟩,e2,hB⟩:=any_inv hA
 clear hA
 obtain⟨⟨g',gp,a,p2,cp,rp2⟩,e3,h⟩:=any_inv hB
 clear hB
 obtain⟨rfl,rfl⟩:=nstS_inv e1
 have e3:=nst2_inv e3
 have e2:=nst1_inv e2
 dsimp only at e2 e3 h ⊢
 subst e3
 subst e2
 clear e1
 obtain⟨h,c2⟩:=zA h
 obtain⟨h,a6⟩:=zA h
 obtain⟨h,h9⟩:=zA h
 obtain⟨h,h8⟩:=zA h
 obtain⟨h,h7⟩:=zA h
 obtain⟨h,h6⟩:=zA h
 obtain⟨h,h5⟩:=zA h
 obtain⟨h0,h2⟩:=zA h
 have h7:=of_decide_eq_true h7
 subst h7
 have h1:=of_decide_eq_true h0
 clear h0
 obtain⟨c,P,b0,c4,b4,e0,J,Z,L⟩:=G.lam id y _ h6
 obtain⟨pn,hnm⟩:∃ pn,J.nm=some pn:=by
  cases q:J.nm with
  | none=>unfold lamText at Z;rw[q]at Z;cases Z
  | some p=>exact⟨p,rfl⟩
 obtain⟨pa,pb⟩:=pn
 unfold lamText at Z
 rw[hnm]at Z
 dsimp only at Z
 cases Z
 rw[<-G.N]at L h1
 obtain⟨l1,l2⟩:=G.loc h2
 obtain⟨a1,a2,a3⟩:=noAnn_ok c2 X.env
 have c3:X.env.kindOf C=some .local\/X.env.kindOf C=some .cell:=l1
 have hq:j5 X.env C C=J.qual:=by
  rw[L.q]
  unfold LamI.own j5
  rw[hnm]
  rcases c3 with z|z<;>rw[z]<;>rfl
 have p1:=ps_def (X:=X) (c:=c) (P:=P) (body:=[.Return (some b) rp]) (scope:=scope) (pos:=pos) (by rw[G.N];exact G.nd) h1 l1 L.code L.hd L.bm L.ck hq a1 a2 a3 l2
 have d0:PE X (.Name C p2) (tVar i):=var_pe G h5
 obtain⟨g1,g2,g3⟩:=G.gl h8
 rcases G.call g with hb|⟨fa,fd,ps,hF,d3,hk,hB⟩
 ·intro e7 sh σ H D I q
  obtain⟨φ,ρ,s,c,s',E,R,Y,q⟩:=q
  obtain⟨c1,s1,e1,Y⟩:=bind_inv Y
  have e1:(match lO ρ i with|some ρ=>DV.R.ok (DV.Ct.next ρ) s|none=>.bad)=.ok c1 s1:=e1
  split at e1
  case h_2=>cases e1
  cases e1
  obtain⟨c1,s1,e1,Y⟩:=bind_inv Y
  obtain⟨d1,s2,e1,hm2⟩:=bind_inv e1
  obtain⟨l,s3,e1,hm2⟩:=bind_inv e1
  obtain⟨d,s4,e4,hm2⟩:=bind_inv hm2
  rw[hb]at e4;cases e4
 have hE:=(sE e _ X ck G h9).1
 have hA:PA X [a,.Name C p2] (tCons (TEv Γ (kQ F e)) (tCons (tVar i) tNil)):=qe hE (qe d0 pa_nil (zq rfl)) (zq a6)
 have p3:=pe_callC (p:=gp) (pos:=cp) hF G.room g1 d3 hk hB L.fn hA g2 (zq a6) (zM (es:=[.Name C p2]) λ z hz=>by rw[aZ.mp hz];rfl).1
 refine(pss_cons p1 (pss_cons (ps_ret p3) pss_nil)).imp λ D σ H q=>?_
 obtain⟨φ,ρ,s,c0,s',E,R,Y,q⟩:=q
 obtain⟨c1,s1,e1,Y⟩:=bind_inv Y
 have e1:(match lO ρ i with|some ρ=>DV.R.ok (DV.Ct.next ρ) s|none=>.bad)=.ok c1 s1:=e1
 unfold lO at e1
 by_cases hil:i < ρ.length
 case neg=>rw[if_neg hil]at e1;cases e1
 rw[if_pos hil]at e1
 cases e1
 obtain⟨c1,s1,e1,Y⟩:=bind_inv Y
 obtain⟨d1,s2,e1,hm2⟩:=bind_inv e1
 cases hm2
 cases Y
 obtain⟨l,s3,e1,hm2⟩:=bind_inv e1
 obtain⟨d2,s4,e4,hm2⟩:=bind_inv hm2
 split at hm2
 case isFalse=>cases hm2
 rename_i hn
 cases hm2
 rw[aq]at hn
 obtain⟨x1,s5,e5,e1⟩:=bind_inv e1
 obtain⟨y1,s6,e6,e1⟩:=bind_inv e1
 cases e1
 have e6:(match k6 (ρ.set i none) y with|some cs=>(lA F .nil (ρ.set i none) s5).bind λ l s=>DV.R.ok (DV.D.clo id cs::l) s|none=>DV.R.bad)=.ok y1 s3:=e6
 cases eg:k6 (ρ.set i none) y with
 | none=>rw[eg]at e6;cases e6
 | some cs =>
  rw[eg]at e6
  cases e6
  refine tDef_of2 R.tab L.nd L.tab λ f H' eS st tb hf ho=>?_
  obtain⟨a0,R1⟩:=R.sameT eS st tb
  have E1:RE Γ φ H' s.length (ρ.set i none) (σ.set i (some (.ref f))):=by
   have E0:=E.mono a0 (ah _)
   refine⟨by rw[bA,bA];exact E0.len,λ j d ej=>?_⟩
   by_cases z:i=j
   ·subst z
    rw[aY hil]at ej;cases ej
   ·rw[be z]at ej
    obtain⟨q1,v,q2,q3⟩:=E0.val j d ej
    exact⟨q1,v,by rw[be z];exact q2,q3⟩
  obtain⟨cap,a5,a4,hσ⟩:=cap_of E1 eg
  have b3:=(getVs_get eg).1
  have b5:CloRaw H' f J (clOf X.env.cells J.scope.names []):=by
   unfold CloRaw;rw[hnm];dsimp only;rw[L.p,L.b,L.s];exact ho
  refine⟨φ,ρ.set i none,s,x1,_,E1,R1,e5,λ v1 φ1 H1 g1 l1 b1 r1 b6=>?_⟩
  have c5:i < σ.length:=by rw[<-E.len];exact hil
  refine⟨.ref f,by rw[aY c5],?_⟩
  intro H2 ca
  obtain⟨gs,R2⟩:=b6.same ca.same
  have b2:=D_bndL_mono l1 cs a4
  have c6:∀ m,x1.bnd m=true->kM m cs=true->kM m [x1,.clo id cs]=true:=λ m z1 z2=>by
   simp only[kM,z1,dD,dC]
   unfold kO;exact z2
  have bl:=c6 _ b1 b2
  have pv:PVL Γ X.env.cells X.N (σ.set i (some (.ref f))) φ1 H1 [x1,.clo id cs] [v1,.ref f]:=by
   refine .cons (.inl r1) (.cons (.inr ⟨id,cs,rfl,f,J,rfl,L.lg,b5.kp g1.w.kp,by rw[b3,L.len],by rw[L.s];exact L.cl,cap,RVL.mono g1 cs cap a4 a5,λ i x v e1 e3=>?_⟩) .nil)
   have hi:i<y.length:=by rw[<-L.len];exact(ac.mp e1).1
   have hj:y[i]?=some y[i]:=ag hi
   exact⟨by rw[L.s];exact L.fr x (aS e1),y[i],L.at_ i _ x hj e1,hσ i _ v hj e3⟩
  refine⟨φ1,_,[x1,.clo id cs],_,_,R2,pv.caught ca L.kd bl,bl,e4,λ v φ' H3 g' l' b' r' R'=>?_⟩
  have hc:Cells X.env.cells H3:=ca.cells.kp g'.w.kp
  exact q φ' (Drop X.env.cells H3) ((a0.trans g1 (ah _)).trans (Gr.caught ca g') l1) (am l1 l') (R'.dropC hc hn.2) v b' (RV.dropC hc _ v hn.1 r')
mutual
theorem sS:∀(st:mD) (S:Stmt) (X:Cx) (y:Ck),CG Γ F n X y->mS y st S=true->PS X S (TSv Γ (DV.ex F st))
 | .asg tg e,S,X,y,G,h=>by
  cases S with
  | Assign ts v p =>
   cases ts with
   | cons t ts1 =>
    cases ts1 with
    | nil =>
     obtain⟨h,h3⟩:=zA h
     obtain⟨J,C⟩:=zA h
     cases tg with
     | one i =>
      have h:=J
      cases t with
      | Name x px =>
       obtain⟨Z,a2⟩:=zA h
       exact asg1_ok G (of_decide_eq_true Z) a2 C
      | _=>exact ff h
     | tup is =>
      obtain⟨Z,a2⟩:=zA h3
      refine(ps_asg (sE e _ X y G C).1 (cg_tg G J) (swap_ok a2) (stores_ok Z) ?_).imp λ D σ H q=>ts_asg (TSv.eq (λ ρ s=>rfl) q)
      have h:=J
      cases t with
      | Tuple _ _ _=>rfl
      | _=>exact ff h
    | _=>exact ff h
   | _=>exact ff h
  | _=>exact ff h
 | .setIx o i e,S,X,y,G,h=>by
  cases S with
  | Assign ts v p2 =>
   cases ts with
   | cons tt ts1 =>
    cases tt with
    | Subscript ob ix p1 =>
     cases ts1 with
     | nil =>
      obtain⟨h,h5⟩:=zA h
      obtain⟨h,h4⟩:=zA h
      obtain⟨h,h3⟩:=zA h
      obtain⟨J,C⟩:=zA h
      have Y:=mE_shp C
      refine(ps_asg (sE e _ X y G h3).1 (pg_sub (sE o _ X y G J).1 (sE i _ X y G C).1 (set_ok (hu_of G.room)) ?_) (show fR v (some (.Subscript ob ix p1)) p2.line X.env=pure false from swap_ok h4) (stores_ok h5) ?_).imp λ D σ H q=>ts_setIx (TSv.eq (λ ρ s=>rfl) q)
      ·intro w
       cases ix<;>first|rfl|cases Y
      ·rfl
     | _=>exact ff h
    | _=>exact ff h
   | _=>exact ff h
  | _=>exact ff h
 | .aug _ _,S,X,y,G,h=>ff h
 | .ex e,S,X,y,G,h=>by
  cases S with
  | Expr v p =>
   obtain⟨J,C⟩:=zA h
   exact(ps_expr (sE e _ X y G J).1 (swap_ok C)).imp λ D σ H q=>ts_drop (TSv.eq (λ ρ s=>rfl) q)
  | _=>exact ff h
 | .ret e,S,X,y,G,h=>by
  cases S with
  | Return vo p =>
   cases vo with
   | some v =>
    exact(ps_ret (sE e _ X y G h).1).imp λ D σ H q=>ts_ret (TSv.eq (λ ρ s=>rfl) q)
   | _=>exact ff h
  | _=>exact ff h
 | .retN,S,X,y,G,h=>ff h
 | .ite c a b,S,X,y,G,h=>by
  cases S with
  | If t l r p =>
   obtain⟨h,h3⟩:=zA h
   obtain⟨J,C⟩:=zA h
   exact(ps_if (sE c _ X y G J).2 (sSs a _ X y G C) (sSs b _ X y G h3)).imp λ D σ H q=>ts_if (TSv.eq (λ ρ s=>rfl) q)
  | _=>exact ff h
 | .whl c b,S,X,y,G,h=>by
  cases S with
  | While t l o p =>
   cases o with
   | nil =>
    obtain⟨J,C⟩:=zA h
    exact(ps_while (by rw[G.xe];exact jP) (sE c _ X y G J).2 (sSs b _ X y G C)).imp λ D σ H q=>ts_while (TSv.eq (λ ρ s=>rfl) q)
   | _=>exact ff h
  | _=>exact ff h
 | .for_ tg it b,S,X,y,G,h=>by
  cases S with
  | For tgt iter l o p =>
   cases o with
   | nil =>
    obtain⟨h,h3⟩:=zA h
    obtain⟨J,C⟩:=zA h
    exact(ps_for (by rw[G.xe];exact jP) G.calm (sI it _ _ X y G C) (cg_tg G J) (sSs b _ X y G h3) (fold_ok (mI_shp C))).imp λ D σ H q=>ts_for (TSv.eq (λ ρ s=>rfl) q)
   | _=>exact ff h
  | _=>exact ff h
 | .pass,S,X,y,G,h=>ff h
 | .cont,S,X,y,G,h=>ff h
 | .brk,S,X,y,G,h=>ff h
 | .und _,S,X,y,G,h=>ff h
 | .raise,S,X,y,G,h=>ps_never.imp λ D σ H q=>by
  obtain⟨φ,ρ,s,c,s',E,R,hm,q⟩:=q
  cases hm
theorem sSs:∀(st:lZ) (S:List Stmt) (X:Cx) (y:Ck),CG Γ F n X y->mSs y st S=true->PSs X S (TSv Γ (mG F st))
 | .nil,S,X,y,G,h=>by
  cases S with
  | nil =>
   exact pss_nil.imp λ D σ H q=>ts_next (m:=mG F .nil) (λ ρ s=>rfl) q
  | _=>exact ff h
 | .cons s ss,S,X,y,G,h=>by
  cases S with
  | cons x xs =>
   rcases(bO _ _).mp h with h|h
   ·exact s_nest G h
   obtain⟨J,C⟩:=zA h
   exact(pss_cons (sS s _ X y G J) (sSs ss _ X y G C)).imp λ D σ H q=>ts_seq (TSv.eq (λ ρ s=>rfl) q)
  | _=>exact ff h
end
end
section
variable {Γ:Gm}
theorem old_bnd {φ φ1:Nat->Addr}{H C:Hp}{s s1:kK}(R:Rp Γ φ H s)(g:Gr φ s H φ1 s1 C)(ho:l6 s s1=true){i:Nat}{o:lf}(y:i<s.length)(e:s1[i]?=some o):o.bnd s.length=true:=by
 unfold l6 at ho
 have:=aP.mp ho i (bq.mpr y)
 rw[e,bO]at this
 rcases this with h|h
 ·exact R.wf i o (of_decide_eq_true h).symm
 ·exact h
theorem qT {s1:kK}{k i:Nat}{o:lf}(e:(s1.take k)[i]?=some o):i<k/\s1[i]?=some o:=by
 rw[iI]at e
 split at e
 ·exact⟨‹_›,e⟩
 ·cases e
theorem canon_take {φ φ1:Nat->Addr}{H h:Hp}{s s1:kK}(R:Rp Γ φ H s)(g:Gr φ s H φ1 s1 h)(R1:Rp Γ φ1 h s1)(ho:l6 s s1=true):Gr φ s H φ1 (s1.take s.length) h/\Rp Γ φ1 h (s1.take s.length):=by
 have hl:(s1.take s.length).length=s.length:=by rw[bz];have:=g.le;omega
 refine⟨⟨g.w,by rw[hl];exact ah _,λ i G C=>by rw[hl]at C;omega,λ i o y e e'=>g.kd i o y e (qT e').2,g.st,g.fr⟩,λ i j o y e e' m m' z=>R1.inj i j o y (qT e).2 (qT e').2 m m' z,λ i o e=>R1.obj i o (qT e).2,λ i o e=>?_,R1.tab⟩
 rw[hl]
 exact old_bnd R g ho (qT e).1 (qT e).2
theorem canon_ok {φ φ1:Nat->Addr}{H G:Hp}{s s1 s':kK}{v0 d:kL}{v:V}(R:Rp Γ φ H s)(g:Gr φ s H φ1 s1 G)(R1:Rp Γ φ1 G s1)(hb:v0.bnd s1.length=true)(r:RV Γ φ1 G v0 v)(h:DV.zQ s v0 s1=.ok d s') :
  ∃ φ',Gr φ s H φ' s' G/\s.length<=s'.length/\d.bnd s'.length=true/\RV Γ φ' G d v/\Rp Γ φ' G s':=by
 have all:d=v0->s'=s1->∃ φ',Gr φ s H φ' s' G/\s.length<=s'.length/\d.bnd s'.length=true/\RV Γ φ' G d v/\Rp Γ φ' G s':=λ e1 e2=>by
  subst e1;subst e2
  exact⟨φ1,g,g.le,hb,r,R1⟩
 unfold DV.zQ at h
 split at h
 case isFalse=>cases h;exact all rfl rfl
 rename_i ho
 obtain⟨gt,Rt⟩:=canon_take R g R1 ho
 have hl:(s1.take s.length).length=s.length:=by rw[bz];have:=g.le;omega
 have tk:d=v0->s'=s1.take s.length->v0.bnd s.length=true->∃ φ',Gr φ s H φ' s' G/\s.length<=s'.length/\d.bnd s'.length=true/\RV Γ φ' G d v/\Rp Γ φ' G s':=λ e1 e2 b=>by
  subst e1;subst e2
  exact⟨φ1,gt,by rw[hl];exact ah _,by rw[hl];exact b,r,Rt⟩
 split at h
 ·rename_i k
  split at h
  ·cases h
   exact tk rfl rfl (by unfold kO;exact decide_eq_true ‹_›)
  ·rename_i hk
   split at h
   ·rename_i o Z
    split at h
    ·rename_i Y
     cases h
     have gw:Gw φ1 s.length G (λ i=>if i=s.length then φ1 k else φ1 i) G:=⟨λ i y=>if_neg (ay y),Kp.refl _⟩
     have key:∀(i:Nat) (J:lf),(s1.take s.length++[o])[i]?=some J->(i<s.length/\s1[i]?=some J)\/(i=s.length/\J=o):=λ i J e=>by
      rcases fA i s.length with h|h|h
      ·rw[aD (by rw[hl];exact h)]at e;exact .inl (qT e)
      ·subst h
       rw[ak (by rw[hl];exact ah _),hl,gx]at e
       exact .inr ⟨rfl,(aw e).symm⟩
      ·rw[bD (by rw[aR,hl];simp;omega)]at e;cases e
     have C:(s1.take s.length++[o]).length=s.length+1:=by rw[aR,hl];rfl
     refine⟨λ i=>if i=s.length then φ1 k else φ1 i,⟨⟨λ i y=>?_,g.w.kp⟩,by rw[C];omega,λ i h1 h2=>?_,λ i oo J e e'=>?_,g.st,g.fr⟩,by rw[C];omega,by unfold kO;rw[C];exact decide_eq_true (du _),?_,⟨λ i j oi oj a1 a0 mi mj e=>?_,λ i J e=>?_,λ i J e=>?_,R1.tab⟩⟩
     ·show(if i=s.length then φ1 k else φ1 i)=φ i
      rw[if_neg (ay y)];exact g.w.map i y
     ·rw[C]at h2
      show H (if i=s.length then φ1 k else φ1 i)=none
      rw[if_pos (by omega)]
      exact g.new k (by omega) (ac.mp Z).1
     ·rcases key i J e' with⟨_,e2⟩|⟨y,_⟩
      ·exact g.kd i oo J e e2
      ·have:=(ac.mp e).1;omega
     ·rw[r.refE]
      unfold RV
      show V.ref (φ1 k)=V.ref (if s.length=s.length then φ1 k else φ1 s.length)
      rw[if_pos rfl]
     ·rcases key i oi a1 with⟨y,ei⟩|⟨y,zi⟩<;>rcases key j oj a0 with⟨hj,ej⟩|⟨hj,zj⟩
      ·rw[if_neg (ay y),if_neg (ay hj)]at e
       exact R1.inj i j oi oj ei ej mi mj e
      ·rw[if_neg (ay y),if_pos hj]at e
       subst zj
       have:=R1.inj i k oi _ ei Z mi mj e
       omega
      ·rw[if_neg (ay hj),if_pos y]at e
       subst zi
       have:=R1.inj k j _ oj Z ej mi mj e
       omega
      ·rw[y,hj]
     ·rcases key i J e with⟨y,e⟩|⟨y,rfl⟩
      ·show RO Γ _ _ (if i=s.length then φ1 k else φ1 i) J
       rw[if_neg (ay y)]
       exact(R1.obj i J e).mono gw (old_bnd R g ho y e) λ _ u hu=>hu
      ·show RO Γ _ _ (if i=s.length then φ1 k else φ1 i) J
       rw[if_pos y]
       exact(R1.obj k _ Z).mono gw Y λ _ u hu=>hu
     ·rw[C]
      rcases key i J e with⟨y,e⟩|⟨_,rfl⟩
      ·exact qD (dk _) _ (old_bnd R g ho y e)
      ·exact qD (dk _) _ Y
    ·cases h;exact all rfl rfl
   ·cases h
 ·split at h
  ·cases h;exact tk rfl rfl ‹_›
  ·cases h;exact all rfl rfl
structure LamGood (J:LamI)(L:lP):Prop where
 sc:LamScope (J.ps++J.fr) J.ps J.fr J.scope
 ps:J.ps.length=L.ps
 fr:J.fr.length=L.cs
 m:mE (ck0 (J.ps++J.fr) J.scope) L.body J.body=true
 bind:∀(clos:List (Str×Addr)) (doc pm:Value) (c':Addr) (ctv:Value) (us:List Value),us.length=J.ps.length->eB (bR "<lambda>" J.qual J.params J.body J.scope clos pm (.ref c') ctv) ⟨us,[]⟩=pure (J.ps.zip us) /\
  ∀(nm:Str) (rp:Pos),eB (cu nm J.qual J.params [.Return (some J.body) rp] J.scope clos .none .none doc pm none (.ref c') ctv) ⟨us,[]⟩=pure (J.ps.zip us)
structure LkAt (Γ:Gm)(cds:List (Addr×Addr))(f:Str)(sc:Scope)(N:List Str)(fd:bI)(id:String)(caps:List Nat)(params:a9)(body:Expr)(scope:Scope)(c P:Addr)(J:LamI):Prop where
 code:fd.code=.ref c
 cd:(c,P)∈cds
 ck:lamCheck scope sc=true
 fre:∀ x,scope.names.lookup x=some .free->sc.names.lookup x=some .cell
 cel:∀ y∈sc.names,y.2=.cell->sc.names.lookup y.1=some .cell
 df:∀ env,j4 params env=([],[])
 lg:Γ.lg id J
 q:J.qual=f ++ ".<locals>."++J.own
 p:J.params=params
 b:J.body=body
 s:J.scope=scope
 len:J.fr.length=caps.length
 at_:∀(i j:Nat) (x:Str),caps[i]?=some j->J.fr[i]?=some x->N[j]?=some x
 fr:∀ x∈J.fr,scope.names.lookup x=some .free
 tab:(P,J.qual)∈Γ.T
noncomputable def LkOk (Γ:Gm)(cds:List (Addr×Addr))(f:Str)(sc:Scope)(N:List Str)(fd:bI)(lk:String->List Nat->Expr->Bool):Prop :=
 ∀ id caps E,lk id caps E=true->∃ c P params body scope pos J,E=lamText J params body scope pos/\LkAt Γ cds f sc N fd id caps params body scope c P J
noncomputable def Good (Γ:Gm)(cds:List (Addr×Addr))(mg:Str->Option Value)(f:String)(d:lQ):Prop:=∃ st N ps a fd lk,DefAt Γ.K mg (f:Str) st ps a fd/\FnScope N ps (defScope st)/\ps.length=d.ps/\N.length=d.ps+d.vs/\mSs ⟨N,defScope st,lk⟩ d.body (z0 st)=true/\LkOk Γ cds (f:Str) (defScope st) N fd lk
structure PrOk (Γ:Gm)(cds:List (Addr×Addr))(P:la)(mg:Str->Option Value):Prop where
 df:∀ f d,P.df f=some d->Good Γ cds mg f d
 con:∀ x d,P.con x=some d->∃ v u,mg (x:Str)=some u/\RelV v u/\(∀ m,d.bnd m=true)/\∀ φ H,RV Γ φ H d v
 bi:∀ x∈bNames,mg x=none
 fa:∀(f:String) (a:Addr),Γ.fa f=some a->mg (f:Str)=some (.ref a)/\∃ oc od fd sl,Γ.K.lookup a=some ⟨oc,od,.func fd,sl⟩
 lg:∀ id J,Γ.lg id J->∃ L,P.lm id=some L/\LamGood J L
 nd:(Γ.T.map (·.1)).Nodup
noncomputable def CallOk (Γ : Gm) (prog : Program) (w : World) (mg : Str -> Option Value) (base : Heap) (F : DV.Fns) (n : Nat) : Prop := (∀ f : String, (∀ l s, F.call f l s = .bad) \/
      ∃ a fd ps, FnOk prog w Γ.K mg base CX0 n a fd ps (spV Γ (F.call f)) /\ mg (f : Str) = some (.ref a) /\ cb Γ.K (.ref a) = true /\ Binds Γ.K fd ps []) /\
  ∀(id : String) (J : LamI) (f : Addr) (cap : List V) (clos : List (Str × Addr)), Γ.lg id J -> cap.length = J.fr.length -> ClOk prog w Γ.K mg base n (λ H => CloAt H f J cap clos) f (spL Γ (F.lam id) cap)
theorem re_start {φ:Nat->Addr}{H:Hp}{n k:Nat}{N:List Str}{l:List kL}{vs:List V}(r:RVL Γ φ H l vs)(b:kM n l=true)(hN:N.length=l.length+k):RE Γ φ H n (l.map some++ao k none) (start N vs):=by
 have hl:=r.length
 refine⟨?_,λ i d e=>?_⟩
 ·unfold start;simp[hl,hN]
 ·by_cases hi:i<l.length
  ·rw[aD (by simpa using hi),av]at e
   have e':l[i]?=some d:=by
    rw[ag hi]at e ⊢
    exact aw e
   obtain⟨v,e1,e2⟩:=r.get e'
   refine⟨bndL_get b e',v,?_,e2⟩
   unfold start
   rw[aD (by rw[az,hl];exact hi),av,e1];rfl
  ·rw[ak (by simpa using i6 hi)]at e
   rw[fS]at e
   split at e<;>cases e
theorem fn_ok {a2:List (Addr×Addr)}{P:la}{prog:aM}{w:World}{mg:Str->Option Value}{Y:Heap}(hP:PrOk Γ a2 P mg)(hb:∀ y∈a2,bS Y y.1 y.2/\BM mg Y)(n:Nat)(a1:CallOk Γ prog w mg Y (kS P n) (n+31))
  {f:String} {d:lQ} (e:P.df f=some d) {st:Stmt} {N ps:List Str} {a:Addr} {fd:bI} {lk:String->List Nat->Expr->Bool} (hD:DefAt Γ.K mg (f:Str) st ps a fd) (hS:FnScope N ps (defScope st)) (h1:ps.length=d.ps) (h2:N.length=d.ps+d.vs) (hm:mSs ⟨N,defScope st,lk⟩ d.body (z0 st)=true) (hL:LkOk Γ a2 (f:Str) (defScope st) N fd lk) :
  FnOk prog w Γ.K mg Y CX0 (n+1+31) a fd ps (spV Γ ((kS P (n+1)).call f)):=by
 have a0:∀ vs H Q E,spV Γ ((kS P (n+1)).call f) vs H Q E->vs.length=ps.length:=λ vs H Q E q=>by
  obtain⟨φ,s,l,d',s',R,r,b,hc,k⟩:=q
  simp only[kS,e]at hc
  split at hc
  ·rw[r.length,h1];assumption
  ·cases hc
 have body:∀(Z:Value),(∀ id C E,lk id C E=true->fd.code=Z)->∀(A:aV) (outer:List Env) (sh:af) (H:Hp) (vs:List V) (Q:VK) (E:XK),Room (n+31) (A.deeper (fF (f:Str) (defScope st) sh.heap.objs.size a Z))->spV Γ ((kS P (n+1)).call f) vs H Q E ->
   ∃ t,PSs (cxOf CX0 prog w Γ.K mg Y N (f:Str) (defScope st) a Z A outer sh H E).nox (z0 st) t/\t { nx:=λ _ H'=>Q .non H',rt:=Q } (start N vs) H:=by
  intro Z a5 A outer sh H vs Q E hr q
  have G:CG Γ (kS P n) (n+31) (cxOf CX0 prog w Γ.K mg Y N (f:Str) (defScope st) a Z A outer sh H E).nox ⟨N,defScope st,lk⟩:=by
   refine⟨rfl,rfl,hS.nd,rfl,rfl,?_,hr,λ x k e=>.inl e,λ _ _=>rfl,hP.bi,a1.1,?_,λ id C E' hlk=>?_,a1.2,hP.fa,l7 P n⟩
   ·show kZ+1<=n+31
    unfold kZ;omega
   ·have:(kS P n).con=P.con:=by cases n<;>rfl
    rw[this];exact hP.con
   ·obtain⟨c,Pa,params,body,scope,pos,J,eE,L⟩:=hL id C E' hlk
    obtain⟨a6,a3⟩:=hb _ L.cd
    refine⟨c,Pa,params,body,scope,pos,J,eE,⟨?_,a6,a3,L.ck,L.df _,L.lg,L.q,L.p,L.b,L.s,L.len,L.at_,L.fr,λ x hx=>?_,L.tab,hP.nd,λ _=>rfl,λ x c hx=>?_⟩⟩
    ·show Z=.ref c
     rw[<-a5 id C E' hlk];exact L.code
    ·exact qj (L.fre x hx)
    ·rcases zN (aA hx)with z|z
     ·exact .inl (L.cel (x,.cell) z rfl)
     ·exact absurd z (by simp)
  refine⟨_,sSs d.body (z0 st) _ ⟨N,defScope st,lk⟩ G hm,?_⟩
  obtain⟨φ,s,l,d',s',R,r,b,hc,k⟩:=q
  simp only[kS,e]at hc
  split at hc
  case isFalse=>cases hc
  rename_i a0
  obtain⟨c,s1,e1,hc⟩:=bind_inv hc
  refine⟨φ,l.map some++ao d.vs none,s,c,s1,re_start r b (by rw[h2,a0]),R,e1,λ φ1 H1 g1 l1 R1=>?_⟩
  cases c with
  | ret v0 =>
   intro v hb rv
   obtain⟨φ',g',l',b',r',R'⟩:=canon_ok R g1 R1 hb rv hc
   exact k v φ' H1 g' l' b' r' R'
  | next ρ =>
   intro σ' _
   obtain⟨φ',g',l',b',r',R'⟩:=canon_ok (v0:=.non) R g1 R1 rfl RV.nonI hc
   exact k .non φ' H1 g' l' b' r' R'
  | cont ρ=>cases hc
  | brk ρ=>cases hc
 by_cases hl:∃ id C E,lk id C E=true
 ·obtain⟨id,C,E,hlk⟩:=hl
  obtain⟨c,Pa,params,a4,scope,pos,J,eE,L⟩:=hL id C E hlk
  exact hD.fn.okC L.code hS a0 (body _ λ _ _ _ _=>L.code)
 ·exact hD.fn.ok hS a0 (λ Z=>body Z λ id C E h=>absurd ⟨id,C,E,h⟩ hl)
theorem lamN_ok {c0:List (Addr×Addr)}{P:la}{prog:aM}{w:World}{mg:Str->Option Value}{Z:Heap}(hP:PrOk Γ c0 P mg)(n:Nat)(a0:CallOk Γ prog w mg Z (kS P n) (n+31))
  (id:String) (J:LamI) (f:Addr) (cap:List V) (Y:List (Str×Addr)) (c1:Γ.lg id J) (a4:cap.length=J.fr.length) :
  ClOk prog w Γ.K mg Z (n+1+31) (λ H=>CloAt H f J cap Y) f (spL Γ ((kS P (n+1)).lam id) cap):=by
 obtain⟨L,eL,LG⟩:=hP.lg id J c1
 have a3:∀ vs H Q E,spL Γ ((kS P (n+1)).lam id) cap vs H Q E->vs.length=J.ps.length:=λ vs H Q E q=>by
  obtain⟨φ,s,cs,l,d,s',R,r,rc,b,bc,hc,k⟩:=q
  simp only[kS,eL]at hc
  split at hc
  ·rename_i hh;rw[r.length,LG.ps];exact hh.1
  ·cases hc
 have main:∀(A:aV) (outer:List Env) (sh:af) (H:Hp) (cd:Value) (vs:List V) (Q:VK),Room (n+31) (A.deeper (cQ J.qual J.scope sh.heap.objs.size f cd (aL (sh.heap.objs.size+1) J.scope.names Y)))->Cells Y H->(∀ b o,Γ.K.lookup b=some o->H b=none)->spL Γ ((kS P (n+1)).lam id) cap vs H Q E0 ->
   ∃ t,PE (cxLam prog w Γ.K mg Z (J.ps++J.fr) J.qual J.scope f cd Y A outer sh H) J.body t/\t (vs.map some++cap.map some) (Drop Y H) λ v H'=>(∀ b,isC Y b=true->H' b=none)->Q v (Put Y H H'):=by
  intro A outer sh H cd vs Q hr C hK q
  have G:CG Γ (kS P n) (n+31) (cxLam prog w Γ.K mg Z (J.ps++J.fr) J.qual J.scope f cd Y A outer sh H) (ck0 (J.ps++J.fr) J.scope):=by
   refine⟨rfl,rfl,LG.sc.nd,rfl,rfl,?_,hr,λ x k e=>.inl e,λ x e=>?_,hP.bi,a0.1,?_,λ _ _ _ h=>(by cases h),a0.2,hP.fa,l7 P n⟩
   ·show kZ+1<=n+31
    unfold kZ;omega
   ·show(J.scope.names.lookup x==some .cell)=true
    rw[show J.scope.names.lookup x=some .cell from e];rfl
   ·have:(kS P n).con=P.con:=by cases n<;>rfl
    rw[this];exact hP.con
  refine⟨_,(sE L.body J.body _ (ck0 (J.ps++J.fr) J.scope) G LG.m).1,?_⟩
  obtain⟨φ,s,cs,l,d,s',R,r,rc,b,bc,hc,k⟩:=q
  simp only[kS,eL]at hc
  split at hc
  case isFalse=>cases hc
  rename_i hh
  obtain⟨h1,h2,h3⟩:=hh
  rw[aq,aq]at h3
  obtain⟨⟨b4,b6⟩,b5⟩:=h3
  obtain⟨v0,s1,e1,hc⟩:=bind_inv hc
  have RD:Rp Γ φ (Drop Y H) s:=R.dropC C b5
  have b3:RVL Γ φ (Drop Y H) (l++cs) (vs++cap):=(RVL.dropC C l vs b4 r).append (RVL.dropC C cs cap b6 rc)
  refine⟨φ,l.map some++cs.map some,s,v0,s1,⟨by simp[r.length,rc.length],λ i x ei=>?_⟩,RD,e1,λ v φ1 H1 g1 l1 b1 r1 R1 a2=>?_⟩
  ·rw[<-bB,av]at ei
   have b0:(l++cs)[i]?=some x:=by
    cases q:(l++cs)[i]? with
    | none=>rw[q]at ei;cases ei
    | some y=>rw[q]at ei;cases ei;rfl
   obtain⟨u,e3,e4⟩:=b3.get b0
   refine⟨bndL_get (zX b bc) b0,u,?_,e4⟩
   rw[<-bB,av,e3];rfl
  ·obtain⟨φ',g',l',b',r',R'⟩:=canon_ok RD g1 R1 b1 r1 hc
   have gp:=Gr.put C a2 hK R' g'
   obtain⟨gs,Rs⟩:=R'.same (putC_same (H:=H) a2)
   exact k v φ' _ gp l' b' (RV.mono gs d v b' r') Rs
 unfold CloAt
 cases q:J.nm with
 | none=>exact lam_ok2 LG.sc a3 a4 (λ pm c' a1 us a6=>(LG.bind Y .none pm c' a1 us a6).1) (λ A outer sh H cd vs Q hr a5 hK q=>by
   obtain⟨pm,c',a1,_,_,C,_⟩:=a5
   exact main A outer sh H cd vs Q hr C hK q)
 | some p=>exact def_ok2 LG.sc a3 a4 (λ b2 pm c' a1 us a6=>(LG.bind Y b2 pm c' a1 us a6).2 _ _) (λ A outer sh H cd vs Q hr a5 hK q=>by
   obtain⟨b2,pm,c',a1,_,_,C,_⟩:=a5
   obtain⟨t,h1,h2⟩:=main A outer sh H cd vs Q hr C hK q
   exact⟨_,pss_cons (ps_ret h1) pss_nil,h2⟩)
theorem call_ok {G:List (Addr×Addr)}{P:la}{prog:aM}{w:World}{mg:Str->Option Value}{h:Heap}(Y:PrOk Γ G P mg)(hb:∀ y∈G,bS h y.1 y.2/\BM mg h):∀ n:Nat,CallOk Γ prog w mg h (kS P n) (n+31)
 | 0=>⟨λ f=>.inl λ l s=>rfl,λ id J f cap C _ _=>⟨λ A outer s H us vs Q _ _ _ _ q=>by
   obtain⟨φ,s,cs,l,d,s',R,r,rc,b,bc,hc,k⟩:=q
   cases hc⟩⟩
 | n+1=>by
  have ih:CallOk Γ prog w mg h (kS P n) (n+31):=call_ok Y hb n
  refine⟨λ f=>?_,λ id J f cap C Z h2=>lamN_ok Y n ih id J f cap C Z h2⟩
  cases e:P.df f with
  | none=>exact .inl λ l s=>by simp only[kS,e]
  | some d =>
   obtain⟨st,N,ps,a,fd,lk,hD,hS,Z,h2,hm,hL⟩:=Y.df f d e
   exact .inr ⟨a,fd,ps,fn_ok Y hb n ih e hD hS Z h2 hm hL,hD.mg,hD.fn.kp,hD.bi⟩
noncomputable def spT (Γ:Gm):Sp:=λ vs H Q _=>∃(a:Addr) (ns:List Int),vs=[.ref a]/\SqF Γ.K H a (ns.map V.int)/\ns.length<=63/\TabsH Γ.T H/\∀ H',Q (.bl true) H'
theorem rvl_ints {φ:Nat->Addr}{H:Hp}:∀ ns:List Int,RVL Γ φ H (ns.map DV.D.int) (ns.map V.int)
 | []=>.nil
 | n::ns=>.cons RV.intI (rvl_ints ns)
theorem bndL_ints {m:Nat}:∀ ns:List Int,kM m (ns.map DV.D.int)=true
 | []=>rfl
 | n::ns=>by rw[aN];unfold kM;rw[bndL_ints ns];rfl
theorem spT_of {P:la}{k:Nat}(h:∀ ns:List Int,ns.length<=63->∃ s',(kS P k).call "law" [.ref 0] [.ro (ns.map DV.D.int)]=.ok (.bl true) s')(vs:List V)(H:Hp)(Q:VK)(E:XK)(q:spT Γ vs H Q E):spV Γ ((kS P k).call "law") vs H Q E:=by
 obtain⟨a,ns,rfl,y,hl,hT,C⟩:=q
 obtain⟨s',hs⟩:=h ns hl
 refine⟨λ _=>a,[.ro (ns.map DV.D.int)],[.ref 0],.bl true,s',⟨λ i j o G e e' m m' _=>?_,λ i o e=>?_,λ i o e=>?_,hT⟩,.cons RV.refI .nil,?_,hs,λ v φ' H' g l b r R=>?_⟩
 ·cases i with
  | zero=>cases e;cases m
  | succ i=>cases e
 ·cases i with
  | zero=>cases e;exact⟨_,y,rvl_ints ns⟩
  | succ i=>cases e
 ·cases i with
  | zero=>cases e;unfold kR;exact bndL_ints ns
  | succ i=>cases e
 ·unfold kM kO kM;rfl
 ·rw[r.blE];exact C H'
theorem good_tbl {y:List (Addr×Addr)}{mg:Str->Option Value}:∀ {tbl:List (String×lQ)},(∀ p∈tbl,Good Γ y mg p.1 p.2)->∀ f d,tbl.lookup f=some d->Good Γ y mg f d
 | [],_,f,d,h=>by cases h
 | (g,e)::tbl,H,f,d,h=>by
  rw[a8]at h
  cases q:f==g with
  | true =>
   rw[q]at h
   cases h
   rw[eq_of_beq q]
   exact H (g,_) (aF ..)
  | false =>
   rw[q]at h
   exact good_tbl (λ p C=>H p (ax _ C)) f d h
noncomputable def GoodC (Γ:Gm)(mg:Str->Option Value)(x:String)(d:kL):Prop:=∃ v u,mg (x:Str)=some u/\RelV v u/\(∀ m,d.bnd m=true)/\∀ φ H,RV Γ φ H d v
theorem con_tbl {mg:Str->Option Value}:∀ {tbl:List (String×kL)},(∀ p∈tbl,GoodC Γ mg p.1 p.2)->∀ f d,tbl.lookup f=some d->GoodC Γ mg f d
 | [],_,f,d,h=>by cases h
 | (g,e)::tbl,H,f,d,h=>by
  rw[a8]at h
  cases q:f==g with
  | true =>
   rw[q]at h
   cases h
   rw[eq_of_beq q]
   exact H (g,_) (aF ..)
  | false =>
   rw[q]at h
   exact con_tbl (λ p y=>H p (ax _ y)) f d h
theorem con_int {mg:Str->Option Value}{x:String}{i:Int}{t:Tok}(h:mg (x:Str)=some (.int i t)):GoodC Γ mg x (.int i):=⟨.int i,_,h,⟨t,rfl⟩,λ _=>rfl,λ _ _=>RV.intI⟩
end
theorem law_callT2 {P:aM}{w:World}{K:ab}{mg mb:Str->Option Value}{k:Nat}{fa a:Addr}{fd:bI}{x:Str}{sp:Sp}{C:af}{vs:List Value}{ns:List Int}{tabs:List (Addr×Addr)}
  (KX:K.In C.heap) (c2:C.heap.Ns bn mg) (hb:C.heap.Ns f7 mb) (d0:∀ x:Str,x ≠ "__name__"->mb x=bf x) (c0:C.heap.NoLimit) (hg:C.gens=#[]) (c4:BM mg C.heap) (hT:j7 tabs C.heap) (c6:j8 K=true)
  (ha:C.heap.get? a=some { cls:=.type "list",data:=.seq vs.toArray }) (hi:jW vs ns) (hl:ns.length<=aI) (hr:Room k g9)
  (F:∀ Y:Heap,K.In Y->Y.Ns bn mg->BM mg Y->(∀ q∈tabs,bS Y q.1 q.2)->FnOk P w K mg Y CX0 k fa fd [x] sp) (a3:∀(s:af) (u:Value),jU s fd ⟨[u],[]⟩ [(x,u)])
  (d1:∀ H:Hp,(∀ q∈tabs,H q.2=some (.tbl #[]))->SqL K H a (ns.map V.int)->(∀ u,H a=some u->(∃ o xs,u=.frz o (.lst xs))\/∃ ps,u=.tbl ps)->sp [.ref a] H (λ v _=>v=.bl true) E0) :
  fq (model P w) g9 (.call (.ref fa) ⟨[.ref a],[]⟩) (λ r s'=>r=.ok (.ret (.bool true))/\OldK C.heap s'.heap/\s'.os=C.os/\fj s'.gens) C:=by
 have rv:=vals_ints hi
 have c3:=hi.length
 have G:∀ b,b∈tabs.map (·.2)->C.heap.get? b=some (d4 #[]):=λ b h=>by
  obtain⟨q,hq,rfl⟩:=aB.mp h
  exact(hT q hq).2
 have a2:∀ H:Hp,(∀ b u,H b=some u->(b=a/\∃ o xs,u=.frz o (.lst xs))\/(b∈tabs.map (·.2)/\u=.tbl #[]))->(∀ q∈tabs,H q.2=some (.tbl #[]))->SqL K H a (ns.map V.int)->HOk P w H C.heap->(H a≠none->K.lookup a=none) ->
   fq (model P w) g9 (.call (.ref fa) ⟨[.ref a],[]⟩) (λ r s'=>r=.ok (.ret (.bool true))/\OldK C.heap s'.heap/\s'.os=C.os/\fj s'.gens) C:=by
  intro H hO e4 hS hok hK
  have un:∀ b o,C.heap.get? b=some o->o.cls≠.type "list"->(∀ vs,o.data≠.fields vs)->H b=none:=λ b o e n1 n2=>by
   cases q:H b with
   | none=>rfl
   | some u =>
    rcases hO b u q with⟨z,_⟩|⟨z,_⟩
    ·rw[z,ha]at e;cases e;exact absurd rfl n1
    ·rw[G b z]at e;cases e;exact absurd rfl (n2 #[])
  have Z:∀ {b:Addr} {m:Str->Option Value},C.heap.Ns b m->(hidT C.heap H).Ns b m:=λ {b m} ⟨o,es,ep,e,d,r⟩=>by
   refine⟨o,es,ep,hidT_get e ?_,d,r⟩
   cases q:H b with
   | none=>rfl
   | some u =>
    rcases hO b u q with⟨z,_⟩|⟨z,_⟩
    ·rw[z,ha]at e;cases e;cases d
    ·rw[G b z]at e;cases e;cases d
  have a6:K.In (hidT C.heap H):=λ b o e=>hidT_get (KX b o e) (by
   cases q:H b with
   | none=>rfl
   | some u =>
    rcases hO b u q with⟨z,_⟩|⟨z,_⟩
    ·subst z
     rw[hK (by rw[q];simp)]at e;cases e
    ·have e2:=KX b o e
     rw[G b z]at e2
     have h2:=aP.mp c6 (b,o) (PySem.W.mem_of_lookupK e)
     have e3:o=d4 #[]:=(aw e2).symm
     subst e3
     exact absurd (show false=true from h2) aQ)
  have hM:Mod K mg (hidT C.heap H):=⟨a6,Z c2,⟨mb,Z hb,d0⟩,let⟨mc,h1,h2⟩:=c0;⟨mc,Z h1,h2⟩⟩
  have c5:BM mg (hidT C.heap H):=by
   obtain⟨bm,ob,b1,b2,b3,b4,b5,b6⟩:=c4
   exact⟨bm,ob,b1,b2,hidT_get b3 (un bm ob b3 (by rw[b4];nofun) (by rw[b6];nofun)),b4,b5,b6⟩
  have d2:∀ q∈tabs,bS (hidT C.heap H) q.1 q.2:=λ q hq=>by
   obtain⟨o,e5,c1,tf,a4,tg,d3,b0,tt,e1,r1,r2⟩:=(hT q hq).1
   refine⟨o,e5,c1,tf,a4,tg,d3,b0,tt,hidT_get e1 ?_,r1,r2⟩
   cases q2:H q.1 with
   | none=>rfl
   | some u =>
    rcases hO _ u q2 with⟨z,_⟩|⟨z,_⟩
    ·rw[z,ha]at e1;cases e1;exact absurd r1 (by simp)
    ·rw[G _ z]at e1;cases e1;exact absurd r1 (by simp)
  have e0:Env0 P w K mg (hidT C.heap H) g9 [] C H:=⟨rfl,hM,λ b o e=>of_hidT e,Nat.le_of_eq (hidT_size _ _),trivial,λ b hb=>absurd (show b∈([]:List Addr)from hb) (by simp),hok,.of_eq hg⟩
  refine eQ ((F _ a6 (Z c2) c5 d2).run g9 [] C H ⟨[.ref a],[]⟩ [.ref a] [.ref a] _ _ hr e0 (a3 C (.ref a)) (.cons rfl .nil) (d1 H e4 hS (λ u e=>(hO a u e).elim (λ z=>.inl z.2) (λ z=>.inr ⟨_,z.2⟩)))) λ r s' h=>?_
  cases r with
  | error e=>exact bF h
  | ok fl =>
   cases fl with
   | next=>exact bF h
   | brk=>exact bF h
   | cont=>exact bF h
   | ret u =>
    obtain⟨v,H',os,bare,a5,a0,r',q⟩:=h
    have q':v=.bl true:=q
    subst q'
    obtain rfl:u=Value.bool true:=r'
    have key:∀ b o,C.heap.get? b=some o->asItWas C.heap s'.heap b o/\∃ o',s'.heap.get? b=some o':=λ b o e=>by
     cases q:H b with
     | none =>
      have z:=a5.keep b o e q (by intro z;exact absurd (show b∈([]:List Addr)from z) (by simp)) (by simp)
      exact⟨.inl z,o,z⟩
     | some u =>
      rcases hO b u q with⟨_,ob,xs,z⟩|⟨z,z2⟩
      ·subst z
       have z2:=a5.frzs b ob _ q
       obtain⟨e1,_⟩:=hok b _ q
       obtain⟨e2,_⟩:=a0 b _ z2
       rw[e]at e1;cases e1
       exact⟨.inl e2,_,e2⟩
      ·subst z2
       obtain⟨a1,z3⟩:=a5.tbls b _ q
       have g:s'.heap.get? b=some { cls:=.none,data:=.fields (#[]++a1) }:=a0 b _ z3
       have e1:=G b z
       rw[e]at e1;cases e1
       obtain⟨p,hp,ep⟩:=aB.mp z
       refine⟨.inr (.inl ⟨?_,rfl,#[],a1,rfl,g⟩),_,g⟩
       have t:=((hT p hp).1.tab (hT p hp).2).isCodeTable
       rw[ep]at t
       exact t
    exact⟨rfl,⟨λ b o e=>(key b o e).1,λ b o e=>(key b o e).2⟩,os,bare⟩
 have tbl:∀ b,b∈tabs.map (·.2)->b≠a:=λ b h z=>by
  have e:=G b h
  rw[z,ha]at e;cases e
 cases hk:K.lookup a with
 | some o =>
  have e:=KX a o hk
  rw[ha]at e
  cases e
  refine a2 (λ b=>if b∈tabs.map (·.2)then some (.tbl #[])else none) (λ b u z=>?_) (λ q hq=>if_pos (bp hq)) (.inr ⟨_,vs.toArray,_,hk,rfl,rfl,rfl,by rw[au,c3];exact hl,by simpa using rv⟩) (λ b u z=>?_) λ z=>?_
  ·by_cases hb:b∈tabs.map (·.2)
   ·have J:=(if_pos hb).symm.trans z
    cases J
    exact .inr ⟨hb,rfl⟩
   ·have J:=(if_neg hb).symm.trans z
    cases J
  ·by_cases hb:b∈tabs.map (·.2)
   ·have J:=(if_pos hb).symm.trans z
    cases J
    exact G b hb
   ·have J:=(if_neg hb).symm.trans z
    cases J
  ·exact absurd (if_neg λ y=>tbl a y rfl) z
 | none =>
  refine a2 (λ b=>if b=a then some (.frz { cls:=.type "list",data:=.seq vs.toArray } (.lst (ns.map V.int)))else if b∈tabs.map (·.2)then some (.tbl #[])else none) (λ b u z=>?_) (λ q hq=>?_) (.inl (.inr ⟨{ cls:=.type "list",data:=.seq vs.toArray },if_pos rfl⟩)) (λ b u z=>?_) λ _=>hk
  ·by_cases hb:b=a
   ·have J:=(if_pos hb).symm.trans z
    cases J
    exact .inl ⟨hb,_,_,rfl⟩
   ·have J:=(if_neg hb).symm.trans z
    by_cases hc:b∈tabs.map (·.2)
    ·rw[if_pos hc]at J;cases J;exact .inr ⟨hc,rfl⟩
    ·rw[if_neg hc]at J;cases J
  ·have hm:q.2∈tabs.map (·.2):=bp hq
   show(if _ then _ else if _ then _ else _)=_
   rw[if_neg (tbl _ hm),if_pos hm]
  ·by_cases hb:b=a
   ·have J:=(if_pos hb).symm.trans z
    cases J
    subst hb
    exact⟨ha,by rw[az];exact hl,vs,_,rv,ha⟩
   ·have J:=(if_neg hb).symm.trans z
    by_cases hc:b∈tabs.map (·.2)
    ·rw[if_pos hc]at J;cases J;exact G b hc
    ·rw[if_neg hc]at J;cases J
theorem walk_ofT2 {ts:List Addr}{l:cV}{n k:Nat}{q:aM}{loose:List Str}{XP:(Str->Option Value)->Heap->Prop}{YP:World->Heap->Prop}{d:DefRec}{K:Params->ab}{sp:ab->Sp}{x:Str}(names:List Str)
  (hn:l.most=some n) (a4:n<=aI) (a5:d.params.defaults=[]) (hr:Room k g9)
  (hY:∀(w:World) (h:Heap),YP w h->(K w.params).In h/\∀ P∈ts,h.get? P=some (d4 #[])) (a1:∀ w:World,tabsIn (K w.params) names ts=true) (a6:∀ w:World,j8 (K w.params)=true)
  (F:∀(w:World) (mg:Str->Option Value) (fa:Addr) (h:Heap),(K w.params).In h->h.Ns bn mg->mg d.name=some (.ref fa) ->
   ∃ fd:bI,(∀(s:af) (u:Value),jU s fd ⟨[u],[]⟩ [(x,u)]) /\
    ∀ C:Heap,(K w.params).In C->C.Ns bn mg->BM mg C->Codes (K w.params) names C->FnOk l.prog w (K w.params) mg C CX0 k fa fd [x] (sp (K w.params)))
  (a2:∀(K:ab) (H:Hp) (a:Addr) (ns:List Int),ns.length<=n->Blank K names H->SqL K H a (ns.map V.int)->(∀ u,H a=some u->(∃ o xs,u=.frz o (.lst xs))\/∃ ps,u=.tbl ps)->sp K [.ref a] H (λ v _=>v=.bl true) E0) :
  ki q loose XP YP l.row.toRowW d [] (λ f vs=>j2 f vs):=by
 refine Att.attach_call hn a5 λ w s₀ s₁ mg mb fa o pm cd b1 a vs ns G Y ho hd b2 b0 a0 Z J hg=>?_
 obtain⟨KX,a3⟩:=hY w _ Y
 obtain⟨fd,hb,hF⟩:=F w mg fa _ KX G.T.g b0
 have hT:j7 ((tabsOf (K w.params) names).map (·.2)) s₁.heap:=λ p hp=>by
  obtain⟨y,hy,rfl⟩:=aB.mp hp
  obtain⟨h1,h2⟩:=mem_tabsOf.mp hy
  have z:=aP.mp (a1 w) y.1 h1
  rw[h2]at z
  have z':(i8 (K w.params) y.2.1 y.2.2&&ts.contains y.2.2)=true:=z
  rw[aq]at z'
  exact⟨PySem.W.codeHd_of_K KX z'.1,a3 _ (by simpa using z'.2)⟩
 have hm:∀ x∈names,∀ c P,bh (K w.params) x=some (c,P)->(c,P)∈(tabsOf (K w.params) names).map (·.2):=λ x hx c P e=>aB.mpr ⟨(x,c,P),mem_tabsOf.mpr ⟨hx,e⟩,rfl⟩
 refine law_callT2 (tabs:=(tabsOf (K w.params) names).map (·.2)) KX G.T.g G.T.b G.T.builtins G.T.nolimit hg ?_ hT (a6 w) a0 Z (am J a4) hr (λ C k1 k2 k3 k4=>hF C k1 k2 k3 λ x hx c P e=>k4 _ (hm x hx c P e)) hb λ H hO hS hF=>a2 (K w.params) H a ns J (λ x hx c P e=>hO _ (hm x hx c P e)) hS hF
 obtain⟨bm,ob,h1,h2,h3,h4,h5,h6⟩:=G.T.bmain
 exact⟨bm,ob,h1,h2,h3,h4,h5,h6⟩
noncomputable def spB (names:List Str)(K:ab):Sp:=λ vs H Q _=>∃(a:Addr) (ns:List Int),vs=[.ref a]/\SqF K H a (ns.map V.int)/\ns.length<=63/\Blank K names H/\∀ H',Q (.bl true) H'
theorem spB_mk {names:List Str}{K:ab}{H:Hp}{a:Addr}{ns:List Int}(hl:ns.length<=63)(hB:Blank K names H)(y:SqL K H a (ns.map V.int))(G:∀ u,H a=some u->(∃ o C,u=.frz o (.lst C))\/∃ ps,u=.tbl ps):spB names K [.ref a] H (λ v _=>v=.bl true) E0:=by
 refine⟨a,ns,rfl,⟨y,λ H' k=>?_⟩,hl,hB,λ _=>rfl⟩
 rcases y with(h|⟨o,h⟩)|h
 ·rcases G _ h with⟨_,_,z⟩|⟨_,z⟩<;>cases z
 ·exact .inl (.inr ⟨o,k _ _ h rfl⟩)
 ·exact .inr h
noncomputable def lgOf (P:la):String->LamI->Prop:=λ id J=>∃ L,P.lm id=some L/\LamGood J L
noncomputable def sfx (x:Str):Str:=if x = "letter_table" then "least_fee" else "<lambda>"
noncomputable def tabsT (names:List Str)(K:ab):List (Addr×Str):=names.map λ x=>(((bh K x).getD (0,0)).2,x ++ ".<locals>."++sfx x)
noncomputable def cdsT (names:List Str)(K:ab):List (Addr×Addr):=names.map λ x=>(bh K x).getD (0,0)
noncomputable def faOf (K:ab)(f:String):Option Addr:=match dv K bn (f:Str)with
 | some (some (.ref a))=>(match K.lookup a with
  | some ⟨_,_,.func _,_⟩=>some a
  | _=>none)
 | _=>none
theorem faOf_of {K:ab}{f:String}{a:Addr}{oc:Value}{od:Option Addr}{C:bI}{sl:Array (Option Value)}(y:dv K bn (f:Str)=some (some (.ref a)))(h:K.lookup a=some ⟨oc,od,.func C,sl⟩):faOf K f=some a:=by
 unfold faOf
 rw[y]
 simp only
 rw[h]
theorem faOf_inv {K:ab}{f:String}{a:Addr}(h:faOf K f=some a):dv K bn (f:Str)=some (some (.ref a))/\∃ oc od y sl,K.lookup a=some ⟨oc,od,.func y,sl⟩:=by
 unfold faOf at h
 split at h
 ·rename_i C e
  split at h
  ·rename_i oc od y sl e2
   cases h
   exact⟨e,_,_,_,_,e2⟩
  ·cases h
 ·cases h
noncomputable abbrev gmOf (names:List Str)(P:la)(K:ab):Gm:=⟨K,faOf K,lgOf P,tabsT names K⟩
theorem fa_ok {names:List Str}{P:la}{K:ab}{h:Heap}{mg:Str->Option Value}(X:K.In h)(G:h.Ns bn mg):∀(f:String) (a:Addr),(gmOf names P K).fa f=some a->mg (f:Str)=some (.ref a)/\∃ oc od y sl,(gmOf names P K).K.lookup a=some ⟨oc,od,.func y,sl⟩:=λ f a e=>⟨cZ X G (faOf_inv e).1,(faOf_inv e).2⟩
theorem con_fn {names:List Str}{P:la}{K:ab}{h:Heap}{mg:Str->Option Value}{f:String}{a:Addr}{oc:Value}{od:Option Addr}{J:bI}{sl:Array (Option Value)}(X:K.In h)(G:h.Ns bn mg)(y:dv K bn (f:Str)=some (some (.ref a)))(C:K.lookup a=some ⟨oc,od,.func J,sl⟩):GoodC (gmOf names P K) mg f (.fn f) :=
 ⟨.ref a,.ref a,cZ X G y,rfl,λ _=>rfl,λ φ H=>by unfold RV;exact⟨a,faOf_of y C,rfl⟩⟩
theorem spT_of_B {names:List Str}{P:la}{K:ab}(y:∀ x∈names,(bh K x).isSome=true){vs:List V}{H:Hp}{Q:VK}{E:XK}(q:spB names K vs H Q E):spT (gmOf names P K) vs H Q E:=by
 obtain⟨a,ns,e,C,hl,hB,G⟩:=q
 refine⟨a,ns,e,C,hl,TabsH.init λ p h=>?_,G⟩
 simp only[tabsT,cR]at h
 obtain⟨x,hx,rfl⟩:=aB.mp h
 exact hB x hx _ _ (tab_some (y x hx))
theorem cds_ok {names:List Str}{K:ab}{mg:Str->Option Value}{h:Heap}(C:∀ x∈names,(bh K x).isSome=true)(bm:BM mg h)(hc:Codes K names h):∀ y∈cdsT names K,bS h y.1 y.2/\BM mg h:=λ y hy=>by
 obtain⟨x,hx,rfl⟩:=aB.mp hy
 exact⟨hc x hx _ _ (tab_some (C x hx)),bm⟩
noncomputable def lamArgs:a9->Option (List Str)
 | ⟨[],args,none,[],[],none,[]⟩=>some (args.map (·.arg))
 | _=>none
theorem qG {p:a9}{ps:List Str}(h:lamArgs p=some ps):∃ args,p=⟨[],args,none,[],[],none,[]⟩/\args.map (·.arg)=ps:=by
 unfold lamArgs at h
 split at h
 ·exact⟨_,rfl,aw h⟩
 ·cases h
noncomputable def BindG (ps:List Str):Prop:=∀ params,lamArgs params=some ps->∀(qual:Str) (body:Expr) (scope:Scope) (clos:List (Str×Addr)) (doc pm:Value) (c':Addr) (ctv:Value) (us:List Value),us.length=ps.length->eB (bR "<lambda>" qual params body scope clos pm (.ref c') ctv) ⟨us,[]⟩=pure (ps.zip us) /\
 ∀(nm:Str) (rp:Pos),eB (cu nm qual params [.Return (some body) rp] scope clos .none .none doc pm none (.ref c') ctv) ⟨us,[]⟩=pure (ps.zip us)
noncomputable def lamScB (ps fr:List Str)(sc:Scope):Bool:=decide (sc.kind=.function)&&!sc.isCoroutine&&!sc.isGenerator&&decide ((ps++fr).Nodup)&&(ps.all λ x=>decide (sc.names.lookup x=some .local)||decide (sc.names.lookup x=some .cell))&&(fr.all λ x=>decide (sc.names.lookup x=some .free))&&(sc.names.all λ y=>!decide (y.2=.cell)||decide (sc.names.lookup y.1=some .cell))
theorem lamScB_ok {ps fr:List Str}{sc:Scope}(h:lamScB ps fr sc=true):LamScope (ps++fr) ps fr sc:=by
 unfold lamScB at h
 simp only[aq,decide_eq_true_eq,fB,aP,bO]at h
 obtain⟨⟨⟨⟨⟨⟨G,C⟩,h3⟩,Y⟩,Z⟩,J⟩,h7⟩:=h
 exact⟨G,C,h3,Y,rfl,Z,J,λ y hy e=>by
  rcases h7 y hy with z|z
  ·rw[e]at z;simp at z
  ·exact z⟩
noncomputable def freeB (scope sc:Scope):Bool:=scope.names.all λ y=>!decide (scope.names.lookup y.1=some .free)||decide (sc.names.lookup y.1=some .cell)
theorem freeB_ok {scope sc:Scope}(h:freeB scope sc=true):∀ x,scope.names.lookup x=some .free->sc.names.lookup x=some .cell:=λ x hx=>by
 have:=aP.mp h (x,.free) (aA hx)
 simp only[bO,fB,decide_eq_false_iff_not,decide_eq_true_eq]at this
 rcases this with z|z
 ·exact absurd hx z
 ·exact z
noncomputable def lkB (sc:Scope)(N:List Str)(caps:List Nat)(params:a9)(body:Expr)(scope:Scope)(t:lP×List Str×List Str):Bool :=
 decide (lamArgs params=some t.2.1)&&decide (caps.map (λ j=>N[j]?)=t.2.2.map some)&&lamCheck scope sc&&freeB scope sc&&lamScB t.2.1 t.2.2 scope&&decide (t.2.1.length=t.1.ps)&&decide (t.2.2.length=t.1.cs)&&mE (ck0 (t.2.1++t.2.2) scope) t.1.body body
noncomputable def lkG (f:Str)(sc:Scope)(N:List Str)(tab:List (String×lP×List Str×List Str))(id:String)(caps:List Nat)(E:Expr):Bool:=match tab.lookup id,E with
 | some t,.Lambda params body scope _=>decide (sfx f = "<lambda>")&&lkB sc N caps params body scope t
 | some t,.NamedExpr (.Name nm _) (.Lambda params body scope p1) p2=>decide (sfx f=nm)&&decide (p1=p2)&&lkB sc N caps params body scope t
 | _,_=>false
theorem lkOk_of {names:List Str}{P:la}{K:ab}{f:Str}{sc:Scope}{N:List Str}{fd:bI}{tab:List (String×lP×List Str×List Str)}(hf:f∈names)(J:fd.code=.ref ((bh K f).getD (0,0)).1)(a0:∀ y∈sc.names,y.2=.cell->sc.names.lookup y.1=some .cell)
  (Z:∀ id t,tab.lookup id=some t->P.lm id=some t.1/\BindG t.2.1):LkOk (gmOf names P K) (cdsT names K) f sc N fd (lkG f sc N tab):=by
 intro id C E h
 have G:∀(t:lP×List Str×List Str) (params:a9) (body:Expr) (scope:Scope) (Y:Option (Str×Pos)),tab.lookup id=some t->lkB sc N C params body scope t=true->(match Y with|none => "<lambda>" | some p=>p.1)=sfx f ->
   LkAt (gmOf names P K) (cdsT names K) f sc N fd id C params body scope ((bh K f).getD (0,0)).1 ((bh K f).getD (0,0)).2 ⟨f ++ ".<locals>."++sfx f,params,body,scope,t.2.1,t.2.2,Y⟩:=λ t params body scope Y e h hs=>by
  obtain⟨L,ps,fr⟩:=t
  unfold lkB at h
  simp only[aq,decide_eq_true_eq]at h
  obtain⟨⟨⟨⟨⟨⟨⟨h1,h2⟩,h3⟩,h4⟩,h5⟩,h6⟩,h7⟩,h8⟩:=h
  obtain⟨hL,hB⟩:=Z id _ e
  obtain⟨args,rfl,a2⟩:=qG h1
  have a1:fr.length=C.length:=by have:=congrArg kD h2;simpa using this.symm
  have S:=lamScB_ok h5
  refine⟨J,aB.mpr ⟨f,hf,rfl⟩,h3,freeB_ok h4,a0,λ env=>rfl,⟨L,hL,⟨S,h6,h7,h8,λ a4 a5 pm c' a6 us a3=>hB _ h1 _ _ _ _ _ _ _ _ _ a3⟩⟩,?_,rfl,rfl,rfl,a1,λ i j x e1 e2=>?_,S.frs,aB.mpr ⟨f,hf,rfl⟩⟩
  ·show f ++ ".<locals>."++sfx f=f ++ ".<locals>."++LamI.own _
   unfold LamI.own
   rw[<-hs]<;>rfl
  ·have e3:(C.map (λ j=>N[j]?))[i]?=some (N[j]?):=by rw[av,e1];rfl
   rw[h2,av,e2]at e3
   exact(aw e3).symm
 unfold lkG at h
 split at h
 case h_3=>cases h
 ·rename_i t params body scope pos e
  rw[aq]at h
  exact⟨_,_,params,body,scope,pos,_,rfl,G t params body scope none e h.2 (of_decide_eq_true h.1).symm⟩
 ·rename_i t Y rp params body scope p1 p2 e
  rw[aq,aq]at h
  have ep:=of_decide_eq_true h.1.2
  subst ep
  exact⟨_,_,params,body,scope,p1,_,rfl,G t params body scope (some (Y,rp)) e h.2 (of_decide_eq_true h.1.1).symm⟩
theorem lkOk_no {names:List Str}{P:la}{K:ab}{f:Str}{sc:Scope}{N:List Str}{y:bI}:LkOk (gmOf names P K) (cdsT names K) f sc N y (λ _ _ _=>false):=λ _ _ _ h=>by cases h
theorem lg_ok {names:List Str}{P:la}{K:ab}:∀ id J,(gmOf names P K).lg id J->∃ L,P.lm id=some L/\LamGood J L:=λ _ _ h=>h
theorem lt_of {P:la}{tab:List (String×lP×List Str×List Str)}(h:∀ p∈tab,P.lm p.1=some p.2.1/\BindG p.2.2.1):∀ id t,tab.lookup id=some t->P.lm id=some t.1/\BindG t.2.1:=by
 induction tab with
 | nil=>intro id t e;cases e
 | cons y l ih =>
  intro id t e
  rw[a8]at e
  cases q:id==y.1 with
  | true =>
   rw[q]at e
   cases e
   rw[eq_of_beq q]
   exact h y (aF ..)
  | false =>
   rw[q]at e
   exact ih (λ p C=>h p (ax _ C)) id t e
noncomputable def DfIn (K:ab)(n:Str)(st:Stmt):Prop:=∃(f:Addr) (od an:Option Addr) (sl:Array (Option Value)) (oc kV dc pm cd ct:Value),dv K bn n=some (some (.ref f)) /\
 K.lookup f=some ⟨oc,od,.func (cO n n (defArgs st) (z0 st) (defScope st) .none kV dc pm an cd ct),sl⟩/\eY K cd n=true/\cb K (.ref f)=true
noncomputable def BdOk (n:Str)(st:Stmt)(ps:List Str):Prop:=∀(kV doc pm:Value) (an:Option Addr) (cdv ct:Value) (us:List Value),us.length=ps.length->eB (cO n n (defArgs st) (z0 st) (defScope st) .none kV doc pm an cdv ct) ⟨us,[]⟩=pure (ps.zip us)
theorem bd0 {Q:List Value->Prop}(h:Q [])(us:List Value)(hl:us.length=0):Q us:=by
 cases us with
 | nil=>exact h
 | cons _ _=>cases hl
theorem bdS {k:Nat}{Q:List Value->Prop}(h:∀ a us,us.length=k->Q (a::us))(us:List Value)(hl:us.length=k+1):Q us:=by
 cases us with
 | nil=>cases hl
 | cons a us=>exact h a us (Nat.succ.inj hl)
theorem bd1 {Q:List Value->Prop}(h:∀ a,Q [a]):∀ us:List Value,us.length=1->Q us:=bdS λ a=>bd0 (h a)
theorem bd2 {Q:List Value->Prop}(h:∀ a b,Q [a,b]):∀ us:List Value,us.length=2->Q us:=bdS λ a=>bd1 (h a)
theorem bd3 {Q:List Value->Prop}(h:∀ a b c,Q [a,b,c]):∀ us:List Value,us.length=3->Q us:=bdS λ a=>bd2 (h a)
theorem bd4 {Q:List Value->Prop}(h:∀ a b c d,Q [a,b,c,d]):∀ us:List Value,us.length=4->Q us:=bdS λ a=>bd3 (h a)
noncomputable def DT (names:List Str)(P:la)(n:String)(d:lQ)(st:Stmt):Prop:=∃ N ps,FnScope N ps (defScope st)/\ps.length=d.ps/\N.length=d.ps+d.vs/\BdOk n st ps/\(mSs ⟨N,defScope st,λ _ _ _=>false⟩ d.body (z0 st)=true \/
 ((n:Str)∈names/\∃ tab,mSs ⟨N,defScope st,lkG n (defScope st) N tab⟩ d.body (z0 st)=true/\(∀ y∈(defScope st).names,y.2=.cell->(defScope st).names.lookup y.1=some .cell)/\∀ p∈tab,P.lm p.1=some p.2.1/\BindG p.2.2.1))
theorem good_of {names:List Str}{P:la}{K:ab}{h:Heap}{mg:Str->Option Value}{n:String}{d:lQ}{st:Stmt}(X:K.In h)(G:h.Ns bn mg)(hT:∀ x∈names,(bh K x).isSome=true)(hD:DfIn K n st)(hd:DT names P n d st):Good (gmOf names P K) (cdsT names K) mg n d:=by
 obtain⟨f,od,an,sl,oc,kV,dc,pm,cd,ct,a,l,c,k⟩:=hD
 obtain⟨N,ps,C,J,h3,Y,y⟩:=hd
 have F:=fun_mk (st:=st) l c k
 have D:DefAt K mg n st ps f _:=⟨F,cZ X G a,F.binds Y⟩
 rcases y with y|⟨hn,tab,y,Z,h7⟩
 ·exact⟨_,_,_,_,_,_,D,C,J,h3,y,lkOk_no⟩
 ·exact⟨_,_,_,_,_,_,D,C,J,h3,y,lkOk_of hn (PySem.W.law_code X G (tab_some (hT _ hn)) (cZ X G a) (X _ _ l) rfl) Z (lt_of h7)⟩
theorem head_of {l:cV}{q:aM}{loose:List Str}{H:PySem.W.Hook}{N:Nat}{d:DefRec}{h:List (Str×Expr)}
  (left:PySem.W.LeftO l.row.prog q loose (λ s=>PySem.W.xlAt q [] s&&PySem.W.recOk (PySem.W.RowW.records (kz l.row)) s) H.obs H.val N)
  (y:PySem.W.defOf q l.row.name=some (d,h)) (G:l.row.prog.theDef l.row.name=some (d.params,d.body,d.scope)) (hk:PySem.W.kwWritten? d.params.kwonlyargs d.params.kw_defaults=some h) (C:(!l.row.writes||l.row.records.isEmpty)=true)
  (J:l.row.wellSaid=true) (ok:(PySem.W.chainsOk q&&PySem.W.opensWell l.row.prog&&(PySem.W.frees l.row.toRowW&&l.row.within.isEmpty))=true) (hb:l.row.prog.bare) (hw:l.row.toRowW.promised)
  (call:ki q loose (PySem.W.XL q []) H.says l.row.toRowW d h λ f vs=>j2 f vs):l.row.Holds :=
 PySem.W.holds_open left H.of H.keeps (λ s e=>PySem.W.xl_of s (gZ.mp e).1) PySem.W.XL.keeps y G hk (λ s e=>PySem.W.recFacts_of (gZ.mp e).2) C J ok hb hw call
end L2
end
noncomputable section
namespace DV
noncomputable def d_is_whole:Df:=⟨"is_whole",3,0,(.cons (.ret (.and (.bi .isInt (.cons (.var 0) .nil)) (.and (.not (.bi .isBool (.cons (.var 0) .nil))) (.chain .le .le (.var 1) (.var 0) (.var 2))))) .nil)⟩
noncomputable def d_is_tuple_of:Df:=⟨"is_tuple_of",2,0,(.cons (.ret (.and (.bi .isTup (.cons (.var 0) .nil)) (.cmp .eq (.bi .len (.cons (.var 0) .nil)) (.var 1)))) .nil)⟩
noncomputable def d_is_letter:Df:=⟨"is_letter",2,0,(.cons (.ret (.cmp .isin (.var 0) (.slU (.glob "LETTERS") (.var 1)))) .nil)⟩
noncomputable def w_bag:Df:=⟨"_law_bag",2,3,(.cons (.asg (.one 2) (.cst (.int 0))) (.cons (.ite (.cmp .lt (.var 1) (.bi .len (.cons (.var 0) .nil))) (.cons (.asg (.one 2) (.bi .abs (.cons (.ix (.var 0) (.var 1)) .nil))) .nil) .nil) (.cons (.asg (.one 3) (.bin .add (.bin .mul (.cst (.int 7919)) (.var 1)) (.cst (.int 17)))) (.cons (.for_ (.one 4) (.rng1 (.bi .min2 (.cons (.bi .len (.cons (.var 0) .nil)) (.cons (.cst (.int 60)) .nil)))) (.cons (.asg (.one 3) (.bin .mod (.bin .add (.bin .add (.bin .mul (.var 3) (.cst (.int 48271))) (.bin .mod (.ix (.var 0) (.var 4)) (.cst (.int 2147483647)))) (.var 4)) (.cst (.int 2147483629)))) .nil)) (.cons (.ite (.cmp .lt (.var 2) (.bin .pow (.cst (.int 10)) (.cst (.int 18)))) (.cons (.asg (.one 2) (.cst (.int 0))) .nil) .nil) (.cons (.ret (.lst (.cons (.var 2) (.cons (.var 3) .nil)))) .nil))))))⟩
noncomputable def w_take:Df:=⟨"_law_take",2,3,(.cons (.ite (.cmp .gt (.ix (.var 0) (.cst (.int 0))) (.cst (.int 0))) (.cons (.asg (.one 2) (.bin .mod (.ix (.var 0) (.cst (.int 0))) (.var 1))) (.cons (.setIx (.var 0) (.cst (.int 0)) (.bin .fdiv (.ix (.var 0) (.cst (.int 0))) (.var 1))) (.cons (.ret (.var 2)) .nil))) .nil) (.cons (.asg (.one 3) (.cst (.int 0))) (.cons (.asg (.one 4) (.cst (.int 1))) (.cons (.whl (.cmp .lt (.var 4) (.var 1)) (.cons (.setIx (.var 0) (.cst (.int 1)) (.bin .mod (.bin .add (.bin .mul (.ix (.var 0) (.cst (.int 1))) (.cst (.int 48271))) (.cst (.int 7919))) (.cst (.int 2147483647)))) (.cons (.asg (.one 3) (.bin .add (.bin .mul (.var 3) (.cst (.int 1073741789))) (.bin .mod (.bin .mul (.bin .fdiv (.ix (.var 0) (.cst (.int 1))) (.cst (.int 8))) (.cst (.int 69621))) (.cst (.int 1073741789))))) (.cons (.asg (.one 4) (.bin .mul (.var 4) (.cst (.int 1073741789)))) .nil)))) (.cons (.ret (.bin .mod (.var 3) (.var 1))) .nil)))))⟩
noncomputable def w_rooms:Df:=⟨"_law_rooms",2,1,(.cons (.asg (.one 2) (.call "_law_take" (.ex (.var 0) (.ex (.bin .shl (.cst (.int 1)) (.var 1)) .nil)))) (.cons (.ret (.mk .tuple (.compIf (.one 0) (.rng1 (.var 1)) (.cmp .eq (.bin .mod (.bin .fdiv (.var 1) (.bin .shl (.cst (.int 1)) (.var 0))) (.cst (.int 2))) (.cst (.int 1))) (.var 0) [none,some 2]))) .nil))⟩
noncomputable def w_machine:Df:=⟨"_law_machine",1,5,(.cons (.asg (.one 1) (.bin .add (.cst (.int 1)) (.call "_law_take" (.ex (.var 0) (.ex (.cst (.int 3)) .nil))))) (.cons (.asg (.one 2) (.bin .add (.cst (.int 1)) (.call "_law_take" (.ex (.var 0) (.ex (.cst (.int 5)) .nil))))) (.cons (.asg (.one 3) (.call "_law_take" (.ex (.var 0) (.ex (.cst (.int 13)) .nil)))) (.cons (.ite (.cmp .eq (.call "_law_take" (.ex (.var 0) (.ex (.cst (.int 8)) .nil))) (.cst (.int 7))) (.cons (.asg (.one 3) (.call "_law_take" (.ex (.var 0) (.ex (.cst (.int 76)) .nil)))) .nil) .nil) (.cons (.asg (.one 4) (.lst .nil)) (.cons (.for_ (.one 5) (.rng1 (.var 3)) (.cons (.ex (.meth .append (.var 4) (.cons (.tup (.cons (.call "_law_take" (.ex (.var 0) (.ex (.var 2) .nil))) (.cons (.ix (.cst (.str [97,98,99])) (.call "_law_take" (.ex (.var 0) (.ex (.var 1) .nil)))) (.cons (.call "_law_take" (.ex (.var 0) (.ex (.var 2) .nil))) (.cons (.call "_law_take" (.ex (.var 0) (.ex (.cst (.int 4)) .nil))) .nil))))) .nil))) .nil)) (.cons (.ret (.tup (.cons (.var 1) (.cons (.var 2) (.cons (.call "_law_rooms" (.ex (.var 0) (.ex (.var 2) .nil))) (.cons (.call "_law_rooms" (.ex (.var 0) (.ex (.var 2) .nil))) (.cons (.mk .tuple (.seq (.var 4))) .nil))))))) .nil)))))))⟩
noncomputable def d_letters_of:Df:=⟨"letters_of",1,0,(.cons (.ret (.slU (.glob "LETTERS") (.ix (.var 0) (.cst (.int 0))))) .nil)⟩
noncomputable def w_word:Df:=⟨"_law_word",3,2,(.cons (.asg (.one 3) (.cst (.str []))) (.cons (.for_ (.one 4) (.rng1 (.call "_law_take" (.ex (.var 0) (.ex (.bin .add (.var 2) (.cst (.int 1))) .nil)))) (.cons (.asg (.one 3) (.bin .add (.var 3) (.ix (.cst (.str [97,98,99])) (.call "_law_take" (.ex (.var 0) (.ex (.var 1) .nil)))))) .nil)) (.cons (.ret (.var 3)) .nil)))⟩
noncomputable def d_rooms_of:Df:=⟨"rooms_of",1,0,(.cons (.ret (.ix (.var 0) (.cst (.int 1)))) .nil)⟩
noncomputable def d_begins_of:Df:=⟨"begins_of",1,0,(.cons (.ret (.ix (.var 0) (.cst (.int 2)))) .nil)⟩
noncomputable def d_ends_of:Df:=⟨"ends_of",1,0,(.cons (.ret (.ix (.var 0) (.cst (.int 3)))) .nil)⟩
noncomputable def d_doors_of:Df:=⟨"doors_of",1,0,(.cons (.ret (.ix (.var 0) (.cst (.int 4)))) .nil)⟩
noncomputable def d_grid:Df:=⟨"grid",2,2,(.cons (.asg (.one 2) (.lst .nil)) (.cons (.for_ (.one 3) (.rng1 (.var 0)) (.cons (.ex (.meth .append (.var 2) (.cons (.mk .tuple (.comp (.one 0) (.rng1 (.var 0)) (.callV 1 (.cons (.var 2) (.cons (.var 0) .nil))) [none,some 1,some 3])) .nil))) .nil)) (.cons (.ret (.mk .tuple (.seq (.var 2)))) .nil)))⟩
noncomputable def d_least:Df:=⟨"least",1,0,(.cons (.ret (.mkD .min (.compIf (.one 0) (.seq (.var 0)) (.notN (.var 0)) (.var 0) [none]) (.cst .non))) .nil)⟩
noncomputable def d_added:Df:=⟨"added",2,0,(.cons (.ite (.or (.isN (.var 0)) (.isN (.var 1))) (.cons (.ret (.cst .non)) .nil) .nil) (.cons (.ret (.bin .add (.var 0) (.var 1))) .nil))⟩
noncomputable def d_plain:Df:=⟨"plain",1,0,(.cons (.ret (.callC "grid" (.ex (.var 0) (.lam "plain.0" [] .nil)))) .nil)⟩
noncomputable def d_plain_l0:Lm:=⟨"plain.0",2,0,(.ite (.cmp .eq (.var 0) (.var 1)) (.cst (.int 0)) (.cst .non))⟩
noncomputable def d_product:Df:=⟨"product",2,1,(.cons (.asg (.one 2) (.bi .len (.cons (.var 0) .nil))) (.cons (.ret (.callC "grid" (.ex (.var 2) (.lam "product.0" [2,0,1] .nil)))) .nil))⟩
noncomputable def d_product_l0:Lm:=⟨"product.0",2,3,(.call "least" (.ex (.mk .list (.comp (.one 0) (.rng1 (.var 2)) (.call "added" (.ex (.ix (.ix (.var 1) (.var 2)) (.var 0)) (.ex (.ix (.ix (.var 3) (.var 0)) (.var 4)) .nil))) [none,some 3,some 0,some 4,some 1])) .nil))⟩
noncomputable def w_same_2:Df:=⟨"_law_same",2,2,(.cons (.ite (.or (.not (.bi .isTup (.cons (.var 0) .nil))) (.cmp .ne (.bi .len (.cons (.var 0) .nil)) (.bi .len (.cons (.var 1) .nil)))) (.cons (.ret (.cst (.bl false))) .nil) .nil) (.cons (.for_ (.one 2) (.rng1 (.bi .len (.cons (.var 1) .nil))) (.cons (.ite (.or (.not (.bi .isTup (.cons (.ix (.var 0) (.var 2)) .nil))) (.cmp .ne (.bi .len (.cons (.ix (.var 0) (.var 2)) .nil)) (.bi .len (.cons (.var 1) .nil)))) (.cons (.ret (.cst (.bl false))) .nil) .nil) (.cons (.for_ (.one 3) (.seq (.ix (.var 0) (.var 2))) (.cons (.ite (.and (.notN (.var 3)) (.or (.not (.bi .isInt (.cons (.var 3) .nil))) (.bi .isBool (.cons (.var 3) .nil)))) (.cons (.ret (.cst (.bl false))) .nil) .nil) .nil)) .nil))) (.cons (.ret (.cmp .eq (.var 0) (.var 1))) .nil)))⟩
noncomputable def d_raised:Df:=⟨"raised",4,3,(.cons (.asg (.one 4) (.var 2)) (.cons (.asg (.one 5) (.var 0)) (.cons (.asg (.one 6) (.var 1)) (.cons (.whl (.cmp .gt (.var 6) (.cst (.int 0))) (.cons (.ite (.cmp .eq (.bin .mod (.var 6) (.cst (.int 2))) (.cst (.int 1))) (.cons (.asg (.one 4) (.callV 3 (.cons (.var 4) (.cons (.var 5) .nil)))) .nil) .nil) (.cons (.asg (.one 6) (.bin .fdiv (.var 6) (.cst (.int 2)))) (.cons (.ite (.cmp .gt (.var 6) (.cst (.int 0))) (.cons (.asg (.one 5) (.callV 3 (.cons (.var 5) (.cons (.var 5) .nil)))) .nil) .nil) .nil)))) (.cons (.ret (.var 4)) .nil)))))⟩
noncomputable def d_power:Df:=⟨"power",2,0,(.cons (.ret (.call "raised" (.ex (.var 0) (.ex (.var 1) (.ex (.call "plain" (.ex (.bi .len (.cons (.var 0) .nil)) .nil)) (.ex (.glob "product") .nil)))))) .nil)⟩
noncomputable def d_letter_table:Df:=⟨"letter_table",2,1,(.cons (.und 2) (.cons (.ret (.callC "grid" (.ex (.call "rooms_of" (.ex (.var 0) .nil)) (.lam "letter_table.least_fee" [0,1] .nil)))) .nil))⟩
noncomputable def d_letter_table_l0:Lm:=⟨"letter_table.least_fee",2,2,(.call "least" (.ex (.mk .list (.compIf (.tup [0,1,2,3]) (.seq (.call "doors_of" (.ex (.var 2) .nil))) (.cmp .eq (.tup (.cons (.var 0) (.cons (.var 1) (.cons (.var 2) .nil)))) (.tup (.cons (.var 4) (.cons (.var 5) (.cons (.var 6) .nil))))) (.var 3) [none,none,none,none,some 0,some 3,some 1])) .nil))⟩
noncomputable def d_word_table:Df:=⟨"word_table",2,3,(.cons (.asg (.one 2) (.dic .nil .nil)) (.cons (.asg (.one 3) (.call "plain" (.ex (.call "rooms_of" (.ex (.var 0) .nil)) .nil))) (.cons (.for_ (.one 4) (.seq (.var 1)) (.cons (.ite (.cmp .notin (.var 4) (.var 2)) (.cons (.setIx (.var 2) (.var 4) (.call "letter_table" (.ex (.var 0) (.ex (.var 4) .nil)))) .nil) .nil) (.cons (.asg (.one 3) (.call "product" (.ex (.var 3) (.ex (.ix (.var 2) (.var 4)) .nil)))) .nil))) (.cons (.ret (.var 3)) .nil))))⟩
noncomputable def w_from_room:Df:=⟨"_law_from_room",3,7,(.cons (.asg (.one 3) (.mk .list (.comp (.one 0) (.rng1 (.ix (.var 0) (.cst (.int 1)))) (.cst .non) [none]))) (.cons (.setIx (.var 3) (.var 2) (.cst (.int 0))) (.cons (.for_ (.one 4) (.seq (.var 1)) (.cons (.asg (.one 5) (.mk .list (.comp (.one 0) (.seq (.var 3)) (.cst .non) [none]))) (.cons (.for_ (.tup [6,7,8,9]) (.seq (.ix (.var 0) (.cst (.int 4)))) (.cons (.ite (.and (.cmp .eq (.var 7) (.var 4)) (.notN (.ix (.var 3) (.var 6)))) (.cons (.ite (.or (.isN (.ix (.var 5) (.var 8))) (.cmp .lt (.bin .add (.ix (.var 3) (.var 6)) (.var 9)) (.ix (.var 5) (.var 8)))) (.cons (.setIx (.var 5) (.var 8) (.bin .add (.ix (.var 3) (.var 6)) (.var 9))) .nil) .nil) .nil) .nil) .nil)) (.cons (.asg (.one 3) (.var 5)) .nil)))) (.cons (.ret (.mk .tuple (.seq (.var 3)))) .nil))))⟩
noncomputable def w_law_k10:Df:=⟨"law",1,7,(.cons (.for_ (.one 1) (.rng1 (.bin .add (.bi .min2 (.cons (.bi .len (.cons (.var 0) .nil)) (.cons (.cst (.int 3)) .nil))) (.cst (.int 1)))) (.cons (.asg (.one 2) (.call "_law_bag" (.ex (.var 0) (.ex (.var 1) .nil)))) (.cons (.asg (.one 3) (.call "_law_machine" (.ex (.var 2) .nil))) (.cons (.asg (.one 4) (.call "_law_word" (.ex (.var 2) (.ex (.ix (.var 3) (.cst (.int 0))) (.ex (.ix (.lst (.cons (.cst (.int 10)) (.cons (.cst (.int 10)) (.cons (.cst (.int 10)) (.cons (.ix (.lst (.cons (.cst (.int 30)) (.cons (.cst (.int 200)) .nil))) (.bi .int (.cons (.cmp .eq (.var 1) (.cst (.int 0))) .nil))) .nil))))) (.call "_law_take" (.ex (.var 2) (.ex (.cst (.int 4)) .nil)))) .nil))))) (.cons (.asg (.one 5) (.lst (.cons (.var 4) (.cons (.cst (.str [])) (.cons (.rev (.var 4)) (.cons (.var 4) .nil)))))) (.cons (.ite (.cmp .gt (.bi .len (.cons (.var 4) .nil)) (.cst (.int 60))) (.cons (.asg (.one 5) (.lst (.cons (.var 4) .nil))) .nil) .nil) (.cons (.for_ (.one 6) (.seq (.var 5)) (.cons (.asg (.one 7) (.mk .tuple (.comp (.one 0) (.rng1 (.ix (.var 3) (.cst (.int 1)))) (.call "_law_from_room" (.ex (.var 1) (.ex (.var 2) (.ex (.var 0) .nil)))) [none,some 3,some 6]))) (.cons (.ite (.not (.call "_law_same" (.ex (.call "word_table" (.ex (.var 3) (.ex (.var 6) .nil))) (.ex (.var 7) .nil)))) (.cons (.ret (.cst (.bl false))) .nil) .nil) .nil))) .nil))))))) (.cons (.ret (.cst (.bl true))) .nil))⟩
noncomputable def d_at_begins_and_ends:Df:=⟨"at_begins_and_ends",2,2,(.cons (.asg (.one 2) (.lst .nil)) (.cons (.for_ (.one 3) (.seq (.call "begins_of" (.ex (.var 0) .nil))) (.cons (.ex (.ext (.var 2) (.comp (.one 0) (.seq (.call "ends_of" (.ex (.var 0) .nil))) (.ix (.ix (.var 1) (.var 2)) (.var 0)) [none,some 1,some 3]))) .nil)) (.cons (.ret (.var 2)) .nil)))⟩
noncomputable def d_price:Df:=⟨"price",2,0,(.cons (.ret (.call "least" (.ex (.call "at_begins_and_ends" (.ex (.var 0) (.ex (.call "word_table" (.ex (.var 0) (.ex (.var 1) .nil))) .nil))) .nil))) .nil)⟩
noncomputable def d_sign_of:Df:=⟨"sign_of",1,0,(.cons (.ite (.isN (.var 0)) (.cons (.ret (.glob "NONE")) .nil) .nil) (.cons (.ret (.ite (.cmp .eq (.var 0) (.cst (.int 0))) (.glob "FREE") (.glob "SOME"))) .nil))⟩
noncomputable def d_reading:Df:=⟨"reading",1,0,(.cons (.ret (.callC "grid" (.ex (.bi .len (.cons (.var 0) .nil)) (.lam "reading.0" [0] .nil)))) .nil)⟩
noncomputable def d_reading_l0:Lm:=⟨"reading.0",2,1,(.call "sign_of" (.ex (.ix (.ix (.var 2) (.var 0)) (.var 1)) .nil))⟩
noncomputable def d_plain_signs:Df:=⟨"plain_signs",1,0,(.cons (.ret (.callC "grid" (.ex (.var 0) (.lam "plain_signs.0" [] .nil)))) .nil)⟩
noncomputable def ja:Lm:=⟨"plain_signs.0",2,0,(.ite (.cmp .eq (.var 0) (.var 1)) (.glob "FREE") (.glob "NONE"))⟩
noncomputable def w_box:Df:=⟨"_law_box",2,4,(.cons (.asg (.one 2) (.cst (.int 0))) (.cons (.ite (.cmp .lt (.var 1) (.bi .len (.cons (.var 0) .nil))) (.cons (.asg (.one 2) (.bi .abs (.cons (.ix (.var 0) (.var 1)) .nil))) .nil) .nil) (.cons (.ite (.cmp .ge (.var 2) (.bin .pow (.cst (.int 10)) (.cst (.int 18)))) (.cons (.ret (.lst (.cons (.var 2) .nil))) .nil) .nil) (.cons (.asg (.one 3) (.cst (.int 0))) (.cons (.for_ (.one 4) (.rng1 (.cst (.int 128))) (.cons (.asg (.one 5) (.bin .mod (.bin .mul (.bin .add (.bin .add (.bin .add (.bin .mod (.var 2) (.cst (.int 2147483647))) (.bin .mul (.cst (.int 7919)) (.var 1))) (.bin .mul (.cst (.int 104729)) (.var 4))) (.cst (.int 97))) (.cst (.int 48271))) (.cst (.int 2147483647)))) (.cons (.asg (.one 3) (.bin .add (.bin .mul (.var 3) (.cst (.int 2147483647))) (.bin .mod (.bin .add (.bin .add (.bin .mul (.var 5) (.var 5)) (.bin .mul (.cst (.int 31)) (.var 4))) (.bin .fdiv (.var 2) (.cst (.int 2147483647)))) (.cst (.int 2147483647))))) .nil))) (.cons (.ret (.lst (.cons (.var 3) .nil))) .nil))))))⟩
noncomputable def w_draw:Df:=⟨"_law_draw",2,1,(.cons (.asg (.one 2) (.bin .mod (.ix (.var 0) (.cst (.int 0))) (.var 1))) (.cons (.setIx (.var 0) (.cst (.int 0)) (.bin .fdiv (.ix (.var 0) (.cst (.int 0))) (.var 1))) (.cons (.ret (.var 2)) .nil)))⟩
noncomputable def w_form:Df:=⟨"_law_form",2,2,(.cons (.ite (.or (.not (.bi .isTup (.cons (.var 0) .nil))) (.cmp .ne (.bi .len (.cons (.var 0) .nil)) (.var 1))) (.cons (.ret (.cst (.bl false))) .nil) .nil) (.cons (.for_ (.one 2) (.seq (.var 0)) (.cons (.ite (.or (.not (.bi .isTup (.cons (.var 2) .nil))) (.cmp .ne (.bi .len (.cons (.var 2) .nil)) (.var 1))) (.cons (.ret (.cst (.bl false))) .nil) .nil) (.cons (.for_ (.one 3) (.seq (.var 2)) (.cons (.ite (.or (.not (.bi .isInt (.cons (.var 3) .nil))) (.bi .isBool (.cons (.var 3) .nil))) (.cons (.ret (.cst (.bl false))) .nil) .nil) .nil)) .nil))) (.cons (.ret (.cst (.bl true))) .nil)))⟩
noncomputable def zH:Df:=⟨"sign_product",2,1,(.cons (.asg (.one 2) (.bi .len (.cons (.var 0) .nil))) (.cons (.ret (.callC "grid" (.ex (.var 2) (.lam "sign_product.0" [2,0,1] .nil)))) .nil))⟩
noncomputable def zz:Lm:=⟨"sign_product.0",2,3,(.mk .min (.comp (.one 0) (.rng1 (.var 2)) (.bi .max2 (.cons (.ix (.ix (.var 1) (.var 2)) (.var 0)) (.cons (.ix (.ix (.var 3) (.var 0)) (.var 4)) .nil))) [none,some 3,some 0,some 4,some 1]))⟩
noncomputable def w_signs:Df:=⟨"_law_signs",2,6,(.cons (.asg (.one 2) (.call "_law_draw" (.ex (.var 0) (.ex (.cst (.int 4)) .nil)))) (.cons (.asg (.one 3) (.lst .nil)) (.cons (.for_ (.one 4) (.rng1 (.var 1)) (.cons (.asg (.one 5) (.lst .nil)) (.cons (.for_ (.one 6) (.rng1 (.var 1)) (.cons (.asg (.one 7) (.call "_law_draw" (.ex (.var 0) (.ex (.cst (.int 4)) .nil)))) (.cons (.ite (.or (.and (.cmp .eq (.var 2) (.cst (.int 1))) (.cmp .gt (.call "_law_draw" (.ex (.var 0) (.ex (.cst (.int 3)) .nil))) (.cst (.int 0)))) (.and (.cmp .eq (.var 2) (.cst (.int 2))) (.cmp .gt (.var 4) (.var 6)))) (.cons (.asg (.one 7) (.cst (.int 3))) .nil) .nil) (.cons (.ite (.and (.cmp .eq (.var 2) (.cst (.int 3))) (.and (.cmp .ne (.var 6) (.bin .mod (.bin .add (.var 4) (.cst (.int 1))) (.var 1))) (.cmp .gt (.call "_law_draw" (.ex (.var 0) (.ex (.cst (.int 4)) .nil))) (.cst (.int 0))))) (.cons (.asg (.one 7) (.cst (.int 3))) .nil) .nil) (.cons (.ex (.meth .append (.var 5) (.cons (.var 7) .nil))) .nil))))) (.cons (.ex (.meth .append (.var 3) (.cons (.mk .tuple (.seq (.var 5))) .nil))) .nil)))) (.cons (.ret (.mk .tuple (.seq (.var 3)))) .nil))))⟩
noncomputable def qS:Df:=⟨"_law_product",2,4,(.cons (.asg (.one 2) (.lst .nil)) (.cons (.for_ (.one 3) (.seq (.var 0)) (.cons (.asg (.one 4) (.mk .list (.comp (.one 0) (.seq (.var 3)) (.cst (.int 3)) [none]))) (.cons (.for_ (.one 5) (.rng1 (.bi .len (.cons (.var 3) .nil))) (.cons (.ite (.cmp .lt (.ix (.var 3) (.var 5)) (.cst (.int 3))) (.cons (.asg (.one 4) (.mk .list (.comp (.one 0) (.rng1 (.bi .len (.cons (.var 3) .nil))) (.bi .min2 (.cons (.ix (.var 1) (.var 0)) (.cons (.bi .max2 (.cons (.ix (.var 2) (.var 3)) (.cons (.ix (.ix (.var 4) (.var 3)) (.var 0)) .nil))) .nil))) [none,some 4,some 3,some 5,some 1]))) .nil) .nil) .nil)) (.cons (.ex (.meth .append (.var 2) (.cons (.mk .tuple (.seq (.var 4))) .nil))) .nil)))) (.cons (.ret (.mk .tuple (.seq (.var 2)))) .nil)))⟩
noncomputable def d_sign_power:Df:=⟨"sign_power",2,0,(.cons (.ret (.call "raised" (.ex (.var 0) (.ex (.var 1) (.ex (.call "plain_signs" (.ex (.bi .len (.cons (.var 0) .nil)) .nil)) (.ex (.glob "sign_product") .nil)))))) .nil)⟩
noncomputable def w_unit:Df:=⟨"_law_unit",1,0,(.cons (.ret (.mk .tuple (.comp (.one 0) (.rng1 (.var 0)) (.mk .tuple (.comp (.one 0) (.rng1 (.var 1)) (.bin .mul (.cst (.int 3)) (.bi .int (.cons (.cmp .ne (.var 1) (.var 0)) .nil))) [none,some 0])) [none,some 0]))) .nil)⟩
noncomputable def w_round:Df:=⟨"_law_round",1,2,(.cons (.asg (.one 1) (.lst (.cons (.call "_law_unit" (.ex (.bi .len (.cons (.var 0) .nil)) .nil)) .nil))) (.cons (.whl (.cst (.bl true)) (.cons (.asg (.one 2) (.call "_law_product" (.ex (.ix (.var 1) (.neg (.cst (.int 1)))) (.ex (.var 0) .nil)))) (.cons (.ite (.cmp .isin (.var 2) (.var 1)) (.cons (.ret (.tup (.cons (.var 1) (.cons (.meth .index (.var 1) (.cons (.var 2) .nil)) .nil)))) .nil) .nil) (.cons (.ex (.meth .append (.var 1) (.cons (.var 2) .nil))) .nil)))) .nil))⟩
noncomputable def w_due_2:Df:=⟨"_law_due",3,0,(.cons (.ite (.cmp .lt (.var 2) (.bi .len (.cons (.var 0) .nil))) (.cons (.ret (.ix (.var 0) (.var 2))) .nil) .nil) (.cons (.ret (.ix (.var 0) (.bin .add (.var 1) (.bin .mod (.bin .sub (.var 2) (.var 1)) (.bin .sub (.bi .len (.cons (.var 0) .nil)) (.var 1)))))) .nil))⟩
noncomputable def w_law_k22:Df:=⟨"law",1,9,(.cons (.for_ (.one 1) (.rng1 (.bin .add (.bi .min2 (.cons (.cst (.int 8)) (.cons (.bi .len (.cons (.var 0) .nil)) .nil))) (.cst (.int 1)))) (.cons (.asg (.one 2) (.call "_law_box" (.ex (.var 0) (.ex (.var 1) .nil)))) (.cons (.asg (.one 3) (.bin .add (.cst (.int 1)) (.call "_law_draw" (.ex (.var 2) (.ex (.cst (.int 5)) .nil))))) (.cons (.asg (.one 4) (.call "_law_signs" (.ex (.var 2) (.ex (.var 3) .nil)))) (.cons (.asg (.tup [5,6]) (.call "_law_round" (.ex (.var 4) .nil))) (.cons (.asg (.one 7) (.bin .mul (.call "_law_draw" (.ex (.var 2) (.ex (.bin .pow (.cst (.int 10)) (.cst (.int 30))) .nil))) (.bin .pow (.cst (.int 10)) (.cst (.int 29))))) (.cons (.ite (.cmp .gt (.var 1) (.cst (.int 0))) (.cons (.asg (.one 7) (.cst (.int 0))) .nil) .nil) (.cons (.for_ (.one 8) (.seq (.lst (.cons (.cst (.int 0)) (.cons (.cst (.int 1)) (.cons (.bin .add (.cst (.int 2)) (.call "_law_draw" (.ex (.var 2) (.ex (.cst (.int 30)) .nil)))) (.cons (.call "_law_draw" (.ex (.var 2) (.ex (.cst (.int 1000)) .nil))) (.cons (.bin .add (.var 7) (.call "_law_draw" (.ex (.var 2) (.ex (.cst (.int 1000)) .nil)))) .nil))))))) (.cons (.asg (.one 9) (.call "sign_power" (.ex (.var 4) (.ex (.var 8) .nil)))) (.cons (.ite (.or (.not (.call "_law_form" (.ex (.var 9) (.ex (.var 3) .nil)))) (.cmp .ne (.var 9) (.call "_law_due" (.ex (.var 5) (.ex (.var 6) (.ex (.var 8) .nil)))))) (.cons (.ret (.cst (.bl false))) .nil) .nil) (.cons (.ite (.cmp .ne (.call "sign_product" (.ex (.var 9) (.ex (.call "sign_power" (.ex (.var 4) (.ex (.cst (.int 7)) .nil))) .nil))) (.call "_law_due" (.ex (.var 5) (.ex (.var 6) (.ex (.bin .add (.var 8) (.cst (.int 7))) .nil))))) (.cons (.ret (.cst (.bl false))) .nil) .nil) .nil)))) .nil)))))))) (.cons (.ret (.cst (.bl true))) .nil))⟩
noncomputable def jD:Df:=⟨"is_steady",1,0,(.cons (.ret (.cmp .eq (.call "sign_product" (.ex (.var 0) (.ex (.var 0) .nil))) (.var 0))) .nil)⟩
noncomputable def d_round_of:Df:=⟨"round_of",1,0,(.cons (.ite (.or (.cmp .eq (.var 0) (.glob "FREE")) (.cmp .eq (.var 0) (.glob "NONE"))) (.cons (.ret (.var 0)) .nil) .nil) (.cons (.ret (.glob "UNBOUND")) .nil))⟩
noncomputable def d_sharpened:Df:=⟨"sharpened",1,2,(.cons (.ite (.not (.call "is_steady" (.ex (.var 0) .nil))) (.cons .raise .nil) .nil) (.cons (.asg (.one 1) (.bi .len (.cons (.var 0) .nil))) (.cons (.asg (.one 2) (.mk .list (.comp (.one 0) (.rng1 (.var 1)) (.call "round_of" (.ex (.ix (.ix (.var 1) (.var 0)) (.var 0)) .nil)) [none,some 0]))) (.cons (.ret (.callC "grid" (.ex (.var 1) (.lam "sharpened.0" [1,0,2] .nil)))) .nil))))⟩
noncomputable def jw:Lm:=⟨"sharpened.0",2,3,(.mk .min (.comp (.one 0) (.rng1 (.var 2)) (.bi .max3 (.cons (.ix (.ix (.var 1) (.var 2)) (.var 0)) (.cons (.ix (.var 3) (.var 0)) (.cons (.ix (.ix (.var 1) (.var 0)) (.var 4)) .nil)))) [none,some 3,some 0,some 4,some 1]))⟩
noncomputable def jv:Df:=⟨"steady_power",1,2,(.cons (.asg (.one 1) (.cst (.int 1))) (.cons (.asg (.one 2) (.var 0)) (.cons (.whl (.not (.call "is_steady" (.ex (.var 2) .nil))) (.cons (.aug 1 (.cst (.int 1))) (.cons (.asg (.one 2) (.call "sign_product" (.ex (.var 2) (.ex (.var 0) .nil)))) .nil))) (.cons (.ret (.tup (.cons (.var 1) (.cons (.var 2) .nil)))) .nil))))⟩
noncomputable def w_goes_with:Df:=⟨"_law_goes_with",2,4,(.cons (.for_ (.tup [2,3]) (.zip (.seq (.var 0)) (.seq (.var 1))) (.cons (.for_ (.tup [4,5]) (.zip (.seq (.var 2)) (.seq (.var 3))) (.cons (.ite (.or (.cmp .lt (.var 5) (.var 4)) (.or (.cmp .ne (.cmp .eq (.var 5) (.cst (.int 0))) (.cmp .eq (.var 4) (.cst (.int 0)))) (.cmp .ne (.cmp .eq (.var 5) (.cst (.int 3))) (.cmp .eq (.var 4) (.cst (.int 3)))))) (.cons (.ret (.cst (.bl false))) .nil) .nil) .nil)) .nil)) (.cons (.ret (.cmp .eq (.bi .len (.cons (.var 0) .nil)) (.bi .len (.cons (.var 1) .nil)))) .nil))⟩
noncomputable def w_right:Df:=⟨"_law_right",1,3,(.cons (.asg (.tup [1,2]) (.call "steady_power" (.ex (.var 0) .nil))) (.cons (.asg (.one 3) (.call "sharpened" (.ex (.var 2) .nil))) (.cons (.ite (.or (.notB (.call "is_steady" (.ex (.var 3) .nil)) true) (.cmp .ne (.call "sharpened" (.ex (.var 3) .nil)) (.var 3))) (.cons (.ret (.cst (.bl false))) .nil) .nil) (.cons (.ite (.or (.cmp .ne (.call "sign_product" (.ex (.var 3) (.ex (.var 2) .nil))) (.var 3)) (.cmp .ne (.call "sign_product" (.ex (.var 2) (.ex (.var 3) .nil))) (.var 3))) (.cons (.ret (.cst (.bl false))) .nil) .nil) (.cons (.ret (.call "_law_goes_with" (.ex (.var 2) (.ex (.var 3) .nil)))) .nil)))))⟩
noncomputable def w_law_k25:Df:=⟨"law",1,7,(.cons (.for_ (.one 1) (.rng1 (.bin .add (.bi .min2 (.cons (.cst (.int 12)) (.cons (.bi .len (.cons (.var 0) .nil)) .nil))) (.cst (.int 1)))) (.cons (.asg (.one 2) (.call "_law_box" (.ex (.var 0) (.ex (.var 1) .nil)))) (.cons (.asg (.one 3) (.bin .add (.cst (.int 1)) (.call "_law_draw" (.ex (.var 2) (.ex (.cst (.int 5)) .nil))))) (.cons (.asg (.one 4) (.call "_law_signs" (.ex (.var 2) (.ex (.var 3) .nil)))) (.cons (.asg (.one 5) (.call "_law_signs" (.ex (.var 2) (.ex (.var 3) .nil)))) (.cons (.asg (.one 6) (.call "sign_product" (.ex (.call "sharpened" (.ex (.ix (.call "steady_power" (.ex (.var 4) .nil)) (.cst (.int 1))) .nil)) (.ex (.var 5) .nil)))) (.cons (.for_ (.one 7) (.seq (.lst (.cons (.var 4) (.cons (.call "sign_product" (.ex (.var 4) (.ex (.var 5) .nil))) (.cons (.call "sign_product" (.ex (.var 5) (.ex (.var 4) .nil))) (.cons (.var 6) .nil)))))) (.cons (.ite (.not (.call "_law_right" (.ex (.var 7) .nil))) (.cons (.ret (.cst (.bl false))) .nil) .nil) .nil)) .nil))))))) (.cons (.ret (.cst (.bl true))) .nil))⟩
noncomputable def d_word_signs:Df:=⟨"word_signs",2,0,(.cons (.ret (.call "reading" (.ex (.call "word_table" (.ex (.var 0) (.ex (.var 1) .nil))) .nil))) .nil)⟩
noncomputable def d_end_sign:Df:=⟨"end_sign",2,0,(.cons (.ret (.mkDs .min (.call "at_begins_and_ends" (.ex (.var 0) (.ex (.var 1) .nil))) (.glob "NONE"))) .nil)⟩
noncomputable def w_machine_3:Df:=⟨"_law_machine",1,12,(.cons (.asg (.one 1) (.bin .add (.cst (.int 1)) (.call "_law_draw" (.ex (.var 0) (.ex (.cst (.int 3)) .nil))))) (.cons (.asg (.one 2) (.bin .add (.cst (.int 1)) (.call "_law_draw" (.ex (.var 0) (.ex (.cst (.int 5)) .nil))))) (.cons (.asg (.one 3) (.call "_law_draw" (.ex (.var 0) (.ex (.bin .add (.bin .mul (.cst (.int 3)) (.var 2)) (.cst (.int 2))) .nil)))) (.cons (.ite (.cmp .eq (.call "_law_draw" (.ex (.var 0) (.ex (.cst (.int 8)) .nil))) (.cst (.int 5))) (.cons (.asg (.one 3) (.call "_law_draw" (.ex (.var 0) (.ex (.cst (.int 76)) .nil)))) .nil) .nil) (.cons (.asg (.one 4) (.ix (.lst (.cons (.cst (.int 2)) (.cons (.cst (.int 2)) (.cons (.cst (.int 4)) (.cons (.cst (.int 1)) .nil))))) (.call "_law_draw" (.ex (.var 0) (.ex (.cst (.int 4)) .nil))))) (.cons (.asg (.one 5) (.lst .nil)) (.cons (.for_ (.one 6) (.rng1 (.var 3)) (.cons (.asg (.one 7) (.call "_law_draw" (.ex (.var 0) (.ex (.var 2) .nil)))) (.cons (.asg (.one 8) (.call "_law_draw" (.ex (.var 0) (.ex (.var 2) .nil)))) (.cons (.asg (.one 9) (.ix (.cst (.str [97,98,99])) (.call "_law_draw" (.ex (.var 0) (.ex (.var 1) .nil))))) (.cons (.ex (.meth .append (.var 5) (.cons (.tup (.cons (.var 7) (.cons (.var 9) (.cons (.var 8) (.cons (.call "_law_draw" (.ex (.var 0) (.ex (.var 4) .nil))) .nil))))) .nil))) .nil))))) (.cons (.asg (.one 10) (.call "_law_draw" (.ex (.var 0) (.ex (.bin .shl (.cst (.int 1)) (.var 2)) .nil)))) (.cons (.asg (.one 11) (.mk .tuple (.compIf (.one 0) (.rng1 (.var 2)) (.cmp .eq (.bin .mod (.bin .shr (.var 1) (.var 0)) (.cst (.int 2))) (.cst (.int 1))) (.var 0) [none,some 10]))) (.cons (.asg (.one 10) (.call "_law_draw" (.ex (.var 0) (.ex (.bin .shl (.cst (.int 1)) (.var 2)) .nil)))) (.cons (.asg (.one 12) (.mk .tuple (.compIf (.one 0) (.rng1 (.var 2)) (.cmp .eq (.bin .mod (.bin .shr (.var 1) (.var 0)) (.cst (.int 2))) (.cst (.int 1))) (.var 0) [none,some 10]))) (.cons (.ret (.tup (.cons (.var 1) (.cons (.var 2) (.cons (.var 11) (.cons (.var 12) (.cons (.mk .tuple (.seq (.var 5))) .nil))))))) .nil))))))))))))⟩
noncomputable def jt:Df:=⟨"_law_letter_signs",2,6,(.cons (.asg (.one 2) (.ix (.var 0) (.cst (.int 1)))) (.cons (.asg (.one 3) (.mk .list (.comp (.one 0) (.rng1 (.var 2)) (.mk .list (.comp (.one 0) (.rng1 (.var 1)) (.cst (.int 3)) [none])) [none,some 2]))) (.cons (.for_ (.tup [4,5,6,7]) (.seq (.ix (.var 0) (.cst (.int 4)))) (.cons (.ite (.cmp .eq (.var 5) (.var 1)) (.cons (.setIx (.ix (.var 3) (.var 4)) (.var 6) (.bi .min2 (.cons (.ix (.ix (.var 3) (.var 4)) (.var 6)) (.cons (.bi .int (.cons (.cmp .gt (.var 7) (.cst (.int 0))) .nil)) .nil)))) .nil) .nil) .nil)) (.cons (.ret (.mk .tuple (.comp (.one 0) (.seq (.var 3)) (.mk .tuple (.seq (.var 0))) [none]))) .nil))))⟩
noncomputable def w_law_k26:Df:=⟨"law",1,11,(.cons (.for_ (.one 1) (.rng1 (.bin .add (.bi .min2 (.cons (.cst (.int 3)) (.cons (.bi .len (.cons (.var 0) .nil)) .nil))) (.cst (.int 1)))) (.cons (.asg (.one 2) (.call "_law_box" (.ex (.var 0) (.ex (.var 1) .nil)))) (.cons (.asg (.one 3) (.call "_law_machine" (.ex (.var 2) .nil))) (.cons (.asg (.one 4) (.call "_law_draw" (.ex (.var 2) (.ex (.cst (.int 61)) .nil)))) (.cons (.ite (.and (.cmp .eq (.call "_law_draw" (.ex (.var 2) (.ex (.cst (.int 8)) .nil))) (.cst (.int 3))) (.cmp .eq (.var 1) (.cst (.int 0)))) (.cons (.asg (.one 4) (.call "_law_draw" (.ex (.var 2) (.ex (.cst (.int 201)) .nil)))) .nil) .nil) (.cons (.asg (.one 5) (.cst (.str []))) (.cons (.asg (.one 6) (.call "_law_unit" (.ex (.ix (.var 3) (.cst (.int 1))) .nil))) (.cons (.asg (.one 7) (.mk .list (.comp (.one 0) (.seq (.slU (.cst (.str [97,98,99])) (.ix (.var 3) (.cst (.int 0))))) (.call "_law_letter_signs" (.ex (.var 1) (.ex (.var 0) .nil))) [none,some 3]))) (.cons (.for_ (.one 8) (.rng1 (.var 4)) (.cons (.asg (.one 9) (.call "_law_draw" (.ex (.var 2) (.ex (.ix (.var 3) (.cst (.int 0))) .nil)))) (.cons (.asg (.one 5) (.bin .add (.var 5) (.ix (.cst (.str [97,98,99])) (.var 9)))) (.cons (.asg (.one 6) (.call "_law_product" (.ex (.var 6) (.ex (.ix (.var 7) (.var 9)) .nil)))) .nil)))) (.cons (.asg (.one 10) (.call "word_signs" (.ex (.var 3) (.ex (.var 5) .nil)))) (.cons (.ite (.or (.not (.call "_law_form" (.ex (.var 10) (.ex (.ix (.var 3) (.cst (.int 1))) .nil)))) (.or (.cmp .ne (.var 10) (.var 6)) (.cmp .ne (.call "reading" (.ex (.call "word_table" (.ex (.var 3) (.ex (.var 5) .nil))) .nil)) (.var 6)))) (.cons (.ret (.cst (.bl false))) .nil) .nil) (.cons (.asg (.one 11) (.call "_law_draw" (.ex (.var 2) (.ex (.bin .add (.var 4) (.cst (.int 1))) .nil)))) (.cons (.ite (.cmp .ne (.call "sign_product" (.ex (.call "word_signs" (.ex (.var 3) (.ex (.slU (.var 5) (.var 11)) .nil))) (.ex (.call "word_signs" (.ex (.var 3) (.ex (.slL (.var 5) (.var 11)) .nil))) .nil))) (.var 6)) (.cons (.ret (.cst (.bl false))) .nil) .nil) (.cons (.ite (.cmp .ne (.call "end_sign" (.ex (.var 3) (.ex (.var 10) .nil))) (.call "sign_of" (.ex (.call "price" (.ex (.var 3) (.ex (.var 5) .nil))) .nil))) (.cons (.ret (.cst (.bl false))) .nil) .nil) .nil)))))))))))))) (.cons (.ret (.cst (.bl true))) .nil))⟩
noncomputable def d_is_ahead:Df:=⟨"is_ahead",2,0,(.cons (.ret (.call "is_whole" (.ex (.var 0) (.ex (.cst (.int 0)) (.ex (.bin .sub (.var 1) (.cst (.int 1))) .nil))))) .nil)⟩
noncomputable def d_is_letter_step:Df:=⟨"is_letter_step",2,0,(.cons (.ret (.and (.call "is_tuple_of" (.ex (.var 0) (.ex (.cst (.int 2)) .nil))) (.and (.cmp .eq (.ix (.var 0) (.cst (.int 0))) (.cst (.str [108,101,116,116,101,114]))) (.call "is_letter" (.ex (.ix (.var 0) (.cst (.int 1))) (.ex (.var 1) .nil)))))) .nil)⟩
noncomputable def d_is_pair_step:Df:=⟨"is_pair_step",2,0,(.cons (.ret (.and (.call "is_tuple_of" (.ex (.var 0) (.ex (.cst (.int 3)) .nil))) (.and (.cmp .eq (.ix (.var 0) (.cst (.int 0))) (.cst (.str [112,97,105,114]))) (.and (.call "is_ahead" (.ex (.ix (.var 0) (.cst (.int 1))) (.ex (.var 1) .nil))) (.call "is_ahead" (.ex (.ix (.var 0) (.cst (.int 2))) (.ex (.var 1) .nil))))))) .nil)⟩
noncomputable def d_is_sharp_step:Df:=⟨"is_sharp_step",2,0,(.cons (.ret (.and (.call "is_tuple_of" (.ex (.var 0) (.ex (.cst (.int 2)) .nil))) (.and (.cmp .eq (.ix (.var 0) (.cst (.int 0))) (.cst (.str [115,104,97,114,112]))) (.call "is_ahead" (.ex (.ix (.var 0) (.cst (.int 1))) (.ex (.var 1) .nil)))))) .nil)⟩
noncomputable def w_sharp_2:Df:=⟨"_law_sharp",1,8,(.cons (.asg (.one 1) (.bi .len (.cons (.var 0) .nil))) (.cons (.asg (.one 2) (.lst .nil)) (.cons (.for_ (.one 3) (.rng1 (.var 1)) (.cons (.asg (.one 4) (.lst .nil)) (.cons (.for_ (.one 5) (.rng1 (.var 1)) (.cons (.asg (.one 6) (.cst (.int 3))) (.cons (.for_ (.one 7) (.rng1 (.var 1)) (.cons (.asg (.one 8) (.ix (.ix (.var 0) (.var 7)) (.var 7))) (.cons (.ite (.cmp .eq (.var 8) (.cst (.int 1))) (.cons (.asg (.one 8) (.cst (.int 2))) .nil) .nil) (.cons (.asg (.one 6) (.bi .min2 (.cons (.var 6) (.cons (.bi .max3 (.cons (.ix (.ix (.var 0) (.var 3)) (.var 7)) (.cons (.var 8) (.cons (.ix (.ix (.var 0) (.var 7)) (.var 5)) .nil)))) .nil)))) .nil)))) (.cons (.ex (.meth .append (.var 4) (.cons (.var 6) .nil))) .nil)))) (.cons (.ex (.meth .append (.var 2) (.cons (.mk .tuple (.seq (.var 4))) .nil))) .nil)))) (.cons (.ret (.mk .tuple (.seq (.var 2)))) .nil))))⟩
noncomputable def w_makings:Df:=⟨"_law_makings",4,8,(.cons (.asg (.one 4) (.lst .nil)) (.cons (.asg (.one 5) (.lst .nil)) (.cons (.asg (.one 6) (.lst .nil)) (.cons (.for_ (.one 7) (.rng1 (.bin .add (.cst (.int 1)) (.call "_law_draw" (.ex (.var 0) (.ex (.var 2) .nil))))) (.cons (.asg (.one 8) (.call "_law_draw" (.ex (.var 0) (.ex (.cst (.int 6)) .nil)))) (.cons (.asg (.one 9) (.call "_law_draw" (.ex (.var 0) (.ex (.bin .add (.var 7) (.cst (.int 1))) .nil)))) (.cons (.asg (.one 10) (.call "_law_draw" (.ex (.var 0) (.ex (.bin .add (.var 7) (.cst (.int 1))) .nil)))) (.cons (.ite (.and (.cmp .lt (.var 8) (.cst (.int 4))) (.and (.cmp .gt (.var 3) (.cst (.int 0))) (.and (.cmp .ne (.var 6) (.lst .nil)) (.cmp .gt (.var 8) (.cst (.int 0)))))) (.cons (.asg (.one 9) (.ix (.var 6) (.bin .mod (.var 10) (.bi .len (.cons (.var 6) .nil))))) (.cons (.ex (.meth .append (.var 4) (.cons (.tup (.cons (.cst (.str [115,104,97,114,112])) (.cons (.var 9) .nil))) .nil))) (.cons (.ex (.meth .append (.var 5) (.cons (.call "_law_sharp" (.ex (.ix (.var 5) (.var 9)) .nil)) .nil))) (.cons (.asg (.one 3) (.bin .sub (.var 3) (.cst (.int 1)))) .nil)))) (.cons (.ite (.and (.cmp .gt (.var 7) (.cst (.int 0))) (.cmp .lt (.var 8) (.cst (.int 5)))) (.cons (.asg (.one 9) (.bi .min2 (.cons (.var 9) (.cons (.bin .sub (.var 7) (.cst (.int 1))) .nil)))) (.cons (.asg (.one 10) (.ite (.cmp .gt (.var 8) (.cst (.int 1))) (.bi .min2 (.cons (.var 10) (.cons (.bin .sub (.var 7) (.cst (.int 1))) .nil))) (.var 9))) (.cons (.ex (.meth .append (.var 4) (.cons (.tup (.cons (.cst (.str [112,97,105,114])) (.cons (.var 9) (.cons (.var 10) .nil)))) .nil))) (.cons (.ex (.meth .append (.var 5) (.cons (.call "_law_product" (.ex (.ix (.var 5) (.var 9)) (.ex (.ix (.var 5) (.var 10)) .nil))) .nil))) .nil)))) (.cons (.asg (.one 11) (.ix (.cst (.str [97,98,99])) (.bin .mod (.var 9) (.ix (.var 1) (.cst (.int 0)))))) (.cons (.ex (.meth .append (.var 4) (.cons (.tup (.cons (.cst (.str [108,101,116,116,101,114])) (.cons (.var 11) .nil))) .nil))) (.cons (.ex (.meth .append (.var 5) (.cons (.call "_law_letter_signs" (.ex (.var 1) (.ex (.var 11) .nil))) .nil))) .nil)))) .nil)) (.cons (.ite (.cmp .eq (.call "_law_product" (.ex (.ix (.var 5) (.var 7)) (.ex (.ix (.var 5) (.var 7)) .nil))) (.ix (.var 5) (.var 7))) (.cons (.ex (.meth .append (.var 6) (.cons (.var 7) .nil))) .nil) .nil) .nil)))))) (.cons (.ret (.tup (.cons (.mk .tuple (.seq (.var 4))) (.cons (.var 5) .nil)))) .nil)))))⟩
noncomputable def jo:Df:=⟨"as_times",2,0,(.cons (.ret (.mk .list (.comp (.one 0) (.seq (.var 0)) (.ite (.cmp .eq (.ix (.var 0) (.cst (.int 0))) (.cst (.str [115,104,97,114,112]))) (.tup (.cons (.cst (.str [116,105,109,101,115])) (.cons (.ix (.var 0) (.cst (.int 1))) (.cons (.var 1) .nil)))) (.var 0)) [none,some 1]))) .nil)⟩
noncomputable def d_folded:Df:=⟨"folded",4,2,(.cons (.asg (.one 4) (.lst .nil)) (.cons (.for_ (.one 5) (.seq (.var 0)) (.cons (.ite (.cmp .eq (.ix (.var 5) (.cst (.int 0))) (.cst (.str [108,101,116,116,101,114]))) (.cons (.ex (.meth .append (.var 4) (.cons (.callV 1 (.cons (.ix (.var 5) (.cst (.int 1))) .nil)) .nil))) .nil) (.cons (.ite (.cmp .eq (.ix (.var 5) (.cst (.int 0))) (.cst (.str [112,97,105,114]))) (.cons (.ex (.meth .append (.var 4) (.cons (.callV 2 (.cons (.ix (.var 4) (.ix (.var 5) (.cst (.int 1)))) (.cons (.ix (.var 4) (.ix (.var 5) (.cst (.int 2)))) .nil))) .nil))) .nil) (.cons (.ex (.meth .append (.var 4) (.cons (.callV 3 (.cons (.ix (.var 4) (.ix (.var 5) (.cst (.int 1)))) (.cons (.ix (.var 5) (.cst (.int 2))) .nil))) .nil))) .nil)) .nil)) .nil)) (.cons (.ret (.var 4)) .nil)))⟩
noncomputable def d_counted:Df:=⟨"counted",2,0,(.cons (.ret (.callC "folded" (.ex (.var 0) (.lam "counted.2" [1] (.lam "counted.1" [] (.lam "counted.0" [] .nil)))))) .nil)⟩
noncomputable def d_counted_l0:Lm:=⟨"counted.0",2,0,(.bin .mul (.var 0) (.var 1))⟩
noncomputable def d_counted_l1:Lm:=⟨"counted.1",2,0,(.bin .add (.var 0) (.var 1))⟩
noncomputable def d_counted_l2:Lm:=⟨"counted.2",1,1,(.var 1)⟩
noncomputable def d_unrolled:Df:=⟨"unrolled",3,0,(.cons (.ret (.call "as_times" (.ex (.var 1) (.ex (.bin .mul (.bin .add (.var 2) (.cst (.int 1))) (.call "rooms_of" (.ex (.var 0) .nil))) .nil)))) .nil)⟩
noncomputable def d_lengths:Df:=⟨"lengths",3,0,(.cons (.ret (.call "counted" (.ex (.call "unrolled" (.ex (.var 0) (.ex (.var 1) (.ex (.var 2) .nil)))) (.ex (.cst (.int 1)) .nil)))) .nil)⟩
noncomputable def d_begun:Df:=⟨"begun",1,0,(.cons (.ret (.slU (.var 0) (.bin .add (.glob "MOST_WRITTEN") (.cst (.int 1))))) .nil)⟩
noncomputable def d_begun_times:Df:=⟨"begun_times",2,1,(.cons (.asg (.one 2) (.bin .add (.bin .fdiv (.glob "MOST_WRITTEN") (.bi .len (.cons (.var 0) .nil))) (.cst (.int 1)))) (.cons (.ret (.call "begun" (.ex (.bin .mul (.var 0) (.bi .min2 (.cons (.var 1) (.cons (.var 2) .nil)))) .nil))) .nil))⟩
noncomputable def d_last_word:Df:=⟨"last_word",1,1,(.cons (.asg (.one 1) (.ix (.callC "folded" (.ex (.var 0) (.lam "last_word.1" [] (.lam "last_word.0" [] (.ex (.glob "begun_times") .nil))))) (.neg (.cst (.int 1))))) (.cons (.ite (.cmp .gt (.bi .len (.cons (.var 1) .nil)) (.glob "MOST_WRITTEN")) (.cons .raise .nil) .nil) (.cons (.ret (.var 1)) .nil)))⟩
noncomputable def d_last_word_l0:Lm:=⟨"last_word.0",2,0,(.call "begun" (.ex (.bin .add (.var 0) (.var 1)) .nil))⟩
noncomputable def d_last_word_l1:Lm:=⟨"last_word.1",1,0,(.var 0)⟩
noncomputable def jf:Df:=⟨"word_unrolled",3,0,(.cons (.ret (.call "last_word" (.ex (.call "unrolled" (.ex (.var 0) (.ex (.var 1) (.ex (.var 2) .nil)))) .nil))) .nil)⟩
noncomputable def w_tall_2:Df:=⟨"_law_tall",3,2,(.cons (.asg (.one 3) (.lst (.cons (.tup (.cons (.cst (.str [108,101,116,116,101,114])) (.cons (.ix (.cst (.str [97,98,99])) (.call "_law_draw" (.ex (.var 0) (.ex (.var 1) .nil)))) .nil))) .nil))) (.cons (.for_ (.one 4) (.rng1 (.call "_law_draw" (.ex (.var 0) (.ex (.var 2) .nil)))) (.cons (.ex (.meth .append (.var 3) (.cons (.tup (.cons (.cst (.str [112,97,105,114])) (.cons (.var 4) (.cons (.bin .sub (.var 4) (.call "_law_draw" (.ex (.var 0) (.ex (.bin .add (.bi .min2 (.cons (.var 4) (.cons (.cst (.int 1)) .nil))) (.cst (.int 1))) .nil)))) .nil)))) .nil))) .nil)) (.cons (.ret (.mk .tuple (.seq (.var 3)))) .nil)))⟩
noncomputable def d_last_table:Df:=⟨"last_table",2,0,(.cons (.ret (.ix (.callC "folded" (.ex (.var 1) (.lam "last_table.0" [0] (.ex (.glob "product") (.ex (.glob "power") .nil))))) (.neg (.cst (.int 1))))) .nil)⟩
noncomputable def d_last_table_l0:Lm:=⟨"last_table.0",1,1,(.call "letter_table" (.ex (.var 1) (.ex (.var 0) .nil)))⟩
noncomputable def jb:Df:=⟨"table_unrolled",3,0,(.cons (.ret (.call "last_table" (.ex (.var 0) (.ex (.call "unrolled" (.ex (.var 0) (.ex (.var 1) (.ex (.var 2) .nil)))) .nil)))) .nil)⟩
noncomputable def w_least_3:Df:=⟨"_law_least",2,0,(.cons (.ite (.or (.isN (.var 0)) (.and (.notN (.var 1)) (.cmp .lt (.var 1) (.var 0)))) (.cons (.ret (.var 1)) .nil) .nil) (.cons (.ret (.var 0)) .nil))⟩
noncomputable def w_times:Df:=⟨"_law_times",2,6,(.cons (.asg (.one 2) (.lst .nil)) (.cons (.for_ (.one 3) (.seq (.var 0)) (.cons (.asg (.one 4) (.lst .nil)) (.cons (.for_ (.one 5) (.rng1 (.bi .len (.cons (.var 0) .nil))) (.cons (.asg (.one 6) (.cst .non)) (.cons (.for_ (.one 7) (.rng1 (.bi .len (.cons (.var 0) .nil))) (.cons (.ite (.and (.notN (.ix (.var 3) (.var 7))) (.notN (.ix (.ix (.var 1) (.var 7)) (.var 5)))) (.cons (.asg (.one 6) (.call "_law_least" (.ex (.var 6) (.ex (.bin .add (.ix (.var 3) (.var 7)) (.ix (.ix (.var 1) (.var 7)) (.var 5))) .nil)))) .nil) .nil) .nil)) (.cons (.ex (.meth .append (.var 4) (.cons (.var 6) .nil))) .nil)))) (.cons (.ex (.meth .append (.var 2) (.cons (.mk .tuple (.seq (.var 4))) .nil))) .nil)))) (.cons (.ret (.mk .tuple (.seq (.var 2)))) .nil)))⟩
noncomputable def w_power_2:Df:=⟨"_law_power",2,1,(.cons (.asg (.one 2) (.cst .non)) (.cons (.whl (.cmp .gt (.var 1) (.cst (.int 0))) (.cons (.ite (.cmp .eq (.bin .mod (.var 1) (.cst (.int 2))) (.cst (.int 1))) (.cons (.asg (.one 2) (.ite (.isN (.var 2)) (.var 0) (.call "_law_times" (.ex (.var 2) (.ex (.var 0) .nil))))) .nil) .nil) (.cons (.asg (.one 1) (.bin .fdiv (.var 1) (.cst (.int 2)))) (.cons (.ite (.cmp .gt (.var 1) (.cst (.int 0))) (.cons (.asg (.one 0) (.call "_law_times" (.ex (.var 0) (.ex (.var 0) .nil)))) .nil) .nil) .nil)))) (.cons (.ret (.var 2)) .nil)))⟩
noncomputable def w_letter_table_2:Df:=⟨"_law_letter_table",2,6,(.cons (.asg (.one 2) (.ix (.var 0) (.cst (.int 1)))) (.cons (.asg (.one 3) (.mk .list (.comp (.one 0) (.rng1 (.var 2)) (.mk .list (.comp (.one 0) (.rng1 (.var 1)) (.cst .non) [none])) [none,some 2]))) (.cons (.for_ (.tup [4,5,6,7]) (.seq (.ix (.var 0) (.cst (.int 4)))) (.cons (.ite (.cmp .eq (.var 5) (.var 1)) (.cons (.setIx (.ix (.var 3) (.var 4)) (.var 6) (.call "_law_least" (.ex (.ix (.ix (.var 3) (.var 4)) (.var 6)) (.ex (.var 7) .nil)))) .nil) .nil) .nil)) (.cons (.ret (.mk .tuple (.comp (.one 0) (.seq (.var 3)) (.mk .tuple (.seq (.var 0))) [none]))) .nil))))⟩
noncomputable def w_due_6:Df:=⟨"_law_due",3,2,(.cons (.asg (.one 3) (.lst .nil)) (.cons (.for_ (.one 4) (.seq (.var 1)) (.cons (.ite (.cmp .eq (.ix (.var 4) (.cst (.int 0))) (.cst (.str [108,101,116,116,101,114]))) (.cons (.ex (.meth .append (.var 3) (.cons (.call "_law_letter_table" (.ex (.var 0) (.ex (.ix (.var 4) (.cst (.int 1))) .nil))) .nil))) .nil) (.cons (.ite (.cmp .eq (.ix (.var 4) (.cst (.int 0))) (.cst (.str [112,97,105,114]))) (.cons (.ex (.meth .append (.var 3) (.cons (.call "_law_times" (.ex (.ix (.var 3) (.ix (.var 4) (.cst (.int 1)))) (.ex (.ix (.var 3) (.ix (.var 4) (.cst (.int 2)))) .nil))) .nil))) .nil) (.cons (.ex (.meth .append (.var 3) (.cons (.call "_law_power" (.ex (.ix (.var 3) (.ix (.var 4) (.cst (.int 1)))) (.ex (.var 2) .nil))) .nil))) .nil)) .nil)) .nil)) (.cons (.ret (.ix (.var 3) (.neg (.cst (.int 1))))) .nil)))⟩
noncomputable def w_law_k32:Df:=⟨"law",1,8,(.cons (.for_ (.one 1) (.rng1 (.bin .add (.bi .min2 (.cons (.cst (.int 4)) (.cons (.bi .len (.cons (.var 0) .nil)) .nil))) (.cst (.int 1)))) (.cons (.asg (.one 2) (.call "_law_box" (.ex (.var 0) (.ex (.var 1) .nil)))) (.cons (.asg (.one 3) (.call "_law_machine" (.ex (.var 2) .nil))) (.cons (.asg (.one 4) (.ix (.call "_law_makings" (.ex (.var 2) (.ex (.var 3) (.ex (.cst (.int 8)) (.ex (.cst (.int 3)) .nil))))) (.cst (.int 0)))) (.cons (.ite (.cmp .eq (.call "_law_draw" (.ex (.var 2) (.ex (.cst (.int 8)) .nil))) (.cst (.int 3))) (.cons (.asg (.one 4) (.call "_law_tall" (.ex (.var 2) (.ex (.ix (.var 3) (.cst (.int 0))) (.ex (.cst (.int 100)) .nil))))) .nil) .nil) (.cons (.asg (.one 5) (.call "_law_draw" (.ex (.var 2) (.ex (.bin .add (.bin .pow (.cst (.int 10)) (.cst (.int 30))) (.cst (.int 1))) .nil)))) (.cons (.ite (.cmp .gt (.var 1) (.cst (.int 0))) (.cons (.asg (.one 5) (.bin .mod (.var 5) (.bin .pow (.cst (.int 10)) (.cst (.int 9))))) .nil) .nil) (.cons (.for_ (.one 6) (.seq (.lst (.cons (.call "_law_draw" (.ex (.var 2) (.ex (.cst (.int 4)) .nil))) (.cons (.var 5) .nil)))) (.cons (.asg (.one 7) (.call "_law_due" (.ex (.var 3) (.ex (.var 4) (.ex (.bin .mul (.bin .add (.var 6) (.cst (.int 1))) (.ix (.var 3) (.cst (.int 1)))) .nil))))) (.cons (.asg (.one 8) (.call "table_unrolled" (.ex (.var 3) (.ex (.var 4) (.ex (.var 6) .nil))))) (.cons (.ite (.or (.not (.bi .isTup (.cons (.var 8) .nil))) (.cmp .ne (.var 8) (.var 7))) (.cons (.ret (.cst (.bl false))) .nil) .nil) (.cons (.ite (.cmp .le (.ix (.call "lengths" (.ex (.var 3) (.ex (.var 4) (.ex (.var 6) .nil)))) (.neg (.cst (.int 1)))) (.cst (.int 200))) (.cons (.ite (.cmp .ne (.call "word_table" (.ex (.var 3) (.ex (.call "word_unrolled" (.ex (.var 3) (.ex (.var 4) (.ex (.var 6) .nil)))) .nil))) (.var 7)) (.cons (.ret (.cst (.bl false))) .nil) .nil) .nil) .nil) .nil))))) .nil)))))))) (.cons (.ret (.cst (.bl true))) .nil))⟩
noncomputable def d_long_length:Df:=⟨"long_length",1,0,(.cons (.ret (.ix (.call "counted" (.ex (.var 0) (.ex (.cst (.int 1)) .nil))) (.neg (.cst (.int 1))))) .nil)⟩
noncomputable def d_letter_at:Df:=⟨"letter_at",2,4,(.cons (.asg (.one 2) (.call "counted" (.ex (.var 0) (.ex (.cst (.int 1)) .nil)))) (.cons (.asg (.one 3) (.ix (.var 0) (.neg (.cst (.int 1))))) (.cons (.asg (.one 4) (.var 1)) (.cons (.whl (.cmp .ne (.ix (.var 3) (.cst (.int 0))) (.cst (.str [108,101,116,116,101,114]))) (.cons (.asg (.one 5) (.ix (.var 3) (.cst (.int 1)))) (.cons (.ite (.cmp .eq (.ix (.var 3) (.cst (.int 0))) (.cst (.str [116,105,109,101,115]))) (.cons (.asg (.one 4) (.bin .mod (.var 4) (.ix (.var 2) (.var 5)))) .nil) (.cons (.ite (.cmp .ge (.var 4) (.ix (.var 2) (.var 5))) (.cons (.asg (.one 4) (.bin .sub (.var 4) (.ix (.var 2) (.var 5)))) (.cons (.asg (.one 5) (.ix (.var 3) (.cst (.int 2)))) .nil)) .nil) .nil)) (.cons (.asg (.one 3) (.ix (.var 0) (.var 5))) .nil)))) (.cons (.ret (.ix (.var 3) (.cst (.int 1)))) .nil)))))⟩
noncomputable def d_long_word:Df:=⟨"long_word",1,0,(.cons (.ret (.call "last_word" (.ex (.var 0) .nil))) .nil)⟩
noncomputable def d_long_table:Df:=⟨"long_table",2,0,(.cons (.ret (.call "last_table" (.ex (.var 0) (.ex (.var 1) .nil)))) .nil)⟩
noncomputable def d_long_price:Df:=⟨"long_price",2,0,(.cons (.ret (.call "least" (.ex (.call "at_begins_and_ends" (.ex (.var 0) (.ex (.call "long_table" (.ex (.var 0) (.ex (.var 1) .nil))) .nil))) .nil))) .nil)⟩
noncomputable def w_recipe_2:Df:=⟨"_law_recipe",4,6,(.cons (.asg (.one 4) (.lst .nil)) (.cons (.for_ (.one 5) (.rng1 (.bin .add (.cst (.int 1)) (.call "_law_draw" (.ex (.var 0) (.ex (.var 2) .nil))))) (.cons (.asg (.one 6) (.call "_law_draw" (.ex (.var 0) (.ex (.cst (.int 6)) .nil)))) (.cons (.asg (.one 7) (.call "_law_draw" (.ex (.var 0) (.ex (.bin .add (.var 5) (.cst (.int 1))) .nil)))) (.cons (.asg (.one 8) (.call "_law_draw" (.ex (.var 0) (.ex (.bin .add (.var 5) (.cst (.int 1))) .nil)))) (.cons (.asg (.one 9) (.bin .add (.cst (.int 1)) (.call "_law_draw" (.ex (.var 0) (.ex (.cst (.int 6)) .nil))))) (.cons (.ite (.cmp .eq (.call "_law_draw" (.ex (.var 0) (.ex (.cst (.int 3)) .nil))) (.cst (.int 2))) (.cons (.asg (.one 9) (.bin .add (.cst (.int 1)) (.call "_law_draw" (.ex (.var 0) (.ex (.bin .pow (.cst (.int 10)) (.cst (.int 30))) .nil))))) .nil) .nil) (.cons (.ite (.and (.cmp .gt (.var 5) (.cst (.int 0))) (.and (.cmp .lt (.var 6) (.cst (.int 3))) (.cmp .gt (.var 3) (.cst (.int 0))))) (.cons (.ex (.meth .append (.var 4) (.cons (.tup (.cons (.cst (.str [116,105,109,101,115])) (.cons (.bi .min2 (.cons (.var 7) (.cons (.bin .sub (.var 5) (.cst (.int 1))) .nil))) (.cons (.var 9) .nil)))) .nil))) (.cons (.asg (.one 3) (.bin .sub (.var 3) (.cst (.int 1)))) .nil)) (.cons (.ite (.and (.cmp .gt (.var 5) (.cst (.int 0))) (.cmp .lt (.var 6) (.cst (.int 5)))) (.cons (.ex (.meth .append (.var 4) (.cons (.tup (.cons (.cst (.str [112,97,105,114])) (.cons (.bi .min2 (.cons (.var 7) (.cons (.bin .sub (.var 5) (.cst (.int 1))) .nil))) (.cons (.bi .min2 (.cons (.var 8) (.cons (.bin .sub (.var 5) (.cst (.int 1))) .nil))) .nil)))) .nil))) .nil) (.cons (.ex (.meth .append (.var 4) (.cons (.tup (.cons (.cst (.str [108,101,116,116,101,114])) (.cons (.ix (.cst (.str [97,98,99])) (.bin .mod (.var 7) (.var 1))) .nil))) .nil))) .nil)) .nil)) .nil))))))) (.cons (.ret (.mk .tuple (.seq (.var 4)))) .nil)))⟩
noncomputable def w_due_8:Df:=⟨"_law_due",2,2,(.cons (.asg (.one 2) (.lst .nil)) (.cons (.for_ (.one 3) (.seq (.var 1)) (.cons (.ite (.cmp .eq (.ix (.var 3) (.cst (.int 0))) (.cst (.str [108,101,116,116,101,114]))) (.cons (.ex (.meth .append (.var 2) (.cons (.call "_law_letter_table" (.ex (.var 0) (.ex (.ix (.var 3) (.cst (.int 1))) .nil))) .nil))) .nil) (.cons (.ite (.cmp .eq (.ix (.var 3) (.cst (.int 0))) (.cst (.str [112,97,105,114]))) (.cons (.ex (.meth .append (.var 2) (.cons (.call "_law_times" (.ex (.ix (.var 2) (.ix (.var 3) (.cst (.int 1)))) (.ex (.ix (.var 2) (.ix (.var 3) (.cst (.int 2)))) .nil))) .nil))) .nil) (.cons (.ex (.meth .append (.var 2) (.cons (.call "_law_power" (.ex (.ix (.var 2) (.ix (.var 3) (.cst (.int 1)))) (.ex (.ix (.var 3) (.cst (.int 2))) .nil))) .nil))) .nil)) .nil)) .nil)) (.cons (.ret (.ix (.var 2) (.neg (.cst (.int 1))))) .nil)))⟩
noncomputable def w_price_4:Df:=⟨"_law_price",2,3,(.cons (.asg (.one 2) (.cst .non)) (.cons (.for_ (.one 3) (.seq (.ix (.var 0) (.cst (.int 2)))) (.cons (.for_ (.one 4) (.seq (.ix (.var 0) (.cst (.int 3)))) (.cons (.ite (.notN (.ix (.ix (.var 1) (.var 3)) (.var 4))) (.cons (.asg (.one 2) (.call "_law_least" (.ex (.ix (.ix (.var 1) (.var 3)) (.var 4)) (.ex (.var 2) .nil)))) .nil) .nil) .nil)) .nil)) (.cons (.ret (.var 2)) .nil)))⟩
noncomputable def w_tamed:Df:=⟨"_law_tamed",2,2,(.cons (.asg (.one 2) (.lst .nil)) (.cons (.for_ (.one 3) (.seq (.var 0)) (.cons (.ite (.and (.cmp .eq (.ix (.var 3) (.cst (.int 0))) (.cst (.str [116,105,109,101,115]))) (.cmp .gt (.ix (.var 3) (.cst (.int 2))) (.cst (.int 1000)))) (.cons (.ite (.cmp .gt (.var 1) (.cst (.int 0))) (.cons (.asg (.one 1) (.bin .sub (.var 1) (.cst (.int 1)))) .nil) (.cons (.asg (.one 3) (.tup (.cons (.cst (.str [116,105,109,101,115])) (.cons (.ix (.var 3) (.cst (.int 1))) (.cons (.bin .add (.cst (.int 1)) (.bin .mod (.ix (.var 3) (.cst (.int 2))) (.cst (.int 1000)))) .nil))))) .nil)) .nil) .nil) (.cons (.ex (.meth .append (.var 2) (.cons (.var 3) .nil))) .nil))) (.cons (.ret (.mk .tuple (.seq (.var 2)))) .nil)))⟩
noncomputable def w_law_k40:Df:=⟨"law",1,8,(.cons (.for_ (.one 1) (.rng1 (.bin .add (.bi .min2 (.cons (.cst (.int 2)) (.cons (.bi .len (.cons (.var 0) .nil)) .nil))) (.cst (.int 1)))) (.cons (.asg (.one 2) (.call "_law_box" (.ex (.var 0) (.ex (.var 1) .nil)))) (.cons (.asg (.one 3) (.call "_law_machine" (.ex (.var 2) .nil))) (.cons (.asg (.one 4) (.call "_law_recipe" (.ex (.var 2) (.ex (.ix (.var 3) (.cst (.int 0))) (.ex (.cst (.int 8)) (.ex (.cst (.int 3)) .nil)))))) (.cons (.ite (.cmp .eq (.call "_law_draw" (.ex (.var 2) (.ex (.cst (.int 8)) .nil))) (.cst (.int 3))) (.cons (.asg (.one 4) (.call "_law_tall" (.ex (.var 2) (.ex (.ix (.var 3) (.cst (.int 0))) (.ex (.cst (.int 60)) .nil))))) .nil) .nil) (.cons (.asg (.one 4) (.call "_law_tamed" (.ex (.var 4) (.ex (.bin .mul (.cst (.int 2)) (.bi .int (.cons (.and (.cmp .eq (.var 1) (.cst (.int 0))) (.cmp .lt (.ix (.var 3) (.cst (.int 1))) (.cst (.int 4)))) .nil))) .nil)))) (.cons (.asg (.one 5) (.call "_law_due" (.ex (.var 3) (.ex (.var 4) .nil)))) (.cons (.asg (.one 6) (.call "long_table" (.ex (.var 3) (.ex (.var 4) .nil)))) (.cons (.asg (.one 7) (.call "long_price" (.ex (.var 3) (.ex (.var 4) .nil)))) (.cons (.ite (.or (.not (.bi .isTup (.cons (.var 6) .nil))) (.or (.cmp .ne (.var 6) (.var 5)) (.or (.cmp .ne (.var 7) (.call "_law_price" (.ex (.var 3) (.ex (.var 5) .nil)))) (.bi .isBool (.cons (.var 7) .nil))))) (.cons (.ret (.cst (.bl false))) .nil) .nil) (.cons (.ite (.cmp .le (.call "long_length" (.ex (.var 4) .nil)) (.cst (.int 200))) (.cons (.asg (.one 8) (.call "long_word" (.ex (.var 4) .nil))) (.cons (.ite (.or (.cmp .ne (.call "word_table" (.ex (.var 3) (.ex (.var 8) .nil))) (.var 5)) (.cmp .ne (.call "price" (.ex (.var 3) (.ex (.var 8) .nil))) (.var 7))) (.cons (.ret (.cst (.bl false))) .nil) .nil) .nil)) .nil) .nil))))))))))) (.cons (.ret (.cst (.bl true))) .nil))⟩
noncomputable def w_on:Df:=⟨"_law_on",3,5,(.cons (.asg (.one 3) (.mk .list (.comp (.one 0) (.seq (.var 2)) (.cst .non) [none]))) (.cons (.for_ (.tup [4,5,6,7]) (.seq (.ix (.var 0) (.cst (.int 4)))) (.cons (.ite (.and (.cmp .eq (.var 5) (.var 1)) (.notN (.ix (.var 2) (.var 4)))) (.cons (.ite (.or (.isN (.ix (.var 3) (.var 6))) (.cmp .lt (.bin .add (.ix (.var 2) (.var 4)) (.var 7)) (.ix (.var 3) (.var 6)))) (.cons (.setIx (.var 3) (.var 6) (.bin .add (.ix (.var 2) (.var 4)) (.var 7))) .nil) .nil) .nil) .nil) .nil)) (.cons (.ret (.var 3)) .nil)))⟩
class Has (P:Pr)(d:Df):Prop where
 eq:P.df d.name=some d
class HasL (P:Pr)(d:Lm):Prop where
 eq:P.lm d.id=some d
class HasC (P:Pr)(x:String)(v:D):Prop where
 eq:P.con x=some v
noncomputable def fin (s:Sto)(c:Ct)(s':Sto):R D:=match c with
 | .ret v=>zQ s v s'
 | .next _=>zQ s .non s'
 | _=>.bad
@[simp] theorem qu (s:Sto) (v:D) (s':Sto):fin s (.ret v) s'=zQ s v s':=rfl
@[simp] theorem fin_next (s:Sto) (ρ:Env) (s':Sto):fin s (.next ρ) s'=zQ s .non s':=rfl
theorem zd {P:Pr}(d:Df)[h:Has P d]{n:Nat}{l:List D}{s:Sto}(hl:l.length=d.ps) :
  (callN P (n+1)).call d.name l s=(exs (callN P n) d.body (l.map some++ao d.vs none) s).bind (fin s):=by
 simp only[callN,h.eq,hl,if_true]
 rfl
theorem qU {P:Pr}(d:Lm)[h:HasL P d]{n:Nat}{cs l:List D}{s:Sto}(hl:l.length=d.ps)(hc:cs.length=d.cs)(hn:(D.nclL l&&D.nclL cs&&s.all O.ncl)=true) :
  (callN P (n+1)).lam d.id cs l s=(ev (callN P n) d.body (l.map some++cs.map some) s).bind (zQ s):=by
 simp only[callN,h.eq,hl,hc,hn,and_self,if_true]
theorem con_def {P:Pr}{x:String}{v:D}[h:HasC P x v]{n:Nat}:(callN P n).con x=some v:=by
 cases n<;>exact h.eq
theorem okOld_app (s t:Sto):okOld s (s++t)=true:=by
 unfold okOld
 rw[aP]
 intro i h
 rw[bq]at h
 rw[aD h]
 simp
theorem okOld_set (s t:Sto)(r:Nat)(o:O)(h:o.bnd s.length=true):okOld s (s.set r o++t)=true:=by
 unfold okOld
 rw[aP]
 intro i y
 rw[bq]at y
 rw[aD (by rw[bA];exact y)]
 by_cases e:r=i
 ·subst e;rw[aY y];simp[h]
 ·rw[be e];simp
theorem zF {s t:Sto}{d:D}(h:∀ n,d.bnd n=true)(y:∀ r,d≠.ref r):zQ s d (s++t)=.ok d s:=by
 unfold zQ
 rw[okOld_app,if_pos rfl]
 cases d with
 | ref r=>exact absurd rfl (y r)
 | _=>simp[h]
theorem zr {s:Sto}{d:D}(h:∀ n,d.bnd n=true)(y:∀ r,d≠.ref r):zQ s d s=.ok d s:=by
 have:=zF (s:=s) (t:=[]) h y
 rwa [bE]at this
theorem canon_set {s t:Sto}{d:D}{r:Nat}{o:O}(h:∀ n,d.bnd n=true)(y:∀ r,d≠.ref r)(ho:o.bnd s.length=true):zQ s d (s.set r o++t)=.ok d (s.set r o):=by
 unfold zQ
 rw[okOld_set s t r o ho,if_pos rfl]
 have e:(s.set r o++t).take s.length=s.set r o:=by rw[cN (by simp),cr (by simp)]
 cases d with
 | ref r=>exact absurd rfl (y r)
 | _=>simp only[h,if_true,e]
theorem canon_set0 {s:Sto}{d:D}{r:Nat}{o:O}(h:∀ n,d.bnd n=true)(y:∀ r,d≠.ref r)(ho:o.bnd s.length=true):zQ s d (s.set r o)=.ok d (s.set r o):=by
 have:=canon_set (s:=s) (t:=[]) (r:=r) h y ho
 rwa [bE]at this
theorem canon_new {s t u:Sto}{o:O}(ho:o.bnd s.length=true):zQ s (.ref (s.length+t.length)) (s++(t++o::u))=.ok (.ref s.length) (s++[o]):=by
 unfold zQ
 rw[okOld_app,if_pos rfl]
 simp[ho,ak]
@[simp] theorem z8 {s:Sto} {i:Int}:zQ s (.int i) s=.ok (.int i) s:=zr (λ _=>rfl) (by nofun)
@[simp] theorem canon_bl {s:Sto} {i:Bool}:zQ s (.bl i) s=.ok (.bl i) s:=zr (λ _=>rfl) (by nofun)
@[simp] theorem canon_non {s:Sto}:zQ s .non s=.ok .non s:=zr (λ _=>rfl) (by nofun)
@[simp] theorem canon_str {s:Sto} {x:List Nat}:zQ s (.str x) s=.ok (.str x) s:=zr (λ _=>rfl) (by nofun)
theorem jg {c:Env->Sto->R D}{g:Env->Sto->R Ct}:∀ {n:Nat} {ρ:Env} {s:Sto},jF c g n ρ s≠.bad->jF c g (n+1) ρ s=jF c g n ρ s
 | 0,_,_,h=>absurd rfl h
 | n+1,ρ,s,h=>by
  rw[show jF c g (n+1+1) ρ s=tru (c ρ s) (λ b s=>if b then(g ρ s).bind λ y s=>match y with
   | .next ρ=>jF c g (n+1) ρ s|.cont ρ=>jF c g (n+1) ρ s|.brk ρ=>.ok (.next ρ) s|.ret d=>.ok (.ret d) s else .ok (.next ρ) s)from rfl]
  have e:jF c g (n+1) ρ s=tru (c ρ s) (λ b s=>if b then(g ρ s).bind λ y s=>match y with
   | .next ρ=>jF c g n ρ s|.cont ρ=>jF c g n ρ s|.brk ρ=>.ok (.next ρ) s|.ret d=>.ok (.ret d) s else .ok (.next ρ) s):=rfl
  rw[e]at h ⊢
  unfold tru at h ⊢
  cases hc:c ρ s with
  | exc _ _=>rfl
  | bad=>rfl
  | ok d s1 =>
   rw[hc]at h
   cases d with
   | bl b =>
    cases b with
    | false=>rfl
    | true =>
     simp only[R.bind_ok,if_true]at h ⊢
     cases hg:g ρ s1 with
     | exc _ _=>rfl
     | bad=>rfl
     | ok y s2 =>
      rw[hg]at h
      simp only[R.bind_ok]at h ⊢
      cases y with
      | next ρ'=>exact jg h
      | cont ρ'=>exact jg h
      | _=>rfl
   | _=>rfl
theorem qF {c:Env->Sto->R D}{g:Env->Sto->R Ct}{n:Nat}{ρ:Env}{s:Sto}(h:jF c g n ρ s≠.bad):∀ k,jF c g (n+k) ρ s=jF c g n ρ s
 | 0=>rfl
 | k+1=>by
  have e:=qF h k
  rw[<-Nat.add_assoc,jg (by rw[e];exact h),e]
theorem whl_of {c:Env->Sto->R D}{g:Env->Sto->R Ct}{n:Nat}{ρ:Env}{s:Sto}{r:Ct}{t:Sto}(h:jF c g n ρ s=.ok r t):whl c g ρ s=.ok r t:=by
 have hb:jF c g n ρ s≠.bad:=by rw[h];nofun
 have hx:∃ n,jF c g n ρ s≠.bad:=⟨n,hb⟩
 unfold whl
 rw[dif_pos hx]
 have C:=qF hx.choose_spec n
 have y:=qF hb hx.choose
 rw[<-C,gm,y,h]
theorem whl_turn {c:Env->Sto->R D}{g:Env->Sto->R Ct}{ρ ρ':Env}{s s1 s':Sto}(hc:c ρ s=.ok (.bl true) s1)(C:g ρ s1=.ok (.next ρ') s'):whl c g ρ s=whl c g ρ' s':=by
 have key:∀ n,jF c g (n+1) ρ s=jF c g n ρ' s':=λ n=>by
  show tru (c ρ s) _=_
  rw[hc,zJ,if_pos rfl,C];rfl
 unfold whl
 by_cases hx:∃ n,jF c g n ρ' s'≠.bad
 ·have hy:∃ n,jF c g n ρ s≠.bad:=⟨hx.choose+1,by rw[key];exact hx.choose_spec⟩
  rw[dif_pos hx,dif_pos hy]
  have y:=qF hy.choose_spec (hx.choose+1)
  have h:=qF (n:=hx.choose+1) (ρ:=ρ) (s:=s) (by rw[key];exact hx.choose_spec) hy.choose
  rw[<-y,gm,h,key]
 ·have hy:¬ ∃ n,jF c g n ρ s≠.bad:=λ⟨n,hn⟩=>by
   cases n with
   | zero=>exact hn rfl
   | succ n=>exact hx ⟨n,by rw[<-key];exact hn⟩
  rw[dif_neg hx,dif_neg hy]
theorem whl_end {c:Env->Sto->R D}{g:Env->Sto->R Ct}{ρ:Env}{s s1:Sto}(hc:c ρ s=.ok (.bl false) s1):whl c g ρ s=.ok (.next ρ) s1 :=
 whl_of (n:=1) (by show tru (c ρ s) _=_;rw[hc,zJ];rfl)
theorem qd {ok:Sto->Bool}{g:D->Env->Sto->R Ct}(P:Nat->Env->Sto->Prop):∀(l:List D) (k:Nat) (ρ:Env) (s:Sto),
  P k ρ s->(∀(j:Nat) (ρ:Env) (s:Sto),j<=l.length->P (k+j) ρ s->ok s=true)->(∀(j:Nat) (d:D) (ρ:Env) (s:Sto),l[j]?=some d->P (k+j) ρ s->∃ ρ' s',(g d ρ s=.ok (.next ρ') s'\/g d ρ s=.ok (.cont ρ') s')/\P (k+j+1) ρ' s') ->
  ∃ ρ' s',forL ok g l ρ s=.ok (.next ρ') s'/\P (k+l.length) ρ' s'
 | [],k,ρ,s,h,o,_=>⟨ρ,s,by show(if ok s then _ else _)=_;rw[if_pos (o 0 ρ s (ah _) h)],h⟩
 | d::l,k,ρ,s,h,o,t=>by
  have ho:=o 0 ρ s (dj _) h
  obtain⟨ρ1,s1,y,G⟩:=t 0 d ρ s rfl h
  obtain⟨ρ2,s2,e,J⟩:=qd P l (k+1) ρ1 s1 G (λ j ρ' s' hj C=>o (j+1) ρ' s' (by simpa using hj) (by rwa [show k+(j+1)=k+1+j by omega])) λ j d' ρ' s' hj C=>by
   have:=t (j+1) d' ρ' s' (by simpa using hj) (by rwa [show k+(j+1)=k+1+j by omega])
   rwa [show k+(j+1)+1=k+1+j+1 by omega]at this
  refine⟨ρ2,s2,?_,by rwa [aW,show k+(l.length+1)=k+1+l.length by omega]⟩
  show(if ok s then _ else _)=_
  rw[if_pos ho]
  rcases y with y|y<;>(rw[y];exact e)
noncomputable def Nx (Q:Env->Sto->Prop):R Ct->Prop
 | .ok (.next ρ) s=>Q ρ s
 | .ok (.cont ρ) s=>Q ρ s
 | _=>False
@[simp] theorem Nx_next (Q:Env->Sto->Prop) (ρ:Env) (s:Sto):Nx Q (.ok (.next ρ) s)=Q ρ s:=rfl
@[simp] theorem Nx_cont (Q:Env->Sto->Prop) (ρ:Env) (s:Sto):Nx Q (.ok (.cont ρ) s)=Q ρ s:=rfl
theorem Nx_of {Q:Env->Sto->Prop}{r:R Ct}{ρ:Env}{s:Sto}(e:r=.ok (.next ρ) s)(h:Q ρ s):Nx Q r:=by rw[e];exact h
theorem Nx.out {Q:Env->Sto->Prop}:∀ {r:R Ct},Nx Q r->∃ ρ s,(r=.ok (.next ρ) s\/r=.ok (.cont ρ) s)/\Q ρ s
 | .ok (.next ρ) s,h=>⟨ρ,s,.inl rfl,h⟩
 | .ok (.cont ρ) s,h=>⟨ρ,s,.inr rfl,h⟩
 | .ok (.ret _) _,h=>h.elim
 | .ok (.brk _) _,h=>h.elim
 | .exc _ _,h=>h.elim
 | .bad,h=>h.elim
noncomputable def Tst (A B:Sto->Prop):R D->Prop
 | .ok (.bl false) s=>A s
 | .ok (.bl true) s=>B s
 | _=>False
@[simp] theorem Tst_bl (A B:Sto->Prop) (b:Bool) (s:Sto):Tst A B (.ok (.bl b) s)=if b then B s else A s:=by cases b<;>rfl
theorem Tst.out {A B:Sto->Prop}:∀ {r:R D},Tst A B r->(∃ s,r=.ok (.bl false) s/\A s)\/∃ s,r=.ok (.bl true) s/\B s
 | .ok (.bl false) s,h=>.inl ⟨s,rfl,h⟩
 | .ok (.bl true) s,h=>.inr ⟨s,rfl,h⟩
 | .ok .non _,h=>h.elim
 | .ok (.int _) _,h=>h.elim
 | .ok (.str _) _,h=>h.elim
 | .ok (.tup _) _,h=>h.elim
 | .ok (.ref _) _,h=>h.elim
 | .ok (.fn _) _,h=>h.elim
 | .ok (.clo _ _) _,h=>h.elim
 | .exc _ _,h=>h.elim
 | .bad,h=>h.elim
theorem whl_cont {c:Env->Sto->R D}{g:Env->Sto->R Ct}{ρ ρ':Env}{s s1 s':Sto}(hc:c ρ s=.ok (.bl true) s1)(C:g ρ s1=.ok (.cont ρ') s'):whl c g ρ s=whl c g ρ' s':=by
 have key:∀ n,jF c g (n+1) ρ s=jF c g n ρ' s':=λ n=>by
  show tru (c ρ s) _=_
  rw[hc,zJ,if_pos rfl,C];rfl
 unfold whl
 by_cases hx:∃ n,jF c g n ρ' s'≠.bad
 ·have hy:∃ n,jF c g n ρ s≠.bad:=⟨hx.choose+1,by rw[key];exact hx.choose_spec⟩
  rw[dif_pos hx,dif_pos hy]
  have y:=qF hy.choose_spec (hx.choose+1)
  have h:=qF (n:=hx.choose+1) (ρ:=ρ) (s:=s) (by rw[key];exact hx.choose_spec) hy.choose
  rw[<-y,gm,h,key]
 ·have hy:¬ ∃ n,jF c g n ρ s≠.bad:=λ⟨n,hn⟩=>by
   cases n with
   | zero=>exact hn rfl
   | succ n=>exact hx ⟨n,by rw[<-key];exact hn⟩
  rw[dif_neg hx,dif_neg hy]
theorem whl_ex {c:Env->Sto->R D}{g:Env->Sto->R Ct}(P:Nat->Env->Sto->Prop)(Q:Env->Sto->Prop)
  (step:∀ k ρ s,P k ρ s->Tst (λ s1=>Q ρ s1) (λ s1=>Nx (λ ρ' s'=>∃ y,y<k/\P y ρ' s') (g ρ s1)) (c ρ s)) :
  ∀(k:Nat) (ρ:Env) (s:Sto),P k ρ s->∃ ρ' s',whl c g ρ s=.ok (.next ρ') s'/\Q ρ' s':=by
 intro k
 induction k using eM with
 | _ k ih =>
  intro ρ s h
  rcases(step k ρ s h).out with⟨s1,hc,hq⟩|⟨s1,hc,hn⟩
  ·exact⟨ρ,s1,whl_end hc,hq⟩
  ·obtain⟨ρ',s',C,y,hk,G⟩:=hn.out
   rcases C with C|C
   ·rw[whl_turn hc C];exact ih y hk ρ' s' G
   ·rw[whl_cont hc C];exact ih y hk ρ' s' G
theorem whl_want {c:Env->Sto->R D}{g:Env->Sto->R Ct}{ρ:Env}{s:Sto}{α:Type}{f:Ct->Sto->R α}{W:R α->Prop}(P:Nat->Env->Sto->Prop)(Q:Env->Sto->Prop)(k:Nat)(h:P k ρ s)
  (step:∀ k ρ s,P k ρ s->Tst (λ s1=>Q ρ s1) (λ s1=>Nx (λ ρ' s'=>∃ y,y<k/\P y ρ' s') (g ρ s1)) (c ρ s))
  (C:∀ ρ' s',Q ρ' s'->W (f (.next ρ') s')):W ((whl c g ρ s).bind f):=by
 obtain⟨ρ',s',e,q⟩:=whl_ex P Q step k ρ s h
 rw[e]
 exact C ρ' s' q
theorem whl_bind {c:Env->Sto->R D}{g:Env->Sto->R Ct}{ρ:Env}{s:Sto}{α:Type}{f:Ct->Sto->R α}{x:R α}(P:Nat->Env->Sto->Prop)(Q:Env->Sto->Prop)(k:Nat)(h:P k ρ s)
  (step:∀ k ρ s,P k ρ s->Tst (λ s1=>Q ρ s1) (λ s1=>Nx (λ ρ' s'=>∃ y,y<k/\P y ρ' s') (g ρ s1)) (c ρ s))
  (C:∀ ρ' s',Q ρ' s'->f (.next ρ') s'=x):(whl c g ρ s).bind f=x:=whl_want (W:=(·=x)) P Q k h step C
theorem for_want {ok:Sto->Bool}{g:D->Env->Sto->R Ct}{l:List D}{ρ:Env}{s:Sto}{α:Type}{f:Ct->Sto->R α}{W:R α->Prop}(P:Nat->Env->Sto->Prop)(h:P 0 ρ s)
  (o:∀(j:Nat) (ρ:Env) (s:Sto),j<=l.length->P j ρ s->ok s=true) (step:∀(j:Nat) (d:D) (ρ:Env) (s:Sto),l[j]?=some d->P j ρ s->Nx (P (j+1)) (g d ρ s))
  (C:∀ ρ' s',P l.length ρ' s'->W (f (.next ρ') s')):W ((forL ok g l ρ s).bind f):=by
 obtain⟨ρ',s',e,q⟩:=qd P l 0 ρ s h (λ j ρ s hj y=>o j ρ s hj (by rwa [aU]at y)) (λ j d ρ s hj y=>by
  rw[aU]at y ⊢
  exact(step j d ρ s hj y).out)
 rw[e]
 rw[aU]at q
 exact C ρ' s' q
theorem for_bind {ok:Sto->Bool}{g:D->Env->Sto->R Ct}{l:List D}{ρ:Env}{s:Sto}{α:Type}{f:Ct->Sto->R α}{x:R α}(P:Nat->Env->Sto->Prop)(h:P 0 ρ s)
  (o:∀(j:Nat) (ρ:Env) (s:Sto),j<=l.length->P j ρ s->ok s=true) (step:∀(j:Nat) (d:D) (ρ:Env) (s:Sto),l[j]?=some d->P j ρ s->Nx (P (j+1)) (g d ρ s))
  (y:∀ ρ' s',P l.length ρ' s'->f (.next ρ') s'=x):(forL ok g l ρ s).bind f=x:=for_want (W:=(·=x)) P h o step y
section
variable {F:Fns} {ρ:Env} {s:Sto}
@[simp] theorem zg (i:Nat):ev F (.var i) ρ s=getV ρ i s:=rfl
@[simp] theorem zx (c:Cn):ev F (.cst c) ρ s=.ok c.d s:=rfl
@[simp] theorem qL (op:BOp) (a b:E):ev F (.bin op a b) ρ s=(ev F a ρ s).bind λ x s=>(ev F b ρ s).bind λ y s=>qM op x y s:=rfl
@[simp] theorem ev_not (a:E):ev F (.not a) ρ s=tru (ev F a ρ s) λ b s=>.ok (.bl (!b)) s:=rfl
@[simp] theorem zK (op:COp) (a b:E):ev F (.cmp op a b) ρ s=(ev F a ρ s).bind λ x s=>(ev F b ρ s).bind λ y s=>qv op x y s:=rfl
@[simp] theorem ev_chain (o p:COp) (a b c:E):ev F (.chain o p a b c) ρ s=(ev F a ρ s).bind λ x s=>(ev F b ρ s).bind λ y s=>tru (qv o x y s) λ k s=>if k then(ev F c ρ s).bind λ z s=>qv p y z s else .ok (.bl false) s:=rfl
@[simp] theorem ev_isN (a:E):ev F (.isN a) ρ s=(ev F a ρ s).bind λ x s=>.ok (.bl (decide (x=.non))) s:=rfl
@[simp] theorem ev_notN (a:E):ev F (.notN a) ρ s=(ev F a ρ s).bind λ x s=>.ok (.bl (!decide (x=.non))) s:=rfl
@[simp] theorem ev_and (a b:E):ev F (.and a b) ρ s=tru (ev F a ρ s) λ c s=>if c then tru (ev F b ρ s) λ c s=>.ok (.bl c) s else .ok (.bl false) s:=rfl
@[simp] theorem ev_or (a b:E):ev F (.or a b) ρ s=tru (ev F a ρ s) λ c s=>if c then .ok (.bl true) s else tru (ev F b ρ s) λ c s=>.ok (.bl c) s:=rfl
@[simp] theorem ev_ite (c a b:E):ev F (.ite c a b) ρ s=tru (ev F c ρ s) λ k s=>if k then ev F a ρ s else ev F b ρ s:=rfl
@[simp] theorem ev_tup (es:Es):ev F (.tup es) ρ s=(evs F es ρ s).bind λ l s=>.ok (.tup l) s:=rfl
@[simp] theorem ev_lst (es:Es):ev F (.lst es) ρ s=(evs F es ρ s).bind λ l s=>alloc (.lst l) s:=rfl
@[simp] theorem qQ (a b:E):ev F (.ix a b) ρ s=(ev F a ρ s).bind λ x s=>(ev F b ρ s).bind λ y s=>ixM x y s:=rfl
@[simp] theorem qJ (f:String) (h:As):ev F (.call f h) ρ s=(evas F h ρ s).bind λ l s=>F.call f l s:=rfl
@[simp] theorem jr (f:String) (h:As):ev F (.callC f h) ρ s=(evas F h ρ s).bind λ l s=>(F.call f l s).bind λ d s'=>if(d.ncl&&s'.all O.ncl)=true then .ok d s' else .bad:=rfl
@[simp] theorem ev_bi (b:Bi) (es:Es):ev F (.bi b es) ρ s=(evs F es ρ s).bind λ l s=>bi b l s:=rfl
@[simp] theorem ev_mk (k:Mk) (h:L):ev F (.mk k h) ρ s=(evL F h ρ s).bind λ q s=>mk k q s:=rfl
@[simp] theorem ev_mkD (k:Mk) (h:L) (d:E):ev F (.mkD k h d) ρ s=(evL F h ρ s).bind λ q s=>(ev F d ρ s).bind λ d s=>mkD k q d s:=rfl
@[simp] theorem ev_mks (k:Mk) (e:E):ev F (.mks k e) ρ s=(ev F e ρ s).bind λ x s=>(lstR x s).bind λ q s=>mk k q s:=rfl
@[simp] theorem ev_mkDs (k:Mk) (e d:E):ev F (.mkDs k e d) ρ s=(ev F e ρ s).bind λ x s=>(ev F d ρ s).bind λ z s=>(lstR x s).bind λ q s=>mkD k q z s:=rfl
@[simp] theorem qt (m:Mt) (o:E) (es:Es):ev F (.meth m o es) ρ s=(ev F o ρ s).bind λ x s=>(evs F es ρ s).bind λ l s=>meth m x l s:=rfl
@[simp] theorem ev_extS (o e:E):ev F (.extS o e) ρ s=(ev F o ρ s).bind λ x s=>(ev F e ρ s).bind λ y s=>extS x y s:=rfl
@[simp] theorem ev_rev (a:E):ev F (.rev a) ρ s=(ev F a ρ s).bind λ x s=>revM x s:=rfl
@[simp] theorem ev_ext (o:E) (h:L):ev F (.ext o h) ρ s=(ev F o ρ s).bind λ x s=>(evL F h ρ s).bind λ q s=>extM x q s:=rfl
@[simp] theorem zy:evs F .nil ρ s=.ok [] s:=rfl
@[simp] theorem zv (e:E) (es:Es):evs F (.cons e es) ρ s=(ev F e ρ s).bind λ d s=>(evs F es ρ s).bind λ l s=>.ok (d::l) s:=rfl
@[simp] theorem zP:evas F .nil ρ s=.ok [] s:=rfl
@[simp] theorem zT (e:E) (h:As):evas F (.ex e h) ρ s=(ev F e ρ s).bind λ d s=>(evas F h ρ s).bind λ l s=>.ok (d::l) s:=rfl
@[simp] theorem evas_fn (f:String) (h:As):evas F (.fn f h) ρ s=(evas F h ρ s).bind λ l s=>.ok (.fn f::l) s:=rfl
@[simp] theorem evI_seq (e:E):evI F (.seq e) ρ s=(ev F e ρ s).bind λ d s=>seqM d s:=rfl
@[simp] theorem evL_disp (es:Es):evL F (.disp es) ρ s=evs F es ρ s:=rfl
@[simp] theorem evL_seq (e:E):evL F (.seq e) ρ s=(ev F e ρ s).bind λ d s=>lstM d s:=rfl
noncomputable def rng1M (x:D):M Sq:=λ s=>match x with|.int i=>if -W62<=i/\i<W62 then .ok ⟨jj 0 i,[]⟩ s else .bad|_=>.bad
@[simp] theorem jl (a:E):evI F (.rng1 a) ρ s=(ev F a ρ s).bind λ x s=>rng1M x s:=rfl
theorem qc {i:Int}(h0:-W62<=i)(h:i<W62):rng1M (.int i) s=.ok ⟨jj 0 i,[]⟩ s:=by unfold rng1M;simp only[h0,h,and_self,if_true]
noncomputable def nxt (F:Fns)(ss:Ss)(c:Ct)(s:Sto):R Ct:=match c with|.next ρ=>exs F ss ρ s|c=>.ok c s
@[simp] theorem zo (h:Ss) (ρ:Env) (s:Sto):nxt F h (.next ρ) s=exs F h ρ s:=rfl
@[simp] theorem qw (h:Ss) (d:D) (s:Sto):nxt F h (.ret d) s=.ok (.ret d) s:=rfl
@[simp] theorem nxt_cont (h:Ss) (ρ:Env) (s:Sto):nxt F h (.cont ρ) s=.ok (.cont ρ) s:=rfl
@[simp] theorem zl:exs F .nil ρ s=.ok (.next ρ) s:=rfl
@[simp] theorem za (st:S) (h:Ss):exs F (.cons st h) ρ s=(ex F st ρ s).bind (nxt F h):=rfl
noncomputable def setC (ρ:Option Env)(s:Sto):R Ct:=match ρ with|some ρ=>.ok (.next ρ) s|none=>.bad
@[simp] theorem zw (ρ:Env) (s:Sto):setC (some ρ) s=.ok (.next ρ) s:=rfl
@[simp] theorem ql (tg:Tg) (e:E):ex F (.asg tg e) ρ s=(ev F e ρ s).bind λ d s=>setC (bindT ρ tg d) s:=rfl
@[simp] theorem ex_setIx (o i e:E):ex F (.setIx o i e) ρ s=(ev F e ρ s).bind λ d s=>(ev F o ρ s).bind λ x s=>(ev F i ρ s).bind λ y s=>(setIx x y d s).bind λ _ s=>.ok (.next ρ) s:=rfl
@[simp] theorem ex_ex (e:E):ex F (.ex e) ρ s=(ev F e ρ s).bind λ _ s=>.ok (.next ρ) s:=rfl
@[simp] theorem qZ (e:E):ex F (.ret e) ρ s=(ev F e ρ s).bind λ d s=>.ok (.ret d) s:=rfl
@[simp] theorem ex_retN:ex F .retN ρ s=.ok (.ret .non) s:=rfl
@[simp] theorem zV (c:E) (a b:Ss):ex F (.ite c a b) ρ s=tru (ev F c ρ s) λ k s=>if k then exs F a ρ s else exs F b ρ s:=rfl
@[simp] theorem ex_whl (c:E) (b:Ss):ex F (.whl c b) ρ s=whl (ev F c) (exs F b) ρ s:=rfl
noncomputable def turn (F:Fns)(tg:Tg)(b:Ss)(d:D)(ρ:Env)(s:Sto):R Ct:=match bindT ρ tg d with
 | some ρ=>exs F b ρ s
 | none=>.bad
@[simp] theorem ex_for (tg:Tg) (h:I) (b:Ss):ex F (.for_ tg h b) ρ s=(evI F h ρ s).bind λ q s0=>forL (λ s=>chk s0 s q.src) (turn F tg b) q.its ρ s0:=rfl
@[simp] theorem ex_cont:ex F .cont ρ s=.ok (.cont ρ) s:=rfl
@[simp] theorem ex_und (i:Nat):ex F (.und i) ρ s=setC (unsetV ρ i) s:=rfl
@[simp] theorem ex_pass:ex F .pass ρ s=.ok (.next ρ) s:=rfl
@[simp] theorem zm (i:Nat) (d:D):bindT ρ (.one i) d=setV ρ i d:=rfl
@[simp] theorem bindT_tup (is:List Nat) (l:List D):bindT ρ (.tup is) (.tup l)=setVs ρ is l:=rfl
@[simp] theorem setVs_nil:setVs ρ [] []=some ρ:=rfl
@[simp] theorem setVs_cons (i:Nat) (is:List Nat) (d:D) (l:List D):setVs ρ (i::is) (d::l)=(setV ρ i d).bind λ ρ=>setVs ρ is l:=rfl
@[simp] theorem ze (d:D) (ρ:Env):getV (some d::ρ) 0 s=.ok d s:=rfl
@[simp] theorem zh (x:Option D) (ρ:Env) (i:Nat):getV (x::ρ) (i+1) s=getV ρ i s:=by unfold getV;rw[List.getElem?_cons_succ]
@[simp] theorem zD (d:D) (x:Option D) (ρ:Env):setV (x::ρ) 0 d=some (some d::ρ):=rfl
@[simp] theorem zI (d:D) (x:Option D) (ρ:Env) (i:Nat):setV (x::ρ) (i+1) d=(setV ρ i d).map (x::·):=by
 unfold setV
 by_cases h:i < ρ.length
 ·rw[if_pos (by simpa using h),if_pos h];rfl
 ·rw[if_neg (by simpa using h),if_neg h];rfl
@[simp] theorem unsetV_0 (x:Option D) (ρ:Env):unsetV (x::ρ) 0=some (none::ρ):=rfl
@[simp] theorem unsetV_s (x:Option D) (ρ:Env) (i:Nat):unsetV (x::ρ) (i+1)=(unsetV ρ i).map (x::·):=by
 unfold unsetV
 by_cases h:i < ρ.length
 ·rw[if_pos (by simpa using h),if_pos h];rfl
 ·rw[if_neg (by simpa using h),if_neg h];rfl
@[simp] theorem zB (i:Int):(Cn.int i).d=.int i:=rfl
@[simp] theorem Cn_bl (i:Bool):(Cn.bl i).d=.bl i:=rfl
@[simp] theorem qY (i:List Nat):(Cn.str i).d=.str i:=rfl
@[simp] theorem Cn_non:Cn.non.d=.non:=rfl
@[simp] theorem add_int (a b:Int):qM .add (.int a) (.int b) s=.ok (.int (a+b)) s:=rfl
@[simp] theorem sub_int (a b:Int):qM .sub (.int a) (.int b) s=.ok (.int (a - b)) s:=rfl
theorem mul_int {a b:Int}(h:mulOk a b=true):qM .mul (.int a) (.int b) s=.ok (.int (a*b)) s:=by show(if mulOk a b then _ else _:M D) s=_;rw[if_pos h];rfl
theorem mulOk_l {a b:Int}(h:a.natAbs<2^64):mulOk a b=true:=by unfold mulOk;simp[h]
theorem mulOk_r {a b:Int}(h:b.natAbs<2^64):mulOk a b=true:=by unfold mulOk;simp[h]
theorem jz {a b:Int}(h:0<b):qM .mod (.int a) (.int b) s=.ok (.int (a % b)) s:=by show(if 0<b then _ else _:M D) s=_;rw[if_pos h];rfl
theorem DIVL_ge:(10:Int)^200<=(DIVL:Int):=by unfold DIVL;decide +kernel
theorem fdiv_int {a b:Int}(h:0<b)(y:b<10^200):qM .fdiv (.int a) (.int b) s=.ok (.int (a / b)) s:=by show(if 0<b/\b<(DIVL:Int)then _ else _:M D) s=_;rw[if_pos ⟨h,Int.lt_of_lt_of_le y DIVL_ge⟩];rfl
theorem pow_int {a b:Int}(h:0<=b/\b<=1000000/\a.natAbs<2^64):qM .pow (.int a) (.int b) s=.ok (.int (a^b.toNat)) s:=by show(if _ then _ else _:M D) s=_;rw[if_pos h];rfl
@[simp] theorem lt_int (a b:Int):qv .lt (.int a) (.int b) s=.ok (.bl (decide (a<b))) s:=rfl
@[simp] theorem le_int (a b:Int):qv .le (.int a) (.int b) s=.ok (.bl (decide (a<=b))) s:=rfl
@[simp] theorem gt_int (a b:Int):qv .gt (.int a) (.int b) s=.ok (.bl (decide (b<a))) s:=rfl
@[simp] theorem ge_int (a b:Int):qv .ge (.int a) (.int b) s=.ok (.bl (decide (b<=a))) s:=rfl
@[simp] theorem eq_int (a b:Int):qv .eq (.int a) (.int b) s=.ok (.bl (decide (a=b))) s:=rfl
@[simp] theorem ne_int (a b:Int):qv .ne (.int a) (.int b) s=.ok (.bl (!decide (a=b))) s:=rfl
@[simp] theorem alloc_eq (o:O):alloc o s=.ok (.ref s.length) (s++[o]):=rfl
@[simp] theorem len_tup (l:List D):bi .len [.tup l] s=.ok (.int l.length) s:=rfl
@[simp] theorem len_str (l:List Nat):bi .len [.str l] s=.ok (.int l.length) s:=rfl
theorem len_ro {r:Nat}{l:List D}(h:s[r]?=some (.ro l)):bi .len [.ref r] s=.ok (.int l.length) s:=by simp only[bi,bi1,lenM,h]
@[simp] theorem abs_int (i:Int):bi .abs [.int i] s=.ok (.int (if i<0 then -i else i)) s:=rfl
@[simp] theorem min2_int (a b:Int):bi .min2 [.int a,.int b] s=.ok (.int (if b<a then b else a)) s:=rfl
@[simp] theorem max2_int (a b:Int):bi .max2 [.int a,.int b] s=.ok (.int (if b > a then b else a)) s:=rfl
@[simp] theorem isInt_int (a:Int):bi .isInt [.int a] s=.ok (.bl true) s:=rfl
@[simp] theorem isBool_int (a:Int):bi .isBool [.int a] s=.ok (.bl false) s:=rfl
@[simp] theorem isTup_tup (l:List D):bi .isTup [.tup l] s=.ok (.bl true) s:=rfl
theorem ix_ro {r:Nat}{l:List D}{j:Nat}{d:D}(h:s[r]?=some (.ro l))(hj:l[j]?=some d):ixM (.ref r) (.int (j:Int)) s=.ok d s:=by
 have hl:j<l.length:=(ac.mp hj).1
 have e:l[j]=d:=(ac.mp hj).2
 simp[ixM,h,ixn,hl,e]
theorem ix_lst {r:Nat}{l:List D}{j:Nat}{d:D}(h:s[r]?=some (.lst l))(hj:l[j]?=some d):ixM (.ref r) (.int (j:Int)) s=.ok d s:=by
 have hl:j<l.length:=(ac.mp hj).1
 have e:l[j]=d:=(ac.mp hj).2
 simp[ixM,h,ixn,hl,e]
theorem ix_tup {l:List D}{j:Nat}{d:D}(hj:l[j]?=some d):ixM (.tup l) (.int (j:Int)) s=.ok d s:=by
 have hl:j<l.length:=(ac.mp hj).1
 have e:l[j]=d:=(ac.mp hj).2
 simp[ixM,ixn,hl,e]
theorem set_lst {r:Nat}{l:List D}{j:Nat}{v:D}(h:s[r]?=some (.lst l))(hl:j<l.length):setIx (.ref r) (.int (j:Int)) v s=.ok () (s.set r (.lst (l.set j v))):=by
 simp[setIx,h,ixn,hl]
theorem append_lst {r:Nat}{l:List D}{v:D}(h:s[r]?=some (.lst l))(hl:l.length<LIM):meth .append (.ref r) [v] s=.ok .non (s.set r (.lst (l++[v]))):=by
 simp[meth,h,hl]
end
theorem canon_bl_ex (s t:Sto)(b:Bool):∃ s',zQ s (.bl b) t=.ok (.bl b) s':=by
 unfold zQ
 by_cases h:okOld s t=true
 ·rw[if_pos h];exact⟨_,rfl⟩
 ·rw[if_neg h];exact⟨_,rfl⟩
noncomputable def Yes (r:R D):Prop:=∃ s',r=.ok (.bl true) s'
theorem Yes_canon (s t:Sto):Yes (zQ s (.bl true) t):=canon_bl_ex s t true
theorem rngL_get {a b:Int}{j:Nat}{d:D}(h:(jj a b)[j]?=some d):(j:Int)<b - a/\d=.int (a+j):=by
 have hj:=(ac.mp h).1
 simp only[jj,az,bZ]at hj
 unfold jj at h
 rw[av,a7 hj]at h
 exact⟨by omega,(aw h).symm⟩
noncomputable def LawOk (P:Pr)(k:Nat):Prop:=∀ ns:List Int,ns.length<=63->Yes ((callN P k).call "law" [.ref 0] [.ro (ns.map D.int)])
noncomputable def zG:Option Int->D
 | none=>.non
 | some i=>.int i
@[simp] theorem encO_none:zG none=.non:=rfl
@[simp] theorem encO_some (i:Int):zG (some i)=.int i:=rfl
@[simp] theorem z9 (p:Option Int) (n:Nat):(zG p).bnd n=true:=by cases p<;>rfl
theorem encO_ref (p:Option Int)(r:Nat):zG p≠.ref r:=by cases p<;>nofun
@[simp] theorem canon_encO {s:Sto} {p:Option Int}:zQ s (zG p) s=.ok (zG p) s:=zr (z9 p) (encO_ref p)
noncomputable def bagO (b:Nat×Nat):O:=.lst [.int b.1,.int b.2]
@[simp] theorem bagO_bnd (b:Nat×Nat) (n:Nat):(bagO b).bnd n=true:=rfl
noncomputable def tkW (many:Nat):Nat->Nat->Nat->Nat->Nat×Nat
 | 0,mix,num,_=>(num,mix)
 | n+1,mix,num,room=>if room<many then tkW many n ((mix*48271+7919) % 2147483647) (num*1073741789+(mix*48271+7919) % 2147483647 / 8*69621 % 1073741789) (room*1073741789)else(num,mix)
noncomputable def tk (b:Nat×Nat)(many:Nat):Nat×(Nat×Nat) :=
 if 0<b.1 then(b.1 % many,(b.1 / many,b.2))else let r:=tkW many 12 b.2 0 1;(r.1 % many,(b.1,r.2))
theorem set_app {s t:Sto}{r:Nat}{o:O}(h:r<s.length):(s++t).set r o=s.set r o++t:=by rw[jQ,if_pos h]
theorem get_app {s t:Sto}{r:Nat}{o:O}(h:s[r]?=some o):(s++t)[r]?=some o:=by
 rw[aD (ac.mp h).1];exact h
theorem get_set {s:Sto}{r:Nat}{o:O}(h:r<s.length):(s.set r o)[r]?=some o:=aY h
noncomputable def bd (b:Nat×Nat):Nat×(Nat×Nat) :=
 let x0:=tk b 3
 let x1:=tk x0.2 13
 let x2:=tk x1.2 1000000000
 let x3:=tk x2.2 1000000000000000000000000000000
 let i:=tk x3.2 4
 ([x0.1,x1.1,x2.1,x3.1].getD i.1 0,i.2)
section
variable {F:Fns} {ρ:Env} {s:Sto}
noncomputable def turnC (F:Fns)(tg:Tg)(e:E)(d:D)(ρ:Env)(s:Sto):R (Option D×Env):=match bindT ρ tg d with
 | some ρ=>(ev F e ρ s).bind λ v s=>.ok (some v,ρ) s
 | none=>.bad
noncomputable def turnI (F:Fns)(tg:Tg)(c e:E)(d:D)(ρ:Env)(s:Sto):R (Option D×Env):=match bindT ρ tg d with
 | some ρ=>tru (ev F c ρ s) λ k s=>if k then(ev F e ρ s).bind λ v s=>.ok (some v,ρ) s else .ok (none,ρ) s
 | none=>.bad
@[simp] theorem evL_comp (tg:Tg) (y:I) (e:E) (h:List (Option Nat)):evL F (.comp tg y e h) ρ s=(evI F y ρ s).bind λ q s0=>if q.its.length<=LIM then ji (λ s=>chk s0 s q.src) (turnC F tg e) q.its (qx ρ h) s0 else .bad:=rfl
@[simp] theorem jn (tg:Tg) (y:I) (c e:E) (h:List (Option Nat)):evL F (.compIf tg y c e h) ρ s=(evI F y ρ s).bind λ q s0=>if q.its.length<=LIM then ji (λ s=>chk s0 s q.src) (turnI F tg c e) q.its (qx ρ h) s0 else .bad:=rfl
@[simp] theorem ev_slU (a h:E):ev F (.slU a h) ρ s=(ev F a ρ s).bind λ x s=>(ev F h ρ s).bind λ y s=>match y with|.int i=>slM x none (some i) s|_=>.bad:=rfl
@[simp] theorem ev_slL (a h:E):ev F (.slL a h) ρ s=(ev F a ρ s).bind λ x s=>(ev F h ρ s).bind λ y s=>match y with|.int i=>slM x (some i) none s|_=>.bad:=rfl
end
theorem comp_inv {ok:Sto->Bool}{g:D->Env->Sto->R (Option D×Env)}(P:Env->Sto->Prop)(f:D->Option D):∀(l:List D) (ρ:Env) (s:Sto),P ρ s ->
  (∀ ρ s,P ρ s->ok s=true)->(∀ d∈l,∀ ρ s,P ρ s->∃ ρ' s',g d ρ s=.ok (f d,ρ') s'/\P ρ' s')->∃ ρ' s',ji ok g l ρ s=.ok (l.filterMap f) s'/\P ρ' s'
 | [],ρ,s,h,o,_=>⟨ρ,s,by unfold ji;rw[if_pos (o ρ s h)];rfl,h⟩
 | d::l,ρ,s,h,o,st=>by
  obtain⟨ρ1,s1,e1,C⟩:=st d (aF ..) ρ s h
  obtain⟨ρ2,s2,e2,y⟩:=comp_inv P f l ρ1 s1 C o λ x hx=>st x (ax _ hx)
  refine⟨ρ2,s2,?_,y⟩
  unfold ji
  rw[if_pos (o ρ s h),e1]
  simp only[R.bind_ok]
  rw[e2,bv]
  cases f d<;>rfl
theorem qf {k:Int}(h:k<=1000):k<=10^90:=eU h (by decide)
theorem shl_one {k:Int}{s:Sto}(h:0<=k/\k<=1000000):qM .shl (.int 1) (.int k) s=.ok (.int (1*2^k.toNat)) s:=by
 show(if 0<=k/\k<=1000000/\(1:Int).natAbs<2^64 then _ else _:M D) s=_
 rw[if_pos ⟨h.1,h.2,by decide⟩];rfl
theorem zO {l:List D}(h:∀ d∈l,∀ n,d.bnd n=true)(n:Nat):D.bndL n l=true:=by
 induction l with
 | nil=>rfl
 | cons d l ih=>unfold D.bndL;rw[h d (aF ..),ih λ x hx=>h x (ax _ hx)];rfl
noncomputable def roomF (bits:Nat):D->Option D
 | .int i=>if(bits:Int) / (1*2^i.toNat) % 2=1 then some (.int i)else none
 | _=>none
theorem abc_ix {k:Nat}(h:k<3)(s:Sto):ixM (.str [97,98,99]) (.int (k:Int)) s=.ok (.str [97+k]) s:=by
 match k,h with
 | 0,_=>rfl
 | 1,_=>rfl
 | 2,_=>rfl
theorem add_str {a b:List Nat}{s:Sto}(h:a.length+b.length<=LIM):qM .add (.str a) (.str b) s=.ok (.str (a++b)) s:=by
 show(if a.length+b.length<=LIM then _ else _:M D) s=_;rw[if_pos h];rfl
theorem mul_str {a:List Nat}{k:Int}{s:Sto}(h:0<=k/\k<=1000000/\a.length*k.toNat<=LIM):qM .mul (.str a) (.int k) s=.ok (.str (rep k.toNat a)) s:=by
 show(if _ then _ else _:M D) s=_;rw[if_pos h];rfl
noncomputable def Lts (L:Nat)(w:List Nat):Prop:=∀ c∈w,97<=c/\c<97+L
theorem rep_len (l:List Nat):∀ n,(rep n l).length=l.length*n
 | 0=>by simp[rep]
 | n+1=>by simp[rep,rep_len l n,dQ];omega
noncomputable def goodW (L:Nat)(d:D):Bool:=match d with
 | .str w=>decide (w.length<=200)&&w.all λ c=>decide (97<=c/\c<97+L)
 | _=>false
noncomputable def ThingIn (s:Sto):D->Prop
 | .fn _=>False
 | .clo _ _=>False
 | .ref k=>∃ l,s[k]?=some (.lst l)
 | _=>True
noncomputable abbrev abcD:List D:=[.str [97],.str [98],.str [99]]
@[simp] theorem ev_neg {F:Fns} {ρ:Env} {s:Sto} (a:E):ev F (.neg a) ρ s=(ev F a ρ s).bind λ x s=>match x with|.int i=>.ok (.int (-i)) s|_=>.bad:=rfl
structure Dr where
 a:Nat
 l:Nat
 b:Nat
 t:Nat
noncomputable def Dr.d (x:Dr):D:=.tup [.int x.a,.str [x.l],.int x.b,.int x.t]
structure Mc where
 L:Nat
 R:Nat
 bg:List Nat
 en:List Nat
 ds:List Dr
noncomputable def qW (l:List Nat):List D:=l.map λ(k:Nat)=>D.int (k:Int)
noncomputable def sg (w:List Nat):List D:=w.map λ c=>.str [c]
noncomputable def Mc.ps (m:Mc):List D:=[.int m.L,.int m.R,.tup (qW m.bg),.tup (qW m.en),.tup (m.ds.map Dr.d)]
noncomputable def Mc.d (m:Mc):D:=.tup m.ps
structure Dr.Ok (m:Mc)(x:Dr):Prop where
 a:x.a<m.R
 l:97<=x.l/\x.l<97+m.L
 b:x.b<m.R
 t:x.t<4
structure Mc.Ok (m:Mc):Prop where
 L1:1<=m.L
 L3:m.L<=3
 R1:1<=m.R
 R5:m.R<=5
 bg:(∀ k∈m.bg,k<m.R)/\m.bg.Pairwise (· < ·)
 en:(∀ k∈m.en,k<m.R)/\m.en.Pairwise (· < ·)
 ds:(∀ x∈m.ds,x.Ok m)/\m.ds.length<=75
theorem nats_bnd {l:List Nat}:∀ d∈qW l,∀ n,d.bnd n=true:=λ d hd n=>by
 obtain⟨c,_,rfl⟩:=aB.mp hd;rfl
theorem drs_bnd {l:List Dr}:∀ d∈l.map Dr.d,∀ n,d.bnd n=true:=λ d hd n=>by
 obtain⟨c,_,rfl⟩:=aB.mp hd;rfl
theorem mps_bnd {m:Mc}:∀ d∈m.ps,∀ n,d.bnd n=true:=λ d hd n=>by
 simp only[Mc.ps,aH,bG,or_false]at hd
 rcases hd with rfl|rfl|rfl|rfl|rfl
 ·rfl
 ·rfl
 ·unfold D.bnd;exact zO nats_bnd n
 ·unfold D.bnd;exact zO nats_bnd n
 ·unfold D.bnd;exact zO drs_bnd n
theorem mc_bnd (m:Mc)(n:Nat):m.d.bnd n=true:=by unfold Mc.d D.bnd;exact zO mps_bnd n
noncomputable def roomsN (bits k:Nat):List Nat:=(ae k).filter λ i=>decide (bits / 2^i % 2=1)
theorem roomsN_ok (h k:Nat):(∀ i∈roomsN h k,i<k)/\(roomsN h k).Pairwise (· < ·) :=
 ⟨λ i y=>bq.mp (gA.mp y).1,kH _ List.pairwise_lt_range⟩
theorem roomF_eq (y:Nat)(k:Nat):(jj 0 (k:Int)).filterMap (roomF y)=qW (roomsN y k):=by
 unfold jj roomsN qW
 simp only[kr,cc]
 rw[dH]
 induction (ae k)with
 | nil=>rfl
 | cons i l ih =>
  rw[bv,List.filter_cons]
  have e:((y:Int) / (1*2^((0:Int)+(i:Int)).toNat) % 2=1)↔(y / 2^i % 2=1):=by
   rw[Int.one_mul,show((0:Int)+(i:Int)).toNat=i by omega]
   have:((y:Int) / 2^i % 2)=((y / 2^i % 2:Nat):Int):=by simp
   rw[this];omega
  simp only[ir,roomF]
  by_cases h:y / 2^i % 2=1
  ·rw[if_pos (e.mpr h)]
   simp only[h,decide_true,if_true,aN]
   rw[<-ih,gy]
  ·rw[if_neg λ z=>h (e.mp z)]
   simp only[h,decide_false]
   exact ih
section
variable {P:Pr}
theorem ix_ps {l:List D}{s:Sto}(j:Nat){d:D}(h:l[j]?=some d):ixM (.tup l) (.int (j:Int)) s=.ok d s:=ix_tup h
theorem ixL (m:Mc)(s:Sto):ixM m.d (.int 0) s=.ok (.int m.L) s:=ix_ps 0 rfl
theorem ixR (m:Mc)(s:Sto):ixM m.d (.int 1) s=.ok (.int m.R) s:=ix_ps 1 rfl
theorem ixB (m:Mc)(s:Sto):ixM m.d (.int 2) s=.ok (.tup (qW m.bg)) s:=ix_ps 2 rfl
theorem ixE (m:Mc)(s:Sto):ixM m.d (.int 3) s=.ok (.tup (qW m.en)) s:=ix_ps 3 rfl
theorem ixD (m:Mc)(s:Sto):ixM m.d (.int 4) s=.ok (.tup (m.ds.map Dr.d)) s:=ix_ps 4 rfl
theorem rooms_of_ok [Has P d_rooms_of](n:Nat)(m:Mc)(s:Sto):(callN P (n+1)).call "rooms_of" [m.d] s=.ok (.int m.R) s:=by
 refine(zd d_rooms_of rfl).trans ?_
 simp -implicitDefEqProofs [d_rooms_of,ixR]
theorem canon_tup {s:Sto}{l:List D}(h:∀ d∈l,∀ n,d.bnd n=true):zQ s (.tup l) s=.ok (.tup l) s:=zr (λ n=>by unfold D.bnd;exact zO h n) (by nofun)
theorem begins_of_ok [Has P d_begins_of](n:Nat)(m:Mc)(s:Sto):(callN P (n+1)).call "begins_of" [m.d] s=.ok (.tup (qW m.bg)) s:=by
 refine(zd d_begins_of rfl).trans ?_
 simp -implicitDefEqProofs [d_begins_of,ixB,canon_tup nats_bnd]
theorem ends_of_ok [Has P d_ends_of](n:Nat)(m:Mc)(s:Sto):(callN P (n+1)).call "ends_of" [m.d] s=.ok (.tup (qW m.en)) s:=by
 refine(zd d_ends_of rfl).trans ?_
 simp -implicitDefEqProofs [d_ends_of,ixE,canon_tup nats_bnd]
theorem doors_of_ok [Has P d_doors_of](n:Nat)(m:Mc)(s:Sto):(callN P (n+1)).call "doors_of" [m.d] s=.ok (.tup (m.ds.map Dr.d)) s:=by
 refine(zd d_doors_of rfl).trans ?_
 simp -implicitDefEqProofs [d_doors_of,ixD,canon_tup drs_bnd]
theorem rngL_cons {a b:Int}(h:a<b):jj a b=.int a::jj (a+1) b:=by
 unfold jj
 obtain⟨n,hn⟩:∃ n:Nat,(b - a).toNat=n+1:=⟨(b - a).toNat - 1,by omega⟩
 rw[hn,show(b - (a+1)).toNat=n by omega,gr,aN,cR]
 congr 1
 ·simp
 ·apply cI
  intro k _
  simp only[ir]
  congr 1;omega
@[simp] theorem ne_str1 (a b:Nat) (s:Sto):qv .ne (.str [a]) (.str [b]) s=.ok (.bl (!decide (a=b))) s:=by
 show(match eqv s DEEP (.str [a]) (.str [b])with|some r=>R.ok (D.bl (!r)) s|none=>.bad)=_
 have:eqv s DEEP (.str [a]) (.str [b])=some ([a]==[b]):=rfl
 rw[this]
 have e:([a]==[b])=decide (a=b):=by rw[dF];simp
 rw[e]
@[simp] theorem eq_str1 (a b:Nat) (s:Sto):qv .eq (.str [a]) (.str [b]) s=.ok (.bl (decide (a=b))) s:=by
 show(match eqv s DEEP (.str [a]) (.str [b])with|some r=>R.ok (D.bl r) s|none=>.bad)=_
 have:eqv s DEEP (.str [a]) (.str [b])=some ([a]==[b]):=rfl
 rw[this]
 have e:([a]==[b])=decide (a=b):=by rw[dF];simp
 rw[e]
end
theorem good_of {L:Nat}{w:List Nat}(h:w.length<=200)(hw:Lts L w):goodW L (.str w)=true:=by
 unfold goodW
 simp only[h,decide_true,dD,aP,decide_eq_true_eq]
 exact hw
@[simp] theorem ev_slLU {F:Fns} {ρ:Env} {s:Sto} (a C h:E):ev F (.slLU a C h) ρ s=(ev F a ρ s).bind λ x s=>(ev F C ρ s).bind λ y s=>match y with|.int i=>(ev F h ρ s).bind (λ z s=>match z with|.int j=>slM x (some i) (some j) s|_=>.bad)|_=>.bad:=rfl
noncomputable def qa (N:Int):O:=.lst [.int N]
theorem box_lt {s:Sto}{r:Nat}(h:∃ N,s[r]?=some (qa N)):r<s.length:=by obtain⟨b,hb⟩:=h;exact(ac.mp hb).1
theorem box_set {s:Sto}{r:Nat}{b:Int}(h:r<s.length):∃ y,(s.set r (qa b))[r]?=some (qa y):=⟨b,get_set h⟩
theorem je {P:Pr}[Has P w_draw](n:Nat){s:Sto}{r:Nat}(hs:∃ N,s[r]?=some (qa N))(many:Int)(h0:0<many)(h:many<=10^90) :
  ∃(k:Nat) (N:Int),(k:Int)<many/\(callN P (n+1)).call "_law_draw" [.ref r,.int many] s=.ok (.int k) (s.set r (qa N)):=by
 obtain⟨N,hN⟩:=hs
 have G:(callN P (n+1)).call "_law_draw" [.ref r,.int many] s=_:=zd w_draw (n:=n) rfl
 have y:many<10^200:=by
  have:(10:Int)^90<10^200:=by decide +kernel
  omega
 have Y:=jR N (show many≠0 by omega)
 have J:=iK N h0
 refine⟨(N % many).toNat,N / many,by omega,?_⟩
 rw[G]
 have C:s[r]?=some (.lst [.int N]):=hN
 simp -implicitDefEqProofs [w_draw,ixM,C,ixn,jz h0,fdiv_int h0 y,setIx]
 rw[show max (N % many) 0=N % many by omega]
 exact canon_set0 (λ _=>rfl) (by nofun) rfl
noncomputable def BoxR (s:Sto)(x:R D):Prop:=∃ N:Int,x=.ok (.ref s.length) (s++[qa N])
theorem box_ex {P:Pr}[Has P w_box](n:Nat)(ns:List Int)(k:Nat){s:Sto}{r:Nat}(hs:s[r]?=some (.ro (ns.map D.int))) :
  ∃ N:Int,(callN P (n+1)).call "_law_box" [.ref r,.int k] s=.ok (.ref s.length) (s++[qa N]):=by
 have e0:(callN P (n+1)).call "_law_box" [.ref r,.int k] s=_:=zd w_box (n:=n) rfl
 have C:bi .len [.ref r] s=.ok (.int ns.length) s:=by rw[len_ro hs,az]
 have m1:∀ a:Int,mulOk 7919 a=true:=λ a=>mulOk_l (by decide)
 have Y:∀ a:Int,mulOk a 48271=true:=λ a=>mulOk_r (by decide)
 have m3:∀ a:Int,mulOk 104729 a=true:=λ a=>mulOk_l (by decide)
 have Z:∀ a:Int,mulOk a 2147483647=true:=λ a=>mulOk_r (by decide)
 have m5:∀ a:Int,mulOk 31 a=true:=λ a=>mulOk_l (by decide)
 have m6:∀ a:Int,mulOk (a % 2147483647) (a % 2147483647)=true:=λ a=>mulOk_l (by
  have h1:=jR a (show(2147483647:Int)≠0 by decide)
  have h2:=iK a (show(0:Int)<2147483647 by decide)
  omega)
 have J:∀ N:Int,zQ s (.ref s.length) (s++[.lst [.int N]])=.ok (.ref s.length) (s++[qa N]):=λ N=>by
  have:=canon_new (s:=s) (t:=[]) (u:=[]) (o:=qa N) rfl
  simp only[eK,kx,gC]at this
  exact this
 have h:∀ c:Int,BoxR s ((exs (callN P n) (.cons (.ite (.cmp .ge (.var 2) (.bin .pow (.cst (.int 10)) (.cst (.int 18)))) (.cons (.ret (.lst (.cons (.var 2) .nil))) .nil) .nil) (.cons (.asg (.one 3) (.cst (.int 0))) (.cons (.for_ (.one 4) (.rng1 (.cst (.int 128))) (.cons (.asg (.one 5) (.bin .mod (.bin .mul (.bin .add (.bin .add (.bin .add (.bin .mod (.var 2) (.cst (.int 2147483647))) (.bin .mul (.cst (.int 7919)) (.var 1))) (.bin .mul (.cst (.int 104729)) (.var 4))) (.cst (.int 97))) (.cst (.int 48271))) (.cst (.int 2147483647)))) (.cons (.asg (.one 3) (.bin .add (.bin .mul (.var 3) (.cst (.int 2147483647))) (.bin .mod (.bin .add (.bin .add (.bin .mul (.var 5) (.var 5)) (.bin .mul (.cst (.int 31)) (.var 4))) (.bin .fdiv (.var 2) (.cst (.int 2147483647)))) (.cst (.int 2147483647))))) .nil))) (.cons (.ret (.lst (.cons (.var 3) .nil))) .nil))))
   [some (.ref r),some (.int k),some (.int c),none,none,none] s).bind (fin s)):=by
  intro c
  by_cases hc:(10:Int)^18<=c
  ·have G:(1000000000000000000:Int)<=c:=hc
   exact⟨c,by simp -implicitDefEqProofs [pow_int,G,J]⟩
  ·have G:¬(1000000000000000000:Int)<=c:=hc
   simp -implicitDefEqProofs [pow_int,G]
   rw[qc (by decide) (by decide)]
   simp only[R.bind_ok]
   refine for_want (W:=BoxR s) (λ j ρ t=>t=s/\∃(N:Int) (x y:Option D),ρ=[some (.ref r),some (.int k),some (.int c),some (.int N),x,y]) ⟨rfl,0,_,_,rfl⟩ (λ _ _ _ _ _=>rfl) ?_ ?_
   ·rintro j d ρ t hj ⟨rfl,N,x,y,rfl⟩
    obtain⟨_,rfl⟩:=rngL_get hj
    conv=>arg 2;simp -implicitDefEqProofs [turn,mul_int (m1 _),mul_int (Y _),mul_int (m3 _),mul_int (Z _),mul_int (m5 _),mul_int (m6 _),jz,fdiv_int]
    exact⟨rfl,_,_,_,rfl⟩
   ·rintro ρ t ⟨rfl,N,x,y,rfl⟩
    exact⟨N,by simp -implicitDefEqProofs [J]⟩
 rw[e0]
 by_cases hk:k<ns.length
 ·have hx:ixM (.ref r) (.int k) s=.ok (.int (ns.getD k 0)) s:=ix_ro hs (by simp[hk])
  obtain⟨N,e⟩:=h (if ns.getD k 0<0 then -ns.getD k 0 else ns.getD k 0)
  refine⟨N,?_⟩
  rw[<-e]
  simp -implicitDefEqProofs [w_box,C,hk,hx]
 ·obtain⟨N,e⟩:=h 0
  refine⟨N,?_⟩
  rw[<-e]
  simp -implicitDefEqProofs [w_box,C,hk]
theorem eq_str_th {s:Sto}{d:D}(h:ThingIn s d)(w:List Nat):∃ b:Bool,qv .eq d (.str w) s=.ok (.bl b) s/\(b=true↔d=.str w):=by
 cases d with
 | str v=>exact⟨v==w,rfl,by
   rw[beq_iff_eq]
   constructor
   ·intro h;rw[h]
   ·intro h;cases h;rfl⟩
 | ref k =>
  obtain⟨l,e⟩:=h
  refine⟨false,?_,by constructor<;>intro h<;>cases h⟩
  have:eqv s DEEP (.ref k) (.str w)=some false:=by
   show eqAtom s (.ref k) (.str w)=_
   unfold eqAtom eqLit
   simp only[kd,e];rfl
  simp only[qv,eqM,this]
 | fn _=>exact h.elim
 | clo _ _=>exact h.elim
 | _=>exact⟨false,rfl,by constructor<;>intro h<;>cases h⟩
@[simp] theorem evI_enum {F:Fns} {ρ:Env} {s:Sto} (e:E):evI F (.enum (.seq e)) ρ s=(ev F e ρ s).bind λ d s=>(enumM d s).bind λ q s=>.ok ⟨enumL 0 q.its,q.src⟩ s:=rfl
theorem qb (v w:List Nat)(s:Sto):qv .eq (.str v) (.str w) s=.ok (.bl (decide (v=w))) s:=by
 obtain⟨b,e,q⟩:=eq_str_th (s:=s) (d:=.str v) trivial w
 rw[e]
 congr 2
 rw[dF,q,decide_eq_true_iff]
 constructor
 ·intro h;cases h;rfl
 ·intro h;rw[h]
theorem zS {P:Pr}[Has P w_draw](n:Nat){s t:Sto}{r:Nat}(C:r<s.length)(b:Int)(many:Int)(h0:0<many)(h:many<=10^90) :
  ∃(k:Nat) (y:Int),(k:Int)<many/\(callN P (n+1)).call "_law_draw" [.ref r,.int many] (s.set r (qa b)++t)=.ok (.int k) (s.set r (qa y)++t):=by
 obtain⟨k,y,J,G⟩:=je (P:=P) n (s:=s.set r (qa b)++t) (r:=r) ⟨b,get_app (get_set C)⟩ many h0 h
 refine⟨k,y,J,?_⟩
 rw[G,set_app (by rw[bA];exact C),eV]
theorem app_onB {s t:Sto}{r:Nat}{b:Int}{l:List D}{v:D}(h:l.length<LIM):meth .append (.ref s.length) [v] (s.set r (qa b)++(.lst l::t))=.ok .non (s.set r (qa b)++(.lst (l++[v])::t)):=by
 rw[append_lst (l:=l) (by rw[ak (by simp)];simp) h]
 congr 1
 rw[jQ,if_neg (by simp)]
 simp
noncomputable def recTail:Ss:=(.cons (.ite (.and (.cmp .gt (.var 5) (.cst (.int 0))) (.and (.cmp .lt (.var 6) (.cst (.int 3))) (.cmp .gt (.var 3) (.cst (.int 0))))) (.cons (.ex (.meth .append (.var 4) (.cons (.tup (.cons (.cst (.str [116,105,109,101,115])) (.cons (.bi .min2 (.cons (.var 7) (.cons (.bin .sub (.var 5) (.cst (.int 1))) .nil))) (.cons (.var 9) .nil)))) .nil))) (.cons (.asg (.one 3) (.bin .sub (.var 3) (.cst (.int 1)))) .nil)) (.cons (.ite (.and (.cmp .gt (.var 5) (.cst (.int 0))) (.cmp .lt (.var 6) (.cst (.int 5)))) (.cons (.ex (.meth .append (.var 4) (.cons (.tup (.cons (.cst (.str [112,97,105,114])) (.cons (.bi .min2 (.cons (.var 7) (.cons (.bin .sub (.var 5) (.cst (.int 1))) .nil))) (.cons (.bi .min2 (.cons (.var 8) (.cons (.bin .sub (.var 5) (.cst (.int 1))) .nil))) .nil)))) .nil))) .nil) (.cons (.ex (.meth .append (.var 4) (.cons (.tup (.cons (.cst (.str [108,101,116,116,101,114])) (.cons (.ix (.cst (.str [97,98,99])) (.bin .mod (.var 7) (.var 1))) .nil))) .nil))) .nil)) .nil)) .nil)
noncomputable def row (m:Nat)(f:Nat->Int):List D:=(ae m).map λ j=>.int (f j)
@[simp] theorem row_len {m:Nat} {f:Nat->Int}:(row m f).length=m:=by unfold row;simp
theorem tup_seq {l:List D}(s:Sto):seqM (.tup l) s=.ok ⟨l,[]⟩ s:=rfl
theorem comp_map {ok:Sto->Bool}{g:D->Env->Sto->R (Option D×Env)}(P:Env->Sto->Prop)(f:D->D)(l:List D)(ρ:Env)(s:Sto)(h:P ρ s)
  (o:∀ ρ s,P ρ s->ok s=true) (st:∀ d∈l,∀ ρ s,P ρ s->∃ ρ' s',g d ρ s=.ok (some (f d),ρ') s'/\P ρ' s'):∃ ρ' s',ji ok g l ρ s=.ok (l.map f) s'/\P ρ' s':=by
 obtain⟨ρ',s',e,p⟩:=comp_inv P (λ d=>some (f d)) l ρ s h o st
 refine⟨ρ',s',?_,p⟩
 rw[e];congr 1;induction l<;>simp_all
theorem comp_rng {ok:Sto->Bool}{g:D->Env->Sto->R (Option D×Env)}(P:Env->Sto->Prop)(f:Nat->D)(n:Nat)(ρ:Env)(s:Sto)(h:P ρ s)
  (o:∀ ρ s,P ρ s->ok s=true) (st:∀ j,j<n->∀ ρ s,P ρ s->∃ ρ' s',g (.int (j:Int)) ρ s=.ok (some (f j),ρ') s'/\P ρ' s'):∃ ρ' s',ji ok g (jj 0 (n:Int)) ρ s=.ok ((ae n).map f) s'/\P ρ' s':=by
 obtain⟨ρ',s',e,p⟩:=comp_map (g:=g) P (λ d=>match d with|.int i=>f i.toNat|d=>d) (jj 0 (n:Int)) ρ s h o λ d hd ρ s y=>by
  obtain⟨j,hj⟩:=g6 hd
  obtain⟨C,rfl⟩:=rngL_get hj
  obtain⟨ρ',s',e,p⟩:=st j (by omega) ρ s y
  refine⟨ρ',s',?_,p⟩
  rw[gy,e];rfl
 refine⟨ρ',s',?_,p⟩
 rw[e]
 congr 1
 unfold jj
 rw[cR,show((n:Int) - 0).toNat=n by omega]
 exact cI λ j _=>by
  show f ((0:Int)+(j:Int)).toNat=f j
  congr 1;omega
theorem qi (n:Nat):(jj 0 (n:Int)).length=n:=by simp[jj]
theorem qV {n j:Nat}{d:D}(h:(jj 0 (n:Int))[j]?=some d):j<n/\d=.int (j:Int):=by
 obtain⟨y,rfl⟩:=rngL_get h
 exact⟨by omega,by rw[gy]⟩
theorem app_mid {s t:Sto}{l:List D}{v:D}(h:l.length<LIM):meth .append (.ref s.length) [v] (s++.lst l::t)=.ok .non (s++.lst (l++[v])::t):=by
 rw[append_lst (l:=l) (by rw[ak (ah _)];simp) h,c9 _ _ (ah _)]
 simp
noncomputable def prN (f g:Nat->Nat->Int)(i j:Nat):Nat->Int
 | 0=>3
 | k+1=>if f i k<3 then(let b:=(if g k j > f i k then g k j else f i k);if b<prN f g i j k then b else prN f g i j k)else prN f g i j k
noncomputable def pr (m:Nat)(f g:Nat->Nat->Int)(i j:Nat):Int:=prN f g i j m
theorem shr_int {a b:Int}{s:Sto}(h:0<=b):qM .shr (.int a) (.int b) s=.ok (.int (a / 2^b.toNat)) s:=by
 show(if 0<=b then _ else _:M D) s=_
 rw[if_pos h];rfl
theorem bits_ok {P:Pr}{n c h:Nat}(J:c<=5){s:Sto}{ρ:Env}(C:qx ρ [none,some 10]=[none,some (.int h)]) :
  ji (λ y=>chk s y []) (turnI (callN P n) (.one 0) (.cmp .eq (.bin .mod (.bin .shr (.var 1) (.var 0)) (.cst (.int 2))) (.cst (.int 1))) (.var 0)) (jj 0 (c:Int)) (qx ρ [none,some 10]) s=.ok (qW (roomsN h c)) s:=by
 have key:∃(ρ':Env) (s':Sto),ji (λ y=>chk s y []) (turnI (callN P n) (.one 0) (.cmp .eq (.bin .mod (.bin .shr (.var 1) (.var 0)) (.cst (.int 2))) (.cst (.int 1))) (.var 0)) (jj 0 (c:Int)) (qx ρ [none,some 10]) s=.ok ((jj 0 (c:Int)).filterMap (roomF h)) s'/\(s'=s/\∃ x,ρ'=[x,some (D.int h)]):=by
  refine comp_inv (λ ρ u=>u=s/\∃ x,ρ=[x,some (.int h)]) (roomF h) (jj 0 (c:Int)) _ _ ⟨rfl,none,C⟩ (λ _ _ _=>rfl) ?_
  rintro d hd ρ u ⟨rfl,x,rfl⟩
  obtain⟨j,hj⟩:=g6 hd
  obtain⟨G,rfl⟩:=rngL_get hj
  refine⟨[some (.int (0+j)),some (.int h)],_,?_,rfl,_,rfl⟩
  unfold turnI
  simp only[zm,zD,zK,qL,zg,zx,zB,ze,zh,R.bind_ok]
  rw[shr_int (by omega)]
  simp only[R.bind_ok]
  rw[jz (by decide)]
  simp only[R.bind_ok,eq_int,zJ]
  simp[roomF]
  split<;>rfl
 obtain⟨_,_,e,rfl,_⟩:=key
 rw[e,roomF_eq]
theorem app_two {s:Sto}{r:Nat}{b:Int}{o:O}{l:List D}{v:D}(h:l.length<LIM):meth .append (.ref (s.length+1)) [v] (s.set r (qa b)++[o,.lst l])=.ok .non (s.set r (qa b)++[o,.lst (l++[v])]):=by
 rw[append_lst (l:=l) (by rw[ak (by simp)];simp) h,c9 _ _ (by simp)]
 simp
theorem pow5 {k:Nat}(h:k<=5):(0:Int)<1*2^((k:Int)).toNat/\(1:Int)*2^((k:Int)).toNat<=32:=by
 have C:(2:Nat)^k<=2^5:=bV (by decide) h
 have h3:((2^k:Nat):Int)<=32:=by exact_mod_cast C
 have G:0<(2:Nat)^k:=Nat.pow_pos (by decide)
 have y:(0:Int)<((2^k:Nat):Int):=by exact_mod_cast G
 rw[cc,Int.one_mul]
 push_cast at h3 y
 exact⟨y,h3⟩
noncomputable def McB (s:Sto)(r:Nat)(x:R D):Prop:=∃(m:Mc) (b:Int),m.Ok/\x=.ok m.d (s.set r (qa b))
theorem machine3_mc {P : Pr} [Has P w_draw] [Has P w_machine_3] (n : Nat) {s : Sto} {r : Nat} (hs : ∃ b, s[r]? = some (qa b)) : McB s r ((callN P (n + 2)).call "_law_machine" [.ref r] s) := by
  have e0 : (callN P (n + 2)).call "_law_machine" [.ref r] s = _ := zd w_machine_3 (n := n + 1) rfl
  have hr := box_lt hs
  obtain⟨a, b1, ha, e1⟩ := je (P := P) n hs 3 (by decide) (by decide)
  obtain⟨c, b2, hc, e2⟩ := je (P := P) n (box_set (b := b1) hr) 5 (by decide) (by decide)
  rw[eV]at e2
  obtain⟨m1, b3, hm1, e3⟩ := je (P := P) n (box_set (b := b2) hr) (3 * (1 + (c : Int)) + 2) (by omega) (qf (by omega))
  rw[eV]at e3
  obtain⟨m2, b4, hm2, e4⟩ := je (P := P) n (box_set (b := b3) hr) 8 (by decide) (by decide)
  rw[eV]at e4
  obtain⟨m3, b5, hm3, e5⟩ := je (P := P) n (box_set (b := b4) hr) 76 (by decide) (by decide)
  rw[eV]at e5
  rw[e0]
  have mo : ∀ x : Int, mulOk 3 x = true := λ x => mulOk_l (by decide)
  simp -implicitDefEqProofs [w_machine_3, e1, e2, mul_int (mo _), e3, e4]
  obtain ⟨many, bb, hmany, hif⟩ : ∃ (many : Nat) (bb : Int), many <= 75 /\ (if (m2 : Int) = 5 then
                      ((callN P (n + 1)).call "_law_draw" [D.ref r, D.int 76] (List.set s r (qa b4))).bind λ d s =>
                        R.ok
                          (Ct.next [some (D.ref r), some (D.int (1 + ↑a)), some (D.int (1 + ↑c)), some d, none, none, none, none, none, none, none, none, none]) s
                    else
                      R.ok
                        (Ct.next
                          [some (D.ref r), some (D.int (1 + ↑a)), some (D.int (1 + ↑c)), some (D.int ↑m1), none, none, none, none, none, none, none, none, none])
                        (List.set s r (qa b4))) = .ok (.next [some (.ref r), some (.int (1 + a)), some (.int (1 + c)), some (.int many), none, none, none, none, none, none, none, none, none]) (s.set r (qa bb)) := by
    by_cases h7 : (m2 : Int) = 5
    · exact⟨m3, b5, by omega, by rw[if_pos h7, e5]; rfl⟩
    · exact⟨m1, b4, by omega, by rw[if_neg h7]⟩
  rw[hif]
  simp -implicitDefEqProofs
  obtain⟨h4, b6, hh4, e6⟩ := zS (P := P) n (t := [.lst [.int 2, .int 2, .int 4, .int 1]]) hr bb 4 (by decide) (by decide)
  rw[e6]
  have hx : ∃ hi : Nat, 1 <= hi /\ hi <= 4 /\ ixM (.ref s.length) (.int h4) (s.set r (qa b6) ++ [.lst [.int 2, .int 2, .int 4, .int 1]]) = .ok (.int hi) (s.set r (qa b6) ++ [.lst [.int 2, .int 2, .int 4, .int 1]]) := by
    have hg : (s.set r (qa b6) ++ [O.lst [.int 2, .int 2, .int 4, .int 1]])[s.length]? = some (.lst [.int 2, .int 2, .int 4, .int 1]) := by rw[ak (by simp)]; simp
    match h4, hh4 with
    | 0, _ => exact⟨2, by decide, by decide, ix_lst (j := 0) hg rfl⟩
    | 1, _ => exact⟨2, by decide, by decide, ix_lst (j := 1) hg rfl⟩
    | 2, _ => exact⟨4, by decide, by decide, ix_lst (j := 2) hg rfl⟩
    | 3, _ => exact⟨1, by decide, by decide, ix_lst (j := 3) hg rfl⟩
    | k + 4, h => omega
  obtain⟨hi, hi1, hi4, hx⟩ := hx
  simp -implicitDefEqProofs [hx]
  rw[qc (by unfold W62; omega) (by unfold W62; omega)]
  simp -implicitDefEqProofs only[R.bind_ok]
  have hc1 : ((1 : Int) + (c : Int)) = ((c + 1 : Nat) : Int) := by omega
  have ha1 : ((1 : Int) + (a : Int)) = ((a + 1 : Nat) : Int) := by omega
  rw[hc1, ha1]
  generalize hH : O.lst [D.int 2, D.int 2, D.int 4, D.int 1] = H
  have hHb : ∀ b : Int, okOld s (s.set r (qa b) ++ [H]) = true := λ b => okOld_set s [H] r (qa b) rfl
  refine for_want (W := McB s r) (λ j ρ u => ∃(b : Int) (l : List Dr) (x y z v : Option D), (∀ d ∈ l, d.Ok ⟨a + 1, c + 1, [], [], []⟩) /\ l.length = j /\ ρ = [some (.ref r), some (.int (a + 1 : Nat)), some (.int (c + 1 : Nat)), some (.int many), some (.int hi), some (.ref (s.length + 1)), x, y, z, v, none, none, none] /\ u = s.set r (qa b) ++ [H, .lst (l.map Dr.d)]) ⟨b6, [], none, none, none, none, by simp, rfl, rfl, rfl⟩ (λ _ _ _ _ _ => rfl) ?_ ?_
  · rintro j d ρ u hj ⟨b, l, x, y, z, v, hl, hlen, rfl, rfl⟩
    obtain⟨hj2, rfl⟩ := rngL_get hj
    obtain⟨k1, c1, hk1, f1⟩ := zS (P := P) n (t := [H, .lst (l.map Dr.d)]) hr b (c + 1 : Nat) (by omega) (qf (by omega))
    obtain⟨k3, c2, hk3, f2⟩ := zS (P := P) n (t := [H, .lst (l.map Dr.d)]) hr c1 (c + 1 : Nat) (by omega) (qf (by omega))
    obtain⟨k2, c3, hk2, f3⟩ := zS (P := P) n (t := [H, .lst (l.map Dr.d)]) hr c2 (a + 1 : Nat) (by omega) (qf (by omega))
    obtain⟨k4, c4, hk4, f4⟩ := zS (P := P) n (t := [H, .lst (l.map Dr.d)]) hr c3 hi (by omega) (qf (by omega))
    refine Nx_of (ρ := [some (.ref r), some (.int (a + 1 : Nat)), some (.int (c + 1 : Nat)), some (.int many), some (.int hi), some (.ref (s.length + 1)), some (.int j), some (.int k1), some (.int k3), some (.str [97 + k2]), none, none, none]) (s := s.set r (qa c4) ++ [H, .lst ((l ++ [(⟨k1, 97 + k2, k3, k4⟩ : Dr)]).map Dr.d)]) ?_ ⟨c4, l ++ [(⟨k1, 97 + k2, k3, k4⟩ : Dr)], _, _, _, _, ?_, ?_, rfl, rfl⟩
    · simp -implicitDefEqProofs only[turn, gy, zm, zI, zD, aJ, za, zl, ql, ex_ex, qJ, zg, qQ, zx, qt, ev_tup, zv, zy, zT, zP, ze, zh, R.bind_ok, qY, f1, f2, f3, f4, abc_ix (show k2 < 3 by omega), zw, zo]
      rw[app_two (by unfold LIM; simp; omega)]
      simp -implicitDefEqProofs
      rfl
    · intro d hd
      rcases bK.mp hd with h|h
      · exact hl d h
      · rw[aZ.mp h]; constructor <;> simp only <;> omega
    · simp[hlen]
  · rintro ρ u ⟨b, l, x, y, z, v, hl, hlen, rfl, rfl⟩
    have p5 := pow5 (k := c + 1) (by omega)
    obtain⟨k1, c1, hk1, f1⟩ := zS (P := P) n (t := [H, .lst (l.map Dr.d)]) hr b _ p5.1 (qf (by omega))
    obtain⟨k2, c2, hk2, f2⟩ := zS (P := P) n (t := [H, .lst (l.map Dr.d)]) hr c1 _ p5.1 (qf (by omega))
    have hl3 : (s.set r (qa c2) ++ [H, O.lst (l.map Dr.d)])[s.length + 1]? = some (.lst (l.map Dr.d)) := by rw[ak (by simp)]; simp
    have hll : l.length <= 75 := by
      rw[hlen]; simp[jj]; omega
    have hrl : (jj 0 ((c + 1 : Nat) : Int)).length <= LIM := by rw[qi]; unfold LIM; omega
    simp -implicitDefEqProofs only[zo, za, zl, ql, qJ, zT, zP, zg, qL, zx, zB, ze, zh, R.bind_ok, shl_one ⟨show(0 : Int) <= ((c + 1 : Nat) : Int)by omega, by omega⟩, f1, zm, zI, zD, aJ, zw, ev_mk, jn, jl]
    rw[qc (by unfold W62; omega) (by unfold W62; omega)]
    simp -implicitDefEqProofs only[R.bind_ok, if_pos hrl]
    rw[bits_ok (by omega) rfl]
    simp -implicitDefEqProofs only[R.bind_ok, mk, f2, zw, zo, zm, zI, zD, aJ, za, qJ, zT, zP, zg, qL, zx, zB, ze, zh, ql, shl_one ⟨show(0 : Int) <= ((c + 1 : Nat) : Int)by omega, by omega⟩, ev_mk, jn, jl]
    rw[qc (by unfold W62; omega) (by unfold W62; omega)]
    simp -implicitDefEqProofs only[R.bind_ok, if_pos hrl]
    rw[bits_ok (by omega) rfl]
    simp -implicitDefEqProofs only[R.bind_ok, mk, zw, zo, qw, zm, zI, zD, aJ, za, zl, qZ, ev_tup, zv, zy, zg, ze, zh, ev_mk, evL_seq, lstM, hl3, qu]
    refine⟨⟨a + 1, c + 1, roomsN k1 (c + 1), roomsN k2 (c + 1), l⟩, c2, ⟨by simp, by simp; omega, by simp, by simp; omega, roomsN_ok _ _, roomsN_ok _ _, λ x hx => ?_, hll⟩, ?_⟩
    · have := hl x hx
      exact⟨this.a, this.l, this.b, this.t⟩
    · exact canon_set (mc_bnd ⟨a + 1, c + 1, roomsN k1 (c + 1), roomsN k2 (c + 1), l⟩) (by nofun) rfl
noncomputable def lines (m:Nat)(f:Nat->Nat->Int):Sto:=(ae m).map λ i=>.lst (row m (f i))
@[simp] theorem lines_len {m:Nat} {f:Nat->Nat->Int}:(lines m f).length=m:=by unfold lines;simp
noncomputable def refs (p m:Nat):List D:=(ae m).map λ i=>.ref (p+i)
theorem refs_get {p m i:Nat}(h:i<m):(refs p m)[i]?=some (.ref (p+i)):=by
 unfold refs;rw[av,a7 h];rfl
theorem comp_rngI {ok:Sto->Bool}{g:D->Env->Sto->R (Option D×Env)}(P:Nat->Env->Sto->Prop)(f:Nat->D)(n:Nat)
  (o:∀ k ρ s,P k ρ s->ok s=true) (st:∀ j,j<n->∀ ρ s,P j ρ s->∃ ρ' s',g (.int (j:Int)) ρ s=.ok (some (f j),ρ') s'/\P (j+1) ρ' s') :
  ∀(k:Nat) (ρ:Env) (s:Sto),k<=n->P k ρ s->∃ ρ' s',ji ok g (jj (k:Int) (n:Int)) ρ s=.ok ((List.range' k (n - k)).map f) s'/\P n ρ' s':=by
 intro k
 induction h:n - k generalizing k with
 | zero =>
  intro ρ s hk y
  have e:k=n:=by omega
  subst e
  refine⟨ρ,s,?_,y⟩
  rw[show jj (k:Int) (k:Int)=[]by simp[jj]]
  unfold ji
  rw[if_pos (o _ _ _ y)];rfl
 | succ d ih =>
  intro ρ s hk y
  obtain⟨ρ1,s1,e1,G⟩:=st k (by omega) ρ s y
  obtain⟨ρ2,s2,e2,C⟩:=ih (k+1) (by omega) ρ1 s1 (by omega) G
  refine⟨ρ2,s2,?_,C⟩
  rw[rngL_cons (by omega),List.range'_succ,aN]
  unfold ji
  rw[if_pos (o _ _ _ y),e1]
  simp only[R.bind_ok]
  rw[show((k:Int)+1)=((k+1:Nat):Int)by omega,e2]
  rfl
theorem int_bl {b:Bool}{s:Sto}:bi .int [.bl b] s=.ok (.int (if b then 1 else 0)) s:=rfl
@[simp] theorem evI_zip {F:Fns} {ρ:Env} {s:Sto} (a b:E):evI F (.zip (.seq a) (.seq b)) ρ s=(ev F a ρ s).bind λ x s=>(ev F b ρ s).bind λ y s=>(drawM x s).bind λ p s=>(drawM y s).bind λ q s=>.ok ⟨zipL p.its q.its,p.src++q.src⟩ s:=rfl
theorem ix_str {l:List Nat}{j c:Nat}{s:Sto}(hj:l[j]?=some c):ixM (.str l) (.int (j:Int)) s=.ok (.str [c]) s:=by
 have hl:j<l.length:=(ac.mp hj).1
 have e:l[j]=c:=(ac.mp hj).2
 simp[ixM,ixn,hl,e]
noncomputable def shN (f:Nat->Nat->Int)(i j:Nat):Nat->Int
 | 0=>3
 | k+1=>let b:=max (max (f i k) (if f k k=1 then 2 else f k k)) (f k j);if b<shN f i j k then b else shN f i j k
noncomputable def sh (m:Nat)(f:Nat->Nat->Int)(i j:Nat):Int:=shN f i j m
theorem qg {s:Sto}{l:List D}{v:D}(h:l.length<LIM):meth .append (.ref s.length) [v] (s++[.lst l])=.ok .non (s++[.lst (l++[v])]):=app_mid (t:=[]) h
noncomputable def EqG (m:Nat)(f g:Nat->Nat->Int):Prop:=∀ i j,i<m->j<m->f i j=g i j
inductive Stp where
 | let_ (c:Nat)|pair (i j:Nat)|sharp (i:Nat)
noncomputable def sLet:List Nat:=[108,101,116,116,101,114]
noncomputable def sPair:List Nat:=[112,97,105,114]
noncomputable def ju:List Nat:=[116,105,109,101,115]
noncomputable def Stp.d:Stp->D
 | .let_ c=>.tup [.str [108,101,116,116,101,114],.str [c]]
 | .pair i j=>.tup [.str [112,97,105,114],.int i,.int j]
 | .sharp i=>.tup [.str [115,104,97,114,112],.int i]
theorem qk {l:List D}(h:∀ d∈l,d.ncl=true):D.nclL l=true:=by
 induction l with
 | nil=>rfl
 | cons d l ih=>unfold D.nclL;rw[h d (aF ..),ih λ x hx=>h x (ax _ hx)];rfl
theorem nats_ncl {l:List Nat}:D.nclL (qW l)=true:=qk λ d hd=>by obtain⟨x,_,rfl⟩:=aB.mp hd;rfl
theorem ints_ncl {l:List Int}:D.nclL (l.map D.int)=true:=qk λ d hd=>by obtain⟨x,_,rfl⟩:=aB.mp hd;rfl
theorem all_set {s:Sto}{r:Nat}{o:O}(h:s.all O.ncl=true)(ho:o.ncl=true):(s.set r o).all O.ncl=true:=by
 rw[aP]at h ⊢
 intro x hx
 rcases fh hx with h1|h1
 ·exact h x h1
 ·rw[h1];exact ho
section
variable {s:Sto} {r:Nat} {b:Int} {A B C:List D} {T:Sto}
end
section
variable {m:Nat} {f:Nat->Nat->Int} {x:Int}
end
noncomputable def valOf (a c:Int)(vs:List Int):Stp->Int
 | .let_ _=>a
 | .pair i j=>vs.getD i 0+vs.getD j 0
 | .sharp i=>vs.getD i 0*c
noncomputable def vl (a c:Int)(l:List Stp):List Int:=l.foldl (λ vs x=>vs++[valOf a c vs x]) []
theorem qp {α:Type}{l:List α}{k:Nat}{x:α}(h:l[k]?=some x):l.take (k+1)=l.take k++[x]:=by
 rw[List.take_succ,h];rfl
noncomputable def TB:Int:=2^(2+104*99)
theorem pow_mono {a b:Nat}(h:a<=b):(2:Int)^a<=2^b:=by
 have y:(2:Nat)^a<=2^b:=bV (by decide) h
 have:((2^a:Nat):Int)<=((2^b:Nat):Int):=by exact_mod_cast y
 simpa using this
theorem big_ok {v:Int}(h0:0<=v)(h:v<=TB+100000):v.natAbs<BIG:=by
 have C:TB+100000<2^11000:=by unfold TB;decide +kernel
 have y:(2:Nat)^11000<=BIG:=by unfold BIG;exact bV (by decide) (by decide)
 have h3:((2^11000:Nat):Int)=(2:Int)^11000:=by push_cast;rfl
 omega
theorem c_big {c:Int}(h0:0<=c)(h:c<=2^103):c.natAbs<BIG:=big_ok h0 (eU h (by
 have:(2:Int)^103<=TB:=by unfold TB;exact pow_mono (by omega)
 omega))
theorem mulOk_b {a b:Int}(h:a.natAbs<BIG)(y:b.natAbs<BIG):mulOk a b=true:=by
 unfold mulOk;simp[h,y]
section
variable {F:Fns} {ρ:Env} {s:Sto}
noncomputable def apV (F:Fns)(d:D)(l:List D)(s:Sto):R D:=match d with
 | .fn f=>F.call f l s
 | .clo id cs=>F.lam id cs l s
 | _=>.bad
theorem qy {i:Nat}{d:D}(es:Es)(h:ρ[i]?=some (some d)):ev F (.callV i es) ρ s=(evs F es ρ s).bind λ l s=>apV F d l s:=by
 show(evs F es ρ s).bind (λ l s=>match ρ[i]? with
  | some (some (.fn f))=>F.call f l s
  | some (some (.clo id cs))=>F.lam id cs l s
  | _=>.bad)=_
 rw[h]
 cases d<;>rfl
theorem qz {id:String}{y:List Nat}{cs:List D}(C:As)(h:getVs ρ y=some cs):evas F (.lam id y C) ρ s=(evas F C ρ s).bind λ l s=>.ok (.clo id cs::l) s:=by
 show(match getVs ρ y with
  | some cs=>(evas F C ρ s).bind λ l s=>R.ok (D.clo id cs::l) s
  | none=>.bad)=_
 rw[h]
end
theorem all_snoc {s:Sto}{o:O}(h:s.all O.ncl=true)(ho:o.ncl=true):(s++[o]).all O.ncl=true:=by rw[jS,h];simp[ho]
noncomputable def Stp.t (c:Int):Stp->D
 | .sharp i=>.tup [.str [116,105,109,101,115],.int i,.int c]
 | x=>x.d
theorem canon_one {s:Sto}{o:O}(ho:o.bnd s.length=true):zQ s (.ref s.length) (s++[o])=.ok (.ref s.length) (s++[o]):=by
 have:=canon_new (s:=s) (t:=[]) (u:=[]) ho
 simpa using this
noncomputable def gdD (m:Nat)(W:Nat->Nat->D):D:=.tup ((ae m).map λ i=>.tup ((ae m).map λ j=>W i j))
theorem gdD_bnd {m:Nat}{W:Nat->Nat->D}(h:∀ i j n,(W i j).bnd n=true)(n:Nat):(gdD m W).bnd n=true:=by
 unfold gdD D.bnd
 refine zO (λ d hd n=>?_) n
 obtain⟨i,_,rfl⟩:=aB.mp hd
 unfold D.bnd
 refine zO (λ d hd n=>?_) n
 obtain⟨j,_,rfl⟩:=aB.mp hd
 exact h i j n
theorem grid_ok {P : Pr} [Has P d_grid] (n : Nat) {m : Nat} (hm : m <= 1000) {d : D} {s : Sto} {W : Nat -> Nat -> D} (hW : ∀ i j n, (W i j).bnd n = true)
    (h : ∀ i j, i < m -> j < m -> apV (callN P n) d [.int i, .int j] (s ++ [.lst ((ae i).map λ i => .tup ((ae m).map λ j => W i j))]) = .ok (W i j) (s ++ [.lst ((ae i).map λ i => .tup ((ae m).map λ j => W i j))])) :
    (callN P (n + 1)).call "grid" [.int m, d] s = .ok (gdD m W) s := by
  have e0 : (callN P (n + 1)).call "grid" [.int m, d] s = _ := zd d_grid (n := n) rfl
  rw[e0, show(bw some [D.int m, d] ++ ao d_grid.vs none) = [some (D.int m), some d, none, none]from rfl]
  simp -implicitDefEqProofs only[d_grid]
  simp -implicitDefEqProofs only[za, zl, ql, ev_lst, zy, R.bind_ok, alloc_eq, zm, zI, zD, aJ, zw, zo, ex_for, jl, zg, ze, zh]
  rw[qc (by unfold W62; omega) (by unfold W62; omega)]
  simp only[R.bind_ok]
  rw[R.bind_assoc]
  refine for_bind (λ i ρ t => ∃(x : Option D), ρ = [some (D.int m), some d, some (.ref s.length), x] /\ t = s ++ [.lst ((ae i).map λ i => .tup ((ae m).map λ j => W i j))]) ⟨none, rfl, rfl⟩ (λ _ _ _ _ _ => rfl) ?_ ?_
  · rintro i dd ρ t hi ⟨x, rfl, rfl⟩
    have hi5 := (qV hi).1
    rw[(qV hi).2]
    generalize hS : s ++ [O.lst ((ae i).map λ i => D.tup ((ae m).map λ j => W i j))] = S
    have e1 : ji (λ s1 => chk S s1 []) (turnC (callN P n) (.one 0) (.callV 1 (.cons (.var 2) (.cons (.var 0) .nil)))) (jj 0 (m : Int)) (qx [some (D.int m), some d, some (.ref s.length), some (.int (i : Int))] [none, some 1, some 3]) S = .ok ((ae m).map λ j => W i j) S := by
     obtain⟨ρ1, s1, e1, h1⟩ := comp_rng (ok := λ s1 => chk S s1 []) (g := turnC (callN P n) (.one 0) (.callV 1 (.cons (.var 2) (.cons (.var 0) .nil)))) (λ ρ u => u = S /\ ∃ x, ρ = [x, some d, some (.int i)]) (λ j => W i j) m (qx [some (D.int m), some d, some (.ref s.length), some (.int (i : Int))] [none, some 1, some 3]) S ⟨rfl, none, rfl⟩ (λ _ _ _ => rfl) (by
      rintro j hj ρ u ⟨rfl, x, rfl⟩
      refine⟨[some (.int j), some d, some (.int i)], u, ?_, rfl, _, rfl⟩
      have hc := h i j hi5 hj
      rw[hS]at hc
      unfold turnC
      simp -implicitDefEqProofs only[zm, zD]
      rw[qy (d := d) _ rfl]
      simp -implicitDefEqProofs only[zv, zy, zg, ze, zh, R.bind_ok, hc])
     obtain⟨rfl, _⟩ := h1
     exact e1
    have e2 : turn (callN P n) (.one 3) (.cons (.ex (.meth .append (.var 2) (.cons (.mk .tuple (.comp (.one 0) (.rng1 (.var 0)) (.callV 1 (.cons (.var 2) (.cons (.var 0) .nil))) [none, some 1, some 3])) .nil))) .nil) (.int i) [some (D.int m), some d, some (.ref s.length), x] S = .ok (.next [some (D.int m), some d, some (.ref s.length), some (.int i)]) (s ++ [.lst ((ae (i + 1)).map λ i => .tup ((ae m).map λ j => W i j))]) := by
      unfold turn
      simp -implicitDefEqProofs only[zm, zI, zD, aJ, za, zl, ex_ex, qt, zv, zy, ev_mk, evL_comp, jl, zg, ze, zh, R.bind_ok]
      rw[qc (by unfold W62; omega) (by unfold W62; omega)]
      simp only[R.bind_ok]
      rw[if_pos (by rw[qi]; unfold LIM; omega), e1, <- hS]
      simp -implicitDefEqProofs only[R.bind_ok, mk]
      rw[qg (by unfold LIM; simp; omega), cj, bB]
      rfl
    rw[e2]
    show ∃ x, _
    exact⟨some (.int i), rfl, rfl⟩
  · rintro ρ t ⟨x, rfl, rfl⟩
    rw[qi]
    have h0 : (s ++ [O.lst ((ae m).map λ i => D.tup ((ae m).map λ j => W i j))])[s.length]? = some (.lst ((ae m).map λ i => D.tup ((ae m).map λ j => W i j))) := by rw[ak (ah _)]; simp
    simp -implicitDefEqProofs only[zo, za, zl, qZ, ev_mk, evL_seq, zg, ze, zh, R.bind_ok, lstM, h0, mk, qw, qu]
    exact zF (d := gdD m W) (gdD_bnd hW) (by nofun)
noncomputable def InG (m:Nat)(f:Nat->Nat->Int):Prop:=∀ i j,i<m->j<m->0<=f i j/\f i j<=3
section
variable {P:Pr} [Has P d_grid] [Has P zH] [HasL P zz]
end
noncomputable def Least (S:Int->Prop):Option Int->Prop
 | none=>∀ c,¬ S c
 | some c=>S c/\∀ c',S c'->c<=c'
theorem Least.eq {S S':Int->Prop}{o y:Option Int}(h:Least S o)(h':Least S' y)(e:∀ c,S c↔S' c):o=y:=by
 cases o with
 | none =>
  cases y with
  | none=>rfl
  | some c=>exact absurd ((e c).mpr h'.1) (h c)
 | some c =>
  cases y with
  | none=>exact absurd ((e c).mp h.1) (h' c)
  | some c' =>
   have G:=h.2 c' ((e c').mpr h'.1)
   have C:=h'.2 c ((e c).mp h.1)
   rw[show c=c' by omega]
theorem Least.congr {S S':Int->Prop}{o:Option Int}(h:Least S o)(e:∀ c,S c↔S' c):Least S' o:=by
 cases o with
 | none=>exact λ c hc=>h c ((e c).mpr hc)
 | some c=>exact⟨(e c).mp h.1,λ y hc=>h.2 y ((e y).mpr hc)⟩
noncomputable def minO:Option Int->Option Int->Option Int
 | none,x=>x
 | some a,none=>some a
 | some a,some b=>if b<a then some b else some a
noncomputable def Wk (ds:List Dr):List Nat->Nat->Nat->Int->Prop
 | [],p,q,c=>p=q/\c=0
 | x::w,p,q,c=>∃ d∈ds,d.a=p/\d.l=x/\∃ c':Int,Wk ds w d.b q c'/\c=(d.t:Int)+c'
noncomputable def Dr.turn (x:Dr):Dr:=⟨x.b,x.l,x.a,x.t⟩
noncomputable def Mc.Wk (m:Mc)(w:List Nat)(c:Int):Prop:=∃ p∈m.bg,∃ q∈m.en,DV.Wk m.ds w p q c
noncomputable def Mc.turn (m:Mc):Mc:=⟨m.L,m.R,m.en,m.bg,m.ds.map Dr.turn⟩
noncomputable def rowD (row:List (Option Int)):List D:=row.map zG
theorem rowD_len (row:List (Option Int)):(rowD row).length=row.length:=az ..
theorem intsOf_enc:∀ l:List Int,qR (l.map D.int)=some l
 | []=>rfl
 | a::l=>by rw[aN];unfold qR;rw[intsOf_enc l];rfl
theorem foldl_min:∀(l:List Int) (a:Int),(l.foldl min a=a\/l.foldl min a∈l)/\l.foldl min a<=a/\∀ y∈l,l.foldl min a<=y
 | [],a=>⟨.inl rfl,dP _,λ y hy=>by cases hy⟩
 | b::l,a=>by
  obtain⟨C,G,h3⟩:=foldl_min l (min a b)
  rw[ci]
  refine⟨?_,by omega,λ y hy=>?_⟩
  ·rcases C with h|h
   ·rw[h]
    rcases ku a b with z|z
    ·left;omega
    ·right;rw[show min a b=b by omega];exact aF ..
   ·exact .inr (ax _ h)
  ·rcases aH.mp hy with z|z
   ·rw[z];omega
   ·exact h3 y z
theorem minI_least (l:List Int):Least (λ c=>c∈l) (minI l):=by
 cases l with
 | nil=>exact λ c hc=>by cases hc
 | cons a l =>
  obtain⟨G,C,h3⟩:=foldl_min l a
  refine⟨?_,λ y hy=>?_⟩
  ·rcases G with h|h
   ·rw[h];exact aF ..
   ·exact ax _ h
  ·rcases aH.mp hy with z|z
   ·rw[z];exact C
   ·exact h3 y z
theorem mkD_min (l:List Int)(s:Sto):mkD .min (l.map D.int) .non s=.ok (zG (minI l)) s:=by
 unfold mkD
 simp only[intsOf_enc]
 cases minI l<;>rfl
theorem filterMap_cg {α β:Type}{f g:α->Option β}:∀ {l:List α},(∀ x∈l,f x=g x)->l.filterMap f=l.filterMap g
 | [],_=>rfl
 | a::l,h=>by rw[bv,bv,h a (aF ..),filterMap_cg λ x hx=>h x (ax _ hx)]
end DV
end
local macro_rules | `(tactic| tbr_iter [$xs,*]) => `(tactic| simp -implicitDefEqProofs only [DV.za, DV.zl, DV.ql, DV.zV, DV.qZ, DV.ex_ex, DV.ex_for, DV.ex_whl, DV.ex_setIx, DV.ex_cont, DV.ex_pass, DV.ex_und, DV.zg, DV.zx, DV.qL, DV.ev_not, DV.zK, DV.ev_and, DV.ev_or, DV.ev_ite, DV.ev_tup, DV.ev_lst, DV.qQ, DV.qJ, DV.ev_bi, DV.ev_mk, DV.ev_mkD, DV.ev_mks, DV.ev_mkDs, DV.qt, DV.ev_isN, DV.ev_notN, DV.zy, DV.zv, DV.zP, DV.zT, DV.evI_seq, DV.jl, DV.evL_seq, DV.Cn_bl, DV.zB, DV.Cn_non, DV.qY, DV.R.bind_ok, DV.zm, DV.bindT_tup, DV.setVs_nil, DV.setVs_cons, DV.zI, DV.zD, DV.unsetV_s, DV.unsetV_0, DV.ze, DV.zh, Option.map_some, Option.bind_some, DV.zw, DV.zo, DV.qw, DV.nxt_cont, DV.qu, DV.fin_next, DV.add_int, DV.sub_int, DV.lt_int, DV.le_int, DV.gt_int, DV.ge_int, DV.eq_int, DV.ne_int, DV.alloc_eq, DV.zJ, if_true, if_false, Bool.false_eq_true, decide_true, decide_false, Bool.not_true, Bool.not_false, $[$xs:term],*])
noncomputable section
namespace DV
noncomputable def gdO (m:Nat)(f:Nat->Nat->Option Int):D:=gdD m λ i j=>zG (f i j)
theorem encO_ncl (o:Option Int):(zG o).ncl=true:=by cases o<;>rfl
theorem jx {m:Nat}{f:Nat->Nat->Option Int}(n:Nat):(gdO m f).bnd n=true:=gdD_bnd (λ i j n=>z9 _ n) n
theorem gdO_ncl {m:Nat}{f:Nat->Nat->Option Int}:(gdO m f).ncl=true:=by
 unfold gdO gdD D.ncl
 refine qk λ d hd=>?_
 obtain⟨i,_,rfl⟩:=aB.mp hd
 unfold D.ncl
 refine qk λ d hd=>?_
 obtain⟨j,_,rfl⟩:=aB.mp hd
 exact encO_ncl _
noncomputable def rowO (m:Nat)(f:Nat->Option Int):List D:=(ae m).map λ j=>zG (f j)
theorem rowO_len {m:Nat}{f:Nat->Option Int}:(rowO m f).length=m:=by unfold rowO;simp
theorem rowO_get {m j:Nat}{f:Nat->Option Int}(h:j<m):(rowO m f)[j]?=some (zG (f j)):=by unfold rowO;rw[av,a7 h];rfl
theorem gdO_ix {m i:Nat}{f:Nat->Nat->Option Int}(h:i<m)(s:Sto):ixM (gdO m f) (.int (i:Int)) s=.ok (.tup (rowO m (f i))) s:=ix_tup (by rw[av,a7 h];rfl)
theorem rowO_ix {m j:Nat}{f:Nat->Option Int}(h:j<m)(s:Sto):ixM (.tup (rowO m f)) (.int (j:Int)) s=.ok (zG (f j)) s:=ix_tup (rowO_get h)
theorem gdO_len {m:Nat}{f:Nat->Nat->Option Int}{s:Sto}:bi .len [gdO m f] s=.ok (.int m) s:=by unfold gdO gdD;rw[len_tup];simp
theorem gdO_congr {m:Nat}{f g:Nat->Nat->Option Int}(h:∀ i j,i<m->j<m->f i j=g i j):gdO m f=gdO m g:=by
 unfold gdO gdD
 congr 1
 refine cI λ i y=>?_
 congr 1
 exact cI λ j hj=>by show zG (f i j)=zG (g i j);rw[h i j (bq.mp y) (bq.mp hj)]
noncomputable def addO:Option Int->Option Int->Option Int
 | some a,some b=>some (a+b)
 | _,_=>none
theorem rowD_filter:∀ l:List (Option Int),(rowD l).filterMap (λ d=>if d=D.non then none else some d)=(l.filterMap id).map D.int
 | []=>rfl
 | o::l=>by
  have h:=rowD_filter l
  unfold rowD at h ⊢
  cases o with
  | none=>rw[aN,bv,bv];simpa using h
  | some i=>rw[aN,bv,bv];simpa using h
theorem least_ok {P:Pr}[Has P d_least](n:Nat){s:Sto}{q:Nat}{l:List (Option Int)}(hq:s[q]?=some (.lst (rowD l)))(hl:l.length<=1000):(callN P (n+1)).call "least" [.ref q] s=.ok (zG (minI (l.filterMap id))) s:=by
 have C:(callN P (n+1)).call "least" [.ref q] s=_:=zd d_least (n:=n) rfl
 rw[C,show(bw some [D.ref q]++ao d_least.vs none)=[some (D.ref q)]from rfl]
 have y:seqM (.ref q) s=.ok ⟨rowD l,[q]⟩ s:=by simp only[seqM,hq]
 obtain⟨ρ1,s1,e1,rfl,_⟩:=comp_inv (ok:=λ s1=>chk s s1 [q]) (g:=turnI (callN P n) (.one 0) (.notN (.var 0)) (.var 0)) (λ ρ u=>u=s/\∃ x,ρ=[x]) (λ d=>if d=D.non then none else some d) (rowD l) [none] s ⟨rfl,none,rfl⟩ (λ _ u h=>by obtain⟨rfl,_⟩:=h;simp[chk]) (by
  rintro d hd ρ u ⟨rfl,x,rfl⟩
  refine⟨[some d],u,?_,rfl,_,rfl⟩
  unfold turnI
  by_cases hn:d=.non
  ·tbr_iter [hn]
  ·tbr_iter [hn])
 rw[rowD_filter]at e1
 simp -implicitDefEqProofs only[d_least]
 tbr_iter [jn,y,if_pos (show(rowD l).length<=LIM by rw[rowD_len];unfold LIM;omega),show qx [some (D.ref q)] [none]=[none]from rfl,e1,mkD_min]
 exact canon_encO
theorem added_ok {P:Pr}[Has P d_added](n:Nat)(a b:Option Int)(s:Sto):(callN P (n+1)).call "added" [zG a,zG b] s=.ok (zG (addO a b)) s:=by
 have h:(callN P (n+1)).call "added" [zG a,zG b] s=_:=zd d_added (n:=n) rfl
 rw[h,show(bw some [zG a,zG b]++ao d_added.vs none)=[some (zG a),some (zG b)]from rfl]
 simp -implicitDefEqProofs only[d_added]
 cases a with
 | none=>tbr_iter [encO_none,show(D.non=D.non)=True from eq_self _];exact canon_non
 | some a=>cases b with
  | none=>tbr_iter [encO_none,encO_some,show(D.non=D.non)=True from eq_self _,show(D.int a=D.non)=False from eq_false (by nofun)];exact canon_non
  | some b=>tbr_iter [encO_some,show(D.int a=D.non)=False from eq_false (by nofun),show(D.int b=D.non)=False from eq_false (by nofun)];exact z8
noncomputable def prO (m:Nat)(f g:Nat->Nat->Option Int)(i j:Nat):Option Int:=minI (((ae m).map λ k=>addO (f i k) (g k j)).filterMap id)
theorem rows_ncl {s:Sto}(hs:s.all O.ncl=true){m i:Nat}{W:Nat->Nat->D}(h:∀ i j,(W i j).ncl=true):(s++[O.lst ((ae i).map λ i=>D.tup ((ae m).map λ j=>W i j))]).all O.ncl=true:=by
 refine all_snoc hs (qk λ d hd=>?_)
 obtain⟨x,_,rfl⟩:=aB.mp hd
 unfold D.ncl
 exact qk λ d hd=>by obtain⟨x,_,rfl⟩:=aB.mp hd;exact h _ _
section
variable {P:Pr} [Has P d_grid]
theorem plain_ok [Has P d_plain][HasL P d_plain_l0](n:Nat){m:Nat}(Z:m<=5){s:Sto}(hs:s.all O.ncl=true) :
  (callN P (n+3)).call "plain" [.int m] s=.ok (gdO m λ i j=>if i=j then some 0 else none) s:=by
 have G:(callN P (n+3)).call "plain" [.int m] s=_:=zd d_plain (n:=n+2) rfl
 have J:=grid_ok (P:=P) (n+1) (m:=m) (by omega) (d:=.clo "plain.0" []) (s:=s) (W:=λ i j=>zG (if i=j then some 0 else none)) (λ _ _ n=>z9 _ n) (λ i j Y hj=>by
  generalize C:s++[O.lst ((ae i).map λ i=>D.tup ((ae m).map λ j=>zG (if i=j then some 0 else none)))]=S
  have y:S.all O.ncl=true:=by rw[<-C];exact rows_ncl hs (W:=λ i j=>zG (if i=j then some 0 else none)) (λ _ _=>encO_ncl _)
  refine(qU d_plain_l0 (n:=n) rfl rfl (by rw[y];rfl)).trans ?_
  show(ev (callN P n) d_plain_l0.body [some (.int i),some (.int j)] S).bind (zQ S)=_
  simp -implicitDefEqProofs only[d_plain_l0]
  by_cases h:i=j
  ·tbr_iter [show((i:Int)=(j:Int))=True from eq_true (by omega),if_pos h,encO_some];exact z8
  ·tbr_iter [show((i:Int)=(j:Int))=False from eq_false (by omega),if_neg h,encO_none];exact canon_non)
 rw[G,show(bw some [D.int m]++ao d_plain.vs none)=[some (D.int m)]from rfl]
 simp -implicitDefEqProofs only[d_plain]
 tbr_iter [jr]
 rw[qz (cs:=[]) _ rfl]
 have e:gdD m (λ i j=>zG (if i=j then some 0 else none))=gdO m (λ i j=>if i=j then some 0 else none):=rfl
 tbr_iter [J,e,if_pos (show((gdO m λ i j=>if i=j then some 0 else none).ncl&&s.all O.ncl)=true by rw[gdO_ncl,hs];rfl)]
 exact zr jx (by nofun)
theorem qX [Has P d_least][Has P d_added][Has P d_product][HasL P d_product_l0](n:Nat){m:Nat}(hm:m<=5)(f g:Nat->Nat->Option Int){s:Sto}(hs:s.all O.ncl=true) :
  (callN P (n+4)).call "product" [gdO m f,gdO m g] s=.ok (gdO m (prO m f g)) s:=by
 have J:(callN P (n+4)).call "product" [gdO m f,gdO m g] s=_:=zd d_product (n:=n+3) rfl
 have C:=grid_ok (P:=P) (n+2) (m:=m) (by omega) (d:=.clo "product.0" [.int m,gdO m f,gdO m g]) (s:=s) (W:=λ i j=>zG (prO m f g i j)) (λ _ _ n=>z9 _ n) (λ i j Y hj=>by
  generalize Z:s++[O.lst ((ae i).map λ i=>D.tup ((ae m).map λ j=>zG (prO m f g i j)))]=S
  have y:S.all O.ncl=true:=by rw[<-Z];exact rows_ncl hs (W:=λ i j=>zG (prO m f g i j)) (λ _ _=>encO_ncl _)
  refine(qU d_product_l0 (n:=n+1) rfl rfl (by rw[y];simp[D.nclL,D.ncl,gdO_ncl])).trans ?_
  show(ev (callN P (n+1)) d_product_l0.body [some (.int i),some (.int j),some (.int m),some (gdO m f),some (gdO m g)] S).bind (zQ S)=_
  obtain⟨ρ1,s1,e1,rfl,_⟩:=comp_rng (ok:=λ s1=>chk S s1 []) (g:=turnC (callN P (n+1)) (.one 0) (.call "added" (.ex (.ix (.ix (.var 1) (.var 2)) (.var 0)) (.ex (.ix (.ix (.var 3) (.var 0)) (.var 4)) .nil)))) (λ ρ u=>u=S/\∃ x,ρ=[x,some (gdO m f),some (.int i),some (gdO m g),some (.int j)]) (λ k=>zG (addO (f i k) (g k j))) m [none,some (gdO m f),some (.int i),some (gdO m g),some (.int j)] S ⟨rfl,none,rfl⟩ (λ _ _ _=>rfl) (by
   rintro k hk ρ u ⟨rfl,x,rfl⟩
   refine⟨[some (.int k),some (gdO m f),some (.int i),some (gdO m g),some (.int j)],u,?_,rfl,_,rfl⟩
   unfold turnC
   tbr_iter [gdO_ix Y,gdO_ix hk,rowO_ix hk,rowO_ix hj,added_ok n])
  have er:((ae m).map λ k=>zG (addO (f i k) (g k j)))=rowD ((ae m).map λ k=>addO (f i k) (g k j)):=by unfold rowD;rw[cR];rfl
  rw[er]at e1
  have h:∀ q (s:Sto),mk .list q s=.ok (.ref s.length) (s++[.lst q]):=λ _ _=>rfl
  have G:=least_ok (P:=P) n (s:=s1++[O.lst (rowD ((ae m).map λ k=>addO (f i k) (g k j)))]) (q:=s1.length) (l:=(ae m).map λ k=>addO (f i k) (g k j)) (by rw[ak (ah _)];simp) (by simp;omega)
  simp -implicitDefEqProofs only[d_product_l0]
  tbr_iter [evL_comp,qc (s:=s1) (i:=(m:Int)) (by unfold W62;omega) (by unfold W62;omega),if_pos (show(jj 0 (m:Int)).length<=LIM by rw[qi];unfold LIM;omega),show qx [some (D.int (i:Int)),some (D.int (j:Int)),some (D.int (m:Int)),some (gdO m f),some (gdO m g)] [none,some 3,some 0,some 4,some 1]=[none,some (gdO m f),some (.int i),some (gdO m g),some (.int j)]from rfl,e1,h,G]
  exact zF (z9 _) (encO_ref _))
 rw[J,show(bw some [gdO m f,gdO m g]++ao d_product.vs none)=[some (gdO m f),some (gdO m g),none]from rfl]
 simp -implicitDefEqProofs only[d_product]
 tbr_iter [gdO_len,jr]
 rw[qz (cs:=[.int m,gdO m f,gdO m g]) _ rfl]
 have e:gdD m (λ i j=>zG (prO m f g i j))=gdO m (prO m f g):=rfl
 tbr_iter [C,e,if_pos (show((gdO m (prO m f g)).ncl&&s.all O.ncl)=true by rw[gdO_ncl,hs];rfl)]
 exact zr jx (by nofun)
end
theorem Least.low {S:Int->Prop}{l:List Int}(G:∀ x∈l,S x)(C:∀ c,S c->∃ x∈l,x<=c):Least S (minI l):=by
 have h:=minI_least l
 cases e:minI l with
 | none =>
  rw[e]at h
  exact λ c hc=>by obtain⟨x,hx,_⟩:=C c hc;exact h x hx
 | some i =>
  rw[e]at h
  refine⟨G i h.1,λ c hc=>?_⟩
  obtain⟨x,hx,y⟩:=C c hc
  exact eU (h.2 x hx) y
theorem prO_least {m:Nat}{A B:Nat->Nat->Int->Prop}{f g:Nat->Nat->Option Int}(J:∀ i j,i<m->j<m->Least (A i j) (f i j))(G:∀ i j,i<m->j<m->Least (B i j) (g i j)){i j:Nat}(C:i<m)(hj:j<m) :
  Least (λ c=>∃ k,k<m/\∃ a b,A i k a/\B k j b/\c=a+b) (prO m f g i j):=by
 unfold prO
 refine Least.low (λ x hx=>?_) λ c hc=>?_
 ·obtain⟨o,ho,e⟩:=bj.mp hx
  obtain⟨k,hk,rfl⟩:=aB.mp ho
  have hk:=bq.mp hk
  have y:=J i k C hk
  have h:=G k j hk hj
  cases e1:f i k with
  | none=>rw[e1]at e;cases e
  | some a =>
   cases e2:g k j with
   | none=>rw[e1,e2]at e;cases e
   | some b =>
    rw[e1]at y;rw[e2]at h
    rw[e1,e2]at e
    cases e
    exact⟨k,hk,a,b,y.1,h.1,rfl⟩
 ·obtain⟨k,hk,a,b,ha,hb,rfl⟩:=hc
  have y:=J i k C hk
  have h:=G k j hk hj
  cases e1:f i k with
  | none=>rw[e1]at y;exact absurd ha (y a)
  | some a' =>
   cases e2:g k j with
   | none=>rw[e2]at h;exact absurd hb (h b)
   | some b' =>
    rw[e1]at y;rw[e2]at h
    refine⟨a'+b',bj.mpr ⟨some (a'+b'),aB.mpr ⟨k,bq.mpr hk,by rw[e1,e2];rfl⟩,rfl⟩,?_⟩
    have:=y.2 a ha
    have:=h.2 b hb
    omega
noncomputable def TabW (m:Mc)(w:List Nat)(f:Nat->Nat->Option Int):Prop:=∀ i j,i<m.R->j<m.R->Least (Wk m.ds w i j) (f i j)
theorem TabW.eq {m:Mc}{w:List Nat}{f g:Nat->Nat->Option Int}(h:TabW m w f)(h':TabW m w g):gdO m.R f=gdO m.R g:=gdO_congr λ i j y hj=>(h i j y hj).eq (h' i j y hj) λ _=>kA
theorem Wk_app {y:List Dr}:∀ {v w:List Nat} {p q:Nat} {c:Int},Wk y (v++w) p q c↔∃ k a b,Wk y v p k a/\Wk y w k q b/\c=a+b
 | [],w,p,q,c=>by
  constructor
  ·intro h;exact⟨p,0,c,⟨rfl,rfl⟩,h,by omega⟩
  ·rintro⟨k,a,b,⟨rfl,rfl⟩,h,e⟩
   have:c=b:=by omega
   rw[this];exact h
 | x::v,w,p,q,c=>by
  show(∃ d∈y,_)↔_
  constructor
  ·rintro⟨d,hd,J,G,c',h3,e⟩
   obtain⟨k,a,b,Y,C,e2⟩:=Wk_app.mp h3
   exact⟨k,a+d.t,b,⟨d,hd,J,G,a,Y,by omega⟩,C,by omega⟩
  ·rintro⟨k,a,b,⟨d,hd,J,G,Z,Y,e⟩,C,e2⟩
   exact⟨d,hd,J,G,Z+b,Wk_app.mpr ⟨k,Z,b,Y,C,rfl⟩,by omega⟩
theorem Wk_lt {m:Mc}(y:m.Ok):∀ {w:List Nat} {p q:Nat} {c:Int},p<m.R->Wk m.ds w p q c->q<m.R
 | [],p,q,c,hp,h=>by obtain⟨rfl,_⟩:=h;exact hp
 | x::w,p,q,c,hp,h=>by
  obtain⟨d,hd,_,_,C,h3,_⟩:=h
  exact Wk_lt y (y.ds.1 d hd).b h3
theorem TabW.nil {m:Mc}:TabW m [] λ i j=>if i=j then some 0 else none:=λ i j y hj=>by
 show Least (Wk m.ds [] i j) (if i=j then some 0 else none)
 by_cases h:i=j
 ·rw[if_pos h];exact⟨⟨h,rfl⟩,λ c hc=>by have:=hc.2;omega⟩
 ·rw[if_neg h];exact λ c hc=>h hc.1
theorem TabW.mul {m:Mc}(J:m.Ok){v w:List Nat}{f g:Nat->Nat->Option Int}(h:TabW m v f)(h':TabW m w g):TabW m (v++w) (prO m.R f g):=λ i j G hj=>(prO_least h h' G hj).congr λ c=>by
 rw[Wk_app]
 constructor
 ·rintro⟨k,_,a,b,y,C,e⟩;exact⟨k,a,b,y,C,e⟩
 ·rintro⟨k,a,b,y,C,e⟩;exact⟨k,Wk_lt J G y,a,b,y,C,e⟩
noncomputable def ltF (ds:List Dr)(c i j:Nat):Option Int:=minI (ds.filterMap λ d=>if d.a=i/\d.l=c/\d.b=j then some (d.t:Int)else none)
theorem Wk_one {C:List Dr}{x p q:Nat}{c:Int}:Wk C [x] p q c↔∃ d∈C,d.l=x/\d.a=p/\d.b=q/\c=d.t:=by
 constructor
 ·rintro⟨d,hd,y,h,G,⟨h3,J⟩,e⟩;exact⟨d,hd,h,y,h3,by omega⟩
 ·rintro⟨d,hd,y,h,h3,e⟩;exact⟨d,hd,h,y,0,⟨h3,rfl⟩,by omega⟩
theorem TabW.letter {m:Mc}(c:Nat):TabW m [c] (ltF m.ds c):=λ i j G hj=>by
 unfold ltF
 refine Least.low (λ x hx=>?_) λ x hx=>?_
 ·obtain⟨d,hd,e⟩:=bj.mp hx
  split at e
  ·rename_i h;cases e;exact Wk_one.mpr ⟨d,hd,h.2.1,h.1,h.2.2,rfl⟩
  ·cases e
 ·obtain⟨d,hd,C,y,h3,e⟩:=Wk_one.mp hx
  exact⟨x,bj.mpr ⟨d,hd,by rw[if_pos ⟨y,C,h3⟩,e]⟩,dP _⟩
theorem eq_trip {a b i j l c:Nat}{s:Sto}:qv .eq (.tup [.int (a:Int),.str [l],.int (b:Int)]) (.tup [.int (i:Int),.str [c],.int (j:Int)]) s=.ok (.bl (decide (a=i/\l=c/\b=j))) s:=by
 have:eqv s DEEP (.tup [.int (a:Int),.str [l],.int (b:Int)]) (.tup [.int (i:Int),.str [c],.int (j:Int)])=some (((a:Int)==(i:Int))&&(([l]==[c])&&(((b:Int)==(j:Int))&&true))):=rfl
 show(match eqv s DEEP (.tup [.int (a:Int),.str [l],.int (b:Int)]) (.tup [.int (i:Int),.str [c],.int (j:Int)])with|some r=>R.ok (D.bl r) s|none=>.bad)=_
 rw[this]
 show R.ok (D.bl _) s=_
 congr 2
 rw[dF]
 simp
 omega
section
variable {P:Pr} [Has P d_grid] [Has P d_least] [Has P d_rooms_of] [Has P d_doors_of] [Has P d_letter_table] [HasL P d_letter_table_l0]
theorem mc_ncl {m:Mc}:m.d.ncl=true:=by
 unfold Mc.d Mc.ps D.ncl
 simp only[D.nclL,D.ncl,nats_ncl,dD,dC]
 exact qk λ d hd=>by obtain⟨x,_,rfl⟩:=aB.mp hd;rfl
theorem jd (n:Nat){m:Mc}(C:m.Ok)(c:Nat){s:Sto}(hs:s.all O.ncl=true) :
  (callN P (n+4)).call "letter_table" [m.d,.str [c]] s=.ok (gdO m.R (ltF m.ds c)) s:=by
 have e0:(callN P (n+4)).call "letter_table" [m.d,.str [c]] s=_:=zd d_letter_table (n:=n+3) rfl
 have hR:=C.R5
 have hD:=C.ds.2
 have hg:=grid_ok (P:=P) (n+2) (m:=m.R) (by omega) (d:=.clo "letter_table.least_fee" [m.d,.str [c]]) (s:=s) (W:=λ i j=>zG (ltF m.ds c i j)) (λ _ _ n=>z9 _ n) (λ i j hi hj=>by
  generalize hS:s++[O.lst ((ae i).map λ i=>D.tup ((ae m.R).map λ j=>zG (ltF m.ds c i j)))]=S
  have nS:S.all O.ncl=true:=by rw[<-hS];exact rows_ncl hs (W:=λ i j=>zG (ltF m.ds c i j)) (λ _ _=>encO_ncl _)
  refine(qU d_letter_table_l0 (n:=n+1) rfl rfl (by rw[nS];simp[D.nclL,D.ncl,mc_ncl])).trans ?_
  show(ev (callN P (n+1)) d_letter_table_l0.body [some (.int i),some (.int j),some m.d,some (.str [c])] S).bind (zQ S)=_
  obtain⟨ρ1,s1,e1,rfl,_⟩:=comp_inv (ok:=λ s1=>chk S s1 []) (g:=turnI (callN P (n+1)) (.tup [0,1,2,3]) (.cmp .eq (.tup (.cons (.var 0) (.cons (.var 1) (.cons (.var 2) .nil)))) (.tup (.cons (.var 4) (.cons (.var 5) (.cons (.var 6) .nil))))) (.var 3)) (λ ρ u=>u=S/\∃ J x1 Z Y,ρ=[J,x1,Z,Y,some (.int (i:Int)),some (.str [c]),some (.int (j:Int))]) (λ d=>match d with|.tup [.int a,.str [l],.int b,.int t]=>if a=i/\l=c/\b=j then some (.int t)else none|_=>none) (m.ds.map Dr.d) [none,none,none,none,some (.int (i:Int)),some (.str [c]),some (.int (j:Int))] S ⟨rfl,none,none,none,none,rfl⟩ (λ _ _ _=>rfl) (by
   rintro d hd ρ u ⟨rfl,J,x1,Z,Y,rfl⟩
   obtain⟨x,_,rfl⟩:=aB.mp hd
   refine⟨[some (.int x.a),some (.str [x.l]),some (.int x.b),some (.int x.t),some (.int i),some (.str [c]),some (.int j)],u,?_,rfl,_,_,_,_,rfl⟩
   unfold turnI Dr.d
   by_cases h:x.a=i/\x.l=c/\x.b=j
   ·tbr_iter [eq_trip,h]
    simp
   ·have h2:¬((x.a:Int)=(i:Int)/\x.l=c/\(x.b:Int)=(j:Int)):=by omega
    tbr_iter [eq_trip,h,if_neg h2])
  have er:(m.ds.map Dr.d).filterMap (λ d=>match d with|.tup [.int a,.str [l],.int b,.int t]=>if a=i/\l=c/\b=j then some (D.int t)else none|_=>none)=rowD ((m.ds.filterMap λ d=>if d.a=i/\d.l=c/\d.b=j then some (d.t:Int)else none).map some):=by
   unfold rowD
   rw[cR,dH,List.map_filterMap]
   refine filterMap_cg λ x _=>?_
   unfold Dr.d
   simp only[ir]
   by_cases h:x.a=i/\x.l=c/\x.b=j
   ·rw[if_pos h,if_pos (by omega)];rfl
   ·rw[if_neg h,if_neg (by omega)];rfl
  rw[er]at e1
  generalize hL:(m.ds.filterMap λ d=>if d.a=i/\d.l=c/\d.b=j then some (d.t:Int)else none)=L at e1
  have a0:L.length<=75:=by rw[<-hL];exact am (fL _ _) hD
  have y:∀ q (s:Sto),mk .list q s=.ok (.ref s.length) (s++[.lst q]):=λ _ _=>rfl
  have G:=least_ok (P:=P) n (s:=s1++[O.lst (rowD (L.map some))]) (q:=s1.length) (l:=L.map some) (by rw[ak (ah _)];simp) (by simp;omega)
  have eL:(L.map some).filterMap id=L:=by rw[dH];exact List.filterMap_some
  rw[eL]at G
  simp -implicitDefEqProofs only[d_letter_table_l0]
  tbr_iter [doors_of_ok n,tup_seq,jn,if_pos (show(m.ds.map Dr.d).length<=LIM by rw[az];unfold LIM;omega),show qx [some (D.int (i:Int)),some (D.int (j:Int)),some m.d,some (D.str [c])] [none,none,none,none,some 0,some 3,some 1]=[none,none,none,none,some (.int (i:Int)),some (.str [c]),some (.int (j:Int))]from rfl,e1,y,G]
  rw[<-hL]
  exact zF (z9 _) (encO_ref _))
 rw[e0,show(bw some [m.d,D.str [c]]++ao d_letter_table.vs none)=[some m.d,some (D.str [c]),none]from rfl]
 simp -implicitDefEqProofs only[d_letter_table]
 tbr_iter [jr,rooms_of_ok (n+2)]
 rw[qz (cs:=[m.d,.str [c]]) _ rfl]
 have e:gdD m.R (λ i j=>zG (ltF m.ds c i j))=gdO m.R (ltF m.ds c):=rfl
 tbr_iter [hg,e,if_pos (show((gdO m.R (ltF m.ds c)).ncl&&s.all O.ncl)=true by rw[gdO_ncl,hs];rfl)]
 exact zr jx (by nofun)
end
theorem getL {s:Sto}{o:O}:(s++[o])[s.length]?=some o:=by rw[ak (ah _)];simp
theorem nats_len (a:List Nat):(qW a).length=a.length:=by unfold qW;exact az _
theorem sg_len (a:List Nat):(sg a).length=a.length:=by unfold sg;exact az _
theorem look_app (k a v:D):∀ l:List (D×D),look k (l++[(a,v)])=match look k l with|some x=>some x|none=>if a=k then some v else none
 | []=>by unfold look;rfl
 | (b,u)::l=>by
  rw[d8]
  unfold look
  by_cases h:b=k
  ·rw[if_pos h,if_pos h]
  ·rw[if_neg h,if_neg h];exact look_app k a v l
theorem notin_dic {s:Sto}{r:Nat}{l:List (D×D)}{k:D}(h:s[r]?=some (.dic l))(hk:k.key=true):qv .notin k (.ref r) s=.ok (.bl (!(look k l).isSome)) s:=by
 show(inM k (.ref r) s).bind (λ r s=>R.ok (D.bl (!r)) s)=_
 simp only[inM,h,hk,if_true,R.bind_ok]
theorem ix_dic {s:Sto}{r:Nat}{l:List (D×D)}{k v:D}(h:s[r]?=some (.dic l))(hk:k.key=true)(hv:look k l=some v):ixM (.ref r) k s=.ok v s:=by
 simp only[ixM,h,hk,if_true,hv]
theorem set_dic {s:Sto}{r:Nat}{l:List (D×D)}{k v:D}(h:s[r]?=some (.dic l))(hk:k.key=true)(hl:l.length<LIM):setIx (.ref r) k v s=.ok () (s.set r (.dic (putD k v l))):=by
 simp[setIx,h,hk,hl]
theorem ev_dic0 {F:Fns}{ρ:Env}{s:Sto}:ev F (.dic .nil .nil) ρ s=.ok (.ref s.length) (s++[.dic []]):=rfl
theorem put_new {k v:D}{l:List (D×D)}(h:look k l=none):putD k v l=l++[(k,v)]:=by unfold putD;rw[h];rfl
theorem set_tail {s:Sto}{o p:O}:(s++[o]).set s.length p=s++[p]:=by rw[c9 _ _ (ah _)];simp
section
variable {P:Pr} [Has P d_grid] [Has P d_least] [Has P d_added] [Has P d_rooms_of] [Has P d_doors_of] [Has P d_letter_table] [HasL P d_letter_table_l0] [Has P d_plain] [HasL P d_plain_l0] [Has P d_product] [HasL P d_product_l0] [Has P d_word_table]
noncomputable def DicW (m:Mc)(l:List (D×D)):Prop:=(∀ c v,look (.str [c]) l=some v->v=gdO m.R (ltF m.ds c))/\∀ p∈l,p.2.ncl=true
theorem DicW.nil {m:Mc}:DicW m []:=⟨λ c v h=>(by cases h),λ p y=>(by cases y)⟩
theorem word_table_ok (n:Nat){m:Mc}(Y:m.Ok)(w:List Nat)(hw:w.length<=5000){s:Sto}(hs:s.all O.ncl=true) :
  ∃ f,TabW m w f/\(callN P (n+5)).call "word_table" [m.d,.str w] s=.ok (gdO m.R f) s:=by
 have e0:(callN P (n+5)).call "word_table" [m.d,.str w] s=_:=zd d_word_table (n:=n+4) rfl
 have Z:=Y.R5
 have nd:∀ l:List (D×D),DicW m l->(s++[O.dic l]).all O.ncl=true:=λ l h=>all_snoc hs (qk λ d hd=>by
  obtain⟨p,hp,rfl⟩:=aB.mp hd;exact h.2 p hp)
 have key:=qd (ok:=λ s1=>chk (s++[O.dic []]) s1 []) (g:=turn (callN P (n+4)) (.one 4) (.cons (.ite (.cmp .notin (.var 4) (.var 2)) (.cons (.setIx (.var 2) (.var 4) (.call "letter_table" (.ex (.var 0) (.ex (.var 4) .nil)))) .nil) .nil) (.cons (.asg (.one 3) (.call "product" (.ex (.var 3) (.ex (.ix (.var 2) (.var 4)) .nil)))) .nil)))
  (λ k ρ t=>∃ f l x,TabW m (w.take k) f/\DicW m l/\l.length<=k/\ρ=[some m.d,some (.str w),some (.ref s.length),some (gdO m.R f),x]/\t=s++[.dic l]) (sg w) 0 [some m.d,some (.str w),some (.ref s.length),some (gdO m.R λ i j=>if i=j then some 0 else none),none] (s++[O.dic []])
  ⟨_,[],none,by rw[j9];exact TabW.nil,DicW.nil,ah _,rfl,rfl⟩ (λ _ _ _ _ _=>rfl) (by
  rintro k d ρ t hk ⟨f,l,x,C,hl,J,rfl,rfl⟩
  rw[aU]at C J ⊢
  unfold sg at hk
  rw[av]at hk
  obtain⟨c,hc,rfl⟩:=bJ.mp hk
  have a0:=(ac.mp hc).1
  have y:∀ l:List (D×D),(s++[O.dic l])[s.length]?=some (.dic l):=λ l=>by rw[ak (ah _)];simp
  have e1:=jd (P:=P) n Y c (nd l hl)
  have hT:TabW m (w.take (k+1)) (prO m.R f (ltF m.ds c)):=by
   rw[qp hc];exact TabW.mul Y C (TabW.letter c)
  cases hlk:look (.str [c]) l with
  | none =>
   have hl2:DicW m (l++[(.str [c],gdO m.R (ltF m.ds c))]):=by
    refine⟨λ c' v hv=>?_,λ p hp=>?_⟩
    ·rw[look_app]at hv
     cases q:look (.str [c']) l with
     | none =>
      rw[q]at hv
      simp only at hv
      split at hv
      ·rename_i e;cases e;cases hv;rfl
      ·cases hv
     | some v'=>rw[q]at hv;cases hv;exact hl.1 c' v q
    ·rcases bK.mp hp with h|h
     ·exact hl.2 p h
     ·rw[aZ.mp h];exact gdO_ncl
   have e2:=qX (P:=P) n Z f (ltF m.ds c) (nd _ hl2)
   have G:=ix_dic (y (l++[(.str [c],gdO m.R (ltF m.ds c))])) (k:=.str [c]) rfl (v:=gdO m.R (ltF m.ds c)) (by rw[look_app,hlk];simp)
   have e4:=set_dic (v:=gdO m.R (ltF m.ds c)) (y l) (k:=.str [c]) rfl (by unfold LIM;omega)
   rw[put_new hlk,set_tail]at e4
   refine⟨_,_,.inl ?_,_,_,some (.str [c]),hT,hl2,by simp;omega,rfl,rfl⟩
   unfold turn
   tbr_iter [notin_dic (y l) (k:=.str [c]) rfl,hlk,iG,e1,e4,G,e2]
  | some v =>
   have hv:=hl.1 c v hlk
   have e2:=qX (P:=P) n Z f (ltF m.ds c) (nd _ hl)
   have G:=ix_dic (y l) (k:=.str [c]) rfl hlk
   rw[hv]at G
   refine⟨_,_,.inl ?_,_,_,some (.str [c]),hT,hl,by omega,rfl,rfl⟩
   unfold turn
   tbr_iter [notin_dic (y l) (k:=.str [c]) rfl,hlk,fb,G,e2])
 obtain⟨ρ',s',ek,f,l,x,C,hl,_,rfl,rfl⟩:=key
 rw[aU,sg_len,b9]at C
 refine⟨f,C,?_⟩
 have e1:=plain_ok (P:=P) (n+1) Z (nd [] DicW.nil)
 have h2:∀ t,seqM (.str w) t=.ok ⟨sg w,[]⟩ t:=λ _=>rfl
 rw[e0,show(bw some [m.d,D.str w]++ao d_word_table.vs none)=[some m.d,some (D.str w),none,none,none]from rfl]
 simp -implicitDefEqProofs only[d_word_table]
 tbr_iter [ev_dic0,rooms_of_ok (n+3),e1,h2]
 rw[ek]
 tbr_iter []
 exact zF jx (by nofun)
end
theorem ext_lst {S:Sto}{k:Nat}{l m:List D}(h:S[k]?=some (.lst l))(hl:l.length+m.length<=LIM):extM (.ref k) m S=.ok .non (S.set k (.lst (l++m))):=by
 simp only[extM,h,hl,if_true]
theorem eqL_self {f:D->D->Option Bool}:∀ {l:List D},(∀ d∈l,f d d=some true)->eqL f l l=some true
 | [],_=>rfl
 | d::l,h=>by
  show(match f d d,eqL f l l with|some x,some y=>some (x&&y)|_,_=>none)=_
  rw[h d (aF ..),eqL_self λ x hx=>h x (ax _ hx)];rfl
theorem eqv_encO {s:Sto}{n:Nat}(o:Option Int):eqv s n (zG o) (zG o)=some true:=by
 cases o<;>cases n<;>simp[eqv,eqAtom,eqLit]
theorem eqv_gdO {s:Sto}{m:Nat}{f:Nat->Nat->Option Int}:eqv s DEEP (gdO m f) (gdO m f)=some true:=by
 show eqL (eqv s 29) _ _=_
 refine eqL_self λ d hd=>?_
 obtain⟨i,_,rfl⟩:=aB.mp hd
 show eqL (eqv s 28) _ _=_
 refine eqL_self λ d hd=>?_
 obtain⟨j,_,rfl⟩:=aB.mp hd
 exact eqv_encO _
theorem ne_gdO {s:Sto}{m:Nat}{f:Nat->Nat->Option Int}:qv .ne (gdO m f) (gdO m f) s=.ok (.bl false) s:=by
 show(match eqv s DEEP (gdO m f) (gdO m f)with|some r=>R.ok (D.bl (!r)) s|none=>.bad)=_
 rw[eqv_gdO];rfl
section
variable {P:Pr} [Has P d_grid] [Has P d_least] [Has P d_added] [Has P d_rooms_of] [Has P d_doors_of] [Has P d_letter_table] [HasL P d_letter_table_l0] [Has P d_plain] [HasL P d_plain_l0] [Has P d_product] [HasL P d_product_l0] [Has P d_word_table]
 [Has P w_bag] [Has P w_take] [Has P w_rooms] [Has P w_machine] [Has P w_word] [Has P w_same_2] [Has P w_from_room] [Has P w_law_k10]
end
section
variable {P:Pr} [Has P d_begins_of] [Has P d_ends_of] [Has P d_at_begins_and_ends]
noncomputable def beW (m:Mc)(W:Nat->Nat->D):List D:=m.bg.flatMap λ p=>m.en.map λ q=>W p q
theorem bg_len {m:Mc}(y:m.Ok):m.bg.length<=5:=by
 have nd:m.bg.Nodup:=y.bg.2.imp (λ h=>ay h)
 have:=ee (l₂:=ae m.R) nd (λ x hx=>bq.mpr (y.bg.1 x hx))
 have:=y.R5
 simp at *;omega
theorem en_len {m:Mc}(y:m.Ok):m.en.length<=5:=by
 have nd:m.en.Nodup:=y.en.2.imp (λ h=>ay h)
 have:=ee (l₂:=ae m.R) nd (λ x hx=>bq.mpr (y.en.1 x hx))
 have:=y.R5
 simp at *;omega
theorem flat_len {α β:Type}{f:α->List β}{B:Nat}:∀ {l:List α},(∀ x∈l,(f x).length<=B)->(l.flatMap f).length<=l.length*B
 | [],_=>by simp
 | a::l,h=>by
  rw[List.flatMap_cons,aR,aW,jK]
  have C:=h a (aF ..)
  have y:=flat_len (f:=f) (l:=l) λ x hx=>h x (ax _ hx)
  omega
theorem abe_ok (n:Nat){m:Mc}(y:m.Ok){W:Nat->Nat->D}(hW:∀ i j n,(W i j).bnd n=true)(s:Sto) :
  (callN P (n+2)).call "at_begins_and_ends" [m.d,gdD m.R W] s=.ok (.ref s.length) (s++[.lst (beW m W)]):=by
 have e0:(callN P (n+2)).call "at_begins_and_ends" [m.d,gdD m.R W] s=_:=zd d_at_begins_and_ends (n:=n+1) rfl
 have hb:=bg_len y
 have he:=en_len y
 have key:=qd (ok:=λ s1=>chk (s++[O.lst []]) s1 []) (g:=turn (callN P (n+1)) (.one 3) (.cons (.ex (.ext (.var 2) (.comp (.one 0) (.seq (.call "ends_of" (.ex (.var 0) .nil))) (.ix (.ix (.var 1) (.var 2)) (.var 0)) [none,some 1,some 3]))) .nil)) (λ k ρ t=>∃ x,ρ=[some m.d,some (gdD m.R W),some (.ref s.length),x]/\t=s++[.lst ((m.bg.take k).flatMap λ p=>m.en.map λ q=>W p q)]) (qW m.bg) 0 [some m.d,some (gdD m.R W),some (.ref s.length),none] (s++[O.lst []]) ⟨none,rfl,by rw[j9];rfl⟩ (λ _ _ _ _ _=>rfl) (by
  rintro k d ρ t hk ⟨x,rfl,rfl⟩
  rw[aU]
  unfold qW at hk
  rw[av]at hk
  obtain⟨p,hp,rfl⟩:=bJ.mp hk
  have G:=y.bg.1 p (aS hp)
  have Z:∀ s,ixM (gdD m.R W) (.int (p:Int)) s=.ok (.tup ((ae m.R).map λ j=>W p j)) s:=λ s=>ix_tup (by rw[av,a7 G];rfl)
  generalize hS:s++[O.lst ((m.bg.take k).flatMap λ p=>m.en.map λ q=>W p q)]=S
  obtain⟨ρ1,s1,e1,rfl,_⟩:=comp_map (ok:=λ s1=>chk S s1 []) (g:=turnC (callN P (n+1)) (.one 0) (.ix (.ix (.var 1) (.var 2)) (.var 0))) (λ ρ u=>u=S/\∃ x,ρ=[x,some (gdD m.R W),some (.int (p:Int))]) (λ d=>match d with|.int q=>W p q.toNat|d=>d) (qW m.en) [none,some (gdD m.R W),some (.int (p:Int))] S ⟨rfl,none,rfl⟩ (λ _ _ _=>rfl) (by
   rintro d hd ρ u ⟨rfl,x,rfl⟩
   obtain⟨q,hq,rfl⟩:=aB.mp hd
   have C:=y.en.1 q hq
   have J:∀ s,ixM (.tup ((ae m.R).map λ j=>W p j)) (.int (q:Int)) s=.ok (W p q) s:=λ s=>ix_tup (by rw[av,a7 C];rfl)
   refine⟨[some (.int (q:Int)),some (gdD m.R W),some (.int (p:Int))],u,?_,rfl,_,rfl⟩
   unfold turnC
   tbr_iter [Z,J,cc])
  have er:(qW m.en).map (λ d=>match d with|.int q=>W p q.toNat|d=>d)=m.en.map λ q=>W p q:=by
   unfold qW;rw[cR];rfl
  rw[er]at e1
  have hl:((m.bg.take k).flatMap λ p=>m.en.map λ q=>W p q).length<=25:=by
   refine am (flat_len (B:=5) λ x hx=>by simpa using he) ?_
   have:(m.bg.take k).length<=5:=by rw[bz];omega
   omega
  have ex:extM (.ref s.length) (m.en.map λ q=>W p q) s1=.ok .non (s++[.lst ((m.bg.take (k+1)).flatMap λ p=>m.en.map λ q=>W p q)]):=by
   rw[<-hS,ext_lst getL (by unfold LIM;simp at *;omega),set_tail,qp hp,List.flatMap_append]
   simp
  have Y:∀ t,seqM (.tup (qW m.en)) t=.ok ⟨qW m.en,[]⟩ t:=λ _=>rfl
  refine⟨_,_,.inl ?_,some (.int (p:Int)),rfl,rfl⟩
  unfold turn
  tbr_iter [ev_ext,evL_comp,ends_of_ok n,Y,if_pos (show(qW m.en).length<=LIM by rw[nats_len];unfold LIM;omega),show qx [some m.d,some (gdD m.R W),some (D.ref s.length),some (D.int (p:Int))] [none,some 1,some 3]=[none,some (gdD m.R W),some (.int (p:Int))]from rfl,e1,ex])
 obtain⟨ρ',s',ek,x,rfl,rfl⟩:=key
 rw[aU,nats_len,b9]at ek
 have Y:∀ t,seqM (.tup (qW m.bg)) t=.ok ⟨qW m.bg,[]⟩ t:=λ _=>rfl
 rw[e0,show(bw some [m.d,gdD m.R W]++ao d_at_begins_and_ends.vs none)=[some m.d,some (gdD m.R W),none,none]from rfl]
 simp -implicitDefEqProofs only[d_at_begins_and_ends]
 tbr_iter [begins_of_ok n,Y]
 rw[ek]
 tbr_iter []
 exact canon_one (by
  unfold O.bnd
  refine zO (λ d hd n=>?_) _
  obtain⟨p,_,h⟩:=dw.mp hd
  obtain⟨q,_,rfl⟩:=aB.mp h
  exact hW p q n)
variable [Has P d_grid] [Has P d_least] [Has P d_added] [Has P d_rooms_of] [Has P d_doors_of] [Has P d_letter_table] [HasL P d_letter_table_l0] [Has P d_plain] [HasL P d_plain_l0] [Has P d_product] [HasL P d_product_l0] [Has P d_word_table] [Has P d_price]
noncomputable def beO (m:Mc)(f:Nat->Nat->Option Int):List (Option Int):=m.bg.flatMap λ p=>m.en.map λ q=>f p q
theorem beO_least {m:Mc}(J:m.Ok){w:List Nat}{f:Nat->Nat->Option Int}(Y:TabW m w f):Least (m.Wk w) (minI ((beO m f).filterMap id)):=by
 unfold beO
 refine Least.low (λ x hx=>?_) λ c hc=>?_
 ·obtain⟨o,ho,e⟩:=bj.mp hx
  obtain⟨p,G,h⟩:=dw.mp ho
  obtain⟨q,hq,rfl⟩:=aB.mp h
  have C:=Y p q (J.bg.1 p G) (J.en.1 q hq)
  rw[show f p q=some x from e]at C
  exact⟨p,G,q,hq,C.1⟩
 ·obtain⟨p,G,q,hq,hw⟩:=hc
  have C:=Y p q (J.bg.1 p G) (J.en.1 q hq)
  cases e:f p q with
  | none=>rw[e]at C;exact absurd hw (C c)
  | some y =>
   rw[e]at C
   exact⟨y,bj.mpr ⟨some y,dw.mpr ⟨p,G,aB.mpr ⟨q,hq,e⟩⟩,rfl⟩,C.2 c hw⟩
theorem beO_len {m:Mc}(h:m.Ok)(f:Nat->Nat->Option Int):(beO m f).length<=25:=by
 have hb:=bg_len h
 refine am (flat_len (B:=5) λ x hx=>by simpa using en_len h) ?_
 omega
theorem beW_enc (m:Mc)(f:Nat->Nat->Option Int):beW m (λ i j=>zG (f i j))=rowD (beO m f):=by
 unfold beW beO rowD
 rw[List.map_flatMap]
 congr 1
 funext p
 rw[cR];rfl
theorem tab_price_ok (n:Nat){m:Mc}(h:m.Ok)(f:Nat->Nat->Option Int)(s:Sto) :
  (callN P (n+2)).call "at_begins_and_ends" [m.d,gdO m.R f] s=.ok (.ref s.length) (s++[.lst (rowD (beO m f))])/\(callN P (n+2)).call "least" [.ref s.length] (s++[.lst (rowD (beO m f))])=.ok (zG (minI ((beO m f).filterMap id))) (s++[.lst (rowD (beO m f))]):=by
 have e1:=abe_ok (P:=P) n h (W:=λ i j=>zG (f i j)) (λ i j n=>z9 _ n) s
 rw[beW_enc]at e1
 exact⟨e1,least_ok (P:=P) (n+1) getL (by have:=beO_len h f;omega)⟩
theorem price_ok (n:Nat){m:Mc}(h:m.Ok)(w:List Nat)(hw:w.length<=5000){s:Sto}(hs:s.all O.ncl=true) :
  ∃ o,Least (m.Wk w) o/\(callN P (n+6)).call "price" [m.d,.str w] s=.ok (zG o) s:=by
 have C:(callN P (n+6)).call "price" [m.d,.str w] s=_:=zd d_price (n:=n+5) rfl
 obtain⟨f,G,e1⟩:=word_table_ok (P:=P) n h w hw hs
 obtain⟨e2,y⟩:=tab_price_ok (P:=P) (n+3) h f s
 refine⟨_,beO_least h G,?_⟩
 rw[C,show(bw some [m.d,D.str w]++ao d_price.vs none)=[some m.d,some (D.str w)]from rfl]
 simp -implicitDefEqProofs only[d_price]
 tbr_iter [e1,e2,y]
 exact zF (z9 _) (encO_ref _)
end
noncomputable def Stdy (m:Nat)(f:Nat->Nat->Int):Prop:=EqG m (pr m f f) f
section
variable {P:Pr} [Has P d_grid] [Has P zH] [HasL P zz] [Has P jD]
variable [Has P d_round_of] [Has P d_sharpened] [HasL P jw] [HasC P "FREE" (.int 0)] [HasC P "UNBOUND" (.int 2)] [HasC P "NONE" (.int 3)]
end
section
variable {P:Pr} [Has P d_grid] [Has P zH] [HasL P zz] [Has P jD] [Has P jv]
end
section
variable {P:Pr} [Has P w_draw]
variable [Has P w_signs]
end
section
variable {m:Nat} (hm:1<=m) {g:Nat->Nat->Int} (hg:InG m g) (hst:Stdy m g)
include hm hg hst
end
theorem range_inv {m j:Nat}{f:Nat->D}{d:D}(h:((ae m).map f)[j]?=some d):j<m/\d=f j:=by
 have hj:=(ac.mp h).1
 simp at hj
 rw[av,a7 hj]at h
 exact⟨hj,(aw h).symm⟩
section
variable {P:Pr} [Has P w_draw] [Has P d_grid] [Has P zH] [HasL P zz] [Has P jD] [Has P d_round_of] [Has P d_sharpened] [HasL P jw] [HasC P "FREE" (.int 0)] [HasC P "UNBOUND" (.int 2)] [HasC P "NONE" (.int 3)] [Has P jv] [Has P w_goes_with] [Has P w_right]
variable [Has P w_box] [Has P w_signs] [Has P w_law_k25]
end
theorem jE {P:Pr}{n:Nat}{x:String}{d:D}[HasC P x d](ρ:Env)(s:Sto):ev (callN P n) (.glob x) ρ s=.ok d s:=by
 show(match(callN P n).con x with|some d=>R.ok d s|none=>.bad)=_
 rw[con_def (v:=d)]
noncomputable def un (i j:Nat):Int:=if i=j then 0 else 3
section
variable {m:Nat} (hm:1<=m)
end
section
variable {P:Pr} [Has P d_grid] [Has P d_plain_signs] [HasL P ja] [HasC P "FREE" (.int 0)] [HasC P "NONE" (.int 3)]
variable [Has P d_raised] [Has P zH] [HasL P zz]
variable [Has P d_sign_power] [HasC P "sign_product" (.fn "sign_product")]
end
section
variable {P:Pr} [Has P qS] [Has P w_unit] [Has P w_round]
end
section
variable {P:Pr} [Has P w_box] [Has P w_draw] [Has P w_signs] [Has P w_form] [Has P qS] [Has P w_unit] [Has P w_round] [Has P w_due_2] [Has P w_law_k22] [Has P d_grid] [Has P d_raised] [Has P d_plain_signs] [HasL P ja] [Has P zH] [HasL P zz] [Has P d_sign_power] [HasC P "FREE" (.int 0)] [HasC P "NONE" (.int 3)] [HasC P "sign_product" (.fn "sign_product")]
end
section
variable {P:Pr} [HasC P "FREE" (.int 0)] [HasC P "SOME" (.int 1)] [HasC P "NONE" (.int 3)] [Has P d_sign_of]
variable [Has P d_grid] [Has P d_reading] [HasL P d_reading_l0]
variable [Has P d_least] [Has P d_added] [Has P d_rooms_of] [Has P d_doors_of] [Has P d_letter_table] [HasL P d_letter_table_l0] [Has P d_plain] [HasL P d_plain_l0] [Has P d_product] [HasL P d_product_l0] [Has P d_word_table] [Has P d_word_signs]
variable [Has P d_begins_of] [Has P d_ends_of] [Has P d_at_begins_and_ends] [Has P d_end_sign]
end
inductive Rst where
 | let_ (c:Nat)|pair (i j:Nat)|times (i n:Nat)
noncomputable def Rst.d:Rst->D
 | .let_ c=>.tup [.str [108,101,116,116,101,114],.str [c]]
 | .pair i j=>.tup [.str [112,97,105,114],.int i,.int j]
 | .times i n=>.tup [.str [116,105,109,101,115],.int i,.int n]
theorem Rst.bnd (x:Rst)(n:Nat):x.d.bnd n=true:=by cases x<;>rfl
noncomputable def RsOk (k:Nat):Rst->Prop
 | .let_ c=>97<=c/\c<100
 | .pair i j=>i<k/\j<k
 | .times i n=>i<k/\1<=n/\n<=10^30
noncomputable def RssOk (l:List Rst):Prop:=∀ k x,l[k]?=some x->RsOk k x
theorem RssOk.nil:RssOk []:=λ k x h=>by cases h
theorem RssOk.snoc {l:List Rst}{x:Rst}(h:RssOk l)(hx:RsOk l.length x):RssOk (l++[x]):=λ k y e=>by
 by_cases hk:k<l.length
 ·rw[aD hk]at e;exact h k y e
 ·have C:=(ac.mp e).1
  simp at C
  have:k=l.length:=by omega
  subst this
  rw[ak (ah _),gx]at e
  cases e;exact hx
noncomputable def recHead:Ss->Ss:=λ t=>(.cons (.asg (.one 6) (.call "_law_draw" (.ex (.var 0) (.ex (.cst (.int 6)) .nil)))) (.cons (.asg (.one 7) (.call "_law_draw" (.ex (.var 0) (.ex (.bin .add (.var 5) (.cst (.int 1))) .nil)))) (.cons (.asg (.one 8) (.call "_law_draw" (.ex (.var 0) (.ex (.bin .add (.var 5) (.cst (.int 1))) .nil)))) (.cons (.asg (.one 9) (.bin .add (.cst (.int 1)) (.call "_law_draw" (.ex (.var 0) (.ex (.cst (.int 6)) .nil))))) (.cons (.ite (.cmp .eq (.call "_law_draw" (.ex (.var 0) (.ex (.cst (.int 3)) .nil))) (.cst (.int 2))) (.cons (.asg (.one 9) (.bin .add (.cst (.int 1)) (.call "_law_draw" (.ex (.var 0) (.ex (.bin .pow (.cst (.int 10)) (.cst (.int 30))) .nil))))) .nil) .nil) t)))))
noncomputable def RecR (s:Sto)(r most:Nat)(x:R D):Prop:=∃(l:List Rst) (b:Int),RssOk l/\1<=l.length/\l.length<=most/\x=.ok (.tup (l.map Rst.d)) (s.set r (qa b))
theorem rl0 {ch:Nat}{s:Sto}:ixM (Rst.let_ ch).d (.int 0) s=.ok (.str sLet) s:=rfl
theorem rl1 {ch:Nat}{s:Sto}:ixM (Rst.let_ ch).d (.int 1) s=.ok (.str [ch]) s:=rfl
theorem rp0 {i j:Nat}{s:Sto}:ixM (Rst.pair i j).d (.int 0) s=.ok (.str sPair) s:=rfl
theorem rp1 {i j:Nat}{s:Sto}:ixM (Rst.pair i j).d (.int 1) s=.ok (.int i) s:=rfl
theorem rp2 {i j:Nat}{s:Sto}:ixM (Rst.pair i j).d (.int 2) s=.ok (.int j) s:=rfl
theorem rt0 {i n:Nat}{s:Sto}:ixM (Rst.times i n).d (.int 0) s=.ok (.str ju) s:=rfl
theorem rt1 {i n:Nat}{s:Sto}:ixM (Rst.times i n).d (.int 1) s=.ok (.int i) s:=rfl
theorem rt2 {i n:Nat}{s:Sto}:ixM (Rst.times i n).d (.int 2) s=.ok (.int n) s:=rfl
theorem folded_okR {P:Pr}[Has P d_folded](n:Nat){l:List Rst}(hl:l.length<=5100)(hk:RssOk l){s:Sto}(d1 C y:D)(W:Nat->D)(hW:∀ k n,(W k).bnd n=true)
  (Y:∀ k ch,l[k]?=some (.let_ ch)->apV (callN P n) d1 [.str [ch]] (s++[.lst ((ae k).map W)])=.ok (W k) (s++[.lst ((ae k).map W)]))
  (h2:∀ k i j,l[k]?=some (.pair i j)->apV (callN P n) C [W i,W j] (s++[.lst ((ae k).map W)])=.ok (W k) (s++[.lst ((ae k).map W)]))
  (h3:∀ k i m,l[k]?=some (.times i m)->apV (callN P n) y [W i,.int (m:Nat)] (s++[.lst ((ae k).map W)])=.ok (W k) (s++[.lst ((ae k).map W)])) :
  (callN P (n+1)).call "folded" [.tup (l.map Rst.d),d1,C,y] s=.ok (.ref s.length) (s++[.lst ((ae l.length).map W)]):=by
 have e0:(callN P (n+1)).call "folded" [.tup (l.map Rst.d),d1,C,y] s=_:=zd d_folded (n:=n) rfl
 rw[e0,show(bw some [D.tup (l.map Rst.d),d1,C,y]++ao d_folded.vs none)=[some (D.tup (l.map Rst.d)),some d1,some C,some y,none,none]from rfl]
 simp -implicitDefEqProofs only[d_folded]
 simp -implicitDefEqProofs only[za,zl,ql,ev_lst,zy,R.bind_ok,alloc_eq,zm,zI,zD,aJ,zw,zo,ex_for,evI_seq,zg,ze,zh]
 rw[show seqM (.tup (l.map Rst.d)) (s++[O.lst []])=.ok ⟨l.map Rst.d,[]⟩ (s++[O.lst []])from rfl]
 simp only[R.bind_ok]
 rw[R.bind_assoc]
 refine for_bind (λ k ρ t=>∃(x:Option D),ρ=[some (D.tup (l.map Rst.d)),some d1,some C,some y,some (.ref s.length),x]/\t=s++[.lst ((ae k).map W)]) ⟨none,rfl,rfl⟩ (λ _ _ _ _ _=>rfl) ?_ ?_
 ·rintro k d ρ t hkk ⟨x,rfl,rfl⟩
  rw[av]at hkk
  obtain⟨v,hv,hd⟩:∃ v,l[k]?=some v/\Rst.d v=d:=by
   cases e:l[k]? with
   | none=>rw[e]at hkk;cases hkk
   | some v=>rw[e]at hkk;exact⟨v,rfl,aw hkk⟩
  subst hd
  have Z:=(ac.mp hv).1
  have hok:=hk k v hv
  have L1:((ae k).map W).length<LIM:=by unfold LIM;rw[az,bZ];omega
  have g0:(s++[O.lst ((ae k).map W)])[s.length]?=some (.lst ((ae k).map W)):=by rw[ak (ah _)];simp
  have J:∀ i,i<k->ixM (.ref s.length) (.int (i:Int)) (s++[O.lst ((ae k).map W)])=.ok (W i) (s++[O.lst ((ae k).map W)]):=λ i G=>ix_lst g0 (by rw[av,a7 G];rfl)
  refine Nx_of (ρ:=[some (D.tup (l.map Rst.d)),some d1,some C,some y,some (.ref s.length),some v.d]) (s:=s++[.lst ((ae (k+1)).map W)]) ?_ ⟨_,rfl,rfl⟩
  rw[cj,bB]
  unfold turn
  cases v with
  | let_ ch =>
   have h:=Y k ch hv
   simp -implicitDefEqProofs only[zm,zI,zD,aJ,za,zl,zV,zK,qQ,zg,zx,zB,qY,ze,zh,R.bind_ok,rl0,qb,show(sLet=[108,101,116,116,101,114])=True from eq_self _,decide_true,zJ,if_true,ex_ex,qt,zv,zy]
   rw[qy (d:=d1) _ rfl]
   simp -implicitDefEqProofs only[zv,zy,qQ,zg,zx,zB,ze,zh,R.bind_ok,rl1,h]
   rw[qg L1];rfl
  | pair i j =>
   obtain⟨G,hj⟩:=hok
   have h:=h2 k i j hv
   simp -implicitDefEqProofs only[zm,zI,zD,aJ,za,zl,zV,zK,qQ,zg,zx,zB,qY,ze,zh,R.bind_ok,rp0,qb,show(sPair=[108,101,116,116,101,114])=False by decide,show(sPair=[112,97,105,114])=True from eq_self _,decide_true,decide_false,aK,zJ,if_true,if_false,ex_ex,qt,zv,zy]
   rw[qy (d:=C) _ rfl]
   simp -implicitDefEqProofs only[zv,zy,qQ,zg,zx,zB,ze,zh,R.bind_ok,rp1,rp2,J i G,J j hj,h]
   rw[qg L1];rfl
  | times i m =>
   obtain⟨G,_⟩:=hok
   have h:=h3 k i m hv
   simp -implicitDefEqProofs only[zm,zI,zD,aJ,za,zl,zV,zK,qQ,zg,zx,zB,qY,ze,zh,R.bind_ok,rt0,qb,show(ju=[108,101,116,116,101,114])=False by decide,show(ju=[112,97,105,114])=False by decide,decide_false,aK,zJ,if_false,ex_ex,qt,zv,zy]
   rw[qy (d:=y) _ rfl]
   simp -implicitDefEqProofs only[zv,zy,qQ,zg,zx,zB,ze,zh,R.bind_ok,rt1,rt2,J i G,h]
   rw[qg L1];rfl
 ·rintro ρ t ⟨x,rfl,rfl⟩
  rw[az]
  simp -implicitDefEqProofs only[zo,za,zl,qZ,zg,ze,zh,R.bind_ok,qw,qu]
  exact canon_one (by unfold O.bnd;exact zO (λ d hd n=>by obtain⟨x,_,rfl⟩:=aB.mp hd;exact hW x n) _)
noncomputable def lenOf (vs:List Nat):Rst->Nat
 | .let_ _=>1
 | .pair i j=>vs.getD i 0+vs.getD j 0
 | .times i n=>vs.getD i 0*n
noncomputable def zW (l:List Rst):List Nat:=l.foldl (λ vs x=>vs++[lenOf vs x]) []
theorem lens_snoc {l:List Rst}{x:Rst}:zW (l++[x])=zW l++[lenOf (zW l) x]:=by unfold zW;rw[d6];rfl
theorem lens_take {l:List Rst}{k:Nat}{x:Rst}(h:l[k]?=some x):zW (l.take (k+1))=zW (l.take k)++[lenOf (zW (l.take k)) x]:=by rw[qp h,lens_snoc]
theorem jk {l:List Rst}:∀ k,k<=l.length->(zW (l.take k)).length=k
 | 0,_=>by simp[zW]
 | k+1,h=>by
  rw[lens_take (ag (show k<l.length by omega)),aR,jk k (by omega)];rfl
theorem lens_more:∀(l:List Rst) (vs:List Nat),∃ t,l.foldl (λ vs x=>vs++[lenOf vs x]) vs=vs++t
 | [],vs=>⟨[],by simp⟩
 | x::l,vs=>by
  obtain⟨t,e⟩:=lens_more l (vs++[lenOf vs x])
  exact⟨lenOf vs x::t,by rw[ci,e];simp⟩
theorem qh {l:List Rst}{k i:Nat}(hk:k<=l.length)(h:i<k):(zW (l.take k)).getD i 0=(zW l).getD i 0:=by
 obtain⟨t,e⟩:=lens_more (l.drop k) (zW (l.take k))
 have:zW l=zW (l.take k)++t:=by
  rw[<-e]
  conv=>lhs;rw[<-gM k l]
  unfold zW;rw[d6]
 have hl:=jk (l:=l) k hk
 rw[this,aG,aG,aD (by omega)]
theorem jC {l:List Rst}{k:Nat}{x:Rst}(h:l[k]?=some x):(zW l).getD k 0=lenOf (zW (l.take k)) x:=by
 have hk:=(ac.mp h).1
 rw[<-qh (k:=k+1) (by omega) (du k),lens_take h]
 have hl:=jk (l:=l) k (by omega)
 rw[aG,ak (by omega),hl,gx];rfl
theorem lens_bd {l:List Rst}(hl:RssOk l):∀ k,k<l.length->1<=(zW l).getD k 0/\(zW l).getD k 0<=2^(101*k):=by
 intro k
 induction k using eM with
 | _ k ih =>
  intro hk
  have hx:=ag hk
  have hok:=hl k _ hx
  rw[jC hx]
  generalize l[k]=x at hok
  cases x with
  | let_ c=>exact⟨ah _,Nat.one_le_two_pow⟩
  | pair i j =>
   obtain⟨y,hj⟩:=hok
   show 1<=(zW (l.take k)).getD i 0+(zW (l.take k)).getD j 0/\(zW (l.take k)).getD i 0+(zW (l.take k)).getD j 0<=_
   rw[qh (by omega) y,qh (by omega) hj]
   have J:=ih i y (by omega)
   have Y:=ih j hj (by omega)
   obtain⟨h,rfl⟩:∃ h,k=h+1:=⟨k - 1,by omega⟩
   have G:2^(101*i)<=2^(101*h):=bV (by decide) (by omega)
   have Z:2^(101*j)<=2^(101*h):=bV (by decide) (by omega)
   have C:2^(101*(h+1))=2^(101*h)*2^101:=by rw[show 101*(h+1)=101*h+101 by omega,Nat.pow_add]
   have p4:2^(101*h)*2<=2^(101*h)*2^101:=ig _ (by decide)
   rw[C]
   omega
  | times i m =>
   obtain⟨y,hm1,hm2⟩:=hok
   show 1<=(zW (l.take k)).getD i 0*m/\(zW (l.take k)).getD i 0*m<=_
   rw[qh (by omega) y]
   have J:=ih i y (by omega)
   obtain⟨h,rfl⟩:∃ h,k=h+1:=⟨k - 1,by omega⟩
   have G:2^(101*i)<=2^(101*h):=bV (by decide) (by omega)
   have C:2^(101*(h+1))=2^(101*h)*2^101:=by rw[show 101*(h+1)=101*h+101 by omega,Nat.pow_add]
   rw[C]
   exact⟨Nat.mul_pos (by omega) (by omega),Nat.mul_le_mul (am J.2 G) (am hm2 (by decide))⟩
theorem lens_full {l:List Rst}:(ae l.length).map (λ k=>D.int (((zW l).getD k 0:Nat):Int))=qW (zW l):=by
 have hl:=jk (l:=l) l.length (ah _)
 rw[b9]at hl
 apply fC
 intro i
 by_cases hi:i<l.length
 ·rw[av,a7 hi]
  unfold qW
  rw[av,ag (show i<(zW l).length by omega)]
  simp[aG,ag (show i<(zW l).length by omega)]
 ·rw[bD (by simp;omega),bD (by unfold qW;simp;omega)]
theorem lens_big {l:List Rst}(hl:RssOk l)(C:l.length<=500){k:Nat}(hk:k<l.length):((((zW l).getD k 0:Nat):Int)).natAbs<BIG:=by
 have y:=(lens_bd hl k hk).2
 have h:2^(101*k)<=2^50600:=bV (by decide) (by omega)
 have h3:2^50600<BIG:=by unfold BIG;exact Nat.pow_lt_pow_right (by decide) (by decide)
 rw[Int.natAbs_natCast]
 omega
theorem n30_big {n:Nat}(h:n<=10^30):((n:Int)).natAbs<BIG:=c_big (by omega) (by
 have:((n:Nat):Int)<=((10^30:Nat):Int):=by exact_mod_cast h
 exact eU this (by decide +kernel))
section
variable {P:Pr} [Has P d_folded] [Has P d_counted] [HasL P d_counted_l0] [HasL P d_counted_l1] [HasL P d_counted_l2]
theorem countedR_ok (n:Nat){l:List Rst}(h5:l.length<=500)(hk:RssOk l){s:Sto}(hs:s.all O.ncl=true) :
  (callN P (n+3)).call "counted" [.tup (l.map Rst.d),.int 1] s=.ok (.ref s.length) (s++[.lst (qW (zW l))]):=by
 have Z:(callN P (n+3)).call "counted" [.tup (l.map Rst.d),.int 1] s=_:=zd d_counted (n:=n+2) rfl
 have h:=jk (l:=l) l.length (ah _)
 rw[b9]at h
 have y:∀ k,(s++[O.lst ((ae k).map λ k=>D.int (((zW l).getD k 0:Nat):Int))]).all O.ncl=true:=λ k=>by
  rw[jS,hs]
  simp only[eA,iY,O.ncl,dD,dC]
  exact qk λ d hd=>by obtain⟨x,_,rfl⟩:=aB.mp hd;rfl
 have hf:=folded_okR (P:=P) (n+1) (by omega) hk (s:=s) (.clo "counted.2" [.int 1]) (.clo "counted.1" []) (.clo "counted.0" []) (λ k=>.int (((zW l).getD k 0:Nat):Int)) (λ _ _=>rfl)
  (λ k ch hv=>by
   refine(qU d_counted_l2 (n:=n) rfl rfl (by rw[y k];rfl)).trans ?_
   rw[jC hv]
   exact z8)
  (λ k i j hv=>by
   refine(qU d_counted_l1 (n:=n) rfl rfl (by rw[y k];rfl)).trans ?_
   have C:=(ac.mp hv).1
   obtain⟨G,J⟩:=hk k _ hv
   have e:(((zW l).getD k 0:Nat):Int)=(((zW l).getD i 0:Nat):Int)+(((zW l).getD j 0:Nat):Int):=by
    rw[jC hv,show lenOf (zW (l.take k)) (.pair i j)=(zW (l.take k)).getD i 0+(zW (l.take k)).getD j 0 from rfl,qh (by omega) G,qh (by omega) J]
    omega
   rw[e]
   exact z8)
  (λ k i m hv=>by
   refine(qU d_counted_l0 (n:=n) rfl rfl (by rw[y k];rfl)).trans ?_
   have C:=(ac.mp hv).1
   obtain⟨G,hm1,hm2⟩:=hk k _ hv
   have e:(((zW l).getD k 0:Nat):Int)=(((zW l).getD i 0:Nat):Int)*(m:Int):=by
    rw[jC hv,show lenOf (zW (l.take k)) (.times i m)=(zW (l.take k)).getD i 0*m from rfl,qh (by omega) G,gF]
   rw[e]
   have Y:mulOk (((zW l).getD i 0:Nat):Int) (m:Int)=true:=mulOk_b (lens_big hk h5 (by omega)) (n30_big hm2)
   show(ev (callN P n) (.bin .mul (.var 0) (.var 1)) [some (.int (((zW l).getD i 0:Nat):Int)),some (.int (m:Int))] _).bind (zQ _)=_
   simp -implicitDefEqProofs only[qL,zg,ze,zh,R.bind_ok,mul_int Y]
   exact z8)
 rw[Z,show(bw some [D.tup (l.map Rst.d),.int 1]++ao d_counted.vs none)=[some (D.tup (l.map Rst.d)),some (.int 1)]from rfl]
 simp -implicitDefEqProofs only[d_counted,za,zl,qZ,jr,zT,zg,ze,zh,R.bind_ok]
 rw[qz (cs:=[.int 1]) _ rfl,qz (cs:=[]) _ rfl,qz (cs:=[]) _ rfl]
 simp -implicitDefEqProofs only[zP,R.bind_ok,hf]
 have:=y l.length
 rw[if_pos (by rw[this];rfl)]
 rw[lens_full]
 simp -implicitDefEqProofs only[R.bind_ok,qw,qu]
 exact canon_one (by unfold O.bnd;exact zO nats_bnd _)
end
theorem ev_negi {F:Fns}{ρ:Env}{s:Sto}:ev F (.neg (.cst (.int 1))) ρ s=.ok (.int (-1)) s:=rfl
theorem ixL_last {s:Sto}{r:Nat}{l:List D}{d:D}(h:s[r]?=some (.lst l))(hd:l[l.length - 1]?=some d):ixM (.ref r) (.int (-1)) s=.ok d s:=by
 have hl:=(ac.mp hd).1
 have hx:ixn l.length (-1)=some (l.length - 1):=by
  unfold ixn
  rw[if_neg (by decide),if_pos (by omega)]
  congr 1;omega
 simp only[ixM,h,hx,fY,hd]
section
variable {P:Pr} [Has P d_folded] [Has P d_counted] [HasL P d_counted_l0] [HasL P d_counted_l1] [HasL P d_counted_l2] [Has P d_letter_at] [Has P d_long_length]
end
noncomputable def tb38:Ss:=(.cons (.ex (.meth .append (.var 3) (.cons (.tup (.cons (.cst (.str [112,97,105,114])) (.cons (.var 4) (.cons (.bin .sub (.var 4) (.call "_law_draw" (.ex (.var 0) (.ex (.bin .add (.bi .min2 (.cons (.var 4) (.cons (.cst (.int 1)) .nil))) (.cst (.int 1))) .nil)))) .nil)))) .nil))) .nil)
section
variable {α:Type} (d:α) (fl:Nat->α) (fp:α->α->α) (ft:α->Nat->α)
noncomputable def foV (vs:List α):Rst->α
 | .let_ c=>fl c
 | .pair i j=>fp (vs.getD i d) (vs.getD j d)
 | .times i n=>ft (vs.getD i d) n
noncomputable def foR (l:List Rst):List α:=l.foldl (λ vs x=>vs++[foV d fl fp ft vs x]) []
theorem foR_take {l:List Rst}{k:Nat}{x:Rst}(h:l[k]?=some x):foR d fl fp ft (l.take (k+1))=foR d fl fp ft (l.take k)++[foV d fl fp ft (foR d fl fp ft (l.take k)) x]:=by
 rw[qp h];unfold foR;rw[d6];rfl
theorem foR_len {l:List Rst}:∀ k,k<=l.length->(foR d fl fp ft (l.take k)).length=k
 | 0,_=>by simp[foR]
 | k+1,h=>by
  rw[foR_take d fl fp ft (ag (show k<l.length by omega)),aR,foR_len k (by omega)];rfl
theorem foR_more:∀(l:List Rst) (vs:List α),∃ t,l.foldl (λ vs x=>vs++[foV d fl fp ft vs x]) vs=vs++t
 | [],vs=>⟨[],by simp⟩
 | x::l,vs=>by
  obtain⟨t,e⟩:=foR_more l (vs++[foV d fl fp ft vs x])
  exact⟨foV d fl fp ft vs x::t,by rw[ci,e];simp⟩
theorem foR_pre {l:List Rst}{k i:Nat}(hk:k<=l.length)(h:i<k):(foR d fl fp ft (l.take k)).getD i d=(foR d fl fp ft l).getD i d:=by
 obtain⟨t,e⟩:=foR_more d fl fp ft (l.drop k) (foR d fl fp ft (l.take k))
 have:foR d fl fp ft l=foR d fl fp ft (l.take k)++t:=by
  rw[<-e]
  conv=>lhs;rw[<-gM k l]
  unfold foR;rw[d6]
 have hl:=foR_len d fl fp ft (l:=l) k hk
 rw[this,aG,aG,aD (by omega)]
theorem foR_at {l:List Rst}{k:Nat}{x:Rst}(h:l[k]?=some x):(foR d fl fp ft l).getD k d=foV d fl fp ft (foR d fl fp ft (l.take k)) x:=by
 have hk:=(ac.mp h).1
 rw[<-foR_pre d fl fp ft (k:=k+1) (by omega) (du k),foR_take d fl fp ft h]
 have hl:=foR_len d fl fp ft (l:=l) k (by omega)
 rw[aG,ak (by omega),hl,gx];rfl
theorem foR_l {l:List Rst}{k c:Nat}(h:l[k]?=some (.let_ c)):(foR d fl fp ft l).getD k d=fl c:=foR_at d fl fp ft h
theorem foR_p {l:List Rst}{k i j:Nat}(h:l[k]?=some (.pair i j))(y:i<k)(hj:j<k):(foR d fl fp ft l).getD k d=fp ((foR d fl fp ft l).getD i d) ((foR d fl fp ft l).getD j d):=by
 have hk:=(ac.mp h).1
 rw[foR_at d fl fp ft h,<-foR_pre d fl fp ft (k:=k) (by omega) y,<-foR_pre d fl fp ft (k:=k) (by omega) hj];rfl
theorem foR_t {l:List Rst}{k i n:Nat}(h:l[k]?=some (.times i n))(y:i<k):(foR d fl fp ft l).getD k d=ft ((foR d fl fp ft l).getD i d) n:=by
 have hk:=(ac.mp h).1
 rw[foR_at d fl fp ft h,<-foR_pre d fl fp ft (k:=k) (by omega) y];rfl
end
theorem lens_p {l:List Rst}{k i j:Nat}(h:l[k]?=some (.pair i j))(y:i<k)(hj:j<k):(zW l).getD k 0=(zW l).getD i 0+(zW l).getD j 0:=by
 have hk:=(ac.mp h).1
 rw[jC h,show lenOf (zW (l.take k)) (.pair i j)=(zW (l.take k)).getD i 0+(zW (l.take k)).getD j 0 from rfl,qh (by omega) y,qh (by omega) hj]
theorem lens_t {l:List Rst}{k i n:Nat}(h:l[k]?=some (.times i n))(y:i<k):(zW l).getD k 0=(zW l).getD i 0*n:=by
 have hk:=(ac.mp h).1
 rw[jC h,show lenOf (zW (l.take k)) (.times i n)=(zW (l.take k)).getD i 0*n from rfl,qh (by omega) y]
theorem lens_l {l:List Rst}{k c:Nat}(h:l[k]?=some (.let_ c)):(zW l).getD k 0=1:=by rw[jC h];rfl
noncomputable def wds (l:List Rst):List (List Nat):=foR [] (λ c=>[c]) (·++·) (λ w n=>rep n w) l
noncomputable def wd (l:List Rst)(k:Nat):List Nat:=(wds l).getD k []
theorem wd_l {l:List Rst}{k c:Nat}(h:l[k]?=some (.let_ c)):wd l k=[c]:=foR_l _ _ _ _ h
theorem wd_p {l:List Rst}{k i j:Nat}(h:l[k]?=some (.pair i j))(y:i<k)(hj:j<k):wd l k=wd l i++wd l j:=foR_p _ _ _ _ h y hj
theorem wd_t {l:List Rst}{k i n:Nat}(h:l[k]?=some (.times i n))(y:i<k):wd l k=rep n (wd l i):=foR_t _ _ _ _ h y
theorem wd_len {l:List Rst}(hl:RssOk l):∀ k,k<l.length->(wd l k).length=(zW l).getD k 0:=by
 intro k
 induction k using eM with
 | _ k ih =>
  intro hk
  have hx:=ag hk
  have hok:=hl k _ hx
  generalize l[k]=x at hok hx
  cases x with
  | let_ c=>rw[wd_l hx,lens_l hx];rfl
  | pair i j=>rw[wd_p hx hok.1 hok.2,lens_p hx hok.1 hok.2,aR,ih i hok.1 (by have:=hok.1;omega),ih j hok.2 (by have:=hok.2;omega)]
  | times i n=>rw[wd_t hx hok.1,lens_t hx hok.1,rep_len,ih i hok.1 (by have:=hok.1;omega)]
theorem raised_gen {P:Pr}[Has P d_raised](n:Nat)(W:Nat->D)(h:String){s:Sto}(hb:∀ k n,(W k).bnd n=true)(hr:∀ k r,W k≠.ref r)(J:∀ a b,(callN P n).call h [W a,W b] s=.ok (W (a+b)) s)(many:Nat) :
  (callN P (n+1)).call "raised" [W 1,.int many,W 0,.fn h] s=.ok (W many) s:=by
 have e0:(callN P (n+1)).call "raised" [W 1,.int many,W 0,.fn h] s=_:=zd d_raised (n:=n) rfl
 have key:∀ a b,apV (callN P n) (.fn h) [W a,W b] s=.ok (W (a+b)) s:=J
 rw[e0,show(bw some [W 1,.int many,W 0,.fn h]++ao d_raised.vs none)=[some (W 1),some (.int many),some (W 0),some (.fn h),none,none,none]from rfl]
 simp -implicitDefEqProofs only[d_raised]
 simp -implicitDefEqProofs only[za,zl,ql,zg,ze,zh,R.bind_ok,zm,zI,zD,aJ,zw,zo,ex_whl]
 rw[R.bind_assoc]
 refine whl_bind (λ k ρ t=>∃(a b left:Nat),left=k/\a+b*left=many/\ρ=[some (W 1),some (.int many),some (W 0),some (.fn h),some (W a),some (W b),some (.int left)]/\t=s) (λ ρ t=>∃(b:Nat) (x:Option D),ρ=[some (W 1),some (.int many),some (W 0),some (.fn h),some (W many),some (W b),x]/\t=s) many ⟨0,1,many,rfl,by omega,rfl,rfl⟩ ?_ ?_
 ·rintro k ρ t ⟨a,b,left,rfl,hab,rfl,rfl⟩
  simp -implicitDefEqProofs only[zK,zg,zx,zB,ze,zh,R.bind_ok,gt_int,Tst_bl]
  by_cases hl:(0:Int)<(left:Int)
  ·simp only[hl,decide_true,if_true]
   have C:qM .fdiv (.int left) (.int 2) t=.ok (.int ((left / 2:Nat):Int)) t:=by rw[fdiv_int (by decide) (by decide)];simp
   have G:qM .mod (.int left) (.int 2) t=.ok (.int ((left % 2:Nat):Int)) t:=by rw[jz (by decide)];simp
   obtain⟨y,ha',e1⟩:∃ y:Nat,y+b*(2*(left / 2))=many/\ex (callN P n) (.ite (.cmp .eq (.bin .mod (.var 6) (.cst (.int 2))) (.cst (.int 1))) (.cons (.asg (.one 4) (.callV 3 (.cons (.var 4) (.cons (.var 5) .nil)))) .nil) .nil) [some (W 1),some (.int many),some (W 0),some (.fn h),some (W a),some (W b),some (.int left)] t=.ok (.next [some (W 1),some (.int many),some (W 0),some (.fn h),some (W y),some (W b),some (.int left)]) t:=by
    by_cases ho:((left % 2:Nat):Int)=1
    ·refine⟨a+b,?_,?_⟩
     ·have:left=2*(left / 2)+1:=by omega
      rw[this,dQ]at hab
      have e2:2*((2*(left / 2)+1) / 2)=2*(left / 2):=by omega
      omega
     ·simp -implicitDefEqProofs only[zV,zK,qL,zg,zx,zB,ze,zh,R.bind_ok,G,eq_int,ho,decide_true,zJ,if_true,za,zl,ql]
      rw[qy (d:=.fn h) _ rfl]
      simp -implicitDefEqProofs only[zv,zy,zg,ze,zh,R.bind_ok,key a b,zm,zI,zD,aJ,zw,zo,zl]
    ·refine⟨a,?_,?_⟩
     ·have:left=2*(left / 2):=by omega
      rw[<-this];exact hab
     ·simp -implicitDefEqProofs only[zV,zK,qL,zg,zx,zB,ze,zh,R.bind_ok,G,eq_int,ho,decide_false,zJ,if_false,aK,zl]
   have e2:∃ Y:Nat,y+Y*(left / 2)=many/\exs (callN P n) (.cons (.asg (.one 6) (.bin .fdiv (.var 6) (.cst (.int 2)))) (.cons (.ite (.cmp .gt (.var 6) (.cst (.int 0))) (.cons (.asg (.one 5) (.callV 3 (.cons (.var 5) (.cons (.var 5) .nil)))) .nil) .nil) .nil)) [some (W 1),some (.int many),some (W 0),some (.fn h),some (W y),some (W b),some (.int left)] t=.ok (.next [some (W 1),some (.int many),some (W 0),some (.fn h),some (W y),some (W Y),some (.int ((left / 2:Nat):Int))]) t:=by
    by_cases hl2:(0:Int)<((left / 2:Nat):Int)
    ·refine⟨b+b,?_,?_⟩
     ·rw[<-ha',jK,<-fN,iW b 2,fN];omega
     ·simp -implicitDefEqProofs only[za,ql,qL,zg,zx,zB,ze,zh,R.bind_ok,C,zm,zI,zD,aJ,zw,zo,zV,zK,gt_int,hl2,decide_true,zJ,if_true,zl]
      rw[qy (d:=.fn h) _ rfl]
      simp -implicitDefEqProofs only[zv,zy,zg,ze,zh,R.bind_ok,key b b,zm,zI,zD,aJ,zw,zo,zl]
    ·refine⟨b,?_,?_⟩
     ·have:left / 2=0:=by omega
      rw[this]at ha' ⊢
      exact ha'
     ·simp -implicitDefEqProofs only[za,ql,qL,zg,zx,zB,ze,zh,R.bind_ok,C,zm,zI,zD,aJ,zw,zo,zV,zK,gt_int,hl2,decide_false,zJ,if_false,aK,zl]
   obtain⟨Y,Z,e2⟩:=e2
   have e3:exs (callN P n) (.cons (.ite (.cmp .eq (.bin .mod (.var 6) (.cst (.int 2))) (.cst (.int 1))) (.cons (.asg (.one 4) (.callV 3 (.cons (.var 4) (.cons (.var 5) .nil)))) .nil) .nil) (.cons (.asg (.one 6) (.bin .fdiv (.var 6) (.cst (.int 2)))) (.cons (.ite (.cmp .gt (.var 6) (.cst (.int 0))) (.cons (.asg (.one 5) (.callV 3 (.cons (.var 5) (.cons (.var 5) .nil)))) .nil) .nil) .nil))) [some (W 1),some (.int many),some (W 0),some (.fn h),some (W a),some (W b),some (.int left)] t=.ok (.next [some (W 1),some (.int many),some (W 0),some (.fn h),some (W y),some (W Y),some (.int ((left / 2:Nat):Int))]) t:=by
    rw[za,e1,R.bind_ok,zo,e2]
   rw[e3]
   exact⟨left / 2,by omega,y,Y,left / 2,rfl,Z,rfl,rfl⟩
  ·simp only[hl,decide_false,if_false,aK]
   have h0:left=0:=by omega
   subst h0
   have:a=many:=by omega
   subst this
   exact⟨b,_,rfl,trivial⟩
 ·rintro ρ t ⟨b,x,rfl,rfl⟩
  simp -implicitDefEqProofs only[zo,za,zl,qZ,zg,ze,zh,R.bind_ok,qw,qu]
  exact zr (hb many) (hr many)
theorem rep_add (w:List Nat)(b:Nat):∀ a,rep (a+b) w=rep a w++rep b w
 | 0=>by rw[aU];rfl
 | a+1=>by rw[Nat.succ_add];show w++rep (a+b) w=(w++rep a w)++rep b w;rw[rep_add w b a,fv]
theorem rep_1 (w:List Nat):rep 1 w=w:=bE w
noncomputable def tbO (m:Mc):List Nat->Nat->Nat->Option Int
 | []=>λ i j=>if i=j then some 0 else none
 | c::w=>prO m.R (ltF m.ds c) (tbO m w)
theorem tbO_ok {m:Mc}(h:m.Ok):∀ w,TabW m w (tbO m w)
 | []=>TabW.nil
 | c::w=>TabW.mul h (TabW.letter c) (tbO_ok h w)
noncomputable def tbD (m:Mc)(w:List Nat):D:=gdO m.R (tbO m w)
theorem jc {m:Mc}{w:List Nat}(n:Nat):(tbD m w).bnd n=true:=jx n
theorem tbD_ncl {m:Mc}{w:List Nat}:(tbD m w).ncl=true:=gdO_ncl
theorem tbD_of {m:Mc}(y:m.Ok){w:List Nat}{f:Nat->Nat->Option Int}(h:TabW m w f):gdO m.R f=tbD m w:=h.eq (tbO_ok y w)
theorem tbD_mul {m:Mc}(h:m.Ok)(v w:List Nat):gdO m.R (prO m.R (tbO m v) (tbO m w))=tbD m (v++w):=tbD_of h ((tbO_ok h v).mul h (tbO_ok h w))
section
variable {P:Pr} [Has P d_grid] [Has P d_least] [Has P d_added] [Has P d_plain] [HasL P d_plain_l0] [Has P d_product] [HasL P d_product_l0] [Has P d_raised] [Has P d_power] [HasC P "product" (.fn "product")]
theorem powerO_ok (n:Nat){m:Mc}(y:m.Ok)(w:List Nat)(many:Nat){s:Sto}(hs:s.all O.ncl=true) :
  (callN P (n+6)).call "power" [tbD m w,.int many] s=.ok (tbD m (rep many w)) s:=by
 have G:(callN P (n+6)).call "power" [tbD m w,.int many] s=_:=zd d_power (n:=n+5) rfl
 have e1:=raised_gen (P:=P) (n+4) (λ a=>tbD m (rep a w)) "product" (s:=s) (λ _ n=>jc n) (λ _ _ h=>by cases h) (λ a b=>by
  rw[tbD,tbD,qX (P:=P) n y.R5 _ _ hs,tbD_mul y,<-rep_add]) many
 rw[show rep 1 w=w from rep_1 w]at e1
 have e2:=plain_ok (P:=P) (n+2) y.R5 hs
 have g1:=λ ρ s=>jE (P:=P) (n:=n+5) (x := "product") (d:=.fn "product") ρ s
 have C:bi .len [tbD m w] s=.ok (.int m.R) s:=gdO_len
 rw[G,show(bw some [tbD m w,D.int many]++ao d_power.vs none)=[some (tbD m w),some (.int many)]from rfl,show d_power.body=(.cons (.ret (.call "raised" (.ex (.var 0) (.ex (.var 1) (.ex (.call "plain" (.ex (.bi .len (.cons (.var 0) .nil)) .nil)) (.ex (.glob "product") .nil)))))) .nil)from rfl]
 tbr_iter [C,e2,g1]
 rw[show(gdO m.R λ i j=>if i=j then some 0 else none)=tbD m (rep 0 w)from rfl,e1]
 tbr_iter []
 exact zr jc (by nofun)
end
noncomputable def RsB (k:Nat):Rst->Prop
 | .let_ _=>True
 | .pair i j=>i<k/\j<k
 | .times i _=>i<k
noncomputable def RssB (l:List Rst):Prop:=∀ k x,l[k]?=some x->RsB k x
theorem RssOk.b {l:List Rst}(h:RssOk l):RssB l:=λ k x e=>by
 have:=h k x e
 cases x
 ·trivial
 ·exact this
 ·exact this.1
theorem folded_gen {P:Pr}[Has P d_folded](n:Nat){l:List Rst}(hl:l.length<=5100)(hk:RssB l){s:Sto}{J:D}{src:List Nat}(hsr:∀ r∈src,r<s.length)(a0:∀ t,seqM J (s++t)=.ok ⟨l.map Rst.d,src⟩ (s++t))(d1 G C:D)(W:Nat->D)(hW:∀ k n,(W k).bnd n=true)
  (h1:∀ k ch,l[k]?=some (.let_ ch)->apV (callN P n) d1 [.str [ch]] (s++[.lst ((ae k).map W)])=.ok (W k) (s++[.lst ((ae k).map W)]))
  (h2:∀ k i j,l[k]?=some (.pair i j)->apV (callN P n) G [W i,W j] (s++[.lst ((ae k).map W)])=.ok (W k) (s++[.lst ((ae k).map W)]))
  (h3:∀ k i m,l[k]?=some (.times i m)->apV (callN P n) C [W i,.int (m:Nat)] (s++[.lst ((ae k).map W)])=.ok (W k) (s++[.lst ((ae k).map W)])) :
  (callN P (n+1)).call "folded" [J,d1,G,C] s=.ok (.ref s.length) (s++[.lst ((ae l.length).map W)]):=by
 have e0:(callN P (n+1)).call "folded" [J,d1,G,C] s=_:=zd d_folded (n:=n) rfl
 rw[e0,show(bw some [J,d1,G,C]++ao d_folded.vs none)=[some J,some d1,some G,some C,none,none]from rfl]
 simp -implicitDefEqProofs only[d_folded]
 simp -implicitDefEqProofs only[za,zl,ql,ev_lst,zy,R.bind_ok,alloc_eq,zm,zI,zD,aJ,zw,zo,ex_for,evI_seq,zg,ze,zh]
 rw[a0]
 simp only[R.bind_ok]
 rw[R.bind_assoc]
 refine for_bind (λ k ρ t=>∃(x:Option D),ρ=[some J,some d1,some G,some C,some (.ref s.length),x]/\t=s++[.lst ((ae k).map W)]) ⟨none,rfl,rfl⟩ (λ _ _ _ _ h=>?_) ?_ ?_
 ·obtain⟨_,_,rfl⟩:=h
  unfold chk
  exact aP.mpr λ r hr=>by rw[aD (hsr r hr),aD (hsr r hr)];simp
 ·rintro k d ρ t hkk ⟨x,rfl,rfl⟩
  rw[av]at hkk
  obtain⟨v,hv,hd⟩:∃ v,l[k]?=some v/\Rst.d v=d:=by
   cases e:l[k]? with
   | none=>rw[e]at hkk;cases hkk
   | some v=>rw[e]at hkk;exact⟨v,rfl,aw hkk⟩
  subst hd
  have a1:=(ac.mp hv).1
  have hok:=hk k v hv
  have L1:((ae k).map W).length<LIM:=by unfold LIM;rw[az,bZ];omega
  have g0:(s++[O.lst ((ae k).map W)])[s.length]?=some (.lst ((ae k).map W)):=by rw[ak (ah _)];simp
  have Z:∀ i,i<k->ixM (.ref s.length) (.int (i:Int)) (s++[O.lst ((ae k).map W)])=.ok (W i) (s++[O.lst ((ae k).map W)]):=λ i Y=>ix_lst g0 (by rw[av,a7 Y];rfl)
  refine Nx_of (ρ:=[some J,some d1,some G,some C,some (.ref s.length),some v.d]) (s:=s++[.lst ((ae (k+1)).map W)]) ?_ ⟨_,rfl,rfl⟩
  rw[cj,bB]
  unfold turn
  cases v with
  | let_ ch =>
   have y:=h1 k ch hv
   simp -implicitDefEqProofs only[zm,zI,zD,aJ,za,zl,zV,zK,qQ,zg,zx,zB,qY,ze,zh,R.bind_ok,rl0,qb,show(sLet=[108,101,116,116,101,114])=True from eq_self _,decide_true,zJ,if_true,ex_ex,qt,zv,zy]
   rw[qy (d:=d1) _ rfl]
   simp -implicitDefEqProofs only[zv,zy,qQ,zg,zx,zB,ze,zh,R.bind_ok,rl1,y]
   rw[qg L1];rfl
  | pair i j =>
   obtain⟨Y,hj⟩:=hok
   have y:=h2 k i j hv
   simp -implicitDefEqProofs only[zm,zI,zD,aJ,za,zl,zV,zK,qQ,zg,zx,zB,qY,ze,zh,R.bind_ok,rp0,qb,show(sPair=[108,101,116,116,101,114])=False by decide,show(sPair=[112,97,105,114])=True from eq_self _,decide_true,decide_false,aK,zJ,if_true,if_false,ex_ex,qt,zv,zy]
   rw[qy (d:=G) _ rfl]
   simp -implicitDefEqProofs only[zv,zy,qQ,zg,zx,zB,ze,zh,R.bind_ok,rp1,rp2,Z i Y,Z j hj,y]
   rw[qg L1];rfl
  | times i m =>
   have Y:=hok
   have y:=h3 k i m hv
   simp -implicitDefEqProofs only[zm,zI,zD,aJ,za,zl,zV,zK,qQ,zg,zx,zB,qY,ze,zh,R.bind_ok,rt0,qb,show(ju=[108,101,116,116,101,114])=False by decide,show(ju=[112,97,105,114])=False by decide,decide_false,aK,zJ,if_false,ex_ex,qt,zv,zy]
   rw[qy (d:=C) _ rfl]
   simp -implicitDefEqProofs only[zv,zy,qQ,zg,zx,zB,ze,zh,R.bind_ok,rt1,rt2,Z i Y,y]
   rw[qg L1];rfl
 ·rintro ρ t ⟨x,rfl,rfl⟩
  rw[az]
  simp -implicitDefEqProofs only[zo,za,zl,qZ,zg,ze,zh,R.bind_ok,qw,qu]
  exact canon_one (by unfold O.bnd;exact zO (λ d hd n=>by obtain⟨x,_,rfl⟩:=aB.mp hd;exact hW x n) _)
section
variable {P:Pr} [Has P d_folded] [Has P d_counted] [HasL P d_counted_l0] [HasL P d_counted_l1] [HasL P d_counted_l2] [Has P jo]
end
section
variable {P:Pr} [Has P d_grid] [Has P d_least] [Has P d_added] [Has P d_rooms_of] [Has P d_doors_of] [Has P d_letter_table] [HasL P d_letter_table_l0] [Has P d_plain] [HasL P d_plain_l0] [Has P d_product] [HasL P d_product_l0] [Has P d_raised] [Has P d_power] [HasC P "product" (.fn "product")] [HasC P "power" (.fn "power")] [Has P d_folded] [Has P d_last_table] [HasL P d_last_table_l0]
theorem last_get {α:Type}{n:Nat}(h:1<=n)(W:Nat->α):((ae n).map W)[((ae n).map W).length - 1]?=some (W (n - 1)):=by
 rw[az,bZ,av,a7 (by omega)];rfl
theorem range_ncl {s:Sto}(hs:s.all O.ncl=true){W:Nat->D}(h:∀ k,(W k).ncl=true)(k:Nat):(s++[O.lst ((ae k).map W)]).all O.ncl=true :=
 all_snoc hs (qk λ d hd=>by obtain⟨x,_,rfl⟩:=aB.mp hd;exact h x)
theorem last_table_ok (n:Nat){m:Mc}(h:m.Ok){l:List Rst}(hl:l.length<=5100)(Y:1<=l.length)(hk:RssB l){s:Sto}(hs:s.all O.ncl=true){C:D}{src:List Nat}(hsr:∀ r∈src,r<s.length)(J:∀ t,seqM C (s++t)=.ok ⟨l.map Rst.d,src⟩ (s++t)) :
  (callN P (n+8)).call "last_table" [m.d,C] s=.ok (tbD m (wd l (l.length - 1))) s:=by
 have e0:(callN P (n+8)).call "last_table" [m.d,C] s=_:=zd d_last_table (n:=n+7) rfl
 have y:=range_ncl hs (W:=λ k=>tbD m (wd l k)) (λ k=>tbD_ncl)
 have hf:=folded_gen (P:=P) (n+6) hl hk hsr J (.clo "last_table.0" [m.d]) (.fn "product") (.fn "power") (λ k=>tbD m (wd l k)) (λ _ n=>jc n)
  (λ k ch hv=>by
   refine(qU d_last_table_l0 (n:=n+5) rfl rfl (by rw[y k];unfold D.nclL;rw[mc_ncl];rfl)).trans ?_
   have e1:=jd (P:=P) (n+1) h ch (y k)
   rw[tbD_of h (TabW.letter ch)]at e1
   rw[show wd l k=[ch]from wd_l hv]
   show(ev (callN P (n+5)) (.call "letter_table" (.ex (.var 1) (.ex (.var 0) .nil))) [some (.str [ch]),some m.d] _).bind (zQ _)=_
   tbr_iter [e1]
   exact zr jc (by nofun))
  (λ k i j hv=>by
   obtain⟨G,hj⟩:=hk k _ hv
   rw[wd_p hv G hj,<-tbD_mul h]
   exact qX (P:=P) (n+2) h.R5 _ _ (y k))
  (λ k i q hv=>by
   have G:=hk k _ hv
   rw[wd_t hv G]
   exact powerO_ok (P:=P) n h _ q (y k))
 have g1:=λ ρ s=>jE (P:=P) (n:=n+7) (x := "product") (d:=.fn "product") ρ s
 have Z:=λ ρ s=>jE (P:=P) (n:=n+7) (x := "power") (d:=.fn "power") ρ s
 have il:=ixL_last (getL (s:=s)) (last_get Y λ k=>tbD m (wd l k))
 rw[e0,show(bw some [m.d,C]++ao d_last_table.vs none)=[some m.d,some C]from rfl,show d_last_table.body=(.cons (.ret (.ix (.callC "folded" (.ex (.var 1) (.lam "last_table.0" [0] (.ex (.glob "product") (.ex (.glob "power") .nil))))) (.neg (.cst (.int 1))))) .nil)from rfl]
 simp -implicitDefEqProofs only[za,zl,qZ,qQ,jr,zT,zg,ze,zh,R.bind_ok]
 rw[qz (cs:=[m.d]) _ rfl]
 simp -implicitDefEqProofs only[zT,zP,g1,Z,R.bind_ok,hf]
 rw[if_pos (by rw[y l.length];rfl)]
 simp -implicitDefEqProofs only[R.bind_ok,ev_negi,il,qw,qu]
 exact zF jc (by nofun)
theorem tup_all {l:List Rst}{s:Sto}:∀ t,seqM (.tup (l.map Rst.d)) (s++t)=.ok ⟨l.map Rst.d,[]⟩ (s++t):=λ _=>rfl
theorem long_table_ok [Has P d_long_table](n:Nat){m:Mc}(G:m.Ok){l:List Rst}(hl:l.length<=5100)(y:1<=l.length)(hk:RssB l){s:Sto}(hs:s.all O.ncl=true) :
  (callN P (n+9)).call "long_table" [m.d,.tup (l.map Rst.d)] s=.ok (tbD m (wd l (l.length - 1))) s:=by
 have C:(callN P (n+9)).call "long_table" [m.d,.tup (l.map Rst.d)] s=_:=zd d_long_table (n:=n+8) rfl
 have e1:=last_table_ok (P:=P) n G hl y hk hs (src:=[]) (λ _ h=>by cases h) (tup_all (l:=l))
 rw[C,show(bw some [m.d,D.tup (l.map Rst.d)]++ao d_long_table.vs none)=[some m.d,some (.tup (l.map Rst.d))]from rfl,show d_long_table.body=(.cons (.ret (.call "last_table" (.ex (.var 0) (.ex (.var 1) .nil)))) .nil)from rfl]
 tbr_iter [e1]
 exact zr jc (by nofun)
end
noncomputable def Stp.r (c:Nat):Stp->Rst
 | .let_ x=>.let_ x
 | .pair i j=>.pair i j
 | .sharp i=>.times i c
section
variable {P:Pr} [Has P jo] [Has P d_rooms_of] [Has P d_unrolled]
variable [Has P d_grid] [Has P d_least] [Has P d_added] [Has P d_doors_of] [Has P d_letter_table] [HasL P d_letter_table_l0] [Has P d_plain] [HasL P d_plain_l0] [Has P d_product] [HasL P d_product_l0] [Has P d_raised] [Has P d_power] [HasC P "product" (.fn "product")] [HasC P "power" (.fn "power")] [Has P d_folded] [Has P d_last_table] [HasL P d_last_table_l0] [Has P jb]
end
noncomputable def bg (w:List Nat):List Nat:=w.take 2001
theorem bg_bg (w:List Nat):bg (bg w)=bg w:=by unfold bg;rw[g7];rfl
theorem bg_app (v w:List Nat):bg (bg v++bg w)=bg (v++w):=by
 unfold bg
 rw[jH,jH,g7,g7,bz]
 by_cases h:v.length<=2001
 ·rw[show min (2001 - min 2001 v.length) 2001=2001 - v.length by omega];simp
 ·rw[show min (2001 - min 2001 v.length) 2001=2001 - v.length by omega];simp
theorem bg_rep {w:List Nat}(h:1<=w.length){many:Nat}(y:1<=many):bg (rep (min many (2000 / (bg w).length+1)) (bg w))=bg (rep many w):=by
 by_cases hw:w.length<=2000
 ·have e:bg w=w:=cr (by omega)
  rw[e]
  by_cases hm:many<=2000 / w.length+1
  ·rw[jT hm]
  ·rw[fZ (by omega)]
   obtain⟨t,rfl⟩:∃ t,many=(2000 / w.length+1)+t:=⟨many - (2000 / w.length+1),by omega⟩
   rw[rep_add w t (2000 / w.length+1)]
   unfold bg
   rw[cN]
   rw[rep_len,dQ,jL]
   have:=Nat.div_add_mod 2000 w.length
   have:=Nat.mod_lt 2000 (show w.length > 0 by omega)
   omega
 ·have e:(bg w).length=2001:=by unfold bg;rw[bz];omega
  rw[e,show 2000 / 2001+1=1 from rfl,fZ y,rep_1,bg_bg]
  obtain⟨t,rfl⟩:∃ t,many=1+t:=⟨many - 1,by omega⟩
  rw[rep_add,rep_1]
  unfold bg
  rw[cN (by omega)]
section
variable {P:Pr} [HasC P "MOST_WRITTEN" (.int 2000)] [Has P d_begun] [Has P d_begun_times]
theorem begun_ok (n:Nat)(w:List Nat)(s:Sto):(callN P (n+1)).call "begun" [.str w] s=.ok (.str (bg w)) s:=by
 have C:(callN P (n+1)).call "begun" [.str w] s=_:=zd d_begun (n:=n) rfl
 have g1:=λ ρ s=>jE (P:=P) (n:=n) (x := "MOST_WRITTEN") (d:=.int 2000) ρ s
 have y:∀ s,slM (.str w) none (some ((2000:Int)+1)) s=.ok (.str (bg w)) s:=λ s=>by
  show R.ok (D.str (cutL w none (some ((2000:Int)+1)))) s=_
  congr 2
  unfold cutL loB hiB sbd
  dsimp only
  rw[if_pos (by decide),kB,gY]
  unfold bg
  rw[show((2000:Int)+1).toNat=2001 from rfl]
  by_cases h:w.length<=2001
  ·rw[fZ h,cr (ah _),cr h]
  ·rw[jT (by omega)]
 rw[C,show(bw some [D.str w]++ao d_begun.vs none)=[some (.str w)]from rfl,show d_begun.body=(.cons (.ret (.slU (.var 0) (.bin .add (.glob "MOST_WRITTEN") (.cst (.int 1))))) .nil)from rfl]
 tbr_iter [ev_slU,g1,y]
 exact zr (λ _=>rfl) (by nofun)
theorem begun_times_ok (n:Nat){w:List Nat}(h:1<=w.length){many:Nat}(Y:1<=many)(s:Sto):(callN P (n+2)).call "begun_times" [.str (bg w),.int (many:Int)] s=.ok (.str (bg (rep many w))) s:=by
 have Z:(callN P (n+2)).call "begun_times" [.str (bg w),.int (many:Int)] s=_:=zd d_begun_times (n:=n+1) rfl
 have g1:=λ ρ s=>jE (P:=P) (n:=n+1) (x := "MOST_WRITTEN") (d:=.int 2000) ρ s
 have J:1<=(bg w).length:=by unfold bg;rw[bz];omega
 have G:(bg w).length<=2001:=by unfold bg;rw[bz];omega
 have hd:qM .fdiv (.int 2000) (.int ((bg w).length:Int)) s=.ok (.int ((2000 / (bg w).length:Nat):Int)) s:=by
  rw[fdiv_int (by omega) (Int.lt_of_le_of_lt (show((bg w).length:Int)<=2001 by omega) (by decide))];rfl
 have y:(if(2000 / (bg w).length:Nat)+1<(many:Int)then((2000 / (bg w).length:Nat):Int)+1 else(many:Int))=((min many (2000 / (bg w).length+1):Nat):Int):=by
  split<;>omega
 have hq:2000 / (bg w).length<=2000:=Nat.div_le_self _ _
 have C:∀ s,qM .mul (.str (bg w)) (.int ((min many (2000 / (bg w).length+1):Nat):Int)) s=.ok (.str (rep (min many (2000 / (bg w).length+1)) (bg w))) s:=λ s=>by
  have hx:(bg w).length*min many (2000 / (bg w).length+1)<=10000:=by
   refine am (ig _ (fU _ _)) ?_
   rw[dQ,jL]
   have:=Nat.mul_div_le 2000 (bg w).length
   omega
  have hM:min many (2000 / (bg w).length+1)<=2001:=am (fU _ _) (Nat.succ_le_succ hq)
  generalize min many (2000 / (bg w).length+1)=M at hx hM ⊢
  rw[mul_str ⟨by omega,by omega,by rw[cc];unfold LIM;omega⟩,cc]
 have e1:=begun_ok (P:=P) n (rep (min many (2000 / (bg w).length+1)) (bg w)) s
 rw[bg_rep h Y]at e1
 rw[Z,show(bw some [D.str (bg w),D.int (many:Int)]++ao d_begun_times.vs none)=[some (.str (bg w)),some (.int (many:Int)),none]from rfl,show d_begun_times.body=(.cons (.asg (.one 2) (.bin .add (.bin .fdiv (.glob "MOST_WRITTEN") (.bi .len (.cons (.var 0) .nil))) (.cst (.int 1)))) (.cons (.ret (.call "begun" (.ex (.bin .mul (.var 0) (.bi .min2 (.cons (.var 1) (.cons (.var 2) .nil)))) .nil))) .nil))from rfl]
 tbr_iter [g1,len_str,hd,min2_int,y,C,e1]
 exact zr (λ _=>rfl) (by nofun)
noncomputable def RssN (l:List Rst):Prop:=∀(k i n:Nat),l[k]?=some (Rst.times i n)->1<=n
theorem wd_ne {l:List Rst}(hk:RssB l)(hn:RssN l):∀ k,k<l.length->1<=(wd l k).length:=by
 intro k
 induction k using eM with
 | _ k ih =>
  intro h
  cases e:l[k]? with
  | none=>rw[ag h]at e;cases e
  | some x =>
   have hb:=hk k x e
   cases x with
   | let_ c=>rw[wd_l e];simp
   | pair i j=>rw[wd_p e hb.1 hb.2,aR];have:=ih i hb.1 (cF hb.1 h);omega
   | times i n =>
    have C:=hn k i n e
    have y:=ih i hb (cF hb h)
    rw[wd_t e hb,rep_len]
    exact am y (Nat.le_mul_of_pos_right _ C)
variable [HasC P "begun_times" (.fn "begun_times")] [Has P d_folded] [Has P d_last_word] [HasL P d_last_word_l0] [HasL P d_last_word_l1]
theorem last_word_ok (n:Nat){l:List Rst}(hl:l.length<=5100)(Z:1<=l.length)(hk:RssB l)(hn:RssN l){s:Sto}(hs:s.all O.ncl=true){h:D}{src:List Nat}(hsr:∀ r∈src,r<s.length)(J:∀ t,seqM h (s++t)=.ok ⟨l.map Rst.d,src⟩ (s++t))(hw:(wd l (l.length - 1)).length<=2000) :
  (callN P (n+4)).call "last_word" [h] s=.ok (.str (wd l (l.length - 1))) s:=by
 have e0:(callN P (n+4)).call "last_word" [h] s=_:=zd d_last_word (n:=n+3) rfl
 have C:=range_ncl hs (W:=λ k=>.str (bg (wd l k))) (λ k=>rfl)
 have hf:=folded_gen (P:=P) (n+2) hl hk hsr J (.clo "last_word.1" []) (.clo "last_word.0" []) (.fn "begun_times") (λ k=>.str (bg (wd l k))) (λ _ n=>rfl)
  (λ k ch hv=>by
   refine(qU d_last_word_l1 (n:=n+1) rfl rfl (by rw[C k];rfl)).trans ?_
   rw[show wd l k=[ch]from wd_l hv]
   exact zr (λ _=>rfl) (by nofun))
  (λ k i j hv=>by
   refine(qU d_last_word_l0 (n:=n+1) rfl rfl (by rw[C k];rfl)).trans ?_
   obtain⟨y,hj⟩:=hk k _ hv
   have e1:=begun_ok (P:=P) n (bg (wd l i)++bg (wd l j)) (s++[.lst ((ae k).map λ k=>D.str (bg (wd l k)))])
   rw[bg_app]at e1
   have hb:∀ v:List Nat,(bg v).length<=2001:=λ v=>by unfold bg;rw[bz];omega
   have ea:∀ s,qM .add (.str (bg (wd l i))) (.str (bg (wd l j))) s=.ok (.str (bg (wd l i)++bg (wd l j))) s:=λ s=>add_str (by have:=hb (wd l i);have:=hb (wd l j);unfold LIM;omega)
   rw[wd_p hv y hj]
   show(ev (callN P (n+1)) (.call "begun" (.ex (.bin .add (.var 0) (.var 1)) .nil)) [some (.str (bg (wd l i))),some (.str (bg (wd l j)))] _).bind (zQ _)=_
   tbr_iter [ea,e1]
   exact zr (λ _=>rfl) (by nofun))
  (λ k i q hv=>by
   have y:=hk k _ hv
   rw[wd_t hv y]
   have G:=(ac.mp hv).1
   exact begun_times_ok (P:=P) n (wd_ne hk hn i (cF y G)) (hn k i q hv) _)
 have g1:=λ ρ s=>jE (P:=P) (n:=n+3) (x := "begun_times") (d:=.fn "begun_times") ρ s
 have g2:=λ ρ s=>jE (P:=P) (n:=n+3) (x := "MOST_WRITTEN") (d:=.int 2000) ρ s
 have Y:=ixL_last (getL (s:=s)) (last_get Z λ k=>D.str (bg (wd l k)))
 have eb:bg (wd l (l.length - 1))=wd l (l.length - 1):=cr (by omega)
 rw[eb]at Y
 rw[e0,show(bw some [h]++ao d_last_word.vs none)=[some h,none]from rfl,show d_last_word.body=(.cons (.asg (.one 1) (.ix (.callC "folded" (.ex (.var 0) (.lam "last_word.1" [] (.lam "last_word.0" [] (.ex (.glob "begun_times") .nil))))) (.neg (.cst (.int 1))))) (.cons (.ite (.cmp .gt (.bi .len (.cons (.var 1) .nil)) (.glob "MOST_WRITTEN")) (.cons .raise .nil) .nil) (.cons (.ret (.var 1)) .nil)))from rfl]
 simp -implicitDefEqProofs only[za,zl,ql,qQ,jr,zT,zg,ze,zh,R.bind_ok]
 rw[qz (cs:=[]) _ rfl,qz (cs:=[]) _ rfl]
 simp -implicitDefEqProofs only[zT,zP,g1,R.bind_ok,hf]
 rw[if_pos (by rw[C l.length];rfl)]
 tbr_iter [ev_negi,Y,len_str,g2,show((2000:Int)<((wd l (l.length - 1)).length:Int))=False from eq_false (by omega)]
 exact zF (λ _=>rfl) (by nofun)
theorem long_word_ok [Has P d_long_word](n:Nat){l:List Rst}(hl:l.length<=5100)(y:1<=l.length)(hk:RssB l)(hn:RssN l){s:Sto}(hs:s.all O.ncl=true)(hw:(wd l (l.length - 1)).length<=2000) :
  (callN P (n+5)).call "long_word" [.tup (l.map Rst.d)] s=.ok (.str (wd l (l.length - 1))) s:=by
 have C:(callN P (n+5)).call "long_word" [.tup (l.map Rst.d)] s=_:=zd d_long_word (n:=n+4) rfl
 have e1:=last_word_ok (P:=P) n hl y hk hn hs (src:=[]) (λ _ h=>by cases h) (tup_all (l:=l)) hw
 rw[C,show(bw some [D.tup (l.map Rst.d)]++ao d_long_word.vs none)=[some (.tup (l.map Rst.d))]from rfl,show d_long_word.body=(.cons (.ret (.call "last_word" (.ex (.var 0) .nil))) .nil)from rfl]
 tbr_iter [e1]
 exact zr (λ _=>rfl) (by nofun)
variable [Has P jo] [Has P d_rooms_of] [Has P d_unrolled] [Has P jf]
end
noncomputable def lsO (a b:Option Int):Option Int:=match a,b with
 | none,b=>b
 | some x,none=>some x
 | some x,some y=>if y<x then some y else some x
theorem least3_ok {P:Pr}[Has P w_least_3](n:Nat)(a b:Option Int)(s:Sto):(callN P (n+1)).call "_law_least" [zG a,zG b] s=.ok (zG (lsO a b)) s:=by
 have C:(callN P (n+1)).call "_law_least" [zG a,zG b] s=_:=zd w_least_3 (n:=n) rfl
 rw[C,show(bw some [zG a,zG b]++ao w_least_3.vs none)=[some (zG a),some (zG b)]from rfl]
 simp -implicitDefEqProofs only[w_least_3]
 have G:∀ i:Int,∀ s,qv .lt (.int i) (.int i) s=.ok (.bl false) s:=λ i s=>by simp
 cases a with
 | none =>
  cases b with
  | none=>exact zr (λ _=>rfl) (by nofun)
  | some y=>exact z8
 | some x =>
  cases b with
  | none=>exact z8
  | some y =>
   by_cases h:y<x
   ·simp -implicitDefEqProofs only[za,zl,zV,ev_or,ev_and,ev_isN,ev_notN,zg,ze,zh,R.bind_ok,zG,zJ,zK,lt_int,h,decide_true,if_true,if_false,aK,qZ,qw,qu,lsO]
    exact z8
   ·simp -implicitDefEqProofs only[za,zl,zV,ev_or,ev_and,ev_isN,ev_notN,zg,ze,zh,R.bind_ok,zG,zJ,zK,lt_int,h,decide_false,if_true,if_false,aK,qZ,qw,zo,qu,lsO]
    exact z8
noncomputable def tmN (f g:Nat->Nat->Option Int)(i j:Nat):Nat->Option Int
 | 0=>none
 | k+1=>match f i k,g k j with
  | some a,some b=>lsO (tmN f g i j k) (some (a+b))
  | _,_=>tmN f g i j k
noncomputable def TmS (f g:Nat->Nat->Option Int)(i j k:Nat)(c:Int):Prop:=∃ l,l<k/\∃ a b,f i l=some a/\g l j=some b/\c=a+b
theorem lsO_least {S:Int->Prop}{o:Option Int}(h:Least S o)(y:Int):Least (λ c=>S c\/c=y) (lsO o (some y)):=by
 cases o with
 | none=>exact⟨.inr rfl,λ c hc=>by rcases hc with hc|hc;exact absurd hc (h c);omega⟩
 | some x =>
  unfold lsO
  dsimp only
  split
  ·exact⟨.inr rfl,λ c hc=>by rcases hc with hc|hc;have:=h.2 c hc;omega;omega⟩
  ·exact⟨.inl h.1,λ c hc=>by rcases hc with hc|hc;exact h.2 c hc;omega⟩
theorem tmN_least (f g:Nat->Nat->Option Int)(i j:Nat):∀ k,Least (TmS f g i j k) (tmN f g i j k)
 | 0=>λ c hc=>by obtain⟨l,hl,_⟩:=hc;omega
 | k+1=>by
  have J:=tmN_least f g i j k
  have same:(∀ a b,¬(f i k=some a/\g k j=some b))->Least (TmS f g i j (k+1)) (tmN f g i j k):=λ G=>J.congr λ c=>by
   constructor
   ·rintro⟨l,hl,r⟩;exact⟨l,by omega,r⟩
   ·rintro⟨l,hl,a,b,C,y,h3⟩
    by_cases e:l=k
    ·subst e;exact absurd ⟨C,y⟩ (G a b)
    ·exact⟨l,by omega,a,b,C,y,h3⟩
  show Least (TmS f g i j (k+1)) (match f i k,g k j with|some a,some b=>lsO (tmN f g i j k) (some (a+b))|_,_=>tmN f g i j k)
  cases e1:f i k with
  | none=>exact same λ a b h=>by rw[e1]at h;cases h.1
  | some a =>
   cases e2:g k j with
   | none=>exact same λ a b h=>by rw[e2]at h;cases h.2
   | some b =>
    refine(lsO_least J (a+b)).congr λ c=>?_
    constructor
    ·rintro(⟨l,hl,r⟩|rfl)
     ·exact⟨l,by omega,r⟩
     ·exact⟨k,by omega,a,b,e1,e2,rfl⟩
    ·rintro⟨l,hl,Z,Y,C,y,h3⟩
     by_cases e:l=k
     ·subst e;rw[e1]at C;rw[e2]at y;cases C;cases y;exact .inr h3
     ·exact .inl ⟨l,by omega,Z,Y,C,y,h3⟩
theorem tmN_prO (m:Nat)(f g:Nat->Nat->Option Int)(i j:Nat):tmN f g i j m=prO m f g i j:=by
 refine(tmN_least f g i j m).eq (S':=TmS f g i j m) (Least.low ?_ ?_) λ _=>kA
 ·intro x hx
  obtain⟨o,ho,e⟩:=bj.mp hx
  obtain⟨k,hk,rfl⟩:=aB.mp ho
  have hk:=bq.mp hk
  refine⟨k,hk,?_⟩
  cases e1:f i k with
  | none=>rw[e1]at e;simp[addO]at e
  | some a=>cases e2:g k j with
   | none=>rw[e1,e2]at e;simp[addO]at e
   | some b=>rw[e1,e2]at e;exact⟨a,b,rfl,rfl,by simpa [addO]using e.symm⟩
 ·rintro c ⟨k,hk,a,b,y,h,rfl⟩
  exact⟨a+b,bj.mpr ⟨addO (f i k) (g k j),aB.mpr ⟨k,bq.mpr hk,rfl⟩,by rw[y,h];rfl⟩,dP _⟩
noncomputable def tmI:Ss:=(.cons (.ite (.and (.notN (.ix (.var 3) (.var 7))) (.notN (.ix (.ix (.var 1) (.var 7)) (.var 5)))) (.cons (.asg (.one 6) (.call "_law_least" (.ex (.var 6) (.ex (.bin .add (.ix (.var 3) (.var 7)) (.ix (.ix (.var 1) (.var 7)) (.var 5))) .nil)))) .nil) .nil) .nil)
noncomputable def tmJ:Ss:=(.cons (.asg (.one 6) (.cst .non)) (.cons (.for_ (.one 7) (.rng1 (.bi .len (.cons (.var 0) .nil))) tmI) (.cons (.ex (.meth .append (.var 4) (.cons (.var 6) .nil))) .nil)))
noncomputable def tmL:Ss:=(.cons (.asg (.one 4) (.lst .nil)) (.cons (.for_ (.one 5) (.rng1 (.bi .len (.cons (.var 0) .nil))) tmJ) (.cons (.ex (.meth .append (.var 2) (.cons (.mk .tuple (.seq (.var 4))) .nil))) .nil)))
theorem tm_body:w_times.body=(.cons (.asg (.one 2) (.lst .nil)) (.cons (.for_ (.one 3) (.seq (.var 0)) tmL) (.cons (.ret (.mk .tuple (.seq (.var 2)))) .nil))):=rfl
section
variable {P:Pr} [Has P w_least_3] [Has P w_times]
theorem int_non (a:Int):(D.int a=D.non)=False:=eq_false (by nofun)
theorem tmI_ok (n:Nat){m:Nat}(f g:Nat->Nat->Option Int){i j:Nat}(hj:j<m)(t:Sto)(G C Y:Option D) :
  ∃ y,forL (λ s1=>chk t s1 []) (turn (callN P (n+1)) (.one 7) tmI) (jj 0 (m:Int)) [some (gdO m f),some (gdO m g),G,some (.tup (rowO m (f i))),C,some (.int (j:Int)),some .non,Y] t=.ok (.next [some (gdO m f),some (gdO m g),G,some (.tup (rowO m (f i))),C,some (.int (j:Int)),some (zG (prO m f g i j)),y]) t:=by
 have key:=qd (ok:=λ s1=>chk t s1 []) (g:=turn (callN P (n+1)) (.one 7) tmI) (λ k ρ u=>u=t/\∃ y,ρ=[some (gdO m f),some (gdO m g),G,some (.tup (rowO m (f i))),C,some (.int (j:Int)),some (zG (tmN f g i j k)),y]) (jj 0 (m:Int)) 0 [some (gdO m f),some (gdO m g),G,some (.tup (rowO m (f i))),C,some (.int (j:Int)),some .non,Y] t ⟨rfl,Y,rfl⟩ (λ _ _ _ _ _=>rfl) (by
  rintro k d ρ u hk ⟨rfl,y,rfl⟩
  obtain⟨J,rfl⟩:=qV hk
  rw[aU]
  refine⟨[some (gdO m f),some (gdO m g),G,some (.tup (rowO m (f i))),C,some (.int (j:Int)),some (zG (tmN f g i j (k+1))),some (.int (k:Int))],u,.inl ?_,rfl,_,rfl⟩
  have r1:=rowO_ix (f:=f i) J u
  have r2:=gdO_ix (f:=g) J u
  have h:=rowO_ix (f:=g k) hj u
  unfold turn tmI
  cases e1:f i k with
  | none =>
   rw[e1]at r1
   rw[show tmN f g i j (k+1)=tmN f g i j k by show(match f i k,g k j with|some a,some b=>lsO (tmN f g i j k) (some (a+b))|_,_=>tmN f g i j k)=_;rw[e1]]
   rw[show zG none=.non from rfl]at r1
   tbr_iter [r1]
  | some a =>
   rw[e1]at r1
   cases e2:g k j with
   | none =>
    rw[e2]at h
    rw[show tmN f g i j (k+1)=tmN f g i j k by show(match f i k,g k j with|some a,some b=>lsO (tmN f g i j k) (some (a+b))|_,_=>tmN f g i j k)=_;rw[e1,e2]]
    rw[show zG (some a)=.int a from rfl]at r1
    rw[show zG none=.non from rfl]at h
    tbr_iter [r1,r2,h,int_non]
   | some b =>
    rw[e2]at h
    rw[show tmN f g i j (k+1)=lsO (tmN f g i j k) (some (a+b))by show(match f i k,g k j with|some a,some b=>lsO (tmN f g i j k) (some (a+b))|_,_=>tmN f g i j k)=_;rw[e1,e2]]
    have el:=least3_ok (P:=P) n (tmN f g i j k) (some (a+b)) u
    rw[show zG (some (a+b))=.int (a+b)from rfl]at el
    rw[show zG (some a)=.int a from rfl]at r1
    rw[show zG (some b)=.int b from rfl]at h
    tbr_iter [r1,r2,h,el,int_non])
 obtain⟨ρ',u',Z,rfl,y,rfl⟩:=key
 rw[aU,qi,tmN_prO]at Z
 exact⟨y,Z⟩
theorem times_ok (n:Nat){m:Nat}(hm:m<=5)(f g:Nat->Nat->Option Int)(s:Sto):(callN P (n+2)).call "_law_times" [gdO m f,gdO m g] s=.ok (gdO m (prO m f g)) s:=by
 have e0:(callN P (n+2)).call "_law_times" [gdO m f,gdO m g] s=_:=zd w_times (n:=n+1) rfl
 have J:∀ s,bi .len [gdO m f] s=.ok (.int m) s:=λ s=>gdO_len
 have hJ:∀(U:Sto) (i:Nat) (Y x5 x6 x7:Option D),∃ C y h,forL (λ s1=>chk (U++[O.lst []]) s1 []) (turn (callN P (n+1)) (.one 5) tmJ) (jj 0 (m:Int)) [some (gdO m f),some (gdO m g),Y,some (.tup (rowO m (f i))),some (.ref U.length),x5,x6,x7] (U++[O.lst []])=.ok (.next [some (gdO m f),some (gdO m g),Y,some (.tup (rowO m (f i))),some (.ref U.length),C,y,h]) (U++[.lst (rowO m (prO m f g i))]):=λ U i Y x5 x6 x7=>by
  have key:=qd (ok:=λ s1=>chk (U++[O.lst []]) s1 []) (g:=turn (callN P (n+1)) (.one 5) tmJ) (λ j ρ u=>u=U++[.lst ((ae j).map λ j=>zG (prO m f g i j))]/\∃ C y h,ρ=[some (gdO m f),some (gdO m g),Y,some (.tup (rowO m (f i))),some (.ref U.length),C,y,h]) (jj 0 (m:Int)) 0 [some (gdO m f),some (gdO m g),Y,some (.tup (rowO m (f i))),some (.ref U.length),x5,x6,x7] (U++[O.lst []]) ⟨rfl,_,_,_,rfl⟩ (λ _ _ _ _ _=>rfl) (by
   rintro j d ρ u hj ⟨rfl,C,y,h,rfl⟩
   obtain⟨a0,rfl⟩:=qV hj
   rw[aU]
   obtain⟨Z,G⟩:=tmI_ok (P:=P) n f g (i:=i) a0 (U++[.lst ((ae j).map λ j=>zG (prO m f g i j))]) Y (some (.ref U.length)) h
   have ha:meth .append (.ref U.length) [zG (prO m f g i j)] (U++[.lst ((ae j).map λ j=>zG (prO m f g i j))])=.ok .non (U++[.lst ((ae (j+1)).map λ j=>zG (prO m f g i j))]):=by
    rw[qg (by unfold LIM;rw[az,bZ];omega),cj,bB];rfl
   refine⟨_,_,.inl ?_,rfl,some (.int (j:Int)),some (zG (prO m f g i j)),Z,rfl⟩
   unfold turn tmJ
   tbr_iter [J]
   rw[qc (by unfold W62;omega) (by unfold W62;omega)]
   simp -implicitDefEqProofs only[R.bind_ok]
   rw[G]
   tbr_iter [ha])
  obtain⟨ρ',u',G,rfl,C,y,h,rfl⟩:=key
  rw[aU,qi]at G
  exact⟨C,y,h,G⟩
 rw[e0,tm_body,show(bw some [gdO m f,gdO m g]++ao w_times.vs none)=[some (gdO m f),some (gdO m g),none,none,none,none,none,none]from rfl]
 have a1:∀ s,seqM (gdO m f) s=.ok ⟨(ae m).map λ i=>.tup (rowO m (f i)),[]⟩ s:=λ s=>rfl
 have key:=qd (ok:=λ s1=>chk (s++[O.lst []]) s1 []) (g:=turn (callN P (n+1)) (.one 3) tmL) (λ i ρ u=>∃(T:Sto) (y3 y4 C y h:Option D),u=s++.lst ((ae i).map λ i=>.tup (rowO m (prO m f g i)))::T/\ρ=[some (gdO m f),some (gdO m g),some (.ref s.length),y3,y4,C,y,h]) ((ae m).map λ i=>.tup (rowO m (f i))) 0 [some (gdO m f),some (gdO m g),some (.ref s.length),none,none,none,none,none] (s++[O.lst []]) ⟨[],_,_,_,_,_,rfl,rfl⟩ (λ _ _ _ _ _=>rfl) (by
  rintro i d ρ u hi ⟨T,y3,y4,C,y,h,rfl,rfl⟩
  obtain⟨a2,rfl⟩:=range_inv hi
  rw[aU]
  obtain⟨z5,z6,Z,G⟩:=hJ (s++.lst ((ae i).map λ i=>.tup (rowO m (prO m f g i)))::T) i (some (.ref s.length)) C y h
  have hl:lstM (.ref (s++O.lst ((ae i).map λ i=>D.tup (rowO m (prO m f g i)))::T).length) (s++O.lst ((ae i).map λ i=>D.tup (rowO m (prO m f g i)))::T++[.lst (rowO m (prO m f g i))])=.ok (rowO m (prO m f g i)) (s++O.lst ((ae i).map λ i=>D.tup (rowO m (prO m f g i)))::T++[.lst (rowO m (prO m f g i))]):=by simp only[lstM,getL]
  have ha:meth .append (.ref s.length) [.tup (rowO m (prO m f g i))] (s++O.lst ((ae i).map λ i=>D.tup (rowO m (prO m f g i)))::T++[.lst (rowO m (prO m f g i))])=.ok .non (s++.lst ((ae (i+1)).map λ i=>.tup (rowO m (prO m f g i)))::(T++[.lst (rowO m (prO m f g i))])):=by
   rw[fv,d8,app_mid (by unfold LIM;rw[az,bZ];omega),cj,bB];rfl
  refine⟨_,_,.inl ?_,T++[.lst (rowO m (prO m f g i))],some (.tup (rowO m (f i))),some (.ref (s++O.lst ((ae i).map λ i=>D.tup (rowO m (prO m f g i)))::T).length),z5,z6,Z,rfl,rfl⟩
  unfold turn tmL
  tbr_iter [J]
  rw[qc (by unfold W62;omega) (by unfold W62;omega)]
  simp -implicitDefEqProofs only[R.bind_ok]
  rw[G]
  tbr_iter [hl,mk,ha])
 obtain⟨ρ',u',G,T,y3,y4,C,y,h,rfl,rfl⟩:=key
 rw[aU,az,bZ]at G
 have h0:lstM (.ref s.length) (s++O.lst ((ae m).map λ i=>D.tup (rowO m (prO m f g i)))::T)=.ok ((ae m).map λ i=>D.tup (rowO m (prO m f g i))) (s++O.lst ((ae m).map λ i=>D.tup (rowO m (prO m f g i)))::T):=by
  simp only[lstM,show(s++O.lst ((ae m).map λ i=>D.tup (rowO m (prO m f g i)))::T:Sto)[s.length]?=some (.lst ((ae m).map λ i=>D.tup (rowO m (prO m f g i))))by rw[ak (ah _)];simp]
 tbr_iter [a1]
 rw[G]
 tbr_iter [h0,mk]
 exact zF (d:=gdO m (prO m f g)) jx (by nofun)
theorem timesD_ok (n:Nat){m:Mc}(h:m.Ok)(v w:List Nat)(s:Sto):(callN P (n+2)).call "_law_times" [tbD m v,tbD m w] s=.ok (tbD m (v++w)) s:=by
 rw[<-tbD_mul h];exact times_ok (P:=P) n h.R5 _ _ s
end
noncomputable def pw2a:S:=(.ite (.cmp .eq (.bin .mod (.var 1) (.cst (.int 2))) (.cst (.int 1))) (.cons (.asg (.one 2) (.ite (.isN (.var 2)) (.var 0) (.call "_law_times" (.ex (.var 2) (.ex (.var 0) .nil))))) .nil) .nil)
noncomputable def pw2b:S:=(.ite (.cmp .gt (.var 1) (.cst (.int 0))) (.cons (.asg (.one 0) (.call "_law_times" (.ex (.var 0) (.ex (.var 0) .nil)))) .nil) .nil)
theorem pw2_body:w_power_2.body=(.cons (.asg (.one 2) (.cst .non)) (.cons (.whl (.cmp .gt (.var 1) (.cst (.int 0))) (.cons pw2a (.cons (.asg (.one 1) (.bin .fdiv (.var 1) (.cst (.int 2)))) (.cons pw2b .nil)))) (.cons (.ret (.var 2)) .nil))):=rfl
noncomputable def fnd (m:Mc)(w:List Nat)(a:Nat):D:=if a=0 then .non else tbD m (rep a w)
theorem tbD_non (m:Mc)(w:List Nat):(tbD m w=D.non)=False:=eq_false (by nofun)
section
variable {P:Pr} [Has P w_least_3] [Has P w_times] [Has P w_power_2]
theorem pw2a_ok (n:Nat){m:Mc}(G:m.Ok)(w:List Nat)(a b left:Nat)(C:1<=b)(s:Sto):∃ y:Nat,y+b*(2*(left / 2))=a+b*left/\ex (callN P (n+2)) pw2a [some (tbD m (rep b w)),some (.int (left:Int)),some (fnd m w a)] s=.ok (.next [some (tbD m (rep b w)),some (.int (left:Int)),some (fnd m w y)]) s:=by
 have h:qM .mod (.int left) (.int 2) s=.ok (.int ((left % 2:Nat):Int)) s:=by rw[jz (by decide)];simp
 by_cases ho:((left % 2:Nat):Int)=1
 ·have hb:b*left=b*(2*(left / 2))+b:=by
   have:left=2*(left / 2)+1:=by omega
   conv=>lhs;rw[this]
   rw[dQ,jL]
  by_cases ha:a=0
  ·refine⟨b,by omega,?_⟩
   subst ha
   unfold pw2a
   rw[show fnd m w b=tbD m (rep b w)from if_neg (by omega),show fnd m w 0=D.non from rfl]
   tbr_iter [h,ho]
  ·refine⟨a+b,by omega,?_⟩
   have e1:=timesD_ok (P:=P) n G (rep a w) (rep b w) s
   rw[<-rep_add]at e1
   unfold pw2a
   rw[show fnd m w a=tbD m (rep a w)from if_neg ha,show fnd m w (a+b)=tbD m (rep (a+b) w)from if_neg (by omega)]
   tbr_iter [h,ho,tbD_non,e1]
 ·have hb:b*left=b*(2*(left / 2)):=by
   have:left=2*(left / 2):=by omega
   conv=>lhs;rw[this]
  refine⟨a,by omega,?_⟩
  unfold pw2a
  tbr_iter [h,ho]
theorem pw2b_ok (n : Nat) {m : Mc} (hm : m.Ok) (w : List Nat) (b left : Nat) (hb1 : 1 <= b) (x2 : Option D) (s : Sto) : ∃ b' : Nat, 1 <= b' /\ b' * left = b * (2 * left) /\ ex (callN P (n + 2)) pw2b [some (tbD m (rep b w)), some (.int (left : Int)), x2] s = .ok (.next [some (tbD m (rep b' w)), some (.int (left : Int)), x2]) s := by
  by_cases hl : (0 : Int) < (left : Int)
  · refine⟨b + b, by omega, by rw[jK, <- fN, iW b 2, fN, Nat.two_mul], ?_⟩
    have e1 := timesD_ok (P := P) n hm (rep b w) (rep b w) s
    rw[<- rep_add]at e1
    unfold pw2b
    tbr_iter [hl, e1]
  · refine ⟨b, hb1, by have : left = 0 := by omega
                       rw[this], ?_⟩
    unfold pw2b
    tbr_iter [hl]
theorem power2_ok (n:Nat){m:Mc}(Y:m.Ok)(w:List Nat)(many:Nat)(h1:1<=many)(s:Sto):(callN P (n+3)).call "_law_power" [tbD m w,.int (many:Int)] s=.ok (tbD m (rep many w)) s:=by
 have e0:(callN P (n+3)).call "_law_power" [tbD m w,.int (many:Int)] s=_:=zd w_power_2 (n:=n+2) rfl
 rw[e0,pw2_body,show(bw some [tbD m w,D.int (many:Int)]++ao w_power_2.vs none)=[some (tbD m w),some (.int (many:Int)),none]from rfl]
 tbr_iter []
 rw[R.bind_assoc]
 refine whl_bind (λ k ρ t=>∃(a b left:Nat),left=k/\1<=b/\a+b*left=many/\ρ=[some (tbD m (rep b w)),some (.int (left:Int)),some (fnd m w a)]/\t=s) (λ ρ t=>∃(Z x1:Option D),ρ=[Z,x1,some (tbD m (rep many w))]/\t=s) many ⟨0,1,many,rfl,ah _,by omega,by rw[rep_1];rfl,rfl⟩ ?_ ?_
 ·rintro k ρ t ⟨a,b,left,rfl,y,hab,rfl,rfl⟩
  simp -implicitDefEqProofs only[zK,zg,zx,zB,ze,zh,R.bind_ok,gt_int,Tst_bl]
  by_cases hl:(0:Int)<(left:Int)
  ·simp only[hl,decide_true,if_true]
   have h:qM .fdiv (.int left) (.int 2) t=.ok (.int ((left / 2:Nat):Int)) t:=by rw[fdiv_int (by decide) (by decide)];simp
   obtain⟨C,ha',e1⟩:=pw2a_ok (P:=P) n Y w a b left y t
   obtain⟨b',G,J,e2⟩:=pw2b_ok (P:=P) n Y w b (left / 2) y (some (fnd m w C)) t
   have e3:exs (callN P (n+2)) (.cons pw2a (.cons (.asg (.one 1) (.bin .fdiv (.var 1) (.cst (.int 2)))) (.cons pw2b .nil))) [some (tbD m (rep b w)),some (.int (left:Int)),some (fnd m w a)] t=.ok (.next [some (tbD m (rep b' w)),some (.int ((left / 2:Nat):Int)),some (fnd m w C)]) t:=by
    tbr_iter [e1,h,e2]
   rw[e3]
   exact⟨left / 2,by omega,C,b',left / 2,rfl,G,by rw[J,ha'];exact hab,rfl,rfl⟩
  ·simp only[hl,decide_false,if_false,aK]
   have h0:left=0:=by omega
   subst h0
   have:a=many:=by omega
   subst this
   exact⟨_,_,by rw[show fnd m w a=tbD m (rep a w)from if_neg (by omega)],trivial⟩
 ·rintro ρ t ⟨Z,x1,rfl,rfl⟩
  tbr_iter []
  exact zr jc (by nofun)
end
noncomputable def qO (m:Nat)(f:Nat->Nat->Option Int):Sto:=(ae m).map λ i=>.lst (rowO m (f i))
@[simp] theorem linesO_len {m:Nat} {f:Nat->Nat->Option Int}:(qO m f).length=m:=by unfold qO;simp
theorem jp {m i:Nat}{f:Nat->Nat->Option Int}(h:i<m):(qO m f)[i]?=some (.lst (rowO m (f i))):=by
 unfold qO;rw[av,a7 h];rfl
theorem rowO_set {m b:Nat}{f:Nat->Option Int}{v:Option Int}:(rowO m f).set b (zG v)=rowO m λ j=>if j=b then v else f j:=by
 apply fC
 intro j
 by_cases hj:j<m
 ·rw[rowO_get hj]
  by_cases e:j=b
  ·subst e;rw[aY (by rw[rowO_len];exact hj),if_pos rfl]
  ·rw[be (λ z=>e z.symm),rowO_get hj,if_neg e]
 ·rw[bD (by rw[bA,rowO_len];omega),bD (by rw[rowO_len];omega)]
theorem linesO_set {m a b:Nat}{f:Nat->Nat->Option Int}{v:Option Int}:(qO m f).set a (.lst ((rowO m (f a)).set b (zG v)))=qO m λ i j=>if i=a/\j=b then v else f i j:=by
 apply fC
 intro i
 by_cases hi:i<m
 ·rw[jp hi]
  by_cases e:i=a
  ·subst e;rw[aY (by rw[linesO_len];exact hi),rowO_set]
   simp
  ·rw[be (λ z=>e z.symm),jp hi]
   simp[e]
 ·rw[bD (by simp;omega),bD (by simp;omega)]
noncomputable def ltN (ds:List Dr)(c i j:Nat):Nat->Option Int
 | 0=>none
 | k+1=>match ds[k]? with
  | some x=>if x.l=c/\i=x.a/\j=x.b then lsO (ltN ds c i j k) (some (x.t:Int))else ltN ds c i j k
  | none=>ltN ds c i j k
noncomputable def ltM (m:Mc)(c i j:Nat):Option Int:=ltN m.ds c i j m.ds.length
theorem ltN_least (C:List Dr)(c i j:Nat):∀ k,k<=C.length->Least (λ y=>∃ d∈C.take k,d.l=c/\d.a=i/\d.b=j/\y=(d.t:Int)) (ltN C c i j k)
 | 0,_=>λ y hy=>by obtain⟨d,hd,_⟩:=hy;simp at hd
 | k+1,hk=>by
  have ih:=ltN_least C c i j k (by omega)
  have hx:C[k]?=some C[k]:=ag (by omega)
  rw[ltN,hx]
  dsimp only
  rw[qp hx]
  split
  ·rename_i h
   obtain⟨h1,h2,h3⟩:=h
   refine(lsO_least ih (C[k].t:Int)).congr λ y=>?_
   constructor
   ·rintro(⟨d,hd,r⟩|rfl)
    ·exact⟨d,bU _ hd,r⟩
    ·exact⟨C[k],aX _ (aZ.mpr rfl),h1,h2.symm,h3.symm,rfl⟩
   ·rintro⟨d,hd,G,J,Z,Y⟩
    rcases bK.mp hd with hd|hd
    ·exact .inl ⟨d,hd,G,J,Z,Y⟩
    ·rw[aZ.mp hd]at Y;exact .inr Y
  ·rename_i h
   refine ih.congr λ y=>?_
   constructor
   ·rintro⟨d,hd,r⟩;exact⟨d,bU _ hd,r⟩
   ·rintro⟨d,hd,G,J,Z,Y⟩
    rcases bK.mp hd with hd|hd
    ·exact⟨d,hd,G,J,Z,Y⟩
    ·rw[aZ.mp hd]at G J Z;exact absurd ⟨G,J.symm,Z.symm⟩ h
theorem ltM_tab (m:Mc)(c:Nat):TabW m [c] (ltM m c):=λ i j _ _=>by
 have:=ltN_least m.ds c i j m.ds.length (ah _)
 rw[b9]at this
 exact this.congr λ y=>Wk_one.symm
theorem letter_table2_ok {P:Pr}[Has P w_least_3][Has P w_letter_table_2](n:Nat){m:Mc}(hm:m.Ok)(c:Nat)(s:Sto) :
  (callN P (n+2)).call "_law_letter_table" [m.d,.str [c]] s=.ok (gdO m.R (ltM m c)) s:=by
 have e0:(callN P (n+2)).call "_law_letter_table" [m.d,.str [c]] s=_:=zd w_letter_table_2 (n:=n+1) rfl
 have hR:=hm.R5
 rw[e0]
 simp -implicitDefEqProofs [w_letter_table_2,ixR]
 rw[qc (by unfold W62;omega) (by unfold W62;omega)]
 simp only[R.bind_ok]
 rw[if_pos (by rw[qi];unfold LIM;omega)]
 obtain⟨ρ1,s1,e1,C⟩:=comp_rngI (ok:=λ s1=>chk s s1 []) (g:=turnC (callN P (n+1)) (.one 0) (.mk .list (.comp (.one 0) (.rng1 (.var 1)) (.cst .non) [none]))) (λ k ρ u=>u=s++(ae k).map (λ _=>O.lst (rowO m.R λ _=>none))/\∃ x,ρ=[x,some (.int m.R)]) (λ i=>.ref (s.length+i)) m.R (λ _ _ _ _=>rfl) (by
  rintro j hj ρ u ⟨rfl,x,rfl⟩
  refine⟨[some (.int j),some (.int m.R)],_,?_,rfl,_,rfl⟩
  simp -implicitDefEqProofs [turnC]
  rw[qc (by unfold W62;omega) (by unfold W62;omega)]
  simp only[R.bind_ok]
  rw[if_pos (by rw[qi];unfold LIM;omega)]
  obtain⟨ρ1,s1,e1,C⟩:=comp_rng (ok:=λ s1=>chk (s++(ae j).map (λ _=>O.lst (rowO m.R λ _=>none))) s1 []) (g:=turnC (callN P (n+1)) (.one 0) (.cst .non)) (λ ρ u=>u=s++(ae j).map (λ _=>O.lst (rowO m.R λ _=>none))/\∃ x,ρ=[x]) (λ _=>.non) m.R (qx [some (.int (j:Int)),some (.int m.R)] [none]) _ ⟨rfl,none,rfl⟩ (λ _ _ _=>rfl) (by
   rintro i _ ρ u ⟨rfl,x,rfl⟩
   exact⟨_,_,rfl,rfl,_,rfl⟩)
  obtain⟨rfl,_⟩:=C
  rw[e1]
  simp -implicitDefEqProofs [mk,cj]
  rfl) 0 (qx [some m.d,some (.str [c]),some (.int m.R),none,none,none,none,none] [none,some 2]) s (dj _) ⟨by simp,none,rfl⟩
 obtain⟨rfl,_⟩:=C
 rw[show((0:Nat):Int)=0 from rfl]at e1
 rw[e1]
 have el:(ae m.R).map (λ _=>O.lst (rowO m.R λ _=>none))=qO m.R (λ i j=>ltN m.ds c i j 0):=rfl
 rw[el,kB,<-List.range_eq_range']
 simp -implicitDefEqProofs [mk,ixD,tup_seq]
 refine for_bind (λ k ρ t=>∃(x y z w:Option D),ρ=[some m.d,some (.str [c]),some (.int m.R),some (.ref (s.length+m.R)),x,y,z,w]/\t=s++(qO m.R (λ i j=>ltN m.ds c i j k)++[.lst (refs s.length m.R)])) ⟨none,none,none,none,rfl,rfl⟩ (λ _ _ _ _ _=>rfl) ?_ ?_
 ·rintro k d ρ t hk ⟨x,y,z,w,rfl,rfl⟩
  rw[av]at hk
  obtain⟨v,hv,rfl⟩:∃ v,m.ds[k]?=some v/\Dr.d v=d:=by
   cases e:m.ds[k]? with
   | none=>rw[e]at hk;cases hk
   | some v=>rw[e]at hk;exact⟨v,rfl,aw hk⟩
  have J:=hm.ds.1 v (aS hv)
  have ha:=J.a
  have hb:=J.b
  refine Nx_of (ρ:=[some m.d,some (.str [c]),some (.int m.R),some (.ref (s.length+m.R)),some (.int v.a),some (.str [v.l]),some (.int v.b),some (.int v.t)]) (s:=s++(qO m.R (λ i j=>ltN m.ds c i j (k+1))++[.lst (refs s.length m.R)])) ?_ ⟨_,_,_,_,rfl,rfl⟩
  have Z:(s++(qO m.R (λ i j=>ltN m.ds c i j k)++[.lst (refs s.length m.R)]))[s.length+m.R]?=some (.lst (refs s.length m.R)):=by
   rw[ak (by omega),cf,ak (by simp)];simp
  have Y:(s++(qO m.R (λ i j=>ltN m.ds c i j k)++[.lst (refs s.length m.R)]))[s.length+v.a]?=some (.lst (rowO m.R λ j=>ltN m.ds c v.a j k)):=by
   rw[ak (by omega),cf,aD (by simpa using ha),jp ha]
  have e5:=ix_lst Z (refs_get ha)
  have e6:=ix_lst Y (rowO_get hb)
  by_cases hl:v.l=c
  ·simp -implicitDefEqProofs only[turn,Dr.d,bindT_tup,setVs_cons,setVs_nil,zI,zD,aJ,fY,za,zl,zV,zK,zg,ze,zh,R.bind_ok,eq_str1,hl,decide_true,zJ,if_true,ex_setIx,qQ,e5,e6,qJ,zT,zP,least3_ok (P:=P) n (ltN m.ds c v.a v.b k) (some (v.t:Int)),show D.int (v.t:Int)=zG (some (v.t:Int))from rfl]
   rw[set_lst Y (by rw[rowO_len];exact hb)]
   simp -implicitDefEqProofs only[R.bind_ok,zo,zl]
   congr 1
   rw[c9 _ _ (by omega),cf,List.set_append_left _ _ (by simpa using ha)]
   congr 2
   rw[linesO_set (f:=λ i j=>ltN m.ds c i j k)]
   congr 1
   funext i j
   rw[ltN,hv]
   by_cases h2:i=v.a/\j=v.b
   ·obtain⟨rfl,rfl⟩:=h2
    simp[hl]
   ·simp[hl,h2]
  ·simp -implicitDefEqProofs only[turn,Dr.d,bindT_tup,setVs_cons,setVs_nil,zI,zD,aJ,fY,za,zl,zV,zK,zg,ze,zh,R.bind_ok,eq_str1,hl,decide_false,zJ,if_false,aK,zo]
   congr 3
   congr 1
   funext i j
   rw[ltN,hv]
   simp[hl]
 ·rintro ρ t ⟨x,y,z,w,rfl,rfl⟩
  rw[az]
  have Z:(s++(qO m.R (ltM m c)++[.lst (refs s.length m.R)]))[s.length+m.R]?=some (.lst (refs s.length m.R)):=by
   rw[ak (by omega),cf,ak (by simp)];simp
  show(nxt _ _ _ (s++(qO m.R (ltM m c)++[.lst (refs s.length m.R)]))).bind _=_
  simp -implicitDefEqProofs [seqM,Z]
  rw[if_pos (by unfold refs LIM;simp;omega)]
  generalize hS:s++(qO m.R (ltM m c)++[.lst (refs s.length m.R)])=S
  obtain⟨ρ1,s1,e1,C⟩:=comp_map (ok:=λ s1=>chk S s1 [s.length+m.R]) (g:=turnC (callN P (n+1)) (.one 0) (.mk .tuple (.seq (.var 0)))) (λ ρ u=>u=S/\∃ x,ρ=[x]) (λ d=>match d with|.ref p=>.tup (rowO m.R (ltM m c (p - s.length)))|d=>d) (refs s.length m.R) (qx [some m.d,some (.str [c]),some (.int m.R),some (.ref (s.length+m.R)),x,y,z,w] [none]) S ⟨rfl,none,rfl⟩ (λ _ u h=>by obtain⟨rfl,_⟩:=h;simp[chk]) (by
   rintro d hd ρ u ⟨rfl,x,rfl⟩
   obtain⟨i,hi,rfl⟩:=aB.mp hd
   have G:=bq.mp hi
   have Y:u[s.length+i]?=some (.lst (rowO m.R (ltM m c i))):=by
    rw[<-hS,ak (by omega),cf,aD (by simpa using G),jp G]
   refine⟨[some (.ref (s.length+i))],u,?_,rfl,_,rfl⟩
   simp -implicitDefEqProofs [turnC,lstM,Y,mk])
  obtain⟨rfl,_⟩:=C
  rw[e1]
  simp -implicitDefEqProofs [mk]
  rw[<-hS]
  have:(refs s.length m.R).map (λ d=>match d with|.ref p=>D.tup (rowO m.R (ltM m c (p - s.length)))|d=>d)=(ae m.R).map λ i=>.tup (rowO m.R (ltM m c i)):=by
   unfold refs
   rw[cR]
   exact cI λ i _=>by simp
  rw[this]
  exact zF (d:=gdO m.R (ltM m c)) jx (by nofun)
theorem letter_tableD_ok {P:Pr}[Has P w_least_3][Has P w_letter_table_2](n:Nat){m:Mc}(h:m.Ok)(c:Nat)(s:Sto):(callN P (n+2)).call "_law_letter_table" [m.d,.str [c]] s=.ok (tbD m [c]) s:=by
 rw[letter_table2_ok (P:=P) n h c s,tbD_of h (ltM_tab m c)]
section
variable {P:Pr} [Has P w_least_3] [Has P w_times] [Has P w_power_2] [Has P w_letter_table_2] [Has P w_due_6]
end
noncomputable def du8:Ss:=(.cons (.ite (.cmp .eq (.ix (.var 3) (.cst (.int 0))) (.cst (.str [108,101,116,116,101,114]))) (.cons (.ex (.meth .append (.var 2) (.cons (.call "_law_letter_table" (.ex (.var 0) (.ex (.ix (.var 3) (.cst (.int 1))) .nil))) .nil))) .nil) (.cons (.ite (.cmp .eq (.ix (.var 3) (.cst (.int 0))) (.cst (.str [112,97,105,114]))) (.cons (.ex (.meth .append (.var 2) (.cons (.call "_law_times" (.ex (.ix (.var 2) (.ix (.var 3) (.cst (.int 1)))) (.ex (.ix (.var 2) (.ix (.var 3) (.cst (.int 2)))) .nil))) .nil))) .nil) (.cons (.ex (.meth .append (.var 2) (.cons (.call "_law_power" (.ex (.ix (.var 2) (.ix (.var 3) (.cst (.int 1)))) (.ex (.ix (.var 3) (.cst (.int 2))) .nil))) .nil))) .nil)) .nil)) .nil)
theorem du8_body:w_due_8.body=(.cons (.asg (.one 2) (.lst .nil)) (.cons (.for_ (.one 3) (.seq (.var 1)) du8) (.cons (.ret (.ix (.var 2) (.neg (.cst (.int 1))))) .nil))):=rfl
section
variable {P:Pr} [Has P w_least_3] [Has P w_times] [Has P w_power_2] [Has P w_letter_table_2] [Has P w_due_8]
theorem due8_ok (n:Nat){m:Mc}(G:m.Ok){l:List Rst}(hl:l.length<=5100)(Z:1<=l.length)(hB:RssB l)(hN:RssN l)(s:Sto) :
  (callN P (n+4)).call "_law_due" [m.d,.tup (l.map Rst.d) ] s=.ok (tbD m (wd l (l.length - 1))) s:=by
 have e0:(callN P (n+4)).call "_law_due" [m.d,.tup (l.map Rst.d) ] s=_:=zd w_due_8 (n:=n+3) rfl
 have h:∀(k:Nat) (x:Rst),l[k]?=some x->l[k]?=some x:=λ _ _ e=>e
 rw[e0,du8_body,show(bw some [m.d,D.tup (l.map Rst.d) ]++ao w_due_8.vs none)=[some m.d,some (.tup (l.map Rst.d)),none,none]from rfl]
 have key:=qd (ok:=λ s1=>chk (s++[O.lst []]) s1 []) (g:=turn (callN P (n+3)) (.one 3) du8) (λ k ρ u=>u=s++[.lst ((ae k).map λ k=>tbD m (wd l k))]/\∃ x,ρ=[some m.d,some (.tup (l.map Rst.d)),some (.ref s.length),x]) (l.map Rst.d) 0 [some m.d,some (.tup (l.map Rst.d)),some (.ref s.length),none] (s++[O.lst []]) ⟨rfl,_,rfl⟩ (λ _ _ _ _ _=>rfl) (by
  rintro k d ρ u hkk ⟨rfl,x,rfl⟩
  rw[aU]at *
  rw[av,bJ]at hkk
  obtain⟨y,hy,rfl⟩:=hkk
  have a0:=(ac.mp hy).1
  have hb:=hB k _ (h k y hy)
  have J:∀ i,i<k->ixM (.ref s.length) (.int (i:Int)) (s++[O.lst ((ae k).map λ k=>tbD m (wd l k))])=.ok (tbD m (wd l i)) (s++[O.lst ((ae k).map λ k=>tbD m (wd l k))]):=λ i C=>ix_lst getL (by rw[av,a7 C];rfl)
  have ha:meth .append (.ref s.length) [tbD m (wd l k)] (s++[O.lst ((ae k).map λ k=>tbD m (wd l k))])=.ok .non (s++[O.lst ((ae (k+1)).map λ k=>tbD m (wd l k))]):=by
   rw[qg (by unfold LIM;rw[az,bZ];omega),cj,bB];rfl
  refine⟨_,_,.inl ?_,rfl,some y.d,rfl⟩
  unfold turn du8
  cases y with
  | let_ ch =>
   have e1:(callN P (n+3)).call "_law_letter_table" [m.d,.str [ch]] (s++[O.lst ((ae k).map λ k=>tbD m (wd l k))])=.ok (tbD m (wd l k)) (s++[O.lst ((ae k).map λ k=>tbD m (wd l k))]):=by
    rw[show tbD m (wd l k)=tbD m [ch]by rw[wd_l (h k _ hy)]];exact letter_tableD_ok (P:=P) (n+1) G ch _
   tbr_iter [rl0,rl1,qb,show(sLet=[108,101,116,116,101,114])=True from eq_self _,e1,ha]
  | pair i j =>
   obtain⟨C,hj⟩:=hb
   have e1:=timesD_ok (P:=P) (n+1) G (wd l i) (wd l j) (s++[O.lst ((ae k).map λ k=>tbD m (wd l k))])
   rw[<-wd_p (h k _ hy) C hj]at e1
   tbr_iter [rp0,rp1,rp2,qb,show(sPair=[108,101,116,116,101,114])=False by decide,show(sPair=[112,97,105,114])=True from eq_self _,J i C,J j hj,e1,ha]
  | times i q =>
   have C:i<k:=hb
   have e1:=power2_ok (P:=P) n G (wd l i) q (hN k i q hy) (s++[O.lst ((ae k).map λ k=>tbD m (wd l k))])
   rw[<-wd_t (h k _ hy) C]at e1
   tbr_iter [rt0,rt1,rt2,qb,show(ju=[108,101,116,116,101,114])=False by decide,show(ju=[112,97,105,114])=False by decide,J i C,e1,ha])
 obtain⟨ρ',u',Y,rfl,x,rfl⟩:=key
 rw[aU,az]at Y
 have il:=ixL_last (getL (s:=s)) (last_get Z λ k=>tbD m (wd l k))
 tbr_iter [tup_seq]
 rw[Y]
 tbr_iter [ev_negi,il]
 exact zF jc (by nofun)
end
theorem lsO_least2 {S:Int->Prop}{o:Option Int}(h:Least S o)(y:Int):Least (λ c=>S c\/c=y) (lsO (some y) o):=by
 cases o with
 | none=>exact⟨.inr rfl,λ c hc=>by rcases hc with hc|hc;exact absurd hc (h c);omega⟩
 | some x =>
  unfold lsO
  dsimp only
  split
  ·exact⟨.inl h.1,λ c hc=>by rcases hc with hc|hc;exact h.2 c hc;omega⟩
  ·exact⟨.inr rfl,λ c hc=>by rcases hc with hc|hc;have:=h.2 c hc;omega;omega⟩
noncomputable def pq4:Ss:=(.cons (.ite (.notN (.ix (.ix (.var 1) (.var 3)) (.var 4))) (.cons (.asg (.one 2) (.call "_law_least" (.ex (.ix (.ix (.var 1) (.var 3)) (.var 4)) (.ex (.var 2) .nil)))) .nil) .nil) .nil)
theorem pq4_body:w_price_4.body=(.cons (.asg (.one 2) (.cst .non)) (.cons (.for_ (.one 3) (.seq (.ix (.var 0) (.cst (.int 2)))) (.cons (.for_ (.one 4) (.seq (.ix (.var 0) (.cst (.int 3)))) pq4) .nil)) (.cons (.ret (.var 2)) .nil))):=rfl
section
variable {P:Pr} [Has P w_least_3] [Has P w_price_4]
theorem pq4_in (n:Nat){m:Mc}(hm:m.Ok)(f:Nat->Nat->Option Int){p:Nat}(hp:p<m.R)(t:Sto){S:Int->Prop}{o:Option Int}(ho:Least S o)(Z:Option D) :
  ∃(y:Option Int) (C:Option D),Least (λ c=>S c\/∃ q∈m.en,f p q=some c) y/\forL (λ s1=>chk t s1 []) (turn (callN P (n+1)) (.one 4) pq4) (qW m.en) [some m.d,some (gdO m.R f),some (zG o),some (.int (p:Int)),Z] t=.ok (.next [some m.d,some (gdO m.R f),some (zG y),some (.int (p:Int)),C]) t:=by
 have key:=qd (ok:=λ s1=>chk t s1 []) (g:=turn (callN P (n+1)) (.one 4) pq4) (λ k ρ u=>u=t/\∃(y:Option Int) (C:Option D),Least (λ c=>S c\/∃ q∈m.en.take k,f p q=some c) y/\ρ=[some m.d,some (gdO m.R f),some (zG y),some (.int (p:Int)),C]) (qW m.en) 0 [some m.d,some (gdO m.R f),some (zG o),some (.int (p:Int)),Z] t ⟨rfl,o,Z,ho.congr λ c=>by simp,rfl⟩ (λ _ _ _ _ _=>rfl) (by
  rintro k d ρ u hk ⟨rfl,y,C,G,rfl⟩
  rw[aU]at *
  unfold qW at hk
  rw[av,bJ]at hk
  obtain⟨q,hq,rfl⟩:=hk
  have Y:q<m.R:=hm.en.1 q (aS hq)
  have r1:=gdO_ix (f:=f) hp u
  have J:=rowO_ix (f:=f p) Y u
  cases e:f p q with
  | none =>
   rw[e,show zG none=.non from rfl]at J
   refine⟨_,u,.inl ?_,rfl,y,some (.int (q:Int)),?_,rfl⟩
   ·unfold turn pq4
    tbr_iter [r1,J]
   ·refine G.congr λ c=>?_
    rw[qp hq]
    constructor
    ·rintro(h|⟨q',h1,h2⟩)
     ·exact .inl h
     ·exact .inr ⟨q',bU _ h1,h2⟩
    ·rintro(h|⟨q',h1,h2⟩)
     ·exact .inl h
     ·rcases bK.mp h1 with h1|h1
      ·exact .inr ⟨q',h1,h2⟩
      ·rw[aZ.mp h1,e]at h2;cases h2
  | some v =>
   rw[e,show zG (some v)=.int v from rfl]at J
   have el:=least3_ok (P:=P) n (some v) y u
   rw[show zG (some v)=.int v from rfl]at el
   refine⟨_,u,.inl ?_,rfl,lsO (some v) y,some (.int (q:Int)),?_,rfl⟩
   ·unfold turn pq4
    tbr_iter [r1,J,int_non,el]
   ·refine(lsO_least2 G v).congr λ c=>?_
    rw[qp hq]
    constructor
    ·rintro((h|⟨q',h1,h2⟩)|rfl)
     ·exact .inl h
     ·exact .inr ⟨q',bU _ h1,h2⟩
     ·exact .inr ⟨q,aX _ (aZ.mpr rfl),e⟩
    ·rintro(h|⟨q',h1,h2⟩)
     ·exact .inl (.inl h)
     ·rcases bK.mp h1 with h1|h1
      ·exact .inl (.inr ⟨q',h1,h2⟩)
      ·rw[aZ.mp h1,e]at h2;cases h2;exact .inr rfl)
 obtain⟨ρ',u',ek,rfl,y,C,G,rfl⟩:=key
 rw[aU,nats_len,b9]at G
 exact⟨y,C,G,ek⟩
theorem price4_ok (n:Nat){m:Mc}(hm:m.Ok)(f:Nat->Nat->Option Int)(s:Sto):∃ o,Least (λ c=>∃ p∈m.bg,∃ q∈m.en,f p q=some c) o/\(callN P (n+2)).call "_law_price" [m.d,gdO m.R f] s=.ok (zG o) s:=by
 have e0:(callN P (n+2)).call "_law_price" [m.d,gdO m.R f] s=_:=zd w_price_4 (n:=n+1) rfl
 have i2:∀ s,ixM m.d (.int 2) s=.ok (.tup (qW m.bg)) s:=λ _=>rfl
 have i3:∀ s,ixM m.d (.int 3) s=.ok (.tup (qW m.en)) s:=λ _=>rfl
 have key:=qd (ok:=λ s1=>chk s s1 []) (g:=turn (callN P (n+1)) (.one 3) (.cons (.for_ (.one 4) (.seq (.ix (.var 0) (.cst (.int 3)))) pq4) .nil)) (λ k ρ u=>u=s/\∃(o:Option Int) (y3 J:Option D),Least (λ c=>∃ p∈m.bg.take k,∃ q∈m.en,f p q=some c) o/\ρ=[some m.d,some (gdO m.R f),some (zG o),y3,J]) (qW m.bg) 0 [some m.d,some (gdO m.R f),some .non,none,none] s ⟨rfl,none,none,none,λ c hc=>(by obtain⟨p,G,_⟩:=hc;simp at G),rfl⟩ (λ _ _ _ _ _=>rfl) (by
  rintro k d ρ u hk ⟨rfl,o,y3,J,Y,rfl⟩
  rw[aU]at *
  unfold qW at hk
  rw[av,bJ]at hk
  obtain⟨p,G,rfl⟩:=hk
  have Z:p<m.R:=hm.bg.1 p (aS G)
  obtain⟨o',z4,a0,ek⟩:=pq4_in (P:=P) n hm f Z u Y J
  refine⟨_,u,.inl ?_,rfl,o',some (.int (p:Int)),z4,?_,rfl⟩
  ·unfold turn
   tbr_iter [i3,tup_seq]
   rw[ek]
   tbr_iter []
  ·refine a0.congr λ c=>?_
   rw[qp G]
   constructor
   ·rintro(⟨p',y,C⟩|h)
    ·exact⟨p',bU _ y,C⟩
    ·exact⟨p,aX _ (aZ.mpr rfl),h⟩
   ·rintro⟨p',y,C⟩
    rcases bK.mp y with y|y
    ·exact .inl ⟨p',y,C⟩
    ·rw[aZ.mp y]at C;exact .inr C)
 obtain⟨ρ',u',ek,rfl,o,y3,J,Y,rfl⟩:=key
 rw[aU,nats_len,b9]at Y
 refine⟨o,Y,?_⟩
 rw[e0,pq4_body,show(bw some [m.d,gdO m.R f]++ao w_price_4.vs none)=[some m.d,some (gdO m.R f),none,none,none]from rfl]
 tbr_iter [i2,tup_seq]
 rw[ek]
 tbr_iter []
 exact zr (λ n=>z9 _ n) (by cases o<;>nofun)
end
noncomputable def envL (L:Nat)(s:Sto)(r:Nat)(most z:Int)(x5 x6 x7 x8 x9:Option D):Env:=[some (.ref r),some (.int (L:Int)),some (.int most),some (.int z),some (.ref s.length),x5,x6,x7,x8,x9]
theorem recTailL_ok {F:Fns}{s:Sto}{r:Nat}{b most z:Int}{k way one other many:Nat}{l:List Rst}{L:Nat}(Y:1<=L)(a0:L<=3)(hl:l.length=k)(hk:k<1000)(h1:one<k+1)(h2:other<k+1)(hm:1<=many)(hm2:many<=10^30) :
  ∃(x:Rst) (z':Int),RsOk k x/\exs F recTail (envL L s r most z (some (.int k)) (some (.int way)) (some (.int one)) (some (.int other)) (some (.int many))) (s.set r (qa b)++[.lst (l.map Rst.d)])=.ok (.next (envL L s r most z' (some (.int k)) (some (.int way)) (some (.int one)) (some (.int other)) (some (.int many)))) (s.set r (qa b)++[.lst ((l++[x]).map Rst.d)]):=by
 have Z:∀ v,meth .append (.ref s.length) [v] (s.set r (qa b)++[.lst (l.map Rst.d)])=.ok .non (s.set r (qa b)++[.lst (l.map Rst.d++[v])]):=λ v=>app_onB (by unfold LIM;rw[az];omega)
 have y:∀ a:Nat,0<k->(if(k:Int) - 1<(a:Int)then(k:Int) - 1 else(a:Int))=((min a (k - 1):Nat):Int):=λ a _=>by omega
 unfold recTail envL
 by_cases hA:0<k/\(way:Int)<3/\(0:Int)<z
 ·obtain⟨h,C,J⟩:=hA
  have G:(0:Int)<(k:Int):=by omega
  refine⟨.times (min one (k - 1)) many,z - 1,⟨by omega,hm,hm2⟩,?_⟩
  simp -implicitDefEqProofs only[za,zl,zV,ev_and,zK,zg,zx,zB,qY,ze,zh,R.bind_ok,gt_int,lt_int,G,C,J,decide_true,zJ,if_true,ex_ex,qt,zv,zy,ev_tup,ev_bi,qL,sub_int,min2_int,y one h,Z,zo,ql,zm,zI,zD,aJ,zw,bB]
  rfl
 ·have c1:ev F (.and (.cmp .gt (.var 5) (.cst (.int 0))) (.and (.cmp .lt (.var 6) (.cst (.int 3))) (.cmp .gt (.var 3) (.cst (.int 0))))) [some (.ref r),some (.int (L:Int)),some (.int most),some (.int z),some (.ref s.length),some (.int k),some (.int way),some (.int one),some (.int other),some (.int many)] (s.set r (qa b)++[.lst (l.map Rst.d)])=.ok (.bl false) (s.set r (qa b)++[.lst (l.map Rst.d)]):=by
   by_cases h:(0:Int)<(k:Int)
   ·by_cases C:(way:Int)<3
    ·have J:¬(0:Int)<z:=λ q=>hA ⟨by omega,C,q⟩
     simp -implicitDefEqProofs only[ev_and,zK,zg,zx,zB,ze,zh,R.bind_ok,gt_int,lt_int,h,C,J,decide_true,decide_false,zJ,if_true]
    ·simp -implicitDefEqProofs only[ev_and,zK,zg,zx,zB,ze,zh,R.bind_ok,gt_int,lt_int,h,C,decide_true,decide_false,zJ,if_true,if_false,aK]
   ·simp -implicitDefEqProofs only[ev_and,zK,zg,zx,zB,ze,zh,R.bind_ok,gt_int,h,decide_false,zJ,if_false,aK]
  by_cases hB:0<k/\(way:Int)<5
  ·obtain⟨h,C⟩:=hB
   have G:(0:Int)<(k:Int):=by omega
   refine⟨.pair (min one (k - 1)) (min other (k - 1)),z,⟨by omega,by omega⟩,?_⟩
   rw[za,zV,c1]
   simp -implicitDefEqProofs only[zJ,if_false,aK,za,zl,zV,ev_and,zK,zg,zx,zB,qY,ze,zh,R.bind_ok,gt_int,lt_int,G,C,decide_true,if_true,ex_ex,qt,zv,zy,ev_tup,ev_bi,qL,sub_int,min2_int,y one h,y other h,Z,zo,bB]
   rfl
  ·have c2:ev F (.and (.cmp .gt (.var 5) (.cst (.int 0))) (.cmp .lt (.var 6) (.cst (.int 5)))) [some (.ref r),some (.int (L:Int)),some (.int most),some (.int z),some (.ref s.length),some (.int k),some (.int way),some (.int one),some (.int other),some (.int many)] (s.set r (qa b)++[.lst (l.map Rst.d)])=.ok (.bl false) (s.set r (qa b)++[.lst (l.map Rst.d)]):=by
    by_cases h:(0:Int)<(k:Int)
    ·have C:¬(way:Int)<5:=λ q=>hB ⟨by omega,q⟩
     simp -implicitDefEqProofs only[ev_and,zK,zg,zx,zB,ze,zh,R.bind_ok,gt_int,lt_int,h,C,decide_true,decide_false,zJ,if_true]
    ·simp -implicitDefEqProofs only[ev_and,zK,zg,zx,zB,ze,zh,R.bind_ok,gt_int,h,decide_false,zJ,if_false,aK]
   have em:((one:Int) % (L:Int))=((one % L:Nat):Int):=rfl
   have a4:one % L<L:=Nat.mod_lt _ Y
   refine⟨.let_ (97+one % L),z,⟨by omega,by omega⟩,?_⟩
   rw[za,zV,c1]
   simp -implicitDefEqProofs only[zJ,if_false,aK,za,zl,zV,c2,ex_ex,qt,zv,zy,ev_tup,qQ,qL,zg,zx,zB,qY,ze,zh,R.bind_ok,jz (show(0:Int)<(L:Int)by omega),em,abc_ix (show one % L<3 by omega),Z,zo,bB]
   rfl
theorem recipeL_ok {P:Pr}[Has P w_draw][Has P w_recipe_2](n:Nat){s:Sto}{r:Nat}(hs:∃ b,s[r]?=some (qa b)){L:Nat}(a1:1<=L)(a2:L<=3)(most:Nat)(h0:1<=most)(hm:most<=500)(z:Int):RecR s r most ((callN P (n+2)).call "_law_recipe" [.ref r,.int (L:Int),.int most,.int z] s):=by
 have e0:(callN P (n+2)).call "_law_recipe" [.ref r,.int (L:Int),.int most,.int z] s=_:=zd w_recipe_2 (n:=n+1) rfl
 have body:w_recipe_2.body=.cons (.asg (.one 4) (.lst .nil)) (.cons (.for_ (.one 5) (.rng1 (.bin .add (.cst (.int 1)) (.call "_law_draw" (.ex (.var 0) (.ex (.var 2) .nil))))) (recHead recTail)) (.cons (.ret (.mk .tuple (.seq (.var 4)))) .nil)):=rfl
 have h:=box_lt hs
 obtain⟨b0,a3⟩:=hs
 have es:s.set r (qa b0)=s:=by
  rw[show qa b0=s[r]from((ac.mp a3).2).symm,List.set_getElem_self]
 obtain⟨d,b1,hd,ed⟩:=zS (P:=P) n (t:=[.lst []]) h b0 most (by omega) (qf (by omega))
 rw[es]at ed
 have key:=qd (ok:=λ s1=>chk (s.set r (qa b1)++[O.lst []]) s1 []) (g:=turn (callN P (n+1)) (.one 5) (recHead recTail)) (λ k ρ t=>∃(l:List Rst) (b:Int) (z:Int) (x5 Y J G x9:Option D),RssOk l/\l.length=k/\ρ=envL L s r most z x5 Y J G x9/\t=s.set r (qa b)++[.lst (l.map Rst.d)]) (jj 0 ((d+1:Nat):Int)) 0 (envL L s r most z none none none none none) (s.set r (qa b1)++[O.lst []]) ⟨[],b1,z,none,none,none,none,none,.nil,rfl,rfl,rfl⟩ (λ _ _ _ _ _=>rfl) (by
  rintro k dd ρ t hk ⟨l,b,z,x5,Y,J,G,x9,hl,hlk,rfl,rfl⟩
  have a4:=(qV hk).1
  rw[(qV hk).2,aU]at *
  obtain⟨way,c1,_,f1⟩:=zS (P:=P) n (t:=[.lst (l.map Rst.d)]) h b 6 (by decide) (by decide)
  obtain⟨one,c2,h1,f2⟩:=zS (P:=P) n (t:=[.lst (l.map Rst.d)]) h c1 ((k:Int)+1) (by omega) (qf (by omega))
  obtain⟨other,c3,h2,f3⟩:=zS (P:=P) n (t:=[.lst (l.map Rst.d)]) h c2 ((k:Int)+1) (by omega) (qf (by omega))
  obtain⟨q4,c4,h4,f4⟩:=zS (P:=P) n (t:=[.lst (l.map Rst.d)]) h c3 6 (by decide) (by decide)
  obtain⟨q5,c5,h5,f5⟩:=zS (P:=P) n (t:=[.lst (l.map Rst.d)]) h c4 3 (by decide) (by decide)
  obtain⟨q6,c6,h6,f6⟩:=zS (P:=P) n (t:=[.lst (l.map Rst.d)]) h c5 (10^30) (by decide) (by decide)
  have C:∀ s:Sto,qM .pow (.int 10) (.int 30) s=.ok (.int (10^30)) s:=λ s=>pow_int (by decide)
  obtain⟨many,Z,hm1,hm2,eh⟩:∃(many:Nat) (Z:Int),1<=many/\many<=10^30/\turn (callN P (n+1)) (.one 5) (recHead recTail) (.int k) (envL L s r most z x5 Y J G x9) (s.set r (qa b)++[.lst (l.map Rst.d)])=exs (callN P (n+1)) recTail (envL L s r most z (some (.int k)) (some (.int way)) (some (.int one)) (some (.int other)) (some (.int many))) (s.set r (qa Z)++[.lst (l.map Rst.d)]):=by
   unfold turn recHead envL
   generalize recTail=rt
   by_cases h52:(q5:Int)=2
   ·refine⟨q6+1,c6,by omega,by omega,?_⟩
    simp -implicitDefEqProofs only[zm,zI,zD,aJ,za,zl,ql,qJ,zT,zP,zg,qL,zx,zB,ze,zh,R.bind_ok,f1,f2,f3,f4,add_int,zw,zo,zV,zK,f5,eq_int,h52,decide_true,zJ,if_true,C,f6,show((1:Int)+(q6:Int))=((q6+1:Nat):Int)by omega]
   ·refine⟨q4+1,c5,by omega,?_,?_⟩
    ·have:q4+1<=6:=by omega
     exact am this (by decide)
    ·simp -implicitDefEqProofs only[zm,zI,zD,aJ,za,zl,ql,qJ,zT,zP,zg,qL,zx,zB,ze,zh,R.bind_ok,f1,f2,f3,f4,add_int,zw,zo,zV,zK,f5,eq_int,h52,decide_false,aK,zJ,if_false,show((1:Int)+(q4:Int))=((q4+1:Nat):Int)by omega]
  obtain⟨x,z',hx,et⟩:=recTailL_ok a1 a2 (F:=callN P (n+1)) (s:=s) (r:=r) (b:=Z) (most:=most) (z:=z) (k:=k) (way:=way) (one:=one) (other:=other) (many:=many) (l:=l) hlk (by omega) (by omega) (by omega) hm1 hm2
  exact⟨_,_,.inl (eh.trans et),l++[x],Z,z',_,_,_,_,_,hl.snoc (by rw[hlk];exact hx),by simp[hlk],rfl,rfl⟩)
 obtain⟨ρ',s',ek,l,b,z',x5,Y,J,G,x9,hl,hlk,rfl,rfl⟩:=key
 rw[qi,aU]at hlk
 have a0:(s.set r (qa b)++[O.lst (l.map Rst.d)])[s.length]?=some (.lst (l.map Rst.d)):=by rw[ak (by simp)];simp
 refine⟨l,b,hl,by omega,by omega,?_⟩
 rw[e0,body,show(bw some [D.ref r,.int (L:Int),.int most,.int z]++ao w_recipe_2.vs none)=[some (D.ref r),some (.int (L:Int)),some (.int most),some (.int z),none,none,none,none,none,none]from rfl]
 simp -implicitDefEqProofs only[za,zl,ql,ev_lst,zy,R.bind_ok,alloc_eq,zm,zI,zD,aJ,zw,zo,ex_for,jl,qL,zx,zB,qJ,zT,zP,zg,ze,zh,ed,add_int,show((1:Int)+(d:Int))=((d+1:Nat):Int)by omega]
 rw[qc (by unfold W62;omega) (by unfold W62;omega)]
 simp only[R.bind_ok]
 rw[show([some (D.ref r),some (.int (L:Int)),some (.int most),some (.int z),some (.ref s.length),none,none,none,none,none]:Env)=envL L s r most z none none none none none from rfl,ek]
 unfold envL
 simp -implicitDefEqProofs only[R.bind_ok,zo,za,zl,qZ,ev_mk,evL_seq,zg,ze,zh,lstM,a0,mk,qw,qu]
 refine canon_set (λ m=>?_) (by nofun) rfl
 unfold D.bnd
 exact zO (λ x hx n=>by obtain⟨y,_,rfl⟩:=aB.mp hx;exact y.bnd n) m
noncomputable def ta40:S:=(.ite (.and (.cmp .eq (.ix (.var 3) (.cst (.int 0))) (.cst (.str [116,105,109,101,115]))) (.cmp .gt (.ix (.var 3) (.cst (.int 2))) (.cst (.int 1000)))) (.cons (.ite (.cmp .gt (.var 1) (.cst (.int 0))) (.cons (.asg (.one 1) (.bin .sub (.var 1) (.cst (.int 1)))) .nil) (.cons (.asg (.one 3) (.tup (.cons (.cst (.str [116,105,109,101,115])) (.cons (.ix (.var 3) (.cst (.int 1))) (.cons (.bin .add (.cst (.int 1)) (.bin .mod (.ix (.var 3) (.cst (.int 2))) (.cst (.int 1000)))) .nil))))) .nil)) .nil) .nil)
theorem ta_body:w_tamed.body=(.cons (.asg (.one 2) (.lst .nil)) (.cons (.for_ (.one 3) (.seq (.var 0)) (.cons ta40 (.cons (.ex (.meth .append (.var 2) (.cons (.var 3) .nil))) .nil))) (.cons (.ret (.mk .tuple (.seq (.var 2)))) .nil))):=rfl
theorem ta40_ok {F:Fns}{k:Nat}{x:Rst}(hx:RsOk k x)(z:Int)(x0 Y:Option D)(s:Sto):∃(Z:Rst) (z':Int),RsOk k Z/\ex F ta40 [x0,some (.int z),Y,some x.d] s=.ok (.next [x0,some (.int z'),Y,some Z.d]) s:=by
 cases x with
 | let_ c =>
  refine⟨.let_ c,z,hx,?_⟩
  unfold ta40
  tbr_iter [rl0,qb,show(sLet=[116,105,109,101,115])=False by decide]
 | pair i j =>
  refine⟨.pair i j,z,hx,?_⟩
  unfold ta40
  tbr_iter [rp0,qb,show(sPair=[116,105,109,101,115])=False by decide]
 | times i n =>
  obtain⟨J,G,y⟩:=hx
  by_cases h:(1000:Int)<(n:Int)
  ·by_cases hz:(0:Int)<z
   ·refine⟨.times i n,z - 1,⟨J,G,y⟩,?_⟩
    unfold ta40
    tbr_iter [rt0,rt2,qb,show(ju=[116,105,109,101,115])=True from eq_self _,h,hz]
   ·have C:qM .mod (.int (n:Int)) (.int 1000) s=.ok (.int ((n % 1000:Nat):Int)) s:=by rw[jz (by decide)];simp
    refine⟨.times i (1+n % 1000),z,⟨J,by omega,by omega⟩,?_⟩
    unfold ta40
    tbr_iter [rt0,rt1,rt2,qb,show(ju=[116,105,109,101,115])=True from eq_self _,h,hz,C]
    rfl
  ·refine⟨.times i n,z,⟨J,G,y⟩,?_⟩
   unfold ta40
   tbr_iter [rt0,rt2,qb,show(ju=[116,105,109,101,115])=True from eq_self _,h]
theorem tamed_ok {P:Pr}[Has P w_tamed](n:Nat){l:List Rst}(hl:l.length<=500)(hk:RssOk l)(z:Int)(s:Sto):∃ h:List Rst,RssOk h/\h.length=l.length/\(callN P (n+1)).call "_law_tamed" [.tup (l.map Rst.d),.int z] s=.ok (.tup (h.map Rst.d)) s:=by
 have e0:(callN P (n+1)).call "_law_tamed" [.tup (l.map Rst.d),.int z] s=_:=zd w_tamed (n:=n) rfl
 have key:=qd (ok:=λ s1=>chk (s++[O.lst []]) s1 []) (g:=turn (callN P n) (.one 3) (.cons ta40 (.cons (.ex (.meth .append (.var 2) (.cons (.var 3) .nil))) .nil))) (λ k ρ u=>∃(h:List Rst) (J:Int) (x:Option D),RssOk h/\h.length=k/\u=s++[.lst (h.map Rst.d)]/\ρ=[some (.tup (l.map Rst.d)),some (.int J),some (.ref s.length),x]) (l.map Rst.d) 0 [some (.tup (l.map Rst.d)),some (.int z),some (.ref s.length),none] (s++[O.lst []]) ⟨[],z,none,RssOk.nil,rfl,rfl,rfl⟩ (λ _ _ _ _ _=>rfl) (by
  rintro k d ρ u hkk ⟨h,J,x,C,hlk,rfl,rfl⟩
  rw[aU]at hlk ⊢
  rw[av,bJ]at hkk
  obtain⟨y,hy,rfl⟩:=hkk
  have a0:=(ac.mp hy).1
  obtain⟨G,z2,Y,e1⟩:=ta40_ok (F:=callN P n) (hk k y hy) J (some (.tup (l.map Rst.d))) (some (.ref s.length)) (s++[.lst (h.map Rst.d)])
  have ha:meth .append (.ref s.length) [G.d] (s++[.lst (h.map Rst.d)])=.ok .non (s++[.lst ((h++[G]).map Rst.d)]):=by
   rw[qg (by unfold LIM;rw[az];omega),bB];rfl
  refine⟨_,_,.inl ?_,h++[G],z2,some G.d,C.snoc (by rw[hlk];exact Y),by simp[hlk],rfl,rfl⟩
  unfold turn
  tbr_iter [e1,ha])
 obtain⟨ρ',u',Z,h,J,x,C,hlk,rfl,rfl⟩:=key
 rw[aU,az]at hlk
 have h0:lstM (.ref s.length) (s++[O.lst (h.map Rst.d)])=.ok (h.map Rst.d) (s++[O.lst (h.map Rst.d)]):=by simp only[lstM,getL]
 refine⟨h,C,hlk,?_⟩
 rw[e0,ta_body,show(bw some [D.tup (l.map Rst.d),D.int z]++ao w_tamed.vs none)=[some (.tup (l.map Rst.d)),some (.int z),none,none]from rfl]
 tbr_iter [tup_seq]
 rw[Z]
 tbr_iter [h0,mk]
 refine zF (λ m=>?_) (by nofun)
 unfold D.bnd
 exact zO (λ x hx n=>by obtain⟨y,_,rfl⟩:=aB.mp hx;exact y.bnd n) m
theorem tallL_ok {P:Pr}[Has P w_draw][Has P w_tall_2](n:Nat){s:Sto}{r:Nat}(hs:∃ b,s[r]?=some (qa b)){L:Nat}(a0:1<=L)(a1:L<=3)(most:Nat)(h0:1<=most)(hm:most<=200):RecR s r most ((callN P (n+2)).call "_law_tall" [.ref r,.int (L:Int),.int most] s):=by
 have e0:(callN P (n+2)).call "_law_tall" [.ref r,.int (L:Int),.int most] s=_:=zd w_tall_2 (n:=n+1) rfl
 have body:w_tall_2.body=.cons (.asg (.one 3) (.lst (.cons (.tup (.cons (.cst (.str [108,101,116,116,101,114])) (.cons (.ix (.cst (.str [97,98,99])) (.call "_law_draw" (.ex (.var 0) (.ex (.var 1) .nil)))) .nil))) .nil))) (.cons (.for_ (.one 4) (.rng1 (.call "_law_draw" (.ex (.var 0) (.ex (.var 2) .nil)))) tb38) (.cons (.ret (.mk .tuple (.seq (.var 3)))) .nil)):=rfl
 have hr:=box_lt hs
 obtain⟨c,b1,hc,e1⟩:=je (P:=P) n hs (L:Int) (by omega) (qf (by omega))
 obtain⟨d,G,hd,e2⟩:=zS (P:=P) n (t:=[.lst ([Rst.let_ (97+c)].map Rst.d)]) hr b1 most (by omega) (qf (by omega))
 have key:=qd (ok:=λ s1=>chk (s.set r (qa G)++[O.lst ([Rst.let_ (97+c)].map Rst.d)]) s1 []) (g:=turn (callN P (n+1)) (.one 4) tb38) (λ k ρ t=>∃(l:List Rst) (b:Int) (x:Option D),RssOk l/\l.length=k+1/\ρ=[some (D.ref r),some (.int (L:Int)),some (.int (most:Int)),some (.ref s.length),x]/\t=s.set r (qa b)++[.lst (l.map Rst.d)]) (jj 0 (d:Int)) 0 [some (D.ref r),some (.int (L:Int)),some (.int (most:Int)),some (.ref s.length),none] (s.set r (qa G)++[O.lst ([Rst.let_ (97+c)].map Rst.d)]) ⟨[.let_ (97+c)],G,none,RssOk.nil.snoc (x:=.let_ (97+c)) ⟨by omega,by omega⟩,rfl,rfl,rfl⟩ (λ _ _ _ _ _=>rfl) (by
  rintro k dd ρ t hk ⟨l,b,x,hl,hlk,rfl,rfl⟩
  have a2:=(qV hk).1
  rw[(qV hk).2]
  rw[aU]at hlk ⊢
  have Y:(if(1:Int)<(k:Int)then(1:Int)else(k:Int))+1=((min k 1+1:Nat):Int):=by omega
  obtain⟨q,C,hq,f1⟩:=zS (P:=P) n (t:=[.lst (l.map Rst.d)]) hr b ((min k 1+1:Nat):Int) (by omega) (qf (by omega))
  have Z:(k:Int) - (q:Int)=((k - q:Nat):Int):=by omega
  have ap:∀ v,meth .append (.ref s.length) [v] (s.set r (qa C)++[.lst (l.map Rst.d)])=.ok .non (s.set r (qa C)++[.lst (l.map Rst.d++[v])]):=λ v=>app_onB (by unfold LIM;rw[az];omega)
  refine⟨[some (D.ref r),some (.int (L:Int)),some (.int (most:Int)),some (.ref s.length),some (.int (k:Int))],s.set r (qa C)++[.lst ((l++[Rst.pair k (k - q)]).map Rst.d)],.inl ?_,l++[Rst.pair k (k - q)],C,_,hl.snoc (x:=.pair k (k - q)) ⟨by omega,by omega⟩,by simp[hlk],rfl,rfl⟩
  unfold turn tb38
  simp -implicitDefEqProofs only[zm,zI,zD,aJ,za,zl,ex_ex,qt,zv,zy,ev_tup,zx,qY,zB,zg,qL,qJ,zT,zP,ev_bi,ze,zh,R.bind_ok,min2_int,add_int,Y,f1,sub_int,Z,ap,zo,bB]
  rfl)
 obtain⟨ρ',s',ek,l,b,x,hl,hlk,rfl,rfl⟩:=key
 rw[qi,aU]at hlk
 have J:(s.set r (qa b)++[O.lst (l.map Rst.d)])[s.length]?=some (.lst (l.map Rst.d)):=by rw[ak (by simp)];simp
 refine⟨l,b,hl,by omega,by omega,?_⟩
 rw[e0,body,show(bw some [D.ref r,.int (L:Int),.int most]++ao w_tall_2.vs none)=[some (D.ref r),some (.int (L:Int)),some (.int (most:Int)),none,none]from rfl]
 simp -implicitDefEqProofs only[za,zl,ql,ev_lst,zv,zy,ev_tup,zx,qY,qQ,qJ,zT,zP,zg,ze,zh,R.bind_ok,e1,abc_ix (show c<3 by omega),alloc_eq,bA,zm,zI,zD,aJ,zw,zo,ex_for,jl]
 have h:[Rst.let_ (97+c)].map Rst.d=[D.tup [.str [108,101,116,116,101,114],.str [97+c]]]:=by simp only[aN,cq,Rst.d]
 rw[h]at e2 ek
 rw[e2]
 simp -implicitDefEqProofs only[R.bind_ok]
 rw[qc (by unfold W62;omega) (by unfold W62;omega)]
 simp -implicitDefEqProofs only[R.bind_ok]
 rw[ek]
 simp -implicitDefEqProofs only[R.bind_ok,zo,za,zl,qZ,ev_mk,evL_seq,zg,ze,zh,lstM,J,mk,qw,qu]
 refine canon_set (λ m=>?_) (by nofun) rfl
 unfold D.bnd
 exact zO (λ x hx n=>by obtain⟨y,_,rfl⟩:=aB.mp hx;exact y.bnd n) m
section
variable {P:Pr} [Has P d_grid] [Has P d_least] [Has P d_added] [Has P d_rooms_of] [Has P d_begins_of] [Has P d_ends_of] [Has P d_doors_of] [Has P d_letter_table] [HasL P d_letter_table_l0] [Has P d_plain] [HasL P d_plain_l0] [Has P d_product] [HasL P d_product_l0] [Has P d_raised] [Has P d_power] [HasC P "product" (.fn "product")] [HasC P "power" (.fn "power")] [Has P d_folded] [Has P d_last_table] [HasL P d_last_table_l0] [Has P d_long_table] [Has P d_at_begins_and_ends] [Has P d_word_table] [Has P d_price] [Has P d_long_price]
theorem long_price_ok (n:Nat){m:Mc}(y:m.Ok){l:List Rst}(hl:l.length<=5100)(G:1<=l.length)(hk:RssB l){s:Sto}(hs:s.all O.ncl=true) :
  ∃ o,Least (λ c=>∃ p∈m.bg,∃ q∈m.en,tbO m (wd l (l.length - 1)) p q=some c) o/\(callN P (n+10)).call "long_price" [m.d,.tup (l.map Rst.d)] s=.ok (zG o) s:=by
 have J:(callN P (n+10)).call "long_price" [m.d,.tup (l.map Rst.d)] s=_:=zd d_long_price (n:=n+9) rfl
 have e1:=long_table_ok (P:=P) n y hl G hk hs
 obtain⟨e2,C⟩:=tab_price_ok (P:=P) (n+7) y (tbO m (wd l (l.length - 1))) s
 refine⟨minI ((beO m (tbO m (wd l (l.length - 1)))).filterMap id),Least.low ?_ ?_,?_⟩
 ·intro x hx
  obtain⟨o,ho,e⟩:=bj.mp hx
  unfold beO at ho
  obtain⟨p,h,ho⟩:=dw.mp ho
  obtain⟨q,hq,rfl⟩:=aB.mp ho
  exact⟨p,h,q,hq,e⟩
 ·rintro c ⟨p,h,q,hq,e⟩
  refine⟨c,bj.mpr ⟨some c,?_,rfl⟩,dP _⟩
  unfold beO
  exact dw.mpr ⟨p,h,aB.mpr ⟨q,hq,e⟩⟩
 ·rw[J,show(bw some [m.d,D.tup (l.map Rst.d)]++ao d_long_price.vs none)=[some m.d,some (.tup (l.map Rst.d))]from rfl]
  simp -implicitDefEqProofs only[d_long_price]
  rw[show tbD m (wd l (l.length - 1))=gdO m.R (tbO m (wd l (l.length - 1)))from rfl]at e1
  tbr_iter [e1,e2,C]
  exact zF (λ n=>z9 _ n) (by generalize minI _=o;cases o<;>nofun)
end
structure Gx (ns:List Int)(r:Nat)(u:Sto):Prop where
 scr:u[0]?=some (.ro (ns.map D.int))
 ncl:u.all O.ncl=true
 box:∃ b,u[r]?=some (qa b)
 r0:r≠0
theorem Gx.put {ns:List Int}{r:Nat}{u:Sto}(h:Gx ns r u)(b:Int):Gx ns r (u.set r (qa b)):=⟨by rw[be h.r0];exact h.scr,all_set h.ncl rfl,box_set (box_lt h.box),h.r0⟩
section
variable {P:Pr} [HasC P "FREE" (.int 0)] [HasC P "SOME" (.int 1)] [HasC P "NONE" (.int 3)] [Has P d_sign_of] [Has P d_grid] [Has P d_reading] [HasL P d_reading_l0] [Has P d_least] [Has P d_added] [Has P d_rooms_of] [Has P d_doors_of] [Has P d_letter_table] [HasL P d_letter_table_l0] [Has P d_plain] [HasL P d_plain_l0] [Has P d_product] [HasL P d_product_l0] [Has P d_word_table] [Has P d_word_signs] [Has P d_begins_of] [Has P d_ends_of] [Has P d_at_begins_and_ends] [Has P d_end_sign] [Has P d_price] [Has P zH] [HasL P zz]
 [Has P w_box] [Has P w_draw] [Has P w_form] [Has P qS] [Has P w_unit] [Has P w_machine_3] [Has P jt] [Has P w_law_k26]
end
section
variable {P:Pr} [Has P d_is_whole] [Has P d_is_tuple_of] [Has P d_is_letter] [HasC P "LETTERS" (.tup abcD)] [Has P d_letters_of] [Has P d_is_ahead] [Has P d_is_letter_step] [Has P d_is_pair_step] [Has P d_is_sharp_step]
end
section
variable {P:Pr} [Has P d_grid] [Has P d_least] [Has P d_added] [Has P d_rooms_of] [Has P d_doors_of] [Has P d_letter_table] [HasL P d_letter_table_l0] [Has P d_plain] [HasL P d_plain_l0] [Has P d_product] [HasL P d_product_l0] [Has P d_raised] [Has P d_power] [HasC P "product" (.fn "product")] [HasC P "power" (.fn "power")] [Has P d_folded] [Has P d_last_table] [HasL P d_last_table_l0] [Has P d_word_table]
 [Has P jo] [Has P d_unrolled] [Has P jb] [Has P d_counted] [HasL P d_counted_l0] [HasL P d_counted_l1] [HasL P d_counted_l2] [Has P d_lengths]
 [HasC P "MOST_WRITTEN" (.int 2000)] [Has P d_begun] [Has P d_begun_times] [HasC P "begun_times" (.fn "begun_times")] [Has P d_last_word] [HasL P d_last_word_l0] [HasL P d_last_word_l1] [Has P jf]
 [Has P w_box] [Has P w_draw] [Has P qS] [Has P w_machine_3] [Has P jt] [Has P w_sharp_2] [Has P w_makings] [Has P w_least_3] [Has P w_times] [Has P w_power_2] [Has P w_letter_table_2] [Has P w_due_6] [Has P w_tall_2] [Has P w_law_k32]
theorem ne_tbD {m:Mc}{w:List Nat}(s:Sto):qv .ne (tbD m w) (tbD m w) s=.ok (.bl false) s:=ne_gdO
end
theorem Least.up {S T:Int->Prop}{o:Option Int}(h:Least T o)(sub:∀ c,T c->S c)(low:∀ c,S c->∃ t,T t/\t<=c):Least S o:=by
 cases o with
 | none=>exact λ c hc=>by obtain⟨t,y,_⟩:=low c hc;exact h t y
 | some x=>exact⟨sub x h.1,λ c hc=>by obtain⟨t,y,C⟩:=low c hc;exact eU (h.2 t y) C⟩
theorem wk_price {m:Mc}(y:m.Ok){w:List Nat}{o:Option Int}(h:Least (λ c=>∃ p∈m.bg,∃ q∈m.en,tbO m w p q=some c) o):Least (m.Wk w) o:=by
 refine h.up ?_ ?_
 ·rintro c ⟨p,C,q,hq,e⟩
  have:=tbO_ok y w p q (y.bg.1 p C) (y.en.1 q hq)
  rw[e]at this
  exact⟨p,C,q,hq,this.1⟩
 ·rintro c ⟨p,C,q,hq,hw⟩
  have:=tbO_ok y w p q (y.bg.1 p C) (y.en.1 q hq)
  cases e:tbO m w p q with
  | none=>rw[e]at this;exact absurd hw (this c)
  | some t=>rw[e]at this;exact⟨t,⟨p,C,q,hq,e⟩,this.2 c hw⟩
section
variable {P:Pr} [Has P d_grid] [Has P d_least] [Has P d_added] [Has P d_rooms_of] [Has P d_begins_of] [Has P d_ends_of] [Has P d_doors_of] [Has P d_letter_table] [HasL P d_letter_table_l0] [Has P d_plain] [HasL P d_plain_l0] [Has P d_product] [HasL P d_product_l0] [Has P d_raised] [Has P d_power] [HasC P "product" (.fn "product")] [HasC P "power" (.fn "power")] [Has P d_folded] [Has P d_last_table] [HasL P d_last_table_l0] [Has P d_long_table] [Has P d_at_begins_and_ends] [Has P d_word_table] [Has P d_price] [Has P d_long_price] [Has P d_counted] [HasL P d_counted_l0] [HasL P d_counted_l1] [HasL P d_counted_l2] [Has P d_long_length]
 [HasC P "MOST_WRITTEN" (.int 2000)] [Has P d_begun] [Has P d_begun_times] [HasC P "begun_times" (.fn "begun_times")] [Has P d_last_word] [HasL P d_last_word_l0] [HasL P d_last_word_l1] [Has P d_long_word]
 [Has P w_least_3] [Has P w_times] [Has P w_power_2] [Has P w_letter_table_2] [Has P w_due_8] [Has P w_price_4]
noncomputable def tl40:Ss:=(.cons (.asg (.one 5) (.call "_law_due" (.ex (.var 3) (.ex (.var 4) .nil)))) (.cons (.asg (.one 6) (.call "long_table" (.ex (.var 3) (.ex (.var 4) .nil)))) (.cons (.asg (.one 7) (.call "long_price" (.ex (.var 3) (.ex (.var 4) .nil)))) (.cons (.ite (.or (.not (.bi .isTup (.cons (.var 6) .nil))) (.or (.cmp .ne (.var 6) (.var 5)) (.or (.cmp .ne (.var 7) (.call "_law_price" (.ex (.var 3) (.ex (.var 5) .nil)))) (.bi .isBool (.cons (.var 7) .nil))))) (.cons (.ret (.cst (.bl false))) .nil) .nil) (.cons (.ite (.cmp .le (.call "long_length" (.ex (.var 4) .nil)) (.cst (.int 200))) (.cons (.asg (.one 8) (.call "long_word" (.ex (.var 4) .nil))) (.cons (.ite (.or (.cmp .ne (.call "word_table" (.ex (.var 3) (.ex (.var 8) .nil))) (.var 5)) (.cmp .ne (.call "price" (.ex (.var 3) (.ex (.var 8) .nil))) (.var 7))) (.cons (.ret (.cst (.bl false))) .nil) .nil) .nil)) .nil) .nil)))))
theorem long_len_ok (n:Nat){l:List Rst}(C:l.length<=500)(J:1<=l.length)(hk:RssOk l){s:Sto}(hs:s.all O.ncl=true) :
  (callN P (n+4)).call "long_length" [.tup (l.map Rst.d)] s=.ok (.int (((zW l).getD (l.length - 1) 0:Nat):Int)) s:=by
 have y:(callN P (n+4)).call "long_length" [.tup (l.map Rst.d)] s=_:=zd d_long_length (n:=n+3) rfl
 have e1:=countedR_ok (P:=P) n C hk hs
 have hq:(s++[O.lst (qW (zW l))])[s.length]?=some (.lst (qW (zW l))):=by rw[ak (ah _)];simp
 have h:=jk (l:=l) l.length (ah _)
 rw[b9]at h
 have G:ixM (.ref s.length) (.int (-1)) (s++[O.lst (qW (zW l))])=.ok (.int (((zW l).getD (l.length - 1) 0:Nat):Int)) (s++[O.lst (qW (zW l))]):=ixL_last hq (by
  unfold qW
  rw[az,h,av,aG,ag (by omega)];rfl)
 rw[y,show(bw some [D.tup (l.map Rst.d)]++ao d_long_length.vs none)=[some (D.tup (l.map Rst.d))]from rfl]
 simp -implicitDefEqProofs only[d_long_length,za,zl,qZ,qQ,qJ,zT,zP,zg,zx,zB,ze,zh,R.bind_ok,e1,ev_negi,G,qw,qu]
 exact zF (λ _=>rfl) (by nofun)
theorem RssOk.n {l:List Rst}(h:RssOk l):RssN l:=λ k i n e=>(h k _ e).2.1
theorem ne_enc (o:Option Int)(s:Sto):qv .ne (zG o) (zG o) s=.ok (.bl false) s:=by
 cases o with
 | none=>rfl
 | some x=>show qv .ne (.int x) (.int x) s=_;rw[ne_int];simp
theorem isb_enc (o:Option Int)(s:Sto):bi .isBool [zG o] s=.ok (.bl false) s:=by cases o<;>rfl
theorem tl40_ok (n:Nat){u:Sto}(hn:u.all O.ncl=true){m:Mc}(h:m.Ok){l:List Rst}(hl:l.length<=100)(y:1<=l.length)(hk:RssOk l)(x0 x1 x2 x5 x6 x7 x8:Option D) :
  ∃(y5 y6 y7 y8:Option D),exs (callN P (n+10)) tl40 [x0,x1,x2,some m.d,some (.tup (l.map Rst.d)),x5,x6,x7,x8] u=.ok (.next [x0,x1,x2,some m.d,some (.tup (l.map Rst.d)),y5,y6,y7,y8]) u:=by
 have e1:=due8_ok (P:=P) (n+6) h (l:=l) (by omega) y hk.b hk.n u
 have e2:=long_table_ok (P:=P) (n+1) h (l:=l) (by omega) y hk.b hn
 obtain⟨o,ho,e3⟩:=long_price_ok (P:=P) n h (l:=l) (by omega) y hk.b hn
 obtain⟨o2,C,e4⟩:=price4_ok (P:=P) (n+8) h (tbO m (wd l (l.length - 1))) u
 have Z:o2=o:=C.eq ho λ _=>kA
 subst Z
 have Y:=long_len_ok (P:=P) (n+6) (l:=l) (by omega) y hk hn
 have G:=wd_len hk (l.length - 1) (by omega)
 rw[<-G]at Y
 have it:∀(w:List Nat) (s:Sto),bi .isTup [tbD m w] s=.ok (.bl true) s:=λ _ _=>rfl
 rw[show gdO m.R (tbO m (wd l (l.length - 1)))=tbD m (wd l (l.length - 1))from rfl]at e4
 by_cases hw:(((wd l (l.length - 1)).length:Nat):Int)<=200
 ·have e6:=long_word_ok (P:=P) (n+5) (l:=l) (by omega) y hk.b hk.n hn (by omega)
  obtain⟨f,hf,e7⟩:=word_table_ok (P:=P) (n+5) h (wd l (l.length - 1)) (by omega) hn
  rw[tbD_of h hf]at e7
  obtain⟨o3,J,e8⟩:=price_ok (P:=P) (n+4) h (wd l (l.length - 1)) (by omega) hn
  have Z:o3=o2:=J.eq (wk_price h C) λ _=>kA
  subst Z
  refine⟨some (tbD m (wd l (l.length - 1))),some (tbD m (wd l (l.length - 1))),some (zG o3),some (.str (wd l (l.length - 1))),?_⟩
  ·unfold tl40
   tbr_iter [e1,e2,e3,it,ne_tbD,e4,ne_enc,isb_enc,Y,hw,e6,e7,e8]
 ·refine⟨some (tbD m (wd l (l.length - 1))),some (tbD m (wd l (l.length - 1))),some (zG o2),x8,?_⟩
  ·unfold tl40
   tbr_iter [e1,e2,e3,it,ne_tbD,e4,ne_enc,isb_enc,Y,hw]
variable [Has P w_box] [Has P w_draw] [Has P w_machine_3] [Has P w_recipe_2] [Has P w_tall_2] [Has P w_tamed] [Has P w_law_k40]
noncomputable def if40:S:=(.ite (.cmp .eq (.call "_law_draw" (.ex (.var 2) (.ex (.cst (.int 8)) .nil))) (.cst (.int 3))) (.cons (.asg (.one 4) (.call "_law_tall" (.ex (.var 2) (.ex (.ix (.var 3) (.cst (.int 0))) (.ex (.cst (.int 60)) .nil))))) .nil) .nil)
noncomputable def zz40:E:=(.bin .mul (.cst (.int 2)) (.bi .int (.cons (.and (.cmp .eq (.var 1) (.cst (.int 0))) (.cmp .lt (.ix (.var 3) (.cst (.int 1))) (.cst (.int 4)))) .nil)))
theorem body40:w_law_k40.body=(.cons (.for_ (.one 1) (.rng1 (.bin .add (.bi .min2 (.cons (.cst (.int 2)) (.cons (.bi .len (.cons (.var 0) .nil)) .nil))) (.cst (.int 1)))) (.cons (.asg (.one 2) (.call "_law_box" (.ex (.var 0) (.ex (.var 1) .nil)))) (.cons (.asg (.one 3) (.call "_law_machine" (.ex (.var 2) .nil))) (.cons (.asg (.one 4) (.call "_law_recipe" (.ex (.var 2) (.ex (.ix (.var 3) (.cst (.int 0))) (.ex (.cst (.int 8)) (.ex (.cst (.int 3)) .nil)))))) (.cons if40 (.cons (.asg (.one 4) (.call "_law_tamed" (.ex (.var 4) (.ex zz40 .nil)))) tl40)))))) (.cons (.ret (.cst (.bl true))) .nil)):=rfl
theorem zz40_ok {F:Fns}{m:Mc}(j:Nat)(s:Sto)(x0 G Z x5 J Y C:Option D):∃ z:Int,ev F zz40 [x0,some (.int (j:Int)),G,some m.d,Z,x5,J,Y,C] s=.ok (.int z) s:=by
 have y:mulOk 2 0=true:=by decide
 have m1:mulOk 2 1=true:=by decide
 unfold zz40
 by_cases h:(j:Int)=0
 ·by_cases g:(m.R:Int)<4
  ·exact⟨2*1,by tbr_iter [h,ixR,g,int_bl,mul_int m1]⟩
  ·exact⟨2*0,by tbr_iter [h,ixR,g,int_bl,mul_int y]⟩
 ·exact⟨2*0,by tbr_iter [h,int_bl,mul_int y]⟩
theorem if40_ok (n:Nat){ns:List Int}{r:Nat}{u:Sto}(h:Gx ns r u){m:Mc}(hm:m.Ok){l:List Rst}(hl:l.length<=60)(h1:1<=l.length)(hk:RssOk l)(x0 x1 x5 x6 x7 Z:Option D) :
  ∃(y:List Rst) (u':Sto),y.length<=60/\1<=y.length/\RssOk y/\Gx ns r u'/\ex (callN P (n+2)) if40 [x0,x1,some (.ref r),some m.d,some (.tup (l.map Rst.d)),x5,x6,x7,Z] u=.ok (.next [x0,x1,some (.ref r),some m.d,some (.tup (y.map Rst.d)),x5,x6,x7,Z]) u':=by
 obtain⟨q,b1,hq,e1⟩:=je (P:=P) (n+1) h.box 8 (by decide) (by decide)
 have J:=h.put b1
 by_cases h3:(q:Int)=3
 ·obtain⟨y,b,Y,G,C,e2⟩:=tallL_ok (P:=P) n J.box hm.L1 hm.L3 60 (by decide) (by decide)
  refine⟨y,_,C,G,Y,J.put b,?_⟩
  rw[show((60:Nat):Int)=60 from rfl]at e2
  unfold if40
  tbr_iter [e1,h3,ixL,e2]
 ·refine⟨l,_,hl,h1,hk,J,?_⟩
  unfold if40
  tbr_iter [e1,h3]
theorem law40 (n:Nat):LawOk P (n+11):=by
 intro ns hl
 have e0:(callN P (n+11)).call "law" [.ref 0] [.ro (ns.map D.int)]=_:=zd w_law_k40 (n:=n+10) rfl
 rw[e0,body40,show(bw some [D.ref 0]++ao w_law_k40.vs none)=[some (.ref 0),none,none,none,none,none,none,none,none]from rfl]
 have a2:([.ro (ns.map D.int)]:Sto)[0]?=some (.ro (ns.map D.int)):=rfl
 have Y:bi .len [.ref 0] [.ro (ns.map D.int)]=.ok (.int ns.length) [.ro (ns.map D.int)]:=by rw[len_ro a2,az]
 have hk:(if(ns.length:Int)<2 then(ns.length:Int)else 2)+1=((min ns.length 2+1:Nat):Int):=by omega
 tbr_iter [Y,min2_int,hk]
 rw[qc (by unfold W62;omega) (by unfold W62;omega)]
 simp only[R.bind_ok]
 rw[R.bind_assoc]
 refine for_want (W:=Yes) (λ j ρ t=>t[0]?=some (.ro (ns.map D.int))/\t.all O.ncl=true/\∃ x1 x2 x3 x4 J G C y,ρ=[some (.ref 0),x1,x2,x3,x4,J,G,C,y]) ⟨rfl,by
   simp only[eA,iY,dC];exact ints_ncl,_,_,_,_,_,_,_,_,rfl⟩ (λ _ _ _ _ _=>rfl) ?_ ?_
 ·rintro j d ρ t hj ⟨Z,hn,x1,x2,x3,x4,J,G,C,y,rfl⟩
  have hd:=(qV hj).2
  subst hd
  have a6:0<t.length:=(ac.mp Z).1
  obtain⟨N0,h⟩:=box_ex (P:=P) (n+9) ns j Z
  have G0:Gx ns t.length (t++[qa N0]):=⟨get_app Z,all_snoc hn rfl,⟨_,getL⟩,by omega⟩
  generalize t++[qa N0]=S at h G0
  generalize t.length=r at h G0
  obtain⟨m,b1,hm,em⟩:=machine3_mc (P:=P) (n+8) G0.box
  have G1:=G0.put b1
  obtain⟨l,b2,a0,h1,h2,er⟩:=recipeL_ok (P:=P) (n+8) G1.box hm.L1 hm.L3 8 (by decide) (by decide) 3
  have G2:=G1.put b2
  obtain⟨l',u4,a4,a5,a3,G4,e4⟩:=if40_ok (P:=P) (n+8) G2 hm (l:=l) (by omega) h1 a0 (some (.ref 0)) (some (.int (j:Int))) J G C y
  obtain⟨z,ez⟩:=zz40_ok (F:=callN P (n+10)) (m:=m) j u4 (some (.ref 0)) (some (.ref r)) (some (.tup (l'.map Rst.d))) J G C y
  obtain⟨l2,a1,hl2,et⟩:=tamed_ok (P:=P) (n+9) (l:=l') (by omega) a3 z u4
  obtain⟨y5,y6,y7,y8,e7⟩:=tl40_ok (P:=P) n G4.ncl hm (l:=l2) (by omega) (by omega) a1 (some (.ref 0)) (some (.int (j:Int))) (some (.ref r)) J G C y
  refine Nx_of (ρ:=[some (.ref 0),some (.int (j:Int)),some (.ref r),some m.d,some (.tup (l2.map Rst.d)),y5,y6,y7,y8]) (s:=u4) ?_ ⟨G4.scr,G4.ncl,_,_,_,_,_,_,_,_,rfl⟩
  rw[show((8:Nat):Int)=8 from rfl]at er
  unfold turn
  simp -implicitDefEqProofs only[zm,zI,zD,aJ,za,zl,ql,qQ,qJ,zT,zP,zg,ze,zh,R.bind_ok,h,em,zw,zo,zx,zB,ixL,er,e4,ez,et]
  exact e7
 ·rintro ρ t ⟨Z,hn,x1,x2,x3,x4,J,G,C,y,rfl⟩
  tbr_iter []
  exact Yes_canon _ _
end
end DV
end
local macro_rules | `(tactic| walk_at "sc") => `(tactic| exact ⟨rfl, rfl, rfl, by decide +kernel, rfl, by decide +kernel, by decide +kernel⟩)
local macro_rules | `(tactic| walk_at "df") => `(tactic| (dsimp only; exact ⟨_, _, _, _, _, _, _, _, _, _, by k_is, by k_is, by k_is, by k_is⟩))
noncomputable section
namespace My
open PySem L2
noncomputable def top (i:Nat):Stmt:=PySem.Challenge.pw_leasttolls_k40_tables_and_prices_of_long.main.body.getD i (.Pass ⟨0,0,0,0⟩)
theorem bd_0:BindG ["i", "j"]:=λ params h _ _ _ _ _ _ _ _ us hl=>by
 obtain⟨args,rfl,ha⟩:=qG h
 revert us
 refine bd2 ?_
 intro y G
 rcases args with _|⟨⟨J,_,_⟩,_|⟨⟨C,_,_⟩,_|⟨_,_⟩⟩⟩
 all_goals simp only[aN,cq,eN,and_true,and_false,reduceCtorEq]at ha
 obtain⟨rfl,rfl⟩:=ha
 exact⟨rfl,λ _ _=>rfl⟩
theorem bd_1:BindG ["letter"]:=λ params h _ _ _ _ _ _ _ _ us hl=>by
 obtain⟨args,rfl,ha⟩:=qG h
 revert us
 refine bd1 ?_
 intro C
 rcases args with _|⟨⟨y,_,_⟩,_|⟨_,_⟩⟩
 all_goals simp only[aN,cq,eN,and_true,and_false,reduceCtorEq]at ha
 obtain rfl:=ha
 exact⟨rfl,λ _ _=>rfl⟩
theorem bd_2:BindG ["one", "many"]:=λ params h _ _ _ _ _ _ _ _ us hl=>by
 obtain⟨args,rfl,ha⟩:=qG h
 revert us
 refine bd2 ?_
 intro y G
 rcases args with _|⟨⟨J,_,_⟩,_|⟨⟨C,_,_⟩,_|⟨_,_⟩⟩⟩
 all_goals simp only[aN,cq,eN,and_true,and_false,reduceCtorEq]at ha
 obtain⟨rfl,rfl⟩:=ha
 exact⟨rfl,λ _ _=>rfl⟩
theorem bd_3:BindG ["one", "other"]:=λ params h _ _ _ _ _ _ _ _ us hl=>by
 obtain⟨args,rfl,ha⟩:=qG h
 revert us
 refine bd2 ?_
 intro y G
 rcases args with _|⟨⟨J,_,_⟩,_|⟨⟨C,_,_⟩,_|⟨_,_⟩⟩⟩
 all_goals simp only[aN,cq,eN,and_true,and_false,reduceCtorEq]at ha
 obtain⟨rfl,rfl⟩:=ha
 exact⟨rfl,λ _ _=>rfl⟩
noncomputable def tabN:List Str:=["plain", "product", "letter_table", "counted", "last_word", "last_table"]
noncomputable abbrev s_rooms_of:Stmt:=top 1
noncomputable abbrev s_begins_of:Stmt:=top 2
noncomputable abbrev s_ends_of:Stmt:=top 3
noncomputable abbrev s_doors_of:Stmt:=top 4
noncomputable abbrev s_grid:Stmt:=top 6
noncomputable abbrev s_raised:Stmt:=top 7
noncomputable abbrev s_at_begins_and_ends:Stmt:=top 8
noncomputable abbrev s_least:Stmt:=top 13
noncomputable abbrev s_added:Stmt:=top 14
noncomputable abbrev s_plain:Stmt:=top 15
noncomputable abbrev s_product:Stmt:=top 16
noncomputable abbrev s_power:Stmt:=top 17
noncomputable abbrev s_letter_table:Stmt:=top 18
noncomputable abbrev s_word_table:Stmt:=top 19
noncomputable abbrev s_price:Stmt:=top 20
noncomputable abbrev s_folded:Stmt:=top 22
noncomputable abbrev s_counted:Stmt:=top 23
noncomputable abbrev s_begun:Stmt:=top 26
noncomputable abbrev s_begun_times:Stmt:=top 27
noncomputable abbrev s_last_word:Stmt:=top 28
noncomputable abbrev s_last_table:Stmt:=top 29
noncomputable abbrev s_long_length:Stmt:=top 31
noncomputable abbrev s_long_word:Stmt:=top 32
noncomputable abbrev s_long_table:Stmt:=top 33
noncomputable abbrev s_long_price:Stmt:=top 34
noncomputable abbrev s__law_box:Stmt:=top 36
noncomputable abbrev s__law_draw:Stmt:=top 37
noncomputable abbrev s__law_machine:Stmt:=top 38
noncomputable abbrev s__law_recipe:Stmt:=top 39
noncomputable abbrev s__law_least:Stmt:=top 40
noncomputable abbrev s__law_times:Stmt:=top 41
noncomputable abbrev s__law_power:Stmt:=top 42
noncomputable abbrev s__law_letter_table:Stmt:=top 43
noncomputable abbrev s__law_due:Stmt:=top 44
noncomputable abbrev s__law_price:Stmt:=top 45
noncomputable abbrev s__law_tamed:Stmt:=top 46
noncomputable abbrev s__law_tall:Stmt:=top 47
noncomputable abbrev s_law:Stmt:=top 48
noncomputable def tb:List (String×lQ×Stmt):=[("rooms_of",DV.d_rooms_of,s_rooms_of),("begins_of",DV.d_begins_of,s_begins_of),("ends_of",DV.d_ends_of,s_ends_of),("doors_of",DV.d_doors_of,s_doors_of),("grid",DV.d_grid,s_grid),("raised",DV.d_raised,s_raised),("at_begins_and_ends",DV.d_at_begins_and_ends,s_at_begins_and_ends),("least",DV.d_least,s_least),("added",DV.d_added,s_added),("plain",DV.d_plain,s_plain),("product",DV.d_product,s_product),("power",DV.d_power,s_power),("letter_table",DV.d_letter_table,s_letter_table),("word_table",DV.d_word_table,s_word_table),("price",DV.d_price,s_price),("folded",DV.d_folded,s_folded),("counted",DV.d_counted,s_counted),("begun",DV.d_begun,s_begun),("begun_times",DV.d_begun_times,s_begun_times),("last_word",DV.d_last_word,s_last_word),("last_table",DV.d_last_table,s_last_table),("long_length",DV.d_long_length,s_long_length),("long_word",DV.d_long_word,s_long_word),("long_table",DV.d_long_table,s_long_table),("long_price",DV.d_long_price,s_long_price),("_law_box",DV.w_box,s__law_box),("_law_draw",DV.w_draw,s__law_draw),("_law_machine",DV.w_machine_3,s__law_machine),("_law_recipe",DV.w_recipe_2,s__law_recipe),("_law_least",DV.w_least_3,s__law_least),("_law_times",DV.w_times,s__law_times),("_law_power",DV.w_power_2,s__law_power),("_law_letter_table",DV.w_letter_table_2,s__law_letter_table),("_law_due",DV.w_due_8,s__law_due),("_law_price",DV.w_price_4,s__law_price),("_law_tamed",DV.w_tamed,s__law_tamed),("_law_tall",DV.w_tall_2,s__law_tall),("law",DV.w_law_k40,s_law)]
noncomputable def ctbl:List (String×kL):=[("MOST_WRITTEN",.int (2000)),("product",.fn "product"),("power",.fn "power"),("begun_times",.fn "begun_times")]
noncomputable def ltbl:List (String×lP):=[("plain.0",DV.d_plain_l0),("product.0",DV.d_product_l0),("letter_table.least_fee",DV.d_letter_table_l0),("counted.0",DV.d_counted_l0),("counted.1",DV.d_counted_l1),("counted.2",DV.d_counted_l2),("last_word.0",DV.d_last_word_l0),("last_word.1",DV.d_last_word_l1),("last_table.0",DV.d_last_table_l0)]
noncomputable def tbl:List (String×lQ):=tb.map λ p=>(p.1,p.2.1)
noncomputable def P:la:=⟨λ f=>tbl.lookup f,λ f=>ltbl.lookup f,λ x=>ctbl.lookup x⟩
instance:DV.HasL P DV.d_plain_l0:=⟨rfl⟩
instance:DV.HasL P DV.d_product_l0:=⟨rfl⟩
instance:DV.HasL P DV.d_letter_table_l0:=⟨rfl⟩
instance:DV.HasL P DV.d_counted_l0:=⟨rfl⟩
instance:DV.HasL P DV.d_counted_l1:=⟨rfl⟩
instance:DV.HasL P DV.d_counted_l2:=⟨rfl⟩
instance:DV.HasL P DV.d_last_word_l0:=⟨rfl⟩
instance:DV.HasL P DV.d_last_word_l1:=⟨rfl⟩
instance:DV.HasL P DV.d_last_table_l0:=⟨rfl⟩
instance:DV.HasC P "MOST_WRITTEN" (.int (2000)):=⟨rfl⟩
instance:DV.HasC P "product" (.fn "product"):=⟨rfl⟩
instance:DV.HasC P "power" (.fn "power"):=⟨rfl⟩
instance:DV.HasC P "begun_times" (.fn "begun_times"):=⟨rfl⟩
instance:DV.Has P DV.d_rooms_of:=⟨rfl⟩
instance:DV.Has P DV.d_begins_of:=⟨rfl⟩
instance:DV.Has P DV.d_ends_of:=⟨rfl⟩
instance:DV.Has P DV.d_doors_of:=⟨rfl⟩
instance:DV.Has P DV.d_grid:=⟨rfl⟩
instance:DV.Has P DV.d_raised:=⟨rfl⟩
instance:DV.Has P DV.d_at_begins_and_ends:=⟨rfl⟩
instance:DV.Has P DV.d_least:=⟨rfl⟩
instance:DV.Has P DV.d_added:=⟨rfl⟩
instance:DV.Has P DV.d_plain:=⟨rfl⟩
instance:DV.Has P DV.d_product:=⟨rfl⟩
instance:DV.Has P DV.d_power:=⟨rfl⟩
instance:DV.Has P DV.d_letter_table:=⟨rfl⟩
instance:DV.Has P DV.d_word_table:=⟨rfl⟩
instance:DV.Has P DV.d_price:=⟨rfl⟩
instance:DV.Has P DV.d_folded:=⟨rfl⟩
instance:DV.Has P DV.d_counted:=⟨rfl⟩
instance:DV.Has P DV.d_begun:=⟨rfl⟩
instance:DV.Has P DV.d_begun_times:=⟨rfl⟩
instance:DV.Has P DV.d_last_word:=⟨rfl⟩
instance:DV.Has P DV.d_last_table:=⟨rfl⟩
instance:DV.Has P DV.d_long_length:=⟨rfl⟩
instance:DV.Has P DV.d_long_word:=⟨rfl⟩
instance:DV.Has P DV.d_long_table:=⟨rfl⟩
instance:DV.Has P DV.d_long_price:=⟨rfl⟩
instance:DV.Has P DV.w_box:=⟨rfl⟩
instance:DV.Has P DV.w_draw:=⟨rfl⟩
instance:DV.Has P DV.w_machine_3:=⟨rfl⟩
instance:DV.Has P DV.w_recipe_2:=⟨rfl⟩
instance:DV.Has P DV.w_least_3:=⟨rfl⟩
instance:DV.Has P DV.w_times:=⟨rfl⟩
instance:DV.Has P DV.w_power_2:=⟨rfl⟩
instance:DV.Has P DV.w_letter_table_2:=⟨rfl⟩
instance:DV.Has P DV.w_due_8:=⟨rfl⟩
instance:DV.Has P DV.w_price_4:=⟨rfl⟩
instance:DV.Has P DV.w_tamed:=⟨rfl⟩
instance:DV.Has P DV.w_tall_2:=⟨rfl⟩
instance:DV.Has P DV.w_law_k40:=⟨rfl⟩
theorem t_rooms_of:DT tabN P "rooms_of" DV.d_rooms_of s_rooms_of:=⟨["machine"],["machine"],by walk_at "sc",rfl,rfl,λ _ _ _ _ _ _=>bd1 (λ _=>rfl),.inl (by decide +kernel)⟩
theorem t_begins_of:DT tabN P "begins_of" DV.d_begins_of s_begins_of:=⟨["machine"],["machine"],by walk_at "sc",rfl,rfl,λ _ _ _ _ _ _=>bd1 (λ _=>rfl),.inl (by decide +kernel)⟩
theorem t_ends_of:DT tabN P "ends_of" DV.d_ends_of s_ends_of:=⟨["machine"],["machine"],by walk_at "sc",rfl,rfl,λ _ _ _ _ _ _=>bd1 (λ _=>rfl),.inl (by decide +kernel)⟩
theorem t_doors_of:DT tabN P "doors_of" DV.d_doors_of s_doors_of:=⟨["machine"],["machine"],by walk_at "sc",rfl,rfl,λ _ _ _ _ _ _=>bd1 (λ _=>rfl),.inl (by decide +kernel)⟩
theorem t_grid:DT tabN P "grid" DV.d_grid s_grid:=⟨["size", "entry", "rows", "i"],["size", "entry"],by walk_at "sc",rfl,rfl,λ _ _ _ _ _ _=>bd2 (λ _ _=>rfl),.inl (by decide +kernel)⟩
theorem t_raised:DT tabN P "raised" DV.d_raised s_raised:=⟨["one", "many", "plain_one", "times", "answer", "square", "left"],["one", "many", "plain_one", "times"],by walk_at "sc",rfl,rfl,λ _ _ _ _ _ _=>bd4 (λ _ _ _ _=>rfl),.inl (by decide +kernel)⟩
theorem js:DT tabN P "at_begins_and_ends" DV.d_at_begins_and_ends s_at_begins_and_ends:=⟨["machine", "table", "found", "start"],["machine", "table"],by walk_at "sc",rfl,rfl,λ _ _ _ _ _ _=>bd2 (λ _ _=>rfl),.inl (by decide +kernel)⟩
theorem t_least:DT tabN P "least" DV.d_least s_least:=⟨["prices"],["prices"],by walk_at "sc",rfl,rfl,λ _ _ _ _ _ _=>bd1 (λ _=>rfl),.inl (by decide +kernel)⟩
theorem t_added:DT tabN P "added" DV.d_added s_added:=⟨["one", "other"],["one", "other"],by walk_at "sc",rfl,rfl,λ _ _ _ _ _ _=>bd2 (λ _ _=>rfl),.inl (by decide +kernel)⟩
theorem t_plain:DT tabN P "plain" DV.d_plain s_plain:=⟨["n"],["n"],by walk_at "sc",rfl,rfl,λ _ _ _ _ _ _=>bd1 (λ _=>rfl),.inr ⟨by decide,[("plain.0",DV.d_plain_l0,["i", "j"],[])],by decide +kernel,by decide +kernel,λ p h=>by
 simp only[aH,bG,or_false]at h
 rcases h with rfl
 ·exact⟨rfl,bd_0⟩⟩⟩
theorem t_product:DT tabN P "product" DV.d_product s_product:=⟨["one", "other", "size"],["one", "other"],by walk_at "sc",rfl,rfl,λ _ _ _ _ _ _=>bd2 (λ _ _=>rfl),.inr ⟨by decide,[("product.0",DV.d_product_l0,["i", "j"],["size", "one", "other"])],by decide +kernel,by decide +kernel,λ p h=>by
 simp only[aH,bG,or_false]at h
 rcases h with rfl
 ·exact⟨rfl,bd_0⟩⟩⟩
theorem t_power:DT tabN P "power" DV.d_power s_power:=⟨["table", "many"],["table", "many"],by walk_at "sc",rfl,rfl,λ _ _ _ _ _ _=>bd2 (λ _ _=>rfl),.inl (by decide +kernel)⟩
theorem t_letter_table:DT tabN P "letter_table" DV.d_letter_table s_letter_table:=⟨["machine", "letter", "least_fee"],["machine", "letter"],by walk_at "sc",rfl,rfl,λ _ _ _ _ _ _=>bd2 (λ _ _=>rfl),.inr ⟨by decide,[("letter_table.least_fee",DV.d_letter_table_l0,["i", "j"],["machine", "letter"])],by decide +kernel,by decide +kernel,λ p h=>by
 simp only[aH,bG,or_false]at h
 rcases h with rfl
 ·exact⟨rfl,bd_0⟩⟩⟩
theorem t_word_table:DT tabN P "word_table" DV.d_word_table s_word_table:=⟨["machine", "word", "made", "table", "letter"],["machine", "word"],by walk_at "sc",rfl,rfl,λ _ _ _ _ _ _=>bd2 (λ _ _=>rfl),.inl (by decide +kernel)⟩
theorem t_price:DT tabN P "price" DV.d_price s_price:=⟨["machine", "word"],["machine", "word"],by walk_at "sc",rfl,rfl,λ _ _ _ _ _ _=>bd2 (λ _ _=>rfl),.inl (by decide +kernel)⟩
theorem t_folded:DT tabN P "folded" DV.d_folded s_folded:=⟨["steps", "of_letter", "of_pair", "of_times", "values", "step"],["steps", "of_letter", "of_pair", "of_times"],by walk_at "sc",rfl,rfl,λ _ _ _ _ _ _=>bd4 (λ _ _ _ _=>rfl),.inl (by decide +kernel)⟩
theorem t_counted:DT tabN P "counted" DV.d_counted s_counted:=⟨["steps", "for_letter"],["steps", "for_letter"],by walk_at "sc",rfl,rfl,λ _ _ _ _ _ _=>bd2 (λ _ _=>rfl),.inr ⟨by decide,[("counted.0",DV.d_counted_l0,["one", "many"],[]),("counted.1",DV.d_counted_l1,["one", "other"],[]),("counted.2",DV.d_counted_l2,["letter"],["for_letter"])],by decide +kernel,by decide +kernel,λ p h=>by
 simp only[aH,bG,or_false]at h
 rcases h with rfl|rfl|rfl
 ·exact⟨rfl,bd_2⟩
 ·exact⟨rfl,bd_3⟩
 ·exact⟨rfl,bd_1⟩⟩⟩
theorem t_begun:DT tabN P "begun" DV.d_begun s_begun:=⟨["word"],["word"],by walk_at "sc",rfl,rfl,λ _ _ _ _ _ _=>bd1 (λ _=>rfl),.inl (by decide +kernel)⟩
theorem t_begun_times:DT tabN P "begun_times" DV.d_begun_times s_begun_times:=⟨["word", "many", "enough"],["word", "many"],by walk_at "sc",rfl,rfl,λ _ _ _ _ _ _=>bd2 (λ _ _=>rfl),.inl (by decide +kernel)⟩
theorem t_last_word:DT tabN P "last_word" DV.d_last_word s_last_word:=⟨["steps", "word"],["steps"],by walk_at "sc",rfl,rfl,λ _ _ _ _ _ _=>bd1 (λ _=>rfl),.inr ⟨by decide,[("last_word.0",DV.d_last_word_l0,["one", "other"],[]),("last_word.1",DV.d_last_word_l1,["letter"],[])],by decide +kernel,by decide +kernel,λ p h=>by
 simp only[aH,bG,or_false]at h
 rcases h with rfl|rfl
 ·exact⟨rfl,bd_3⟩
 ·exact⟨rfl,bd_1⟩⟩⟩
theorem t_last_table:DT tabN P "last_table" DV.d_last_table s_last_table:=⟨["machine", "steps"],["machine", "steps"],by walk_at "sc",rfl,rfl,λ _ _ _ _ _ _=>bd2 (λ _ _=>rfl),.inr ⟨by decide,[("last_table.0",DV.d_last_table_l0,["letter"],["machine"])],by decide +kernel,by decide +kernel,λ p h=>by
 simp only[aH,bG,or_false]at h
 rcases h with rfl
 ·exact⟨rfl,bd_1⟩⟩⟩
theorem t_long_length:DT tabN P "long_length" DV.d_long_length s_long_length:=⟨["recipe"],["recipe"],by walk_at "sc",rfl,rfl,λ _ _ _ _ _ _=>bd1 (λ _=>rfl),.inl (by decide +kernel)⟩
theorem t_long_word:DT tabN P "long_word" DV.d_long_word s_long_word:=⟨["recipe"],["recipe"],by walk_at "sc",rfl,rfl,λ _ _ _ _ _ _=>bd1 (λ _=>rfl),.inl (by decide +kernel)⟩
theorem t_long_table:DT tabN P "long_table" DV.d_long_table s_long_table:=⟨["machine", "recipe"],["machine", "recipe"],by walk_at "sc",rfl,rfl,λ _ _ _ _ _ _=>bd2 (λ _ _=>rfl),.inl (by decide +kernel)⟩
theorem t_long_price:DT tabN P "long_price" DV.d_long_price s_long_price:=⟨["machine", "recipe"],["machine", "recipe"],by walk_at "sc",rfl,rfl,λ _ _ _ _ _ _=>bd2 (λ _ _=>rfl),.inl (by decide +kernel)⟩
theorem t__law_box:DT tabN P "_law_box" DV.w_box s__law_box:=⟨["_law_script", "_law_at", "_law_cell", "_law_number", "_law_j", "_law_part"],["_law_script", "_law_at"],by walk_at "sc",rfl,rfl,λ _ _ _ _ _ _=>bd2 (λ _ _=>rfl),.inl (by decide +kernel)⟩
theorem t__law_draw:DT tabN P "_law_draw" DV.w_draw s__law_draw:=⟨["_law_box_here", "_law_many", "_law_found"],["_law_box_here", "_law_many"],by walk_at "sc",rfl,rfl,λ _ _ _ _ _ _=>bd2 (λ _ _=>rfl),.inl (by decide +kernel)⟩
theorem t__law_machine:DT tabN P "_law_machine" DV.w_machine_3 s__law_machine:=⟨["_law_box_here", "_law_letters", "_law_rooms", "_law_many", "_law_high", "_law_doors", "_law_k", "_law_start", "_law_goal", "_law_letter", "_law_bits", "_law_begins", "_law_ends"],["_law_box_here"],by walk_at "sc",rfl,rfl,λ _ _ _ _ _ _=>bd1 (λ _=>rfl),.inl (by decide +kernel)⟩
theorem t__law_recipe:DT tabN P "_law_recipe" DV.w_recipe_2 s__law_recipe:=⟨["_law_box_here", "_law_letters", "_law_most", "_law_times_here", "_law_steps", "_law_k", "_law_way", "_law_one", "_law_other", "_law_many"],["_law_box_here", "_law_letters", "_law_most", "_law_times_here"],by walk_at "sc",rfl,rfl,λ _ _ _ _ _ _=>bd4 (λ _ _ _ _=>rfl),.inl (by decide +kernel)⟩
theorem t__law_least:DT tabN P "_law_least" DV.w_least_3 s__law_least:=⟨["_law_one", "_law_other"],["_law_one", "_law_other"],by walk_at "sc",rfl,rfl,λ _ _ _ _ _ _=>bd2 (λ _ _=>rfl),.inl (by decide +kernel)⟩
theorem t__law_times:DT tabN P "_law_times" DV.w_times s__law_times:=⟨["_law_one", "_law_other", "_law_found", "_law_line", "_law_new", "_law_j", "_law_best", "_law_k"],["_law_one", "_law_other"],by walk_at "sc",rfl,rfl,λ _ _ _ _ _ _=>bd2 (λ _ _=>rfl),.inl (by decide +kernel)⟩
theorem t__law_power:DT tabN P "_law_power" DV.w_power_2 s__law_power:=⟨["_law_table", "_law_many", "_law_found"],["_law_table", "_law_many"],by walk_at "sc",rfl,rfl,λ _ _ _ _ _ _=>bd2 (λ _ _=>rfl),.inl (by decide +kernel)⟩
theorem jA:DT tabN P "_law_letter_table" DV.w_letter_table_2 s__law_letter_table:=⟨["_law_machine_here", "_law_letter", "_law_rooms", "_law_lines", "_law_start", "_law_sign", "_law_goal", "_law_cost"],["_law_machine_here", "_law_letter"],by walk_at "sc",rfl,rfl,λ _ _ _ _ _ _=>bd2 (λ _ _=>rfl),.inl (by decide +kernel)⟩
theorem t__law_due:DT tabN P "_law_due" DV.w_due_8 s__law_due:=⟨["_law_machine_here", "_law_recipe_here", "_law_tables", "_law_step"],["_law_machine_here", "_law_recipe_here"],by walk_at "sc",rfl,rfl,λ _ _ _ _ _ _=>bd2 (λ _ _=>rfl),.inl (by decide +kernel)⟩
theorem t__law_price:DT tabN P "_law_price" DV.w_price_4 s__law_price:=⟨["_law_machine_here", "_law_table", "_law_found", "_law_start", "_law_goal"],["_law_machine_here", "_law_table"],by walk_at "sc",rfl,rfl,λ _ _ _ _ _ _=>bd2 (λ _ _=>rfl),.inl (by decide +kernel)⟩
theorem t__law_tamed:DT tabN P "_law_tamed" DV.w_tamed s__law_tamed:=⟨["_law_recipe_here", "_law_great", "_law_steps", "_law_step"],["_law_recipe_here", "_law_great"],by walk_at "sc",rfl,rfl,λ _ _ _ _ _ _=>bd2 (λ _ _=>rfl),.inl (by decide +kernel)⟩
theorem t__law_tall:DT tabN P "_law_tall" DV.w_tall_2 s__law_tall:=⟨["_law_box_here", "_law_letters", "_law_most", "_law_steps", "_law_k"],["_law_box_here", "_law_letters", "_law_most"],by walk_at "sc",rfl,rfl,λ _ _ _ _ _ _=>bd3 (λ _ _ _=>rfl),.inl (by decide +kernel)⟩
theorem sc_law:FnScope ["_law_script", "_law_k", "_law_box_here", "_law_machine_here", "_law_recipe_here", "_law_due_here", "_law_found", "_law_cost", "_law_word"] ["_law_script"] (defScope s_law):=by walk_at "sc"
theorem m_law:mSs ⟨["_law_script", "_law_k", "_law_box_here", "_law_machine_here", "_law_recipe_here", "_law_due_here", "_law_found", "_law_cost", "_law_word"],defScope s_law,λ _ _ _=>false⟩ DV.w_law_k40.body (z0 s_law)=true:=by decide +kernel
theorem b_law:BdOk "law" s_law ["_law_script"]:=λ _ _ _ _ _ _=>bd1 λ _=>rfl
theorem t_law:DT tabN P "law" DV.w_law_k40 s_law:=⟨_,_,sc_law,rfl,rfl,b_law,.inl m_law⟩
theorem t_all:∀ p∈tb,DT tabN P p.1 p.2.1 p.2.2:=by
 intro p h
 unfold tb at h
 simp only[aH,bG,or_false]at h
 rcases h with rfl|rfl|rfl|rfl|rfl|rfl|rfl|rfl|rfl|rfl|rfl|rfl|rfl|rfl|rfl|rfl|rfl|rfl|rfl|rfl|rfl|rfl|rfl|rfl|rfl|rfl|rfl|rfl|rfl|rfl|rfl|rfl|rfl|rfl|rfl|rfl|rfl|rfl
 ·exact t_rooms_of
 ·exact t_begins_of
 ·exact t_ends_of
 ·exact t_doors_of
 ·exact t_grid
 ·exact t_raised
 ·exact js
 ·exact t_least
 ·exact t_added
 ·exact t_plain
 ·exact t_product
 ·exact t_power
 ·exact t_letter_table
 ·exact t_word_table
 ·exact t_price
 ·exact t_folded
 ·exact t_counted
 ·exact t_begun
 ·exact t_begun_times
 ·exact t_last_word
 ·exact t_last_table
 ·exact t_long_length
 ·exact t_long_word
 ·exact t_long_table
 ·exact t_long_price
 ·exact t__law_box
 ·exact t__law_draw
 ·exact t__law_machine
 ·exact t__law_recipe
 ·exact t__law_least
 ·exact t__law_times
 ·exact t__law_power
 ·exact jA
 ·exact t__law_due
 ·exact t__law_price
 ·exact t__law_tamed
 ·exact t__law_tall
 ·exact t_law
theorem all_mk {l:cV}{w:World}{K:ab}{h:Heap}{mg:Str->Option Value}{fa:Addr}(X:K.In h)(G:h.Ns bn mg)(Y:mg "law"=some (.ref fa))(hD:∀ p∈tb,DfIn K p.1 p.2.2)(hz:∀ x∈bNames,dv K bn x=some none)
  {y:Tok} (gc_MOST_WRITTEN:dv K bn "MOST_WRITTEN"=some (some (.int (2000) y)))
  (hT:∀ x∈tabN,(bh K x).isSome=true) (tnd:decide (((tabsT tabN K).map (·.1)).Nodup)=true)
  : ∃ fd:bI,(∀(s:af) (v:Value),jU s fd ⟨[v],[]⟩ [("_law_script",v)])/\∀ C:Heap,K.In C->C.Ns bn mg->BM mg C->Codes K tabN C->FnOk l.prog w K mg C CX0 49 fa fd ["_law_script"] (spB tabN K):=by
 have Z:PrOk (gmOf tabN P K) (cdsT tabN K) P mg:=by
  refine⟨λ f d h=>good_tbl (tbl:=tbl) (λ p J=>?_) f d h,λ x d h=>con_tbl (tbl:=ctbl) ?_ x d h,λ x hx=>PySem.W.mg_none_of X G (hz x hx),fa_ok X G,lg_ok,of_decide_eq_true tnd⟩
  ·obtain⟨r,hr,rfl⟩:=aB.mp J
   exact good_of X G hT (hD r hr) (t_all r hr)
  ·intro p J
   unfold ctbl at J
   simp only[aH,bG,or_false]at J
   rcases J with rfl|rfl|rfl|rfl
   ·exact con_int (cZ X G gc_MOST_WRITTEN)
   ·obtain⟨_,_,_,_,_,_,_,_,_,_,a,l,_⟩:=hD ("product",DV.d_product,s_product) (by unfold tb;simp)
    exact con_fn X G a l
   ·obtain⟨_,_,_,_,_,_,_,_,_,_,a,l,_⟩:=hD ("power",DV.d_power,s_power) (by unfold tb;simp)
    exact con_fn X G a l
   ·obtain⟨_,_,_,_,_,_,_,_,_,_,a,l,_⟩:=hD ("begun_times",DV.d_begun_times,s_begun_times) (by unfold tb;simp)
    exact con_fn X G a l
 obtain⟨f,od,an,sl,oc,kV,dc,pm,cd,ct,a,l0,c,k⟩:=hD ("law",DV.w_law_k40,s_law) (by unfold tb;simp)
 have e:=Y.symm.trans (cZ X G a)
 cases e
 have F:=fun_mk (st:=s_law) l0 c k
 refine⟨_,λ s v=>.of_eq rfl,λ C _ _ bm hk=>(fn_ok Z (cds_ok hT bm hk) 17 (call_ok Z (cds_ok hT bm hk) 17) (d:=DV.w_law_k40) (f := "law") rfl ⟨F,cZ X G a,F.binds b_law⟩ sc_law rfl rfl m_law lkOk_no).imp (λ vs H Q E q=>spT_of (λ ns h=>DV.law40 (P:=P) 7 ns h) vs H Q E (spT_of_B hT q))⟩
noncomputable def nmS:Stmt->Bool
 | .Assign [.Name x _] _ _=>decide (x=("__name__":Str))
 | _=>false
noncomputable def vq:aM:={ PySem.Challenge.pw_leasttolls_k40_tables_and_prices_of_long with main:={ (PySem.Challenge.pw_leasttolls_k40_tables_and_prices_of_long).main with body:=(PySem.Challenge.pw_leasttolls_k40_tables_and_prices_of_long).main.body.filter λ s=>!nmS s } }
inductive IsL:cV->Prop|mk:IsL PySem.Challenge.rw_leasttolls_k40_tables_and_prices_of_long
theorem of_isL {l:cV}(h:IsL l):PySem.Challenge.rw_leasttolls_k40_tables_and_prices_of_long=l:=by cases h;rfl
noncomputable def lwp:{ l:cV // IsL l }:=by
 refine⟨?p,?h⟩
 case h =>
  have e:PySem.Challenge.rw_leasttolls_k40_tables_and_prices_of_long=?p:=by
   conv=>lhs;reduce
  exact e▸IsL.mk
theorem ws1:fO lwp.1=true:=by k_qdec
theorem ws:fO PySem.Challenge.rw_leasttolls_k40_tables_and_prices_of_long=true:=by
 rw[of_isL lwp.2];exact ws1
end My
end
open PySem PySem.W PyProof.Rows
local macro_rules | `(tactic| o_head $H) => `(tactic| refine L2.head_of (q := My.vq) (loose := []) (H := $H) (N := 4000) (λ w => by kernel_rfl) (by rfl) (by rfl) (by rfl) rfl (by assumption) (by decide +kernel) ⟨rfl, rfl, rfl, rfl, rfl, by decide +kernel⟩ ?_ ?_)
set_option maxRecDepth 100000 in
set_option maxHeartbeats 0 in
theorem PySem.Challenge.cw_leasttolls_k40_tables_and_prices_of_long_holds : PySem.Challenge.rw_leasttolls_k40_tables_and_prices_of_long.Holds := by
 w_on;refine holds_law My.ws λ said=>?_;k_head;(focus w_witness2)
 k_fill
 refine L2.walk_ofT2 (l:=PySem.Challenge.rw_leasttolls_k40_tables_and_prices_of_long) (n:=63) (k:=49) (x := "_law_script") (sp:=L2.spB My.tabN) My.tabN rfl (by decide) rfl ⟨rfl,by decide,by decide⟩ (λ w h Y=>⟨PySem.W.km_in_of Y,PySem.W.km_tabs_of Y⟩) (λ w=>?R) (λ w=>?NT) ?F (λ K H a ns hl hB hS hF=>L2.spB_mk hl hB hS hF)
 case R=>kernel_rfl
 case NT=>kernel_rfl
 case F =>
  intro w mg fa h KX G hmg
  refine' My.all_mk KX G hmg ?hD ?hz ?gc_MOST_WRITTEN ?hT ?tnd
  case hD =>
   intro p hp
   unfold My.tb at hp
   simp only[aH,bG,or_false]at hp
   rcases hp with rfl|rfl|rfl|rfl|rfl|rfl|rfl|rfl|rfl|rfl|rfl|rfl|rfl|rfl|rfl|rfl|rfl|rfl|rfl|rfl|rfl|rfl|rfl|rfl|rfl|rfl|rfl|rfl|rfl|rfl|rfl|rfl|rfl|rfl|rfl|rfl|rfl|rfl
   ·walk_at "df"
   ·walk_at "df"
   ·walk_at "df"
   ·walk_at "df"
   ·walk_at "df"
   ·walk_at "df"
   ·walk_at "df"
   ·walk_at "df"
   ·walk_at "df"
   ·walk_at "df"
   ·walk_at "df"
   ·walk_at "df"
   ·walk_at "df"
   ·walk_at "df"
   ·walk_at "df"
   ·walk_at "df"
   ·walk_at "df"
   ·walk_at "df"
   ·walk_at "df"
   ·walk_at "df"
   ·walk_at "df"
   ·walk_at "df"
   ·walk_at "df"
   ·walk_at "df"
   ·walk_at "df"
   ·walk_at "df"
   ·walk_at "df"
   ·walk_at "df"
   ·walk_at "df"
   ·walk_at "df"
   ·walk_at "df"
   ·walk_at "df"
   ·walk_at "df"
   ·walk_at "df"
   ·walk_at "df"
   ·walk_at "df"
   ·walk_at "df"
   ·walk_at "df"
  case hz =>
   intro x hx
   unfold L2.bNames at hx
   simp only[aH,bG,or_false]at hx
   rcases hx with rfl|rfl|rfl|rfl|rfl|rfl|rfl|rfl|rfl|rfl|rfl|rfl|rfl|rfl|rfl|rfl|rfl|rfl<;>k_is
  (case gc_MOST_WRITTEN=>k_is)
  case hT =>
   intro x hx
   simp only[My.tabN,aH,bG,or_false]at hx
   rcases hx with rfl|rfl|rfl|rfl|rfl|rfl<;>kernel_rfl
  (case tnd=>kernel_rfl)
