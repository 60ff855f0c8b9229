import PyProof.Rows.All
import Wide.All
import OpenK.AllK
import Wide.FinOn
import Lean
import PyProof.EqAt
import PyProof.EqKinds
import PyProof.TupleCall
import PyProof.MinMaxWalk
import PyProof.WalkInts
import PyProof.NeKinds
import PyProof.SliceStr2
import PyProof.StrBlockI
import PyProof.MaxThree
import PyProof.ZipIter
import PyProof.Draws
import PyProof.EnumMake
import PyProof.ListMulRoad
import PyProof.Rows.StrRev
import KE.IntBitsLaws
import PySem.Challenge.RW_leasttolls_k29_tables_made
set_option Elab.async false
set_option linter.all false
set_option maxRecDepth 100000
set_option maxHeartbeats 4000000
open PySem.W renaming Frag->ab,tabIn->be,kia_one->bE,kla_fn->bO,CodeHd->bP,mg_of->bT,keepIn->bZ,nsIn->cb,fnX->cc,kitOne->ci,fnOf->cH,envX->cI,tabObj->dJ,codeIn->eJ,methodObj->eR,cellsFrom_some->fI,instObj->fW,OpenLaw->f7,lookIn->gi,findIn->gj,kitx_tuple->gY,callWith_K->gZ,kitx_list->ig,kitx_dict->ii,plainGet->iw,codeHdIn->iC,TabsAt->i8,noTabs->i9,WalkO->jp
open List renaming getElem?_eq_some_iff->ac,getElem?_eq_getElem->af,range->ah,getElem?_append_right->ak,replicate->ar,size_toArray->av,mem_cons_of_mem->aw,mem_map->ax,getElem?_map->aB,mem_cons_self->aC,mem_cons->aD,getElem?_append_left->aF,length_map->aG,mem_of_getElem?->aJ,map_cons->aK,all_eq_true->aN,length_cons->aR,getElem?_set_self->aU,length_append->aW,lookup_cons->aX,mem_range->aZ,getElem?_set_ne->a7,getD_eq_getElem?_getD->a8,mem_map_of_mem->bh,mem_singleton->bj,mem_append_right->bn,filterMap_cons->bq,set_append_right->bu,getElem?_range->bv,mem_append->bw,not_mem_nil->bA,map->bD,append_nil->bF,length_set->bG,replicate_succ->bH,getElem?_eq_none->bN,length_take->bR,mem_filterMap->bW,map_append->b9,getElem?_toArray->cq,foldl_cons->cu,mem_iff_getElem->cy,map_congr_left->cC,length_eq_zero_iff->cF,nodup_cons->cK,find?_cons->cM,range_succ->cN,length_singleton->cR,flatten_cons->cU,cons_append->c7,map_map->c9,mem_or_eq_of_mem_set->db,of_mem_zip->dk,length_nil->dm,filterMap_map->dr,reverse_cons->dD,append_assoc->dE,map_nil->dF,range_succ_eq_map->dN,all_cons->dU,take_append_of_le_length->d5,nil_append->d7,all_append->ef,set_set->eD,drop_eq_getElem_cons->eQ,length_range->eZ,length_filterMap_le->fq,any_cons->ft,getElem?_replicate->fw,length_drop->fy,take_length->fF,drop_eq_nil_of_le->fU,mem_filter->fX,mem_append_left->gf,length->gk,forIn_nil->gr,filterMap->gv,mem_of_mem_take->gy,getElem?_of_mem->gA,getElem?_take->hU,ext_getElem?->ir,any_eq_true->iB,getElem_mem->iG,forIn_cons->iL,foldl->iZ,drop_zero->i7,take_zero->jj,all_nil->jw,lookup->jE
open PySem renaming Shared->ae,wpAny_bind->ai,mem_of_lookup->az,wpAny_pure->aE,sizeLine->aH,cellsFrom->aI,Program->aL,Around->aS,mainGlobals->aV,Arguments->aY,bootBuiltins->a9,starEach->bf,wpAny_truthy_bool->bB,wpAny_newObj_type->bC,FuncData->bI,NameKind->bJ,binaryOp->bV,wpAny_Call_Name_kw->bX,compareOp->b7,wpAny_mono->b8,assignEach->cg,behindInMarks->cA,rawInt->cD,wpAny_callSpecial?_slot->cE,codeAmong->cG,pushCells_keeps->cL,wpAny_holding->cO,wpAny_pyIter_list->cS,foldedSetIterable->cT,sysModules->cV,wpAny_call_entry->c6,argBest->c8,wpAny_passesOwn->dj,isTrue->dq,tupleKind_room_in1->du,wpAny_field->dw,sliceBounds->dz,backTo->dB,wpAny_seqItems->dG,wpAny_tryCatch->dH,pushCells->dQ,relabel->dS,bindArgs->dY,letOwnedTupleGo->d6,codeAny_mono->eA,newFunctionEnv->eM,wpAny_binaryOp_repeat_ref->eP,sizeLine_eq->eU,codeAny->eV,InCallC->eW,Paired->fc,IsPart->fh,attributeBase->fi,wpAny_comprehension_free->fj,plainId_quiet->fm,storeName->fu,swapsWith->fv,noFill_tuple_add->fx,builtinsNs->fG,assign->fH,name_of_addr->fJ,getItem->fK,wpAny_typeOf->fL,typeIs_int->fO,codeAny_compStart_list->fR,codeAny_builtin->fY,wpAny_updateSeq->fZ,wpAny_storeName_local->f8,wpAny_isTrue_Compare1->f9,codeAny_call_function->ga,wpAny_storeName_cell->gh,wpAny_letGo->gu,strIterType->gx,tupleKind->gB,callerA->gC,seqItems?->gD,TriplesOk->gE,valueAt->gF,wpAny_standAt->gO,seq_tuple_add->gP,annotationsOf->gR,wpAny_pyIter_tuple->gX,call_meets->g7,wpAny_rule->g9,holding->ib,wpAny_assign_Name->ie,concat_meets->ij,wpAny_sequenceKey->ik,seqIndex_neg->io,slot_list_getitem->ip,notedBy->iq,pyNext->iu,seqSlot_of->iE,seqIndex_of->iH,BindsTo->iR,Keyword->iT,wpAny_Name->iV,wpAny_call->iW,typeIs_str->iX,PlainAttrs->iY,call->i0,defaultsOf->i4,qualnameIn->i5,lastMarks->jr,Within->jt,pyIter->ju
open PySem.Heap renaming get?_push_of_some->ag,lt_size->aA,get?_push_size->aM,get?_update_other->bL,size_push->bU,get?_update_self->cQ,SameBut->dA,ExtBut->iI
open Nat renaming le_refl->aj,le_trans->am,lt_of_lt_of_le->aq,ne_of_lt->ay,lt_irrefl->bp,add_sub_cancel_left->bS,zero_add->cz,zero_le->cX,le_succ->cY,le_of_lt->cZ,ne_of_gt->c5,lt_trans->dI,le_of_succ_le->eX,lt_succ_of_lt->eY,lt_trichotomy->e9,le_of_not_lt->iA,lt_succ_self->iD,mul_add->iJ,not_lt_zero->iQ,lt_or_ge->jy,add_zero->jA,sub_self->jB
open Bool renaming and_eq_true->ao,false_ne_true->aP,false_eq_true->aQ,or_eq_true->bK,not_true->dR,and_true->dW,true_and->dX,or_eq_false_iff->d3,eq_iff_iff->ee,not_eq_true'->fb,and_eq_true_iff->gz,false_or->jn
open Option.some renaming inj->au
open Option renaming map_some->aO,map_eq_some_iff->cJ,isSome_some->eN,isSome_map->e8,isSome_iff_exists->fg,bind_some->fD,isSome_none->hG,getD_none->iz
open PyProof.Rows renaming slot_tuple_getitem->bo,kindOf->dP,callWith_type1->et,AllBare->eT,envOfC->fe,subscriptTail_builtinR->fM,entry_tuple_getitem->gG,Constant_none->gN,tupleItemsOf_->gQ,args_tuple_getitem->g6,IntsAre->iU
open PySem.Builtin.Str renaming strSliceIndices->br,tooLong->jl
open False renaming elim->bz
open PySem.Builtin.SmallTypes renaming nextOf->bM
open Ne renaming symm->bQ
open PySem.F renaming plain_min_loop->cf,slot_tuple_iterator_next->cj,args_tuple_add_2->dh,slot_int_rmul->dt,entry_tuple_add->dv,slot_tuple_add->dC,slot_tuple_mul->dM,args_tuple_iterator_next_1->d9,entry_tuple_iterator_next->eC,entry_min_loop->fA,slot_tuple_rmul->fB,plainAttrs_list->fC,slot_list_append->gb,args_int_rmul_2->gq,slot_int_index->gH,entry_int_rmul->gI,fills_int_mul->g8
open PySem.Builtin.Slice renaming slicePlaces->cr,sliceAdjust->da,sliceApplied->eK,slicePartIndex->iK,sliceFields->jk
open PySem.Str renaming ofString->cw
open Int renaming le_refl->cx,toNat_natCast->dL,mul_le_mul_of_nonneg_left->d4,fdiv_eq_ediv_of_nonneg->eG,le_trans->fS,zero_add->fV,toNat_of_nonneg->gK,emod_lt_of_pos->hZ,natCast_mul->iM,le_antisymm->iO,emod_nonneg->iP,sub_zero->jx,le_total->jz
open PySem.Builtin.Tuple renaming tupleExact->cB,tupleItemsOf->cW,tupleTooMany->eO,tupleIsExact->i6
open Array renaming toList_append->dg,length_toList->eh,append_assoc->gW,toList->ic
open PySem.Builtin.List renaming listTooLong->di
open PySem.Around renaming under_plainId->dZ,frames_deeper->gm
open PySem.Txt renaming slice->d8
open PySem.Builtin.Builtins renaming bindParams->eB
open PySem.Calls renaming Name_function_global->eF,callWith_builtin->fQ
open PySem.Obj renaming mapSeq->fN,data_mapFields->hJ
open PySem.SeqAt renaming EqAt->fT,RcNeAt->jv,RcAt->jJ
open PySem.SeqAt.EqAt renaming same->f6,int_str->gT,str_int->gU,of_refs->hV
open PySem.Heap.SameBut renaming update->gJ
open PySem.Paired renaming length->gM,snoc->jG
open Function renaming comp->gS
open PyProof.Rows.IsTup renaming new->iy
open PySem.Walks renaming list->i3
open PySem.Value renaming isStrOf->jm,isInt->jD
open PySem.CmpOf renaming ints_lt->jo
open PySem.Builtin.Range renaming rangeSize->jq
open PySem.StrLaws renaming found_one->js
open PySem.W.OpenRow renaming toRowW->jC
open PySem.Heap.Ns renaming new->jF
open List.Pairwise renaming filter->jH
open PySem.Heap.IsSliceOf renaming new->jI
noncomputable section
namespace L2
open PySem PySem.Spec PyProof.Rows
noncomputable abbrev Key:=Sum Int Str
noncomputable def keyIs:Key->Value->Bool
 | .inl k,v=>jD k v
 | .inr x,v=>jm x v
noncomputable def keyH (w:World):Key->Int
 | .inl k=>hashInt k
 | .inr x=>hashStr w x
theorem zG:∀ {k:Key} {v:Value},keyIs k v=true->(∃ i t,k=Sum.inl i/\v=Value.int i t)\/(∃ x t,k=Sum.inr x/\v=Value.str x t)
 | .inl i,v,h=>by
  obtain⟨t,e⟩:=Value.isInt_shape (k:=i) (v:=v) h
  exact .inl ⟨i,t,rfl,e⟩
 | .inr x,v,h=>by
  obtain⟨t,e⟩:=Value.isStrOf_shape (x:=x) (v:=v) h
  exact .inr ⟨x,t,rfl,e⟩
theorem keyIs_int (i:Int)(t:Tok):keyIs (.inl i) (.int i t)=true:=by simp[keyIs,jD]
theorem keyIs_str (x:Str)(t:Tok):keyIs (.inr x) (.str x t)=true:=by simp[keyIs,jm]
theorem key_ll (a b:Int):decide ((Sum.inl a:Key)=Sum.inl b)=(a==b):=by
 by_cases e:a=b
 ·subst e;simp
 ·have h:¬(Sum.inl a:Key)=Sum.inl b:=λ q=>e (Sum.inl.inj q)
  rw[decide_eq_false h]
  exact(beq_eq_false_iff_ne.mpr e).symm
theorem key_rr (a b:Str):decide ((Sum.inr a:Key)=Sum.inr b)=decide (a=b):=by
 by_cases e:a=b
 ·subst e;simp
 ·have h:¬(Sum.inr a:Key)=Sum.inr b:=λ q=>e (Sum.inr.inj q)
  rw[decide_eq_false h,decide_eq_false e]
theorem key_lr (a:Int)(b:Str):decide ((Sum.inl a:Key)=Sum.inr b)=false:=decide_eq_false (λ q=>nomatch q)
theorem key_rl (a:Str)(b:Int):decide ((Sum.inr a:Key)=Sum.inl b)=false:=decide_eq_false (λ q=>nomatch q)
noncomputable def zT (prog:aL)(w:World):PySem.KeyKind prog w Key where
 is:=keyIs
 hash:=keyH w
 inj:=λ v a b ha hb=>by
  rcases zG ha with⟨i,t,rfl,rfl⟩|⟨x,t,rfl,rfl⟩
  ·rcases zG hb with⟨j,u,rfl,e⟩|⟨y,u,rfl,e⟩
   ·injection e with e1 _;rw[e1]
   ·exact nomatch e
  ·rcases zG hb with⟨j,u,rfl,e⟩|⟨y,u,rfl,e⟩
   ·exact nomatch e
   ·injection e with e1 _;rw[e1]
 byValue:=λ k v h=>by
  rcases zG h with⟨i,t,rfl,rfl⟩|⟨x,t,rfl,rfl⟩<;>rfl
 pyHash:=λ hv h=>by
  rcases zG hv with⟨i,t,rfl,rfl⟩|⟨x,t,rfl,rfl⟩
  ·exact wpAny_pyHash_int h
  ·exact wpAny_pyHash_str h
 eqBool:=λ hu hv h=>by
  rcases zG hu with⟨i,t,rfl,rfl⟩|⟨x,t,rfl,rfl⟩
  ·rcases zG hv with⟨j,u,rfl,rfl⟩|⟨y,u,rfl,rfl⟩
   ·rw[key_ll]at h;exact wpAny_eqBool_int h
   ·rw[key_lr]at h;exact gT i t y u _ _ _ _ h
  ·rcases zG hv with⟨j,u,rfl,rfl⟩|⟨y,u,rfl,rfl⟩
   ·rw[key_rl]at h;exact gU x t j u _ _ _ _ h
   ·rw[key_rr]at h;exact wpAny_eqBool_str h
 «strs»:=λ k x t v h=>by
  rcases zG h with⟨i,u,rfl,e⟩|⟨y,u,rfl,e⟩
  ·exact nomatch e
  ·injection e with e1 _
   subst e1
   cases v<;>rfl
theorem mixKind_int (prog:aL)(w:World)(i:Int)(t:Tok):(zT prog w).is (.inl i) (.int i t)=true:=keyIs_int i t
theorem mixKind_str (prog:aL)(w:World)(x:Str)(t:Tok):(zT prog w).is (.inr x) (.str x t)=true:=keyIs_str x t
inductive V where
 | non|bl (b:Bool)|int (i:Int)|str (x:Str)|byt (b:Array UInt8)|flt (b:UInt64)|ref (a:Addr)|ty (n:String)
 deriving DecidableEq
noncomputable def RelV:V->Value->Prop
 | .non,u=>u=Value.none
 | .bl b,u=>u=Value.bool b
 | .int i,u=>∃ t,u=Value.int i t
 | .str x,u=>∃ t,u=Value.str x t
 | .byt b,u=>∃ t,u=Value.bytes b t
 | .flt b,u=>∃ t,u=Value.float b t
 | .ref a,u=>u=Value.ref a
 | .ty n,u=>u=Value.type n
noncomputable abbrev Vals:List V->List Value->Prop:=fc RelV
theorem Vals.length {xs:List V}{us:List Value}(r:Vals xs us):xs.length=us.length:=gM r
theorem Vals.get:∀ {xs:List V} {us:List Value} {i:Nat} {x:V},Vals xs us->xs[i]?=some x->∃ u,us[i]?=some u/\RelV x u
 | _,_,_,_,.nil,e=>by simp at e
 | _,_,0,_,.cons r _,e=>by simp at e;subst e;exact⟨_,rfl,r⟩
 | _,_,i+1,x,.cons _ t,e=>by
  obtain⟨u,h1,h2⟩:=Vals.get (i:=i) (x:=x) t (by simpa using e)
  exact⟨u,by simpa using h1,h2⟩
theorem Vals.set {x:V}{u:Value}(r:RelV x u):∀ {xs:List V} {us:List Value} (i:Nat),Vals xs us->Vals (xs.set i x) (us.set i u)
 | _,_,_,.nil=>.nil
 | _,_,0,.cons _ t=>.cons r t
 | _,_,i+1,.cons q t=>.cons q (Vals.set r i t)
theorem Vals.append:∀ {xs ys:List V} {us ws:List Value},Vals xs us->Vals ys ws->Vals (xs++ys) (us++ws)
 | _,_,_,_,.nil,s=>s
 | _,_,_,_,.cons r t,s=>.cons r (Vals.append t s)
theorem Vals.take:∀ {xs:List V} {us:List Value} (n:Nat),Vals xs us->Vals (xs.take n) (us.take n)
 | _,_,0,_=>.nil
 | _,_,_+1,.nil=>.nil
 | _,_,n+1,.cons r t=>.cons r (Vals.take n t)
theorem Vals.drop:∀ {xs:List V} {us:List Value} (n:Nat),Vals xs us->Vals (xs.drop n) (us.drop n)
 | _,_,0,r=>r
 | _,_,_+1,.nil=>.nil
 | _,_,n+1,.cons _ t=>Vals.drop n t
noncomputable def RelO:Option V->Option Value->Prop
 | some v,some u=>RelV v u
 | none,none=>True
 | _,_=>False
noncomputable def KV {κ:Type}:List (κ×V)->List (κ×Value)->Prop:=fc λ(p:κ×V) (q:κ×Value)=>p.1=q.1/\RelV p.2 q.2
noncomputable def kV:Key->V
 | .inl i=>.int i
 | .inr x=>.str x
inductive HO where
 | lst (xs:List V)
 | tup (xs:List V)
 | dK (kvs:List (Key×V))|dT (kvs:List (List Key×V))
 | set (S:Int->Bool) (n:Nat)
 | ins (C dx:Addr) (fs:List (Str×V))
 | own (x:Addr)
 | xd (fs:List (Str×V))
 | met (f x:Addr)
 | rng (lo hi:Int)
 | frz (o:Obj) (u:HO)
 | tbl (ps:Array Value)
 | ext (φ:Heap->Prop)
noncomputable abbrev Hp:=Addr->Option HO
noncomputable def upd (H:Hp)(a:Addr)(o:HO):Hp:=λ b=>if b=a then some o else H b
theorem ze {H:Hp}{a:Addr}{o:HO}:upd H a o a=some o:=by unfold upd;rw[if_pos rfl]
theorem za {H:Hp}{a b:Addr}{o:HO}(h:b≠a):upd H a o b=H b:=by unfold upd;rw[if_neg h]
theorem ne_of {H:Hp}{a b:Addr}{o u:HO}(h:H a=some o)(h':H b=some u)(d:o≠u):a≠b:=by
 intro e;subst e;rw[h]at h';exact d (au h')
theorem zB {H:Hp}{a b:Addr}{o:HO}(h:H a=some o)(h':H b=none):a≠b:=by
 intro e;subst e;rw[h]at h';cases h'
section
variable (P:aL) (w:World)
noncomputable def ObjOk (H:Hp)(h:Heap)(a:Addr):HO->Prop
 | .lst xs=>xs.length<=aH/\∃(its:List Value) (n:Nat),Vals xs its/\h.get? a=some { cls:=.type "list",data:=.seq its.toArray n }
 | .tup xs=>xs.length<=aH/\∃ its:List Value,Vals xs its/\IsTup h a its.toArray
 | .dK kvs=>kvs.length<=aH/\(a==cV)=false/\∃ vs,KV kvs vs/\h.DictOf (zT P w) a vs
 | .dT kvs=>kvs.length<=aH/\(a==cV)=false/\∃ xs:List (List Key×Addr×Value),
   fc (λ(p:List Key×V) (q:List Key×Addr×Value)=>p.1=q.1/\H q.2.1=some (.tup (p.1.map kV))/\RelV p.2 q.2.2) kvs xs /\
   ∃ o es ep,h.get? a=some o/\o.ExactDict/\o.data=.dict es ep/\es.toList=xs.map (entryOfKey (gB (zT P w)))/\(xs.map (·.1)).Nodup
 | .set S n=>h.SetOf (intKind P w) a S n
 | .ins C dx fs=>H dx=some (.own a)/\fs.length<=1000/\dx≠a/\h.get? a=some (fW C dx) /\
   ∃ mA,h.Ns1 dx mA/\(∀ f,RelO (fs.lookup f) (mA f))/\jt mA (fs.map (·.1))
 | .own _=>∃ o,h.get? a=some o
 | .xd fs=>∃ mA,h.Ns1 a mA/\∀ f,RelO (fs.lookup f) (mA f)
 | .rng lo hi=>∃ t u v,h.get? a=some { cls:=.type "range",data:=.fields #[.int lo t,.int hi u,.int 1 v] }
 | .frz o u=>h.get? a=some o/\ObjOk H h a u
 | .tbl ps=>h.get? a=some { cls:=.none,data:=.fields ps }
 | .met f x=>h.get? a=some (eR (.ref f) (.ref x))
 | .ext φ=>φ h/\(∃ o,h.get? a=some o)/\∀ h1 h2:Heap,φ h1->(∀ o,h1.get? a=some o->h2.get? a=some o)->φ h2
noncomputable def HOk (H:Hp)(h:Heap):Prop:=∀ a o,H a=some o->ObjOk P w H h a o
end
section
variable {P:aL} {w:World} {H H':Hp} {h h':Heap} {a:Addr} {o:HO}
theorem ObjOk.lt (x:ObjOk P w H h a o):a<h.objs.size:=by
 cases o with
 | lst xs=>obtain⟨_,_,_,_,e⟩:=x;exact aA e
 | tup xs=>obtain⟨_,_,_,p⟩:=x;exact p.lt
 | dK kvs=>obtain⟨_,_,_,_,o,_,_,e,_⟩:=x;exact aA e
 | dT kvs=>obtain⟨_,_,_,_,o,_,_,e,_⟩:=x;exact aA e
 | set S n=>obtain⟨o,_,_,_,e,_⟩:=x;exact aA e
 | ins C dx fs=>obtain⟨_,_,_,e,_⟩:=x;exact aA e
 | own y=>obtain⟨_,e⟩:=x;exact aA e
 | xd fs=>obtain⟨_,⟨_,_,_,e,_⟩,_⟩:=x;exact aA e
 | rng lo hi=>obtain⟨_,_,_,e⟩:=x;exact aA e
 | frz ob u=>obtain⟨e,_⟩:=x;exact aA e
 | tbl ps=>exact aA (show h.get? a=some _ from x)
 | met f y=>exact aA (show h.get? a=some _ from x)
 | ext φ=>obtain⟨_,⟨_,e⟩,_⟩:=x;exact aA e
theorem fc.mapP {α β:Type}{F G:α->β->Prop}:∀ {l₁:List α} {l₂:List β},fc F l₁ l₂->(∀ a b,F a b->G a b)->fc G l₁ l₂
 | _,_,.nil,_=>.nil
 | _,_,.cons r t,f=>.cons (f _ _ r) (fc.mapP t f)
theorem ObjOk.stay (x:ObjOk P w H h a o)(k:∀ b u,(b=a\/H b=some (.own a))->h.get? b=some u->h'.get? b=some u)
  (ho:∀ b,H b=some (.own a)->H' b=some (.own a)) (ht:∀ b xs,H b=some (.tup xs)->H' b=some (.tup xs)):ObjOk P w H' h' a o:=by
 induction o with
 | lst xs=>obtain⟨z,its,n,r,e⟩:=x;exact⟨z,its,n,r,k _ _ (.inl rfl) e⟩
 | tup xs=>obtain⟨z,its,r,ob,e,c⟩:=x;exact⟨z,its,r,ob,k _ _ (.inl rfl) e,c⟩
 | dK kvs=>obtain⟨z,y,vs,r,ob,es,ep,e,c⟩:=x;exact⟨z,y,vs,r,ob,es,ep,k _ _ (.inl rfl) e,c⟩
 | dT kvs =>
  obtain⟨z,y,xs,r,ob,es,ep,e,c⟩:=x
  exact⟨z,y,xs,fc.mapP r λ p q z=>⟨z.1,ht _ _ z.2.1,z.2.2⟩,ob,es,ep,k _ _ (.inl rfl) e,c⟩
 | set S n=>obtain⟨ob,es,ep,t,e,c⟩:=x;exact⟨ob,es,ep,t,k _ _ (.inl rfl) e,c⟩
 | ins C dx fs =>
  obtain⟨d,z,ne,e,mA,⟨od,es,ep,e2,c⟩,r⟩:=x
  exact⟨ho _ d,z,ne,k _ _ (.inl rfl) e,mA,⟨od,es,ep,k _ _ (.inr d) e2,c⟩,r⟩
 | own y=>obtain⟨ob,e⟩:=x;exact⟨ob,k _ _ (.inl rfl) e⟩
 | xd fs=>obtain⟨mA,⟨od,es,ep,e,c⟩,r⟩:=x;exact⟨mA,⟨od,es,ep,k _ _ (.inl rfl) e,c⟩,r⟩
 | rng lo hi=>obtain⟨t,u,v,e⟩:=x;exact⟨t,u,v,k _ _ (.inl rfl) e⟩
 | frz ob u ih=>obtain⟨e,q⟩:=x;exact⟨k _ _ (.inl rfl) e,ih q⟩
 | tbl ps =>
  have e:h.get? a=some { cls:=.none,data:=.fields ps }:=x
  show h'.get? a=some { cls:=.none,data:=.fields ps }
  exact k a _ (.inl rfl) e
 | met f y =>
  have e:h.get? a=some (eR (.ref f) (.ref y)):=x
  show h'.get? a=some (eR (.ref f) (.ref y))
  exact k a _ (.inl rfl) e
 | ext φ=>obtain⟨p,⟨o,e⟩,st⟩:=x;exact⟨st _ _ p λ o q=>k _ _ (.inl rfl) q,⟨o,k _ _ (.inl rfl) e⟩,st⟩
theorem HOk.lt (x:HOk P w H h)(e:H a=some o):a<h.objs.size:=(x a o e).lt
theorem HOk.fresh (x:HOk P w H h)(e:h.objs.size<=a):H a=none:=by
 cases q:H a with
 | none=>rfl
 | some u=>exact absurd (aq (x.lt q) e) (bp _)
theorem HOk.kept (x:HOk P w H h)(k:∀ b u,h.get? b=some u->h'.get? b=some u):HOk P w H h':=λ a o e =>
 (x a o e).stay (λ b u _ q=>k b u q) (λ _ q=>q) λ _ _ q=>q
theorem HOk.laid (x:HOk P w H h)(k:∀ b u,h.get? b=some u->h'.get? b=some u)(hp:h.objs.size<=a)(new:ObjOk P w (upd H a o) h' a o):HOk P w (upd H a o) h':=λ b u e=>by
 have hn:=x.fresh hp
 by_cases hb:b=a
 ·subst hb;rw[ze]at e;cases e;exact new
 ·rw[za hb]at e
  exact(x b u e).stay (λ c v _ q=>k c v q) (λ c q=>by rw[za (zB q hn)];exact q) λ c xs q=>by rw[za (zB q hn)];exact q
end
noncomputable def Rd (H:Hp)(a:Addr)(u:HO):Prop:=H a=some u\/∃ o,H a=some (.frz o u)
theorem Rd.ok {P:aL}{w:World}{H:Hp}{h:Heap}{a:Addr}{u:HO}(r:Rd H a u)(x:HOk P w H h):ObjOk P w H h a u:=by
 rcases r with r|⟨o,r⟩
 ·exact x a u r
 ·obtain⟨_,q⟩:=x a _ r
  exact q
noncomputable def Mut:Option HO->Prop
 | some (.lst _)=>True
 | some (.dK _)=>True
 | some (.dT _)=>True
 | some (.set _ _)=>True
 | some (.ins _ _ _)=>True
 | some (.ext _)=>True
 | _=>False
section
variable {P:aL} {w:World} {H:Hp} {h h':Heap} {x e:Addr} {o':HO}
theorem HOk.write (ok:HOk P w H h)(mu:Mut (H x))(he:e=x\/H e=some (.own x))(k:∀ b u,b≠e->h.get? b=some u->h'.get? b=some u)(heo:∃ u,h'.get? e=some u)
  (new:ObjOk P w (upd H x o') h' x o'):HOk P w (upd H x o') h':=λ b u q=>by
 have nown:∀ c y,H c=some (.own y)->c≠x:=λ c y r z=>by subst z;rw[r]at mu;exact mu
 have ntup:∀ c xs,H c=some (.tup xs)->c≠x:=λ c xs r z=>by subst z;rw[r]at mu;exact mu
 by_cases hb:b=x
 ·subst hb;rw[ze]at q;cases q;exact new
 ·rw[za hb]at q
  by_cases hbe:b=e
  ·have q':H b=some (.own x):=by
    rcases he with z|z
    ·exact absurd (hbe.trans z) hb
    ·rw[hbe];exact z
   rw[q]at q';cases q'
   obtain⟨v,hv⟩:=heo
   exact⟨v,by rw[hbe];exact hv⟩
  ·refine(ok b u q).stay (λ c v hc r=>k c v ?_ r) (λ c r=>by rw[za (nown c b r)];exact r) λ c xs r=>by rw[za (ntup c xs r)];exact r
   rcases hc with rfl|hc
   ·exact hbe
   ·rintro rfl
    rcases he with z|z
    ·exact nown c b hc z
    ·rw[hc]at z;cases z;exact hb rfl
end
structure Un (fs ex:List Addr)(H H':Hp)(h h':Heap):Prop where
 keep:∀ b o,h.get? b=some o->H b=none->b ∉ fs->b ∉ ex->h'.get? b=some o
 slot:∀ b o,h.get? b=some o->H b=none->b∈fs->b ∉ ex->∃ sl,h'.get? b=some { o with slots:=sl }
 free:∀ b o,h.get? b=some o->H b=none->b ∉ ex->H' b=none
 there:∀ b o,h.get? b=some o->b ∉ ex->∃ o',h'.get? b=some o'
 tups:∀ b xs,H b=some (.tup xs)->H' b=some (.tup xs)
 frzs:∀ b o u,H b=some (.frz o u)->H' b=some (.frz o u)
 tbls:∀ b ps,H b=some (.tbl ps)->∃ more,H' b=some (.tbl (ps++more))
section
variable {fs fs' ex ex':List Addr} {H H1 H2:Hp} {h h1 h2 h':Heap} {a x e:Addr} {o:HO}
theorem Un.any (u:Un fs ex H H1 h h1){b:Addr}{ob:Obj}(q:h.get? b=some ob)(n:H b=none)(hx:b ∉ ex):∃ sl,h1.get? b=some { ob with slots:=sl }:=by
 by_cases hb:b∈fs
 ·exact u.slot b ob q n hb hx
 ·exact⟨ob.slots,u.keep b ob q n hb hx⟩
theorem Un.kept (k:∀ b u,h.get? b=some u->h'.get? b=some u):Un fs ex H H h h' :=
 ⟨λ b ob q _ _ _=>k b ob q,λ b ob q _ _ _=>⟨ob.slots,k b ob q⟩,λ _ _ _ n _=>n,λ b ob q _=>⟨ob,k b ob q⟩,λ _ _ q=>q,λ _ _ _ q=>q,λ _ ps q=>⟨#[],by rw[q];simp⟩⟩
theorem Un.refl:Un fs ex H H h h:=Un.kept λ _ _ q=>q
theorem Un.laid (k:∀ b u,h.get? b=some u->h'.get? b=some u)(hp:h.objs.size<=a)(hn:H a=none):Un fs ex H (upd H a o) h h' where
 keep:=λ b u q _ _ _=>k b u q
 slot:=λ b u q _ _ _=>⟨u.slots,k b u q⟩
 free:=λ b u q n _=>by rw[za (ay (aq (aA q) hp))];exact n
 there:=λ b u q _=>⟨u,k b u q⟩
 tups:=λ b xs q=>by rw[za (zB q hn)];exact q
 frzs:=λ b u xs q=>by rw[za (zB q hn)];exact q
 tbls:=λ b ps q=>⟨#[],by rw[za (zB q hn),q];simp⟩
theorem Un.write (mu:Mut (H x))(he:e=x\/H e=some (.own x))(k:∀ b u,b≠e->h.get? b=some u->h'.get? b=some u)(heo:∃ u,h'.get? e=some u):Un fs ex H (upd H x o) h h':=by
 have hx:∀ b,H b=none->b≠x:=λ b n z=>by subst z;rw[n]at mu;exact mu
 have hb:∀ b,H b=none->b≠e:=λ b n z=>by
  subst z
  rcases he with r|r
  ·exact hx b n r
  ·rw[n]at r;cases r
 have hm:∀ b u,H b=some u->¬ Mut (some u)->b≠x:=λ b u q nm z=>by subst z;rw[q]at mu;exact nm mu
 refine⟨λ b u q n _ _=>k b u (hb b n) q,λ b u q n _ _=>⟨u.slots,k b u (hb b n) q⟩,λ b u q n _=>by rw[za (hx b n)];exact n,λ b u q _=>?_,
  λ b xs q=>by rw[za (hm b _ q λ z=>z)];exact q,λ b u xs q=>by rw[za (hm b _ q λ z=>z)];exact q,λ b ps q=>⟨#[],by rw[za (hm b _ q λ z=>z),q];simp⟩⟩
 by_cases hbe:b=e
 ·subst hbe;exact heo
 ·exact⟨u,k b u hbe q⟩
end
noncomputable def trk (h:Heap)(H:Hp):List Addr:=(ah h.objs.size).filter λ a=>(H a).isSome
noncomputable def hidT (h:Heap)(H:Hp):Heap:=PySem.W.hideAll h (trk h H)
theorem hidT_size (h:Heap)(H:Hp):(hidT h H).objs.size=h.objs.size:=PySem.W.hideAll_size _ _
theorem hidT_get {h:Heap}{H:Hp}{b:Addr}{o:Obj}(e:h.get? b=some o)(n:H b=none):(hidT h H).get? b=some o :=
 PySem.W.hideAll_get _ e λ hm=>by
  have q:(H b).isSome=true:=(fX.mp hm).2
  rw[n]at q;simp at q
theorem of_hidT {h:Heap}{H:Hp}{b:Addr}{o:Obj}(e:(hidT h H).get? b=some o):h.get? b=some o/\H b=none:=by
 have e':h.get? b=some o:=PySem.W.of_hideAll (trk h H) e
 refine⟨e',?_⟩
 cases q:H b with
 | none=>rfl
 | some x =>
  have hm:b∈trk h H:=fX.mpr ⟨aZ.mpr (aA e'),by simp[q]⟩
  have z:(hidT h H).get? b=none:=PySem.W.hideAll_none (trk h H) hm
  rw[z]at e;cases e
noncomputable def allNews (g h:Heap)(L:Addr):List (Addr×Obj):=(ah h.objs.size).filterMap λ a=>if a=L\/(g.get? a).isSome=true then none else(h.get? a).map λ o=>(a,o)
noncomputable def rest (g h:Heap)(L d:Addr):List (Addr×Obj):=(allNews g h L).filter λ p=>decide (p.1≠d)
structure Mod (K:ab)(mg:Str->Option Value)(base:Heap):Prop where
 kin:K.In base
 glob:base.Ns aV mg
 blt:∃ mb,base.Ns fG mb/\∀ x:Str,x ≠ "__name__"->mb x=a9 x
 nolimit:base.NoLimit
structure Cx where
 prog:aL
 w:World
 K:ab
 mg:Str->Option Value
 base:Heap
 A:aS
 N:List Str
 s₀:ae
 H₀:Hp
 env:Env
 outer:List Env
 stack:List Env
 ex:List Addr
 fn:Str->Bool
 calm:Bool
 pn:List (Addr×Obj)
 xe:Value->ae->Prop
noncomputable def frs (l:List Env):List Addr:=l.filterMap (·.frame)
noncomputable abbrev Cx.fs (X:Cx):List Addr:=frs X.outer
noncomputable def Vis (sc:Scope)(x:Str):Prop:=sc.names.lookup x=some .local\/sc.names.lookup x=some .cell\/sc.names.lookup x=some .free
noncomputable def Loc (sc:Scope)(x:Str):Prop:=sc.names.lookup x=some .local\/sc.names.lookup x=some .cell
noncomputable def Look (env:Env)(h:Heap)(m:Str->Option Value)(x:Str)(u:Value):Prop :=
 (env.kindOf x=some .local/\m x=some u)\/((env.kindOf x=some .cell\/env.kindOf x=some .free)/\∃ c,env.cells.lookup x=some c/\h.IsCell c (some u))
structure Cx.Ok (X:Cx):Prop where
 mod:Mod X.K X.mg X.base
 kind:X.env.scope.kind=.function
 glob:X.env.globals=aV
 blt:X.env.builtins=fG
 above:X.s₀.heap.objs.size<=X.env.locals
 inj:∀ x y c,X.env.cells.lookup x=some c->X.env.cells.lookup y=some c->x=y
 has:∀ x,(X.env.kindOf x=some .cell\/X.env.kindOf x=some .free)->∃ c,X.env.cells.lookup x=some c
 cab:∀ x c,X.fn x=true->X.env.cells.lookup x=some c->X.s₀.heap.objs.size<=c
 hd:X.calm=true->X.A.handled=none
 frames:X.A.frames=some X.stack
 stk:X.stack=X.outer\/(X.stack=X.env::X.outer/\X.env.frame=some X.env.locals)
 exf:∀ b∈X.ex,b≠X.env.locals/\∀ x c,X.env.cells.lookup x=some c->c≠b
 bs:∀ b o,X.base.get? b=some o->X.s₀.heap.get? b=some o/\X.H₀ b=none
 bsz:X.base.objs.size<=X.s₀.heap.objs.size
 noex:∀ b o,X.base.get? b=some o->b ∉ X.ex
 exfs:∀ b∈X.ex,b ∉ X.fs
 funs:X.s₀.heap.FunFrames X.base X.outer
 frf:∀ b∈X.fs,X.H₀ b=none
structure Inv (X:Cx)(pins:List (Addr×Obj))(σ:List (Option V))(H:Hp)(s:ae):Prop where
 ok:X.Ok
 os:s.os=X.s₀.os
 bare:eT s.gens
 base:Un X.fs X.ex X.H₀ H X.s₀.heap s.heap
 loc:∃ m,s.heap.Ns X.env.locals m/\∀(i:Nat) (x:Str) (v:V),X.N[i]?=some x->σ[i]?=some (some v)->Vis X.env.scope x->∃ u,RelV v u/\Look X.env s.heap m x u
 cell:∀ x c,X.env.cells.lookup x=some c->∃ v,s.heap.IsCell c v
 free:H X.env.locals=none
 freeC:∀ x c,X.env.cells.lookup x=some c->H c=none
 pin:∀ p∈X.pn++pins,s.heap.get? p.1=some p.2/\H p.1=none/\p.1≠X.env.locals/\p.1 ∉ X.fs/\∀ v,p.2.data≠.cell v
 hok:HOk X.prog X.w H s.heap
 len:σ.length=X.N.length
section
variable {X:Cx} {pins:List (Addr×Obj)} {σ:List (Option V)} {H H':Hp} {s:ae} {h':Heap}
theorem Cx.Ok.nofr (ok:X.Ok){b:Addr}{o:Obj}(e:X.base.get? b=some o):b ∉ X.fs:=λ hb=>by
 have:=(ok.funs.mem hb).1
 rw[e]at this;cases this
theorem Inv.bs (I:Inv X pins σ H s):∀ b o,X.base.get? b=some o->s.heap.get? b=some o/\H b=none:=λ b o e =>
 ⟨I.base.keep b o (I.ok.bs b o e).1 (I.ok.bs b o e).2 (I.ok.nofr e) (I.ok.noex b o e),I.base.free b o (I.ok.bs b o e).1 (I.ok.bs b o e).2 (I.ok.noex b o e)⟩
theorem Inv.bk (I:Inv X pins σ H s):∀ b o,X.base.get? b=some o->s.heap.get? b=some o:=λ b o e=>(I.bs b o e).1
theorem Inv.mod (I:Inv X pins σ H s):Mod X.K X.mg X.base:=I.ok.mod
theorem Inv.kIn (I:Inv X pins σ H s):X.K.In s.heap:=I.ok.mod.kin.keeps I.bk
theorem Inv.lt (I:Inv X pins σ H s):X.env.locals<s.heap.objs.size:=let⟨_,hn,_⟩:=I.loc;hn.lt
theorem Inv.sz (I:Inv X pins σ H s):X.s₀.heap.objs.size<=s.heap.objs.size:=am I.ok.above (cZ I.lt)
theorem Inv.nofs (I:Inv X pins σ H s){a:Addr}(h:s.heap.objs.size<=a):a ∉ X.fs:=λ hb=>by
 obtain⟨_,o,ho,_⟩:=I.ok.funs.mem hb
 exact absurd (aq (aA ho) (am I.sz h)) (bp _)
theorem Inv.cne (I:Inv X pins σ H s):∀ x c,X.env.cells.lookup x=some c->c≠X.env.locals:=λ x c e z=>by
 obtain⟨v,o,ho,hd⟩:=I.cell x c e
 obtain⟨m,⟨o',es,ep,ho',hd',_⟩,_⟩:=I.loc
 rw[z,ho']at ho;cases ho;rw[hd']at hd;cases hd
theorem Inv.funs (I:Inv X pins σ H s):s.heap.FunFrames X.base X.outer:=by
 have all:∀(l:List Env),(∀ b∈frs l,b∈X.fs)->X.s₀.heap.FunFrames X.base l->s.heap.FunFrames X.base l:=by
  intro l
  induction l with
  | nil=>intro _ _;trivial
  | cons env r ih =>
   intro hs hl
   obtain⟨hk,⟨L,o,hf,hn,ho,hd⟩,hr⟩:=hl
   have hL:L∈X.fs:=hs L (by unfold frs;rw[bq,hf];exact aC)
   obtain⟨sl,e⟩:=I.base.slot L o ho (I.ok.frf L hL) hL λ z=>I.ok.exfs L z hL
   exact⟨hk,⟨L,_,hf,hn,e,hd⟩,ih (λ b hb=>hs b (by unfold frs;rw[bq,hf];exact aw _ hb)) hr⟩
 exact all X.outer (λ _ hb=>hb) I.ok.funs
theorem Inv.stack (I:Inv X pins σ H s):s.heap.FunFrames X.base X.stack:=by
 rcases I.ok.stk with e|⟨e,hf⟩
 ·rw[e];exact I.funs
 ·rw[e]
  obtain⟨m,hn,_⟩:=I.loc
  refine .cons (by rw[I.ok.kind];decide) hf hn ?_ I.funs
  exact Heap.get?_none_of_le (am I.ok.bsz I.ok.above)
theorem Inv.stkSub (I:Inv X pins σ H s):∀ b∈frs X.stack,b∈X.env.locals::X.fs:=λ b hb=>by
 rcases I.ok.stk with e|⟨e,hf⟩
 ·rw[e]at hb;exact aw _ hb
 ·rw[e]at hb
  unfold frs at hb
  rw[bq,hf]at hb
  exact hb
theorem Inv.stkFree (I:Inv X pins σ H s):∀ b∈frs X.stack,H b=none:=λ b hb=>by
 rcases aD.mp (I.stkSub b hb)with e|hb
 ·rw[e];exact I.free
 ·obtain⟨_,o,ho,_⟩:=I.ok.funs.mem hb
  exact I.base.free b o ho (I.ok.frf b hb) λ z=>I.ok.exfs b z hb
theorem Inv.step {g':Array GenState}{t':Nat}{d':Drawn}{ch:List Addr}(I:Inv X pins σ H s)
  (hch:∀ b∈ch,(b∈X.ex\/X.s₀.heap.objs.size<=b)/\b≠X.env.locals/\(∀ x c,X.env.cells.lookup x=some c->c≠b)/\∀ p∈X.pn++pins,p.1≠b)
  (keep:∀ b o,b≠X.env.locals->b ∉ X.fs->b ∉ ch->s.heap.get? b=some o->H b=none->h'.get? b=some o)
  (slot:∀ b o,b≠X.env.locals->b∈X.fs->b ∉ ch->s.heap.get? b=some o->H b=none->∃ sl,h'.get? b=some { o with slots:=sl }) (free:∀ b o,b ∉ ch->s.heap.get? b=some o->H b=none->H' b=none)
  (there:∀ b o,b ∉ ch->s.heap.get? b=some o->∃ o',h'.get? b=some o')
  (tups:∀ b xs,H b=some (.tup xs)->H' b=some (.tup xs)) (frzs:∀ b o u,H b=some (.frz o u)->H' b=some (.frz o u)) (tbls:∀ b ps,H b=some (.tbl ps)->∃ more,H' b=some (.tbl (ps++more)))
  (ns:∀ m,s.heap.Ns X.env.locals m->h'.Ns X.env.locals m) (hok:HOk X.prog X.w H' h') (hg:eT g') :
  Inv X pins σ H' { s with heap:=h',gens:=g',drawn:=d',toks:=t' }:=by
 have neL:∀ b o,X.s₀.heap.get? b=some o->b≠X.env.locals:=λ b o e=>ay (aq (aA e) I.ok.above)
 have neC:∀ b o,X.s₀.heap.get? b=some o->b ∉ X.ex->b ∉ ch:=λ b o e hx hb=>by
  rcases(hch b hb).1 with z|z
  ·exact hx z
  ·exact absurd (aq (aA e) z) (bp _)
 have cellK:∀ x c,X.env.cells.lookup x=some c->∀ v,s.heap.IsCell c v->h'.IsCell c v:=λ x c e v ⟨o,ho,hd⟩=>by
  have nch:c ∉ ch:=λ z=>(hch c z).2.2.1 x c e rfl
  by_cases hc:c∈X.fs
  ·obtain⟨sl,q⟩:=slot c o (I.cne x c e) hc nch ho (I.freeC x c e)
   exact⟨_,q,hd⟩
  ·exact⟨o,keep c o (I.cne x c e) hc nch ho (I.freeC x c e),hd⟩
 refine⟨I.ok,I.os,hg,⟨λ b o e n hb hx=>?_,λ b o e n hb hx=>?_,λ b o e n hx=>?_,λ b o e hx=>?_,λ b xs e=>tups b xs (I.base.tups b xs e),λ b o xs e=>frzs b o xs (I.base.frzs b o xs e),λ b ps e=>?_⟩,?_,λ x c e=>?_,?_,λ x c e=>?_,λ p hp=>?_,hok,I.len⟩
 ·exact keep b o (neL b o e) hb (neC b o e hx) (I.base.keep b o e n hb hx) (I.base.free b o e n hx)
 ·obtain⟨sl,e1⟩:=I.base.slot b o e n hb hx
  obtain⟨sl',e2⟩:=slot b _ (neL b o e) hb (neC b o e hx) e1 (I.base.free b o e n hx)
  exact⟨sl',e2⟩
 ·obtain⟨o',e1⟩:=I.base.there b o e hx
  exact free b o' (neC b o e hx) e1 (I.base.free b o e n hx)
 ·obtain⟨o',e1⟩:=I.base.there b o e hx
  exact there b o' (neC b o e hx) e1
 ·obtain⟨m1,e1⟩:=I.base.tbls b ps e
  obtain⟨m2,e2⟩:=tbls b _ e1
  exact⟨m1++m2,by rw[e2,gW]⟩
 ·obtain⟨m,hn,hl⟩:=I.loc
  refine⟨m,ns m hn,λ i x v e1 e2 e3=>?_⟩
  obtain⟨u,r,l⟩:=hl i x v e1 e2 e3
  refine⟨u,r,?_⟩
  rcases l with l|⟨k,c,e,z⟩
  ·exact .inl l
  ·exact .inr ⟨k,c,e,cellK x c e _ z⟩
 ·obtain⟨v,z⟩:=I.cell x c e
  exact⟨v,cellK x c e v z⟩
 ·obtain⟨m,⟨o,_,_,ho,_⟩,_⟩:=I.loc
  exact free _ o (λ z=>(hch _ z).2.1 rfl) ho I.free
 ·obtain⟨v,o,ho,hd⟩:=I.cell x c e
  exact free c o (λ z=>(hch c z).2.2.1 x c e rfl) ho (I.freeC x c e)
 ·obtain⟨e,n,ne,nf,d⟩:=I.pin p hp
  have nch:p.1 ∉ ch:=λ z=>(hch p.1 z).2.2.2 p hp rfl
  exact⟨keep p.1 p.2 ne nf nch e n,free p.1 p.2 nch e n,ne,nf,d⟩
theorem Inv.un {t':Nat}(I:Inv X pins σ H s)(u:Un X.fs [] H H' s.heap h')(hok:HOk X.prog X.w H' h'):Inv X pins σ H' { s with heap:=h',toks:=t' }:=by
 obtain⟨m,⟨o,es,ep,ho,r⟩,_⟩:=id I.loc
 obtain⟨sl,hL⟩:=u.any ho I.free (by simp)
 exact I.step (g':=s.gens) (d':=s.drawn) (ch:=[]) (λ _ z=>nomatch z) (λ b o _ hb _ e n=>u.keep b o e n hb (by simp)) (λ b o _ hb _ e n=>u.slot b o e n hb (by simp)) (λ b o _ e n=>u.free b o e n (by simp)) (λ b o _ e=>u.there b o e (by simp)) u.tups u.frzs u.tbls (λ m' hm=>by
  obtain⟨o',es',ep',ho',r'⟩:=hm
  rw[ho]at ho';cases ho'
  exact⟨_,es',ep',hL,r'⟩) hok I.bare
theorem Inv.call {g':Array GenState}{t':Nat}{d':Drawn}{ch:List Addr}(I:Inv X pins σ H s)(u:Un (frs X.stack) ch H H' s.heap h')(hok:HOk X.prog X.w H' h')(hg:eT g')
  (hch:∀ b∈ch,(b∈X.ex\/X.s₀.heap.objs.size<=b)/\b≠X.env.locals/\(∀ x c,X.env.cells.lookup x=some c->c≠b)/\∀ p∈X.pn++pins,p.1≠b) :
  Inv X pins σ H' { s with heap:=h',gens:=g',drawn:=d',toks:=t' }:=by
 obtain⟨m,⟨o,es,ep,ho,r⟩,_⟩:=id I.loc
 obtain⟨sl,hL⟩:=u.any ho I.free λ z=>(hch _ z).2.1 rfl
 exact I.step (ch:=ch) hch (λ b o hL hb hc e n=>u.keep b o e n (λ z=>(aD.mp (I.stkSub b z)).elim hL hb) hc) (λ b o _ _ hc e n=>u.any e n hc) (λ b o hc e n=>u.free b o e n hc) (λ b o hc e=>u.there b o e hc) u.tups u.frzs u.tbls (λ m' hm=>by
  obtain⟨o',es',ep',ho',r'⟩:=hm
  rw[ho]at ho';cases ho'
  exact⟨_,es',ep',hL,r'⟩) hok hg
theorem Inv.turned {t':Nat}{it:Addr}(I:Inv X pins σ H s)(k:∀ b o,b≠it->s.heap.get? b=some o->h'.get? b=some o)(hn:H it=none)(hL:it≠X.env.locals)
  (h1:it∈X.ex\/X.s₀.heap.objs.size<=it) (h2:∀ x c,X.env.cells.lookup x=some c->c≠it) (h3:∀ p∈X.pn++pins,p.1≠it):Inv X pins σ H { s with heap:=h',toks:=t' }:=by
 have nit:∀ b u,H b=some u->b≠it:=λ b u e z=>by rw[z,hn]at e;cases e
 refine I.step (g':=s.gens) (d':=s.drawn) (ch:=[it]) (λ b hb=>?_) (λ b o _ _ hc e _=>k b o (λ z=>hc (by simp[z])) e) (λ b o _ _ hc e _=>⟨o.slots,k b o (λ z=>hc (by simp[z])) e⟩) (λ _ _ _ _ n=>n)
  (λ b o hc e=>⟨o,k b o (λ z=>hc (by simp[z])) e⟩) (λ _ _ e=>e) (λ _ _ _ e=>e) (λ b ps e=>⟨#[],by rw[e];simp⟩) (λ m hm=>?_) (λ b u e=>?_) I.bare
 ·have e:b=it:=by simpa using hb
  subst e
  exact⟨h1,hL,h2,h3⟩
 ·obtain⟨o,es,ep,ho,r⟩:=hm
  exact⟨o,es,ep,k _ o (bQ hL) ho,r⟩
 ·refine(I.hok b u e).stay (λ c v hc q=>k c v ?_ q) (λ _ q=>q) λ _ _ q=>q
  rcases hc with z|z
  ·rw[z];exact nit b u e
  ·exact nit c _ z
theorem Inv.tok (I:Inv X pins σ H s)(t:Nat):Inv X pins σ H { s with toks:=t }:=I.un (h':=s.heap) (t':=t) Un.refl I.hok
theorem Inv.kept {t':Nat}(I:Inv X pins σ H s)(k:∀ b u,s.heap.get? b=some u->h'.get? b=some u):Inv X pins σ H { s with heap:=h',toks:=t' }:=I.un (Un.kept k) (I.hok.kept k)
theorem Inv.laid {a:Addr}{o:HO}{t':Nat}(I:Inv X pins σ H s)(k:∀ b u,s.heap.get? b=some u->h'.get? b=some u)(hp:s.heap.objs.size<=a)(new:ObjOk X.prog X.w (upd H a o) h' a o) :
  Inv X pins σ (upd H a o) { s with heap:=h',toks:=t' }:=I.un (Un.laid k hp (I.hok.fresh hp)) (I.hok.laid k hp new)
theorem Inv.write {x e:Addr}{o:HO}{t':Nat}(I:Inv X pins σ H s)(mu:Mut (H x))(he:e=x\/H e=some (.own x))(k:∀ b u,b≠e->s.heap.get? b=some u->h'.get? b=some u)(heo:∃ u,h'.get? e=some u)
  (new:ObjOk X.prog X.w (upd H x o) h' x o):Inv X pins σ (upd H x o) { s with heap:=h',toks:=t' }:=I.un (Un.write mu he k heo) (I.hok.write mu he k heo new)
theorem Inv.pins_of {pins':List (Addr×Obj)}(I:Inv X pins σ H s)(h:∀ p∈pins',s.heap.get? p.1=some p.2/\H p.1=none/\p.1≠X.env.locals/\p.1 ∉ X.fs/\∀ v,p.2.data≠.cell v):Inv X pins' σ H s :=
 ⟨I.ok,I.os,I.bare,I.base,I.loc,I.cell,I.free,I.freeC,λ p hp=>(bw.mp hp).elim (λ z=>I.pin p (gf _ z)) (h p),I.hok,I.len⟩
theorem nodup_ix {N:List Str}(hN:N.Nodup){i j:Nat}{x:Str}(a:N[i]?=some x)(b:N[j]?=some x):i=j:=by
 obtain⟨h1,e1⟩:=ac.mp a
 obtain⟨h2,e2⟩:=ac.mp b
 exact(List.getElem_inj hN).mp (e1.trans e2.symm)
theorem store_ok2 {M:Model}{A:aS}{E:Value->ae->Prop}{i:Nat}{x:Str}{v:V}{u:Value}{Q:Unit->ae->Prop}(I:Inv X pins σ H s)(hN:X.N.Nodup)(hi:X.N[i]?=some x)(hx:Loc X.env.scope x)(r:RelV v u)
  (h:∀ s',Inv X pins (σ.set i (some v)) H s'->(∃ a,dA a s.heap s'.heap/\(a=X.env.locals\/X.env.cells.lookup x=some a))->Q () s') (hf:X.fn x=true\/X.env.scope.names.lookup x=some .local:=by first|exact .inl rfl|exact .inr rfl|assumption):wpAny M A (fu X.env x u) Q E s:=by
 obtain⟨m,hn,hl⟩:=id I.loc
 have hcls:(X.env.scope.kind==.class||(X.env.scope.kind==.module&&X.env.locals != X.env.globals))=false:=by rw[I.ok.kind];rfl
 have hiσ:i < σ.length:=by rw[I.len];exact(ac.mp hi).1
 have cne:=I.cne
 have tracked:∀ {a:Addr} {h':Heap},(∃ o,s.heap.get? a=some o/\H a=none)->dA a s.heap h'->HOk X.prog X.w H h':=λ {a h'} ha hs b ob e=>by
  obtain⟨_,_,hfree⟩:=ha
  refine(I.hok b ob e).stay (λ c w' hc q=>(hs.2 c ?_).trans q) (λ _ q=>q) λ _ _ q=>q
  rintro rfl
  rcases hc with rfl|hc
  ·rw[hfree]at e;cases e
  ·rw[hfree]at hc;cases hc
 rcases hx with hk|hk
 ·refine f8 hk hn (λ h' hn' hs=>?_) hcls
  obtain⟨oL,_,_,hoL,_⟩:=id hn
  refine h _ ⟨I.ok,I.os,I.bare,⟨λ b o e n hb hx=>?_,λ b o e n hb hx=>?_,I.base.free,λ b o e hx=>?_,I.base.tups,I.base.frzs,I.base.tbls⟩,⟨_,hn',λ j y v' e1 e2 e3=>?_⟩,λ y c e=>?_,I.free,I.freeC,λ p hp=>?_,tracked ⟨oL,hoL,I.free⟩ hs,by simpa using I.len⟩ ⟨_,hs,.inl rfl⟩
  ·exact(hs.2 b (ay (aq (aA e) I.ok.above))).trans (I.base.keep b o e n hb hx)
  ·obtain⟨sl,e1⟩:=I.base.slot b o e n hb hx
   exact⟨sl,(hs.2 b (ay (aq (aA e) I.ok.above))).trans e1⟩
  ·obtain⟨o',e1⟩:=I.base.there b o e hx
   exact⟨o',(hs.2 b (ay (aq (aA e) I.ok.above))).trans e1⟩
  ·by_cases hj:j=i
   ·subst hj
    rw[hi]at e1;cases e1
    rw[aU hiσ]at e2
    cases e2
    exact⟨u,r,.inl ⟨hk,by simp⟩⟩
   ·rw[a7 (bQ hj)]at e2
    obtain⟨u',r',q⟩:=hl j y v' e1 e2 e3
    refine⟨u',r',?_⟩
    rcases q with⟨k,e⟩|⟨k,c,e,z⟩
    ·refine .inl ⟨k,?_⟩
     have:y≠x:=λ e=>hj (nodup_ix hN e1 (e▸hi))
     simp[this,e]
    ·exact .inr ⟨k,c,e,z.sameBut hs (cne y c e)⟩
  ·obtain⟨w',z⟩:=I.cell y c e
   exact⟨w',z.sameBut hs (cne y c e)⟩
  ·obtain⟨e,n,ne,nf,d⟩:=I.pin p hp
   exact⟨(hs.2 p.1 ne).trans e,n,ne,nf,d⟩
 ·have hfn:X.fn x=true:=by
   rcases hf with z|z
   ·exact z
   ·rw[z]at hk;cases hk
  obtain⟨c,hc⟩:=I.ok.has x (.inl hk)
  obtain⟨w',z⟩:=I.cell x c hc
  refine gh I.ok.kind hk hc z (λ h' hc' hs=>?_)
  obtain⟨oc,hoc,hocd⟩:=id z
  refine h { s with heap:=h' } ⟨I.ok,I.os,I.bare,⟨λ b o e n hb hx=>?_,λ b o e n hb hx=>?_,I.base.free,λ b o e hx=>?_,I.base.tups,I.base.frzs,I.base.tbls⟩,⟨m,hn.sameBut hs (bQ (cne x c hc)),λ j y v' e1 e2 e3=>?_⟩,λ y c' e=>?_,I.free,I.freeC,λ p hp=>?_,tracked ⟨oc,hoc,I.freeC x c hc⟩ hs,by simpa using I.len⟩ ⟨c,hs,.inr hc⟩
  ·exact(hs.2 b (ay (aq (aA e) (I.ok.cab x c hfn hc)))).trans (I.base.keep b o e n hb hx)
  ·obtain⟨sl,e1⟩:=I.base.slot b o e n hb hx
   exact⟨sl,(hs.2 b (ay (aq (aA e) (I.ok.cab x c hfn hc)))).trans e1⟩
  ·obtain⟨o',e1⟩:=I.base.there b o e hx
   exact⟨o',(hs.2 b (ay (aq (aA e) (I.ok.cab x c hfn hc)))).trans e1⟩
  ·by_cases hj:j=i
   ·subst hj
    rw[hi]at e1;cases e1
    rw[aU hiσ]at e2
    cases e2
    exact⟨u,r,.inr ⟨.inl hk,c,hc,hc'⟩⟩
   ·rw[a7 (bQ hj)]at e2
    obtain⟨u',r',q⟩:=hl j y v' e1 e2 e3
    refine⟨u',r',?_⟩
    rcases q with q|⟨k,c',e,z'⟩
    ·exact .inl q
    ·refine .inr ⟨k,c',e,z'.sameBut hs ?_⟩
     rintro rfl
     exact hj (nodup_ix hN e1 (I.ok.inj _ _ _ e hc▸hi))
  ·by_cases hcc:c'=c
   ·subst hcc;exact⟨_,hc'⟩
   ·obtain⟨w2,z2⟩:=I.cell y c' e
    exact⟨w2,z2.sameBut hs hcc⟩
  ·obtain⟨e,n,ne,nf,d⟩:=I.pin p hp
   refine⟨(hs.2 p.1 ?_).trans e,n,ne,nf,d⟩
   intro q
   rw[q,hoc]at e
   have q':oc=p.2:=au e
   exact d w' (by rw[<-q'];exact hocd)
theorem store_ok {M:Model}{A:aS}{E:Value->ae->Prop}{i:Nat}{x:Str}{v:V}{u:Value}{Q:Unit->ae->Prop}(I:Inv X pins σ H s)(hN:X.N.Nodup)(hi:X.N[i]?=some x)(hx:Loc X.env.scope x)(r:RelV v u)
  (h:∀ s',Inv X pins (σ.set i (some v)) H s'->Q () s') (hf:X.fn x=true\/X.env.scope.names.lookup x=some .local:=by first|exact .inl rfl|exact .inr rfl|assumption):wpAny M A (fu X.env x u) Q E s :=
 store_ok2 I hN hi hx r (λ s' I' _=>h s' I') hf
theorem Inv.call' {s':ae}{ch:List Addr}(I:Inv X pins σ H s)(ho:s'.os=s.os)(u:Un (frs X.stack) ch H H' s.heap s'.heap)(hok:HOk X.prog X.w H' s'.heap)(hg:eT s'.gens)
  (hch:∀ b∈ch,(b∈X.ex\/X.s₀.heap.objs.size<=b)/\b≠X.env.locals/\(∀ x c,X.env.cells.lookup x=some c->c≠b)/\∀ p∈X.pn++pins,p.1≠b):Inv X pins σ H' s':=by
 obtain⟨h',g',d',t',o'⟩:=s'
 have e:o'=s.os:=ho
 subst e
 exact I.call (g':=g') (t':=t') (d':=d') u hok hg hch
end
noncomputable abbrev XK:=Value->Option Addr->Hp->Prop
noncomputable abbrev St:=List (Option V)
noncomputable abbrev VK:=V->Hp->Prop
noncomputable abbrev TE:=St->Hp->VK->Prop
noncomputable abbrev TT:=St->Hp->(Bool->Hp->Prop)->Prop
noncomputable abbrev TA:=St->Hp->(List V->Hp->Prop)->Prop
structure Ends where
 nx:St->Hp->Prop
 rt:VK
 bk:St->Hp->Prop:=λ _ _=>False
 ct:St->Hp->Prop:=λ _ _=>False
noncomputable abbrev TS:=Ends->St->Hp->Prop
noncomputable def EP (X:Cx)(pins:List (Addr×Obj))(σ:St)(Q:VK)(u:Value)(s':ae):Prop:=∃ v H',Inv X pins σ H' s'/\RelV v u/\Q v H'
noncomputable def TP (X:Cx)(pins:List (Addr×Obj))(σ:St)(Q:Bool->Hp->Prop)(b:Bool)(s':ae):Prop:=∃ H',Inv X pins σ H' s'/\Q b H'
noncomputable def AP (X:Cx)(pins:List (Addr×Obj))(σ:St)(Q:List V->Hp->Prop)(us:List Value)(s':ae):Prop:=∃ vs H',Inv X pins σ H' s'/\Vals vs us/\Q vs H'
noncomputable def SP (X:Cx)(pins:List (Addr×Obj))(D:Ends)(f:Flow)(s':ae):Prop :=
 match f with
 | .next=>∃ σ' H',Inv X pins σ' H' s'/\D.nx σ' H'
 | .brk=>∃ σ' H',Inv X pins σ' H' s'/\D.bk σ' H'
 | .cont=>∃ σ' H',Inv X pins σ' H' s'/\D.ct σ' H'
 | .ret u=>∃ v σ' H',Inv X pins σ' H' s'/\RelV v u/\D.rt v H'
noncomputable def PE (X:Cx)(e:Expr)(t:TE):Prop :=
 ∀(pins:List (Addr×Obj)) (s:ae) (σ:St) (H:Hp) (Q:VK),Inv X pins σ H s->t σ H Q->wpAny (model X.prog X.w) X.A (eval e X.env) (EP X pins σ Q) X.xe s
noncomputable def PT (X:Cx)(e:Expr)(t:TT):Prop :=
 ∀(pins:List (Addr×Obj)) (s:ae) (σ:St) (H:Hp) (Q:Bool->Hp->Prop),Inv X pins σ H s->t σ H Q->wpAny (model X.prog X.w) X.A (dq e X.env (eval e X.env)) (TP X pins σ Q) X.xe s
noncomputable def PW (X:Cx)(e:Expr)(t:TT):Prop :=
 ∀(whole:Sem Value) (pins:List (Addr×Obj)) (s:ae) (σ:St) (H:Hp) (Q:Bool->Hp->Prop),Inv X pins σ H s->t σ H Q->wpAny (model X.prog X.w) X.A (dq e X.env whole) (TP X pins σ Q) X.xe s
theorem PW.pt {X:Cx}{e:Expr}{t:TT}(h:PW X e t):PT X e t:=h _
noncomputable def PA (X:Cx)(es:List Expr)(t:TA):Prop :=
 ∀(pos:Pos) (pins:List (Addr×Obj)) (s:ae) (σ:St) (H:Hp) (Q:List V->Hp->Prop),Inv X pins σ H s->t σ H Q->wpAny (model X.prog X.w) X.A (spliced (dB pos (bf es X.env))) (AP X pins σ Q) X.xe s
noncomputable def PS (X:Cx)(st:Stmt)(t:TS):Prop :=
 ∀(pins:List (Addr×Obj)) (s:ae) (σ:St) (H:Hp) (D:Ends),Inv X pins σ H s->t D σ H->wpAny (model X.prog X.w) X.A (exec st X.env) (SP X pins D) X.xe s
noncomputable def PSs (X:Cx)(st:List Stmt)(t:TS):Prop :=
 ∀(pins:List (Addr×Obj)) (s:ae) (σ:St) (H:Hp) (D:Ends),Inv X pins σ H s->t D σ H->wpAny (model X.prog X.w) X.A (execs st X.env) (SP X pins D) X.xe s
theorem thn {α:Type}{t:Sem α}{Q Q':α->ae->Prop}{M:Model}{A:aS}{E:Value->ae->Prop}{s:ae}(h:wpAny M A t Q E s)(hQ:∀ a s,Q a s->Q' a s):wpAny M A t Q' E s:=b8 h hQ λ _ _ x=>x
section
variable {X:Cx}
theorem bin {a b:Expr}{ta tb:TE}(ha:PE X a ta)(hb:PE X b tb){pins:List (Addr×Obj)}{s:ae}{σ:St}{H:Hp}{R:V->V->Hp->Prop}(I:Inv X pins σ H s)(h:ta σ H λ x H1=>tb σ H1 λ y H2=>R x y H2)
  {α:Type} {Q:α->ae->Prop} {f:Value->Value->Sem α}
  (hf:∀ v u s2 x y H2,Inv X pins σ H2 s2->RelV x v->RelV y u->R x y H2->wpAny (model X.prog X.w) X.A (f v u) Q X.xe s2) :
  wpAny (model X.prog X.w) X.A (eval a X.env) (λ v s₁=>wpAny (model X.prog X.w) X.A (eval b X.env) (λ u s₂=>wpAny (model X.prog X.w) X.A (f v u) Q X.xe s₂) X.xe s₁) X.xe s:=by
 refine thn (ha pins s σ H _ I h) λ v s1 ⟨x,H1,I1,r1,q1⟩=>?_
 refine thn (hb pins s1 σ H1 _ I1 q1) λ u s2 ⟨y,H2,I2,r2,q2⟩=>?_
 exact hf v u s2 x y H2 I2 r1 r2 q2
noncomputable def tVar (i:Nat):TE:=λ σ H Q=>∃ v,σ[i]?=some (some v)/\Q v H
noncomputable def tC (v:V):TE:=λ _ H Q=>Q v H
theorem pe_var {i:Nat}{x:Str}{pos:Pos}(hN:X.N[i]?=some x)(hv:Vis X.env.scope x)(hd:(x==("__debug__":Str))=false:=by decide)(hcd:(x==("__classdict__":Str))=false:=by decide):PE X (.Name x pos) (tVar i):=by
 intro pins s σ H Q I h
 obtain⟨v,e,h⟩:=h
 obtain⟨m,hn,hl⟩:=I.loc
 obtain⟨u,r,l⟩:=hl i x v hN e hv
 have fin:EP X pins σ Q u s:=⟨v,H,I,r,h⟩
 rcases l with⟨hk,hm⟩|⟨hk,c,hc,hcell⟩
 ·exact iV (wpAny_loadName_local I.ok.kind hk hn hm fin) hd
 ·rcases hk with hk|hk
  ·exact iV (wpAny_loadName_cell I.ok.kind hk hc hcell fin) hd
  ·exact iV (wpAny_loadName_free I.ok.kind hk hc hcell fin hcd) hd
theorem pe_int {i j pos}:PE X (.Constant (.int i) j pos) (tC (.int i)):=λ _ _ _ H _ I h=>wpAny_Constant_int ⟨.int i,H,I.tok _,⟨_,rfl⟩,h⟩
theorem pe_bl {b j pos}:PE X (.Constant (.bool b) j pos) (tC (.bl b)):=λ _ _ _ H _ I h=>Constant_bool ⟨.bl b,H,I,rfl,h⟩
theorem pe_non {j pos}:PE X (.Constant .none j pos) (tC .non):=λ _ _ _ H _ I h=>gN ⟨.non,H,I,rfl,h⟩
theorem pe_str {x j pos}:PE X (.Constant (.str x) j pos) (tC (.str x)):=λ _ _ _ H _ I h=>Calls.Constant_str ⟨.str x,H,I.tok _,⟨_,rfl⟩,h⟩
noncomputable def Gl (X:Cx)(x:Str):Prop:=X.env.kindOf x=some .globalImplicit
theorem ld_glob {E:Value->ae->Prop}{pins:List (Addr×Obj)}{s:ae}{σ:St}{H:Hp}{x:Str}{u:Value}{pos:Pos}{Q:Value->ae->Prop}(I:Inv X pins σ H s)(hg:Gl X x)(hm:X.mg x=some u)(h:Q u s)
  (hd:(x==("__debug__":Str))=false:=by decide):wpAny (model X.prog X.w) X.A (eval (.Name x pos) X.env) Q E s :=
 eF I.ok.kind hg (Calls.loadGlobal_global (by rw[I.ok.glob];exact I.mod.glob.keeps I.bk) hm h) hd
theorem ld_blt {E:Value->ae->Prop}{pins:List (Addr×Obj)}{s:ae}{σ:St}{H:Hp}{x:Str}{u:Value}{pos:Pos}{Q:Value->ae->Prop}(I:Inv X pins σ H s)(hg:Gl X x)(hm:X.mg x=none)(hv:a9 x=some u)(h:Q u s)
  (hn:x ≠ "__name__":=by decide) (hd:(x==("__debug__":Str))=false:=by decide):wpAny (model X.prog X.w) X.A (eval (.Name x pos) X.env) Q E s:=by
 obtain⟨mb,h1,h2⟩:=I.mod.blt
 exact eF I.ok.kind hg (Calls.loadGlobal_builtin (by rw[I.ok.glob];exact I.mod.glob.keeps I.bk) hm (by rw[I.ok.blt];exact h1.keeps I.bk) ((h2 x hn).trans hv) h) hd
theorem pe_glob {x:Str}{v:V}{u:Value}{pos:Pos}(hg:Gl X x)(hm:X.mg x=some u)(r:RelV v u)(hd:(x==("__debug__":Str))=false:=by decide):PE X (.Name x pos) (tC v) :=
 λ _ _ _ H _ I h=>ld_glob I hg hm ⟨v,H,I,r,h⟩ hd
theorem pe_bltn {x:Str}{v:V}{u:Value}{pos:Pos}(hg:Gl X x)(hm:X.mg x=none)(hv:a9 x=some u)(r:RelV v u)(hn:x ≠ "__name__":=by decide)(hd:(x==("__debug__":Str))=false:=by decide):PE X (.Name x pos) (tC v) :=
 λ _ _ _ H _ I h=>ld_blt I hg hm hv ⟨v,H,I,r,h⟩ hn hd
variable {a b:Expr} {ta tb:TE} {pos:Pos}
noncomputable def PC (X:Cx)(op:CmpOp)(a b:Expr)(t:TE):Prop :=
 ∀(pins:List (Addr×Obj)) (s:ae) (σ:St) (H:Hp) (Q:VK),Inv X pins σ H s->t σ H Q ->
  wpAny (model X.prog X.w) X.A (eval a X.env) (λ v s₁=>wpAny (model X.prog X.w) X.A (eval b X.env) (λ u s₂=>wpAny (model X.prog X.w) X.A (b7 op v u) (EP X pins σ Q) X.xe s₂) X.xe s₁) X.xe s
theorem nobehind (b:Expr){op:CmpOp}(h:op≠.In)(h2:op≠.NotIn):cA op b=false:=by
 have e1:(op==CmpOp.In)=false:=by cases op<;>first|rfl|exact absurd rfl h
 have e2:(op==CmpOp.NotIn)=false:=by cases op<;>first|rfl|exact absurd rfl h2
 cases b<;>simp[cA,e1,e2]
noncomputable def tIsN (ta:TE):TE:=λ σ H Q=>ta σ H λ x H1=>Q (.bl (decide (x=.non))) H1
noncomputable def tNotN (ta:TE):TE:=λ σ H Q=>ta σ H λ x H1=>Q (.bl (!decide (x=.non))) H1
theorem RelV.none_iff {x:V}{v:Value}(r:RelV x v):(v==Value.none)=decide (x=.non):=by
 cases x with
 | non=>cases r;rfl
 | bl _=>cases r;rfl
 | int _=>obtain⟨t,rfl⟩:=r;rfl
 | str _=>obtain⟨t,rfl⟩:=r;rfl
 | byt _=>obtain⟨t,rfl⟩:=r;rfl
 | flt _=>obtain⟨t,rfl⟩:=r;rfl
 | ref _=>cases r;rfl
 | ty _=>cases r;rfl
theorem pc_isN {j pos'}(ha:PE X a ta):PC X .Is a (.Constant .none j pos') (tIsN ta):=by
 intro pins s σ H Q I h
 refine thn (ha pins s σ H _ I h) λ v s1 ⟨x,H1,I1,r1,q1⟩=>?_
 exact gN (is_none_gen ⟨.bl _,H1,I1,by rw[r1.none_iff];rfl,q1⟩)
theorem pc_notN {j pos'}(ha:PE X a ta):PC X .IsNot a (.Constant .none j pos') (tNotN ta):=by
 intro pins s σ H Q I h
 refine thn (ha pins s σ H _ I h) λ v s1 ⟨x,H1,I1,r1,q1⟩=>?_
 exact gN (isnot_none_gen ⟨.bl _,H1,I1,by rw[r1.none_iff];rfl,q1⟩)
noncomputable def tB (t:TE):TT:=λ σ H Q=>t σ H λ x H1=>∃ c,x=.bl c/\Q c H1
theorem pe_cmp {op:CmpOp}{t:TE}(h:PC X op a b t)(h1:cA op b=false:=by first|exact nobehind _ (by decide) (by decide)|rfl):PE X (.Compare a [op] [b] pos) t:=λ pins s σ H Q I hw=>wpAny_Compare1 (h pins s σ H Q I hw) h1
theorem pt_cmp {op:CmpOp}{t:TE}(h:PC X op a b t)(h1:cA op b=false:=by first|exact nobehind _ (by decide) (by decide)|rfl):PT X (.Compare a [op] [b] pos) (tB t):=by
 intro pins s σ H Q I hw
 refine f9 (thn (h pins s σ H _ I hw) λ v s1 h1=>thn h1 λ u s2 h2=>thn h2 λ c s3 ⟨x,H1,I1,r1,q1⟩=>?_) h1
 obtain⟨d,rfl,q⟩:=q1
 cases r1
 exact bB ⟨H1,I1,q⟩
theorem pt_val {e:Expr}{t:TE}(h:PE X e t)(he:∀ whole,dq e X.env whole=(do let v <- whole;standAt e.pos;ib [v] (truthy v)):=by intro _;rfl):PT X e (tB t):=by
 intro pins s σ H Q I hw
 refine isTrue_plain (thn (h pins s σ H _ I hw) λ v s1 ⟨x,H1,I1,r1,q1⟩=>?_) (he _)
 obtain⟨d,rfl,q⟩:=q1
 cases r1
 exact bB ⟨H1,I1,q⟩
variable {tA tB':TT} {rest:List Expr}
noncomputable def tAnd (t u:TT):TT:=λ σ H Q=>t σ H λ c H1=>if c=true then u σ H1 Q else Q false H1
noncomputable def tOr (t u:TT):TT:=λ σ H Q=>t σ H λ c H1=>if c=true then Q true H1 else u σ H1 Q
noncomputable def tNot (t:TT):TT:=λ σ H Q=>t σ H λ c H1=>Q (!c) H1
theorem pw_and1 (ha:PT X a tA):PW X (.BoolOp .And [a] pos) tA:=by
 intro wh pins s σ H Q I h
 refine isTrue_and (thn (ha pins s σ H Q I h) λ c s1 e=>?_)
 cases c with
 | true=>exact isTrue_and_nil e
 | false=>exact e
theorem pw_or1 (ha:PT X a tA):PW X (.BoolOp .Or [a] pos) tA:=by
 intro wh pins s σ H Q I h
 refine isTrue_or (thn (ha pins s σ H Q I h) λ c s1 e=>?_)
 cases c with
 | false=>exact isTrue_or_nil e
 | true=>exact e
theorem pw_and (ha:PT X a tA)(hb:PW X (.BoolOp .And (b::rest) pos) tB'):PW X (.BoolOp .And (a::b::rest) pos) (tAnd tA tB'):=by
 intro wh pins s σ H Q I h
 refine isTrue_and (thn (ha pins s σ H _ I h) λ c s1 ⟨H1,I1,q1⟩=>?_)
 cases c with
 | true=>exact hb wh pins s1 σ H1 Q I1 q1
 | false=>exact⟨H1,I1,q1⟩
theorem pw_or (ha:PT X a tA)(hb:PW X (.BoolOp .Or (b::rest) pos) tB'):PW X (.BoolOp .Or (a::b::rest) pos) (tOr tA tB'):=by
 intro wh pins s σ H Q I h
 refine isTrue_or (thn (ha pins s σ H _ I h) λ c s1 ⟨H1,I1,q1⟩=>?_)
 cases c with
 | true=>exact⟨H1,I1,q1⟩
 | false=>exact hb wh pins s1 σ H1 Q I1 q1
theorem pt_not (ha:PT X a tA):PT X (.UnaryOp .Not a pos) (tNot tA):=by
 intro pins s σ H Q I h
 exact isTrue_not (ha pins s σ H (λ c H1=>Q (!c) H1) I h)
noncomputable def tAndV (ta tb:TE):TE:=λ σ H Q=>ta σ H λ x H1=>∃ c,x=.bl c/\if c=true then tb σ H1 Q else Q (.bl false) H1
noncomputable def tOrV (ta tb:TE):TE:=λ σ H Q=>ta σ H λ x H1=>∃ c,x=.bl c/\if c=true then Q (.bl true) H1 else tb σ H1 Q
noncomputable def tNotV (ta:TE):TE:=λ σ H Q=>ta σ H λ x H1=>∃ c,x=.bl c/\Q (.bl (!c)) H1
theorem pe_one {op}{t:TE}(h:PE X a t):PE X (.BoolOp op [a] pos) t:=λ pins s σ H Q I hw=>BoolOp_one (h pins s σ H Q I hw)
theorem pe_and (ha:PE X a ta)(hb:PE X (.BoolOp .And (b::rest) pos) tb):PE X (.BoolOp .And (a::b::rest) pos) (tAndV ta tb):=by
 intro pins s σ H Q I h
 refine BoolOp_and (thn (ha pins s σ H _ I h) λ v s1 ⟨x,H1,I1,r1,q1⟩=>?_)
 obtain⟨c,rfl,q1⟩:=q1
 cases r1
 refine bB ?_
 cases c with
 | true=>exact hb pins s1 σ H1 Q I1 q1
 | false=>exact⟨.bl false,H1,I1,rfl,q1⟩
theorem pe_or (ha:PE X a ta)(hb:PE X (.BoolOp .Or (b::rest) pos) tb):PE X (.BoolOp .Or (a::b::rest) pos) (tOrV ta tb):=by
 intro pins s σ H Q I h
 refine BoolOp_or (thn (ha pins s σ H _ I h) λ v s1 ⟨x,H1,I1,r1,q1⟩=>?_)
 obtain⟨c,rfl,q1⟩:=q1
 cases r1
 refine bB ?_
 cases c with
 | false=>exact hb pins s1 σ H1 Q I1 q1
 | true=>exact⟨.bl true,H1,I1,rfl,q1⟩
theorem pe_not (ha:PE X a ta):PE X (.UnaryOp .Not a pos) (tNotV ta):=by
 intro pins s σ H Q I h
 refine UnaryOp_ (thn (ha pins s σ H _ I h) λ v s1 ⟨x,H1,I1,r1,q1⟩=>?_)
 obtain⟨c,rfl,q1⟩:=q1
 cases r1
 exact not_of (bB ⟨.bl (!c),H1,I1,rfl,q1⟩)
noncomputable def tIf (t:TT)(ta tb:TE):TE:=λ σ H Q=>t σ H λ c H1=>if c=true then ta σ H1 Q else tb σ H1 Q
theorem pe_ifExp {c:Expr}(hc:PT X c tA)(ha:PE X a ta)(hb:PE X b tb):PE X (.IfExp c a b pos) (tIf tA ta tb):=by
 intro pins s σ H Q I h
 refine wpAny_IfExp (thn (hc pins s σ H _ I h) λ d s1 ⟨H1,I1,q1⟩=>?_)
 cases d with
 | true=>exact ha pins s1 σ H1 Q I1 q1
 | false=>exact hb pins s1 σ H1 Q I1 q1
end
noncomputable def SqL (K:ab)(H:Hp)(a:Addr)(xs:List V):Prop :=
 Rd H a (.lst xs) \/
  ∃(o:Obj) (its:Array Value) (n:Nat),K.lookup a=some o/\o.cls=.type "list"/\o.dict=none/\o.data=.seq its n/\its.size<=aH/\Vals xs its.toList
noncomputable def SqT (K:ab)(H:Hp)(a:Addr)(xs:List V):Prop :=
 Rd H a (.tup xs) \/
  ∃(o:Obj) (its:Array Value) (n:Nat),K.lookup a=some o/\o.cls=.type "tuple"/\o.data=.seq its n/\its.size<=aH/\Vals xs its.toList
noncomputable def absV:Value->Option V
 | .none=>some .non
 | .bool b=>some (.bl b)
 | .int i _=>some (.int i)
 | .str x _=>some (.str x)
 | .bytes b _=>some (.byt b)
 | .float b _=>some (.flt b)
 | .ref a=>some (.ref a)
 | .type n=>some (.ty n)
 | _=>none
theorem RelV.abs {x:V}{u:Value}(r:RelV x u):absV u=some x:=by
 cases x with
 | non=>cases r;rfl
 | bl _=>cases r;rfl
 | int _=>obtain⟨t,rfl⟩:=r;rfl
 | str _=>obtain⟨t,rfl⟩:=r;rfl
 | byt _=>obtain⟨t,rfl⟩:=r;rfl
 | flt _=>obtain⟨t,rfl⟩:=r;rfl
 | ref _=>cases r;rfl
 | ty _=>cases r;rfl
theorem RelV.inj {x y:V}{u:Value}(r:RelV x u)(q:RelV y u):x=y:=au (r.abs.symm.trans q.abs)
theorem Vals.inj:∀ {xs ys:List V} {us:List Value},Vals xs us->Vals ys us->xs=ys
 | _,_,_,.nil,.nil=>rfl
 | _,_,_,.cons r t,.cons r' t'=>by rw[r.inj r',Vals.inj t t']
section
variable {X:Cx} {pins:List (Addr×Obj)} {σ:St} {H:Hp} {s:ae} {a:Addr} {xs ys:List V}
theorem SqL.of {K:ab}(h:H a=some (.lst xs)):SqL K H a xs:=.inl (.inl h)
theorem SqT.of {K:ab}(h:H a=some (.tup xs)):SqT K H a xs:=.inl (.inl h)
theorem Inv.list (I:Inv X pins σ H s)(h:SqL X.K H a xs):∃ its:List Value,Vals xs its/\PlainL s.heap a its.toArray/\xs.length<=aH:=by
 rcases h with h|⟨o,its,n,hk,hc,hd,hs,hz,r⟩
 ·obtain⟨z,its,n,r,e⟩:=h.ok I.hok
  exact⟨its,r,⟨_,n,e,rfl,rfl,rfl⟩,z⟩
 ·refine⟨its.toList,r,⟨o,n,I.kIn a o hk,hc,hd,by simpa using hs⟩,?_⟩
  have e:=r.length
  simp only[eh]at e
  omega
theorem Inv.tuple (I:Inv X pins σ H s)(h:SqT X.K H a xs):∃ its:List Value,Vals xs its/\IsTup s.heap a its.toArray/\xs.length<=aH:=by
 rcases h with h|⟨o,its,n,hk,hc,hs,hz,r⟩
 ·obtain⟨z,its,r,p⟩:=h.ok I.hok
  exact⟨its,r,p,z⟩
 ·refine⟨its.toList,r,⟨o,I.kIn a o hk,hc,n,by simpa using hs⟩,?_⟩
  have e:=r.length
  simp only[eh]at e
  omega
theorem Inv.list_inj (I:Inv X pins σ H s)(h:SqL X.K H a xs)(h':SqL X.K H a ys):xs=ys:=by
 obtain⟨its,r,⟨o,n,e,_,_,d⟩,_⟩:=I.list h
 obtain⟨its',r',⟨o',n',e',_,_,d'⟩,_⟩:=I.list h'
 rw[e]at e';cases e'
 rw[d]at d'
 injection d' with d1 _
 have:its=its':=by simpa using congrArg ic d1
 subst this
 exact r.inj r'
theorem Inv.tuple_inj (I:Inv X pins σ H s)(h:SqT X.K H a xs)(h':SqT X.K H a ys):xs=ys:=by
 obtain⟨its,r,⟨o,e,_,n,d⟩,_⟩:=I.tuple h
 obtain⟨its',r',⟨o',e',_,n',d'⟩,_⟩:=I.tuple h'
 rw[e]at e';cases e'
 rw[d]at d'
 injection d' with d1 _
 have:its=its':=by simpa using congrArg ic d1
 subst this
 exact r.inj r'
end
noncomputable abbrev Cx.wish (X:Cx)(E:Value->ae->Prop):Cx:={ X with xe:=E }
noncomputable abbrev Cx.nox (X:Cx):Cx:=X.wish λ _ _=>False
theorem Cx.Ok.wish {X:Cx}(ok:X.Ok)(E:Value->ae->Prop):(X.wish E).Ok :=
 ⟨ok.mod,ok.kind,ok.glob,ok.blt,ok.above,ok.inj,ok.has,ok.cab,ok.hd,ok.frames,ok.stk,ok.exf,ok.bs,ok.bsz,ok.noex,ok.exfs,ok.funs,ok.frf⟩
theorem Cx.Ok.unwish {X:Cx}{E:Value->ae->Prop}(ok:(X.wish E).Ok):X.Ok :=
 ⟨ok.mod,ok.kind,ok.glob,ok.blt,ok.above,ok.inj,ok.has,ok.cab,ok.hd,ok.frames,ok.stk,ok.exf,ok.bs,ok.bsz,ok.noex,ok.exfs,ok.funs,ok.frf⟩
section
variable {X:Cx} {pins:List (Addr×Obj)} {σ:St} {H:Hp} {s:ae} {E:Value->ae->Prop}
theorem Inv.wish (I:Inv X pins σ H s)(E:Value->ae->Prop):Inv (X.wish E) pins σ H s:=⟨I.ok.wish E,I.os,I.bare,I.base,I.loc,I.cell,I.free,I.freeC,I.pin,I.hok,I.len⟩
theorem Inv.unwish (I:Inv (X.wish E) pins σ H s):Inv X pins σ H s:=⟨I.ok.unwish,I.os,I.bare,I.base,I.loc,I.cell,I.free,I.freeC,I.pin,I.hok,I.len⟩
theorem SP.unwish {D:Ends}{f:Flow}{s':ae}(h:SP (X.wish E) pins D f s'):SP X pins D f s':=by
 cases f with
 | next=>obtain⟨σ',H',I,q⟩:=h;exact⟨σ',H',I.unwish,q⟩
 | brk=>obtain⟨σ',H',I,q⟩:=h;exact⟨σ',H',I.unwish,q⟩
 | cont=>obtain⟨σ',H',I,q⟩:=h;exact⟨σ',H',I.unwish,q⟩
 | ret u=>obtain⟨v,σ',H',I,r,q⟩:=h;exact⟨v,σ',H',I.unwish,r,q⟩
theorem PSs.nox {st:List Stmt}{t:TS}(h:PSs X.nox st t):PSs X st t:=λ pins s σ H D I hw =>
 b8 (h pins s σ H D (I.wish _) hw) (λ _ _ q=>q.unwish) λ _ _ z=>bz z
end
section
variable {X:Cx} {st:Stmt} {rest:List Stmt} {t u:TS} {e:Expr} {te:TE} {pos:Pos}
noncomputable def tNext:TS:=λ D σ H=>D.nx σ H
noncomputable def tSeq (t u:TS):TS:=λ D σ H=>t { D with nx:=u D } σ H
theorem pss_nil:PSs X [] tNext:=λ _ _ σ H _ I h=>wpAny_execs_nil ⟨σ,H,I,h⟩
theorem pss_cons (h1:PS X st t)(h2:PSs X rest u):PSs X (st::rest) (tSeq t u):=by
 intro pins s σ H D I h
 refine wpAny_execs_cons (thn (h1 pins s σ H { D with nx:=u D } I h) λ f s1 q=>?_)
 cases f with
 | next =>
  obtain⟨σ',H',I',q⟩:=q
  exact h2 pins s1 σ' H' D I' q
 | ret v=>exact q
 | brk=>exact q
 | cont=>exact q
theorem Inv.quiet {pins:List (Addr×Obj)}{σ:St}{H:Hp}{s:ae}(I:Inv X pins σ H s):interactive X.env=false:=by simp[interactive,I.ok.kind]
noncomputable def tDrop (te:TE):TS:=λ D σ H=>te σ H λ _ H1=>D.nx σ H1
theorem ps_expr (he:PE X e te)(hs:fv e none pos.line X.env=pure false:=by rfl):PS X (.Expr e pos) (tDrop te):=by
 intro pins s σ H D I h
 exact wpAny_Expr_any (thn (he pins s σ H _ I h) λ v s1 ⟨x,H1,I1,r1,q1⟩=>⟨σ,H1,I1,q1⟩) I.quiet hs
noncomputable def tRet (te:TE):TS:=λ D σ H=>te σ H D.rt
theorem ps_ret (he:PE X e te):PS X (.Return (some e) pos) (tRet te):=by
 intro pins s σ H D I h
 exact wpAny_Return_some (thn (he pins s σ H _ I h) λ v s1 ⟨x,H1,I1,r1,q1⟩=>⟨x,σ,H1,I1,r1,q1⟩)
noncomputable def tIfS (c:TT)(t u:TS):TS:=λ D σ H=>c σ H λ b H1=>if b=true then t D σ H1 else u D σ H1
theorem ps_if {c:Expr}{a b:List Stmt}{tc:TT}(hc:PT X c tc)(ha:PSs X a t)(hb:PSs X b u):PS X (.If c a b pos) (tIfS tc t u):=by
 intro pins s σ H D I h
 refine wpAny_If (thn (hc pins s σ H _ I h) λ d s1 ⟨H1,I1,q1⟩=>?_)
 cases d with
 | true=>exact ha pins s1 σ H1 D I1 q1
 | false=>exact hb pins s1 σ H1 D I1 q1
noncomputable def tNever:TS:=λ _ _ _=>False
theorem ps_never:PS X st tNever:=λ _ _ _ _ _ _ h=>h.elim
end
noncomputable abbrev TG:=V->St->Hp->(St->Hp->Prop)->Prop
noncomputable abbrev TGs:=List V->St->Hp->(St->Hp->Prop)->Prop
noncomputable def PG (X:Cx)(target:Expr)(t:TG):Prop :=
 ∀(pins:List (Addr×Obj)) (s:ae) (σ:St) (H:Hp) (v:V) (u:Value) (Q:St->Hp->Prop),Inv X pins σ H s->RelV v u->t v σ H Q ->
  wpAny (model X.prog X.w) X.A (fH target X.env u) (λ _ s'=>∃ σ' H',Inv X pins σ' H' s'/\Q σ' H') X.xe s
noncomputable def PGs (X:Cx)(ts:List Expr)(t:TGs):Prop :=
 ∀(pins:List (Addr×Obj)) (s:ae) (σ:St) (H:Hp) (vs:List V) (us:List Value) (Q:St->Hp->Prop),Inv X pins σ H s->Vals vs us->t vs σ H Q ->
  wpAny (model X.prog X.w) X.A (assignInOrder ((cg ts X.env).map (·.2)) us) (λ _ s'=>∃ σ' H',Inv X pins σ' H' s'/\Q σ' H') X.xe s
noncomputable abbrev TSet:=V->V->V->Hp->(Hp->Prop)->Prop
noncomputable def PSet (X:Cx)(t:TSet):Prop :=
 ∀(pins:List (Addr×Obj)) (s:ae) (σ:St) (H:Hp) (o i v:V) (ov iv u:Value) (Q:Hp->Prop),Inv X pins σ H s->RelV o ov->RelV i iv->RelV v u->t o i v H Q ->
  wpAny (model X.prog X.w) X.A (setItem ov iv u) (λ _ s'=>∃ H',Inv X pins σ H' s'/\Q H') X.xe s
section
variable {X:Cx} {pos:Pos}
noncomputable def gName (i:Nat):TG:=λ v σ H Q=>Q (σ.set i (some v)) H
theorem pg_name {i:Nat}{x:Str}(hN:X.N.Nodup)(hi:X.N[i]?=some x)(hx:Loc X.env.scope x)(hf:X.fn x=true\/X.env.scope.names.lookup x=some .local:=by first|exact .inl rfl|exact .inr rfl|assumption):PG X (.Name x pos) (gName i):=by
 intro pins s σ H v u Q I r h
 exact ie (store_ok I hN hi hx r (λ s' I'=>⟨_,H,I',h⟩) hf)
noncomputable def gNil:TGs:=λ vs σ H Q=>vs=[]/\Q σ H
noncomputable def gCons (t:TG)(u:TGs):TGs:=λ vs σ H Q=>∃ v r,vs=v::r/\t v σ H λ σ' H'=>u r σ' H' Q
theorem pgs_nil:PGs X [] gNil:=by
 intro pins s σ H vs us Q I r h
 obtain⟨e,h⟩:=h
 subst e
 cases r
 exact assignInOrder_nil ⟨σ,H,I,h⟩
theorem pgs_cons {e:Expr}{es:List Expr}{t:TG}{u:TGs}(h1:PG X e t)(h2:PGs X es u)
  (hs:(cg (e::es) X.env).map (·.2)=fH e X.env::(cg es X.env).map (·.2):=by rfl):PGs X (e::es) (gCons t u):=by
 intro pins s σ H vs us Q I r h
 obtain⟨v,vr,e1,h⟩:=h
 subst e1
 cases r with
 | cons r rr =>
  rw[hs]
  refine assignInOrder_cons (thn (h1 pins s σ H _ _ _ I r h) λ _ s1 ⟨σ1,H1,I1,q1⟩=>?_)
  exact h2 pins s1 σ1 H1 _ _ Q I1 rr q1
noncomputable def gTup (K:ab)(n:Nat)(t:TGs):TG:=λ v σ H Q=>∃ a xs,v=.ref a/\SqT K H a xs/\xs.length=n/\t xs σ H Q
theorem pg_tup {es:List Expr}{k:Nat}{t:TGs}{n:Nat}(hc:X.calm=true)(h:PGs X es t)
  (hn:(cg es X.env).length=n:=by rfl) (hst:(cg es X.env).findIdx? (·.1)=none:=by rfl):PG X (.Tuple es k pos) (gTup X.K n t):=by
 intro pins s σ H v u Q I r hw
 obtain⟨a,xs,e1,hq,hl,hw⟩:=hw
 subst e1
 cases r
 obtain⟨its,rv,ht,hz⟩:=I.tuple hq
 refine assign_Tuple_tuple (I.ok.hd hc) ht (by simp[hn,<-hl,rv.length]) hst λ h' hx=>?_
 have I1:Inv X pins σ H { s with heap:=h' }:=I.kept (t':=s.toks) λ b o e=>hx b o (ay (aA e)) e
 exact h pins _ σ H xs _ Q I1 (by simpa using rv) hw
noncomputable def gSub (to ti:TE)(t:TSet):TG:=λ v σ H Q=>to σ H λ o H1=>ti σ H1 λ i H2=>t o i v H2 λ H3=>Q σ H3
theorem pg_sub {o i:Expr}{to ti:TE}{t:TSet}(ho:PE X o to)(hi:PE X i ti)(hs:PSet X t)
  (ha:∀ v,fH (.Subscript o i pos) X.env v=(do
   let ov <- ib [v] (eval o X.env)
   let iv <- ib [v,ov] (eval i X.env)
   standAt pos
   ib [v,ov,iv] (setItem ov iv v)
   release [v,ov,iv] []):=by intro _;rfl):PG X (.Subscript o i pos) (gSub to ti t):=by
 intro pins s σ H v u Q I r h
 rw[ha]
 refine ai (cO (thn (ho pins s σ H _ I h) λ ov s1 ⟨x,H1,I1,r1,q1⟩=>?_))
 refine ai (cO (thn (hi pins s1 σ H1 _ I1 q1) λ iv s2 ⟨y,H2,I2,r2,q2⟩=>?_))
 refine ai (gO (ai (cO (thn (hs pins s2 σ H2 x y v ov iv u _ I2 r1 r2 r q2) λ _ s3 ⟨H3,I3,q3⟩=>?_))))
 exact wpAny_release ⟨σ,H3,I3,q3⟩
noncomputable def tAsg (te:TE)(g:TG):TS:=λ D σ H=>te σ H λ x H1=>g x σ H1 D.nx
theorem ps_asg {tg e:Expr}{te:TE}{g:TG}(he:PE X e te)(hg:PG X tg g)(hs:swapsWithSole [tg] e pos.line X.env=pure false:=by rfl)(hw:swappedStores [tg] e X.env=pure none:=by rfl)
  (h1:(cg [tg] X.env).map (·.2)=[fH tg X.env]:=by rfl):PS X (.Assign [tg] e pos) (tAsg te g):=by
 intro pins s σ H D I h
 refine wpAny_Assign_stores (thn (he pins s σ H _ I h) λ v s1 ⟨x,H1,I1,r1,q1⟩=>?_) hs hw
 rw[h1]
 exact thn (hg pins s1 σ H1 x v _ I1 r1 q1) λ _ s2 q=>q
theorem ps_set {i:Nat}{x:Str}{e:Expr}{te:TE}{pos':Pos}(hN:X.N.Nodup)(hi:X.N[i]?=some x)(hx:Loc X.env.scope x)(he:PE X e te)(hs:fv e (some (.Name x pos')) pos.line X.env=pure false:=by rfl)(hf:X.fn x=true\/X.env.scope.names.lookup x=some .local:=by first|exact .inl rfl|exact .inr rfl|assumption) :
  PS X (.Assign [.Name x pos'] e pos) (tAsg te (gName i)):=by
 intro pins s σ H D I h
 refine wpAny_Assign_Name (thn (he pins s σ H _ I h) λ v s1 ⟨y,H1,I1,r1,q1⟩=>?_) hs
 exact store_ok I1 hN hi hx r1 (λ s2 I2=>⟨_,H1,I2,q1⟩) hf
end
section
variable {X:Cx} {pos:Pos}
end
structure It where
 go:Nat->Hp->Prop
 yld:Nat->Hp->V->Hp->Prop
 stop:Nat->Hp->Prop
noncomputable def FpOk (X:Cx)(pins:List (Addr×Obj))(H:Hp)(b:Addr):Prop :=
 H b=none/\b≠X.env.locals/\b ∉ X.fs/\(b∈X.ex\/X.s₀.heap.objs.size<=b)/\(∀ x c,X.env.cells.lookup x=some c->c≠b)/\∀ p∈X.pn++pins,p.1≠b
theorem Inv.fpOk {X:Cx}{pins:List (Addr×Obj)}{σ:St}{H H':Hp}{s:ae}{b:Addr}(I:Inv X pins σ H s)(hb:s.heap.objs.size<=b)(hn:H' b=none):FpOk X pins H' b:=by
 refine⟨hn,c5 (aq I.lt hb),I.nofs hb,.inr (am I.sz hb),λ x c e z=>?_,λ p hp z=>?_⟩
 ·obtain⟨v,q⟩:=I.cell x c e
  exact absurd (aq q.lt (by rw[z];exact hb)) (bp _)
 ·exact absurd (aq (aA (I.pin p hp).1) (by rw[z];exact hb)) (bp _)
structure Turn (P:aL)(w:World)(K:ab)(tg:Expr)(J:It)(fp:List Addr)(it:Addr)(tn:Nat->Heap->Prop):Prop where
 mem:it∈fp
 obj:∀ i h,tn i h->∀ b∈fp,∃ o,h.get? b=some o/\∀ v,o.data≠.cell v
 keep:∀ i h h',tn i h->(∀ b∈fp,∀ o,h.get? b=some o->h'.get? b=some o)->tn i h'
 item:∀(X:Cx),X.prog=P->X.w=w->X.K=K->X.calm=true->∀(i:Nat) (pins:List (Addr×Obj)) (s:ae) (σ:St) (H:Hp) (E:Value->ae->Prop),Inv X pins σ H s->(∀ b∈fp,FpOk X pins H b)->tn i s.heap->J.go i H ->
  wpAny (model P w) X.A (iu (.ref it)) (λ r s1=>∃ u,r=some u /\
   wpAny (model P w) X.A (d6 tg (.ref it) u) (λ _ s2=>∃ x H',Inv X pins σ H' s2/\RelV x u/\J.yld i H x H'/\tn (i+1) s2.heap/\∀ b∈fp,H' b=none) E s1) E s
 done:∀(X:Cx),X.prog=P->X.w=w->X.K=K->X.calm=true->∀(i:Nat) (pins:List (Addr×Obj)) (s:ae) (σ:St) (H:Hp) (E:Value->ae->Prop),Inv X pins σ H s->(∀ b∈fp,FpOk X pins H b)->tn i s.heap->J.stop i H ->
  wpAny (model P w) X.A (iu (.ref it)) (λ r s1=>r=none/\Inv X pins σ H s1) E s
 self:∀(A:aS) (i:Nat) (s:ae) (Q:Value->ae->Prop) (E:Value->ae->Prop),tn i s.heap->Q (.ref it) s->wpAny (model P w) A (ju (.ref it)) Q E s
noncomputable abbrev TI:=St->Hp->(It->Hp->Prop)->Prop
noncomputable def PIE (X:Cx)(pins:List (Addr×Obj))(σ:St)(tg:Expr)(R:It->Hp->Prop)(itv:Value)(s2:ae):Prop :=
 ∃(it:Addr) (fp:List Addr) (tn:Nat->Heap->Prop) (J:It) (H':Hp),itv=.ref it/\Inv X pins σ H' s2/\Turn X.prog X.w X.K tg J fp it tn/\tn 0 s2.heap/\(∀ b∈fp,FpOk X pins H' b)/\R J H'
noncomputable def PI (X:Cx)(tg iter:Expr)(wi:TI):Prop :=
 ∀(pins:List (Addr×Obj)) (s:ae) (σ:St) (H:Hp) (R:It->Hp->Prop),Inv X pins σ H s->wi σ H R ->
  wpAny (model X.prog X.w) X.A (eval iter X.env) (λ v s1=>wpAny (model X.prog X.w) X.A (ju v) (PIE X pins σ tg R) X.xe s1) X.xe s
theorem go_of {M : Model} {A : Around} {E : Value -> Shared -> Prop} {s : Shared} {tg : Expr} {it : Addr} {u : Value} {o : Obj} {n : String} {vs : Array Value} {Q : Unit -> Shared -> Prop} (ho : s.heap.get? it = some o) (hc : o.cls = .type n) (hd : o.data = .fields vs)
    (hn : ["enumerate", "zip", "dict_itemiterator", "dict_reverseitemiterator", "odict_iterator", "itertools.zip_longest", "itertools.pairwise"].contains n = false) (hQ : Q () s) : wpAny M A (d6 tg (.ref it) u) Q E s := by
  unfold d6
  cases tg <;> first
    | exact aE hQ
    | (cases u <;> first
        | exact aE hQ
        | (refine ai (wpAny_load ho ?_)
           rw[hc, hd]
           show wpAny M A (if(["enumerate", "zip", "dict_itemiterator", "dict_reverseitemiterator", "odict_iterator", "itertools.zip_longest", "itertools.pairwise"].contains n && vs[0]? == some (cD _)) = true then _ else _) Q E s
           rw[if_neg (by intro h; rw[hn, Bool.false_and]at h; cases h)]
           exact aE hQ))
noncomputable def Itl (K:ab)(a:Addr):It :=
 ⟨λ i H=>∃ xs x,SqL K H a xs/\xs[i]?=some x,λ i H x H'=>H'=H/\∀ xs,SqL K H a xs->xs[i]?=some x,λ i H=>∃ xs,SqL K H a xs/\xs.length<=i⟩
noncomputable def Itt (K:ab)(a:Addr):It :=
 ⟨λ i H=>∃ xs x,SqT K H a xs/\xs[i]?=some x,λ i H x H'=>H'=H/\∀ xs,SqT K H a xs->xs[i]?=some x,λ i H=>∃ xs,SqT K H a xs/\xs.length<=i⟩
noncomputable def Itr (lo:Int)(n:Nat):It:=⟨λ i _=>i<n,λ i H x H'=>H'=H/\x=.int (lo+i),λ i _=>n<=i⟩
theorem turn_list {P:aL}{w:World}{K:ab}{tg:Expr}(a it:Addr):Turn P w K tg (Itl K a) [it] it (λ i h=>h.IsListIter it a i) where
 mem:=by simp
 obj:=λ i h st b hb=>by
  have e:b=it:=by simpa using hb
  subst e
  obtain⟨o,e,c,d⟩:=st
  exact⟨o,e,λ v z=>by rw[d]at z;cases z⟩
 keep:=λ i h h' st k=>st.at λ o e=>k it (by simp) o e
 item:=by
  intro X hP hw hK hc i pins s σ H E I hf st hg
  subst hP hw hK
  obtain⟨xs,x,hq,hx⟩:=hg
  obtain⟨its,rv,p,hz⟩:=I.list hq
  obtain⟨u,hu,ru⟩:=rv.get hx
  obtain⟨f0,f1,f2,f3,f4,f5⟩:=hf it (by simp)
  refine wpAny_pyNext_list_item st p.isList (x:=u) (by simpa using hu) λ h' st' sb=>?_
  have I1:Inv X pins σ H { s with heap:=h' }:=I.turned (t':=s.toks) (λ b o hb e=>(sb.2 b hb).trans e) f0 f1 f3 f4 f5
  obtain⟨o,e,c,d⟩:=id st'
  exact⟨u,rfl,go_of (s:={ s with heap:=h' }) e c d (by decide) ⟨x,H,I1,ru,⟨rfl,λ ys hy=>by rw[I.list_inj hy hq];exact hx⟩,st',λ b hb=>(hf b hb).1⟩⟩
 done:=by
  intro X hP hw hK hc i pins s σ H E I hf st hg
  subst hP hw hK
  obtain⟨xs,hq,hx⟩:=hg
  obtain⟨its,rv,p,hz⟩:=I.list hq
  obtain⟨f0,f1,f2,f3,f4,f5⟩:=hf it (by simp)
  have hl:=rv.length
  exact wpAny_pyNext_list_end (I.ok.hd hc) st p.isList (by simp;omega) λ h' eb=>⟨rfl,I.turned (t':=s.toks) (λ b o hb e=>eb b o hb e) f0 f1 f3 f4 f5⟩
 self:=λ _ _ _ _ _ st h=>wpAny_pyIter_listiter st h
theorem turn_tuple {P:aL}{w:World}{K:ab}{tg:Expr}(a it:Addr):Turn P w K tg (Itt K a) [it] it (λ i h=>h.IsTupleIter it a i) where
 mem:=by simp
 obj:=λ i h st b hb=>by
  have e:b=it:=by simpa using hb
  subst e
  obtain⟨o,e,c,d⟩:=st
  exact⟨o,e,λ v z=>by rw[d]at z;cases z⟩
 keep:=λ i h h' st k=>st.at λ o e=>k it (by simp) o e
 item:=by
  intro X hP hw hK hc i pins s σ H E I hf st hg
  subst hP hw hK
  obtain⟨xs,x,hq,hx⟩:=hg
  obtain⟨its,rv,p,hz⟩:=I.tuple hq
  obtain⟨u,hu,ru⟩:=rv.get hx
  obtain⟨f0,f1,f2,f3,f4,f5⟩:=hf it (by simp)
  refine wpAny_pyNext_tuple_item st (show s.heap.IsTuple a its.toArray from p) (x:=u) (by simpa using hu) λ h' st' sb=>?_
  have I1:Inv X pins σ H { s with heap:=h' }:=I.turned (t':=s.toks) (λ b o hb e=>(sb.2 b hb).trans e) f0 f1 f3 f4 f5
  obtain⟨o,e,c,d⟩:=id st'
  exact⟨u,rfl,go_of (s:={ s with heap:=h' }) e c d (by decide) ⟨x,H,I1,ru,⟨rfl,λ ys hy=>by rw[I.tuple_inj hy hq];exact hx⟩,st',λ b hb=>(hf b hb).1⟩⟩
 done:=by
  intro X hP hw hK hc i pins s σ H E I hf st hg
  subst hP hw hK
  obtain⟨xs,hq,hx⟩:=hg
  obtain⟨its,rv,p,hz⟩:=I.tuple hq
  obtain⟨f0,f1,f2,f3,f4,f5⟩:=hf it (by simp)
  have hl:=rv.length
  exact wpAny_pyNext_tuple_end (I.ok.hd hc) st (show s.heap.IsTuple a its.toArray from p) (by simp;omega) λ h' eb=>⟨rfl,I.turned (t':=s.toks) (λ b o hb e=>eb b o hb e) f0 f1 f3 f4 f5⟩
 self:=λ _ _ _ _ _ st h=>wpAny_pyIter_tupleiter st h
theorem turn_range {P:aL}{w:World}{K:ab}{tg:Expr}(it:Addr)(lo:Int)(n:Nat):Turn P w K tg (Itr lo n) [it] it (λ i h=>IsRangeIter h it (lo+(i:Nat)*1) ((n:Int) - (i:Nat)) 1) where
 mem:=by simp
 obj:=λ i h st b hb=>by
  have e:b=it:=by simpa using hb
  subst e
  exact⟨_,st,λ v z=>by
   have z':Data.fields _=Data.cell v:=z
   cases z'⟩
 keep:=λ i h h' st k=>k it (by simp) _ st
 item:=by
  intro X hP hw hK hc i pins s σ H E I hf st hg
  subst hP hw hK
  obtain⟨f0,f1,f2,f3,f4,f5⟩:=hf it (by simp)
  have W:=Walks.range (prog:=X.prog) (w:=X.w) (I.ok.hd hc) it lo 1 n
  refine W.item i s _ _ hg st λ v h' tk hv st' kk=>?_
  obtain⟨t,rfl⟩:=hv
  have I1:Inv X pins σ H { s with heap:=h',toks:=tk }:=I.turned (λ b o hb e=>kk b o (by simpa using hb) e) f0 f1 f3 f4 f5
  refine⟨_,rfl,go_of (s:={ s with heap:=h',toks:=tk }) (n := "range_iterator") st' rfl rfl (by decide) ⟨.int (lo+i),H,I1,⟨t,?_⟩,⟨rfl,rfl⟩,st',λ b hb=>(hf b hb).1⟩⟩
  rw[Int.mul_one]
 done:=by
  intro X hP hw hK hc i pins s σ H E I hf st hg
  subst hP hw hK
  obtain⟨f0,f1,f2,f3,f4,f5⟩:=hf it (by simp)
  exact wpAny_pyNext_range_end (I.ok.hd hc) st (by have:n<=i:=hg;omega) λ h' eb=>⟨rfl,I.turned (t':=s.toks) (λ b o hb e=>eb b o hb e) f0 f1 f3 f4 f5⟩
 self:=λ _ _ _ _ _ st h=>wpAny_pyIter_rangeiter st h
section
variable {X:Cx} {tg:Expr}
noncomputable def iList (K:ab)(tl:TE):TI:=λ σ H R=>tl σ H λ x H1=>∃ a,x=.ref a/\(∃ xs,SqL K H1 a xs)/\R (Itl K a) H1
noncomputable def iTup (K:ab)(tl:TE):TI:=λ σ H R=>tl σ H λ x H1=>∃ a,x=.ref a/\(∃ xs,SqT K H1 a xs)/\R (Itt K a) H1
theorem pi_list {l:Expr}{tl:TE}(hl:PE X l tl):PI X tg l (iList X.K tl):=by
 intro pins s σ H R I h
 refine thn (hl pins s σ H _ I h) λ v s1 ⟨x,H1,I1,r1,q1⟩=>?_
 obtain⟨a,e,⟨xs,hq⟩,q⟩:=q1
 subst e
 cases r1
 obtain⟨its,rv,p,hz⟩:=I1.list hq
 refine cS p.isList ?_
 refine⟨s1.heap.objs.size,[s1.heap.objs.size],_,_,H1,rfl,I1.kept (t':=s1.toks) λ b o e=>ag _ e,turn_list a _,⟨_,aM _ rfl,rfl,rfl⟩,λ b hb=>?_,q⟩
 have e:b=s1.heap.objs.size:=by simpa using hb
 subst e
 exact I1.fpOk (aj _) (I1.hok.fresh (aj _))
theorem pi_tup {l:Expr}{tl:TE}(hl:PE X l tl):PI X tg l (iTup X.K tl):=by
 intro pins s σ H R I h
 refine thn (hl pins s σ H _ I h) λ v s1 ⟨x,H1,I1,r1,q1⟩=>?_
 obtain⟨a,e,⟨xs,hq⟩,q⟩:=q1
 subst e
 cases r1
 obtain⟨its,rv,p,hz⟩:=I1.tuple hq
 refine gX (show s1.heap.IsTuple a its.toArray from p) ?_
 refine⟨s1.heap.objs.size,[s1.heap.objs.size],_,_,H1,rfl,I1.kept (t':=s1.toks) λ b o e=>ag _ e,turn_tuple a _,⟨_,aM _ rfl,rfl,rfl⟩,λ b hb=>?_,q⟩
 have e:b=s1.heap.objs.size:=by simpa using hb
 subst e
 exact I1.fpOk (aj _) (I1.hok.fresh (aj _))
theorem range_it {pins:List (Addr×Obj)}{σ:St}{H:Hp}{s:ae}{R:It->Hp->Prop}{E:Value->ae->Prop}{lo hi:Int}{t u v:Tok}{tk:Nat}(I:Inv X pins σ H s)(h1:-(2^62)<=lo)(h2:lo<2^62)(h3:-(2^62)<=hi)(h4:hi<2^62)
  (q:R (Itr lo (hi - lo).toNat) H):wpAny (model X.prog X.w) X.A (ju (.ref s.heap.objs.size)) (PIE X pins σ tg R) E { s with heap:=s.heap.push { cls:=.type "range",data:=.fields #[.int lo t,.int hi u,.int 1 v] },toks:=tk }:=by
 refine wpAny_pyIter_range (IsRange.new ..) (small_one h1 h2 h3 h4) ?_
 have I1:Inv X pins σ H { s with heap:=s.heap.push { cls:=.type "range",data:=.fields #[.int lo t,.int hi u,.int 1 v] },toks:=tk }:=I.kept λ b o e=>ag _ e
 refine⟨(s.heap.push { cls:=.type "range",data:=.fields #[.int lo t,.int hi u,.int 1 v] }).objs.size,[(s.heap.push { cls:=.type "range",data:=.fields #[.int lo t,.int hi u,.int 1 v] }).objs.size],_,_,H,rfl,
  I1.kept (t':=tk) λ b o e=>ag _ e,turn_range _ lo (hi - lo).toNat,?_,λ b hb=>?_,q⟩
 ·have e1:lo+((0:Nat):Int)*1=lo:=by simp
  have e2:(((hi - lo).toNat:Nat):Int) - ((0:Nat):Int)=jq lo hi 1:=by rw[rangeSize_one];split<;>omega
  show IsRangeIter _ _ (lo+((0:Nat):Int)*1) ((((hi - lo).toNat:Nat):Int) - ((0:Nat):Int)) 1
  rw[e1,e2]
  exact aM _ rfl
 ·have e:b=(s.heap.push { cls:=.type "range",data:=.fields #[.int lo t,.int hi u,.int 1 v] }).objs.size:=by simpa using hb
  subst e
  exact I1.fpOk (aj _) (I1.hok.fresh (aj _))
noncomputable def iRng1 (ta:TA):TI:=λ σ H R=>ta σ H λ vs H1=>∃ j:Int,vs=[.int j]/\-(2^62)<=j/\j<2^62/\R (Itr 0 j.toNat) H1
theorem pi_range1 {a:Expr}{ta:TA}{p pos:Pos}(hg:Gl X "range")(hm:X.mg "range"=none)(ha:PA X [a] ta)(hs:bf [a] X.env=[(false,eval a X.env)]:=by rfl):PI X tg (.Call (.Name "range" p) [a] [] pos) (iRng1 ta):=by
 intro pins s σ H R I h
 refine Call_ (ld_blt I hg hm boot_range (et (thn (ha pos pins s σ H _ I h) λ us s1 ⟨vs,H1,I1,r1,q1⟩=>?_) hs rfl))
 obtain⟨j,e,q1,q2,q⟩:=q1
 subst e
 cases r1 with
 | cons r rr =>
  cases rr
  obtain⟨t,rfl⟩:=r
  exact call_range_1 (range_it I1 (by omega) (by omega) q1 q2 (by simpa using q))
noncomputable def tFor (wi:TI)(g:TG)(tb:TS):TS:=λ D σ H=>wi σ H λ J H1=>∃ W:Nat->Nat->St->Hp->Prop,(∃ m,W 0 m σ H1)/\∀ i m σ H,W i m σ H ->
 (J.stop i H/\D.nx σ H)\/(J.go i H/\∃ N:St->Hp->Prop,(∀ σ' H',N σ' H'->∃ m',m'<m/\W (i+1) m' σ' H')/\∀ x H',J.yld i H x H'->g x σ H' λ σ2 H2=>tb { D with nx:=N,ct:=N,bk:=D.nx } σ2 H2)
noncomputable def pinsAt (fp:List Addr)(h:Heap):List (Addr×Obj):=fp.filterMap λ b=>(h.get? b).map λ o=>(b,o)
theorem ja {fp:List Addr}{h:Heap}{b:Addr}{o:Obj}(hb:b∈fp)(e:h.get? b=some o):(b,o)∈pinsAt fp h:=bW.mpr ⟨b,hb,by rw[e];rfl⟩
theorem of_pinsAt {fp:List Addr}{h:Heap}{p:Addr×Obj}(hp:p∈pinsAt fp h):p.1∈fp/\h.get? p.1=some p.2:=by
 obtain⟨b,hb,e⟩:=bW.mp hp
 cases q:h.get? b with
 | none=>rw[q]at e;cases e
 | some o =>
  rw[q]at e
  have e':(b,o)=p:=au e
  subst e'
  exact⟨hb,q⟩
theorem Inv.pinned {pins:List (Addr×Obj)}{σ:St}{H:Hp}{s:ae}{fp:List Addr}(I:Inv X pins σ H s)(hf:∀ b∈fp,FpOk X pins H b)(ho:∀ b∈fp,∃ o,s.heap.get? b=some o/\∀ v,o.data≠.cell v):Inv X (pins++pinsAt fp s.heap) σ H s :=
 I.pins_of λ p hp=>(bw.mp hp).elim (λ z=>I.pin p (bn _ z)) λ z=>by
  obtain⟨hb,e⟩:=of_pinsAt z
  obtain⟨f0,f1,f2,_⟩:=hf p.1 hb
  obtain⟨o,e',d⟩:=ho p.1 hb
  rw[e]at e';cases e'
  exact⟨e,f0,f1,f2,d⟩
theorem Inv.unpinned {pins pl:List (Addr×Obj)}{σ:St}{H:Hp}{s:ae}(I:Inv X (pins++pl) σ H s):Inv X pins σ H s:=I.pins_of λ p hp=>I.pin p (bn _ (gf _ hp))
theorem ps_for {iter:Expr}{body:List Stmt}{wi:TI}{g:TG}{tb:TS}{pos:Pos}(hp:PassesOwn (model X.prog X.w) X.A X.env X.xe)(hc:X.calm=true)(hi:PI X tg iter wi)(hg:PG X tg g)(hb:PSs X body tb)
  (hs:∀ x,cT iter X.env x=pure x:=by intro _;rfl):PS X (.For tg iter body [] pos) (tFor wi g tb):=by
 intro pins s σ H D I h
 refine wpAny_For (thn (hi pins s σ H _ I h) λ v s1 h1=>thn h1 λ itv s2 h2=>?_) hs
 obtain⟨it,fp,tn,J,H2,e,I2,T,st2,f2,W,⟨m0,w0⟩,turn⟩:=h2
 subst e
 have stat:∀ {H':Hp},(∀ b∈fp,H' b=none)->∀ b∈fp,FpOk X pins H' b:=λ hn b hb=>⟨hn b hb,(f2 b hb).2⟩
 refine codeAny_forLoop_any (λ n s'=>∃ i σ' H',Inv X pins σ' H' s'/\tn i s'.heap/\(∀ b∈fp,H' b=none)/\W i n σ' H') ?_ m0 ⟨0,σ,H2,I2,st2,λ b hb=>(f2 b hb).1,w0⟩
 rintro n s3 ⟨i,σ3,H3,I3,st3,fr3,w3⟩
 rcases turn i n σ3 H3 w3 with⟨stop,qn⟩|⟨go,N,hN,step⟩
 ·refine dj hp (thn (T.done X rfl rfl rfl hc i pins s3 σ3 H3 X.xe I3 (stat fr3) st3 stop) λ r s4 ⟨hr,I4⟩=>?_)
  subst hr
  exact wpAny_execs_nil ⟨σ3,H3,I4,qn⟩
 ·refine dj hp (thn (T.item X rfl rfl rfl hc i pins s3 σ3 H3 X.xe I3 (stat fr3) st3 go) λ r s4 ⟨u,hr,h4⟩=>?_)
  subst hr
  refine dj hp (thn h4 λ _ s5 ⟨x,H5,I5,r5,y5,st5,fr5⟩=>?_)
  have I5':=I5.pinned (stat fr5) (T.obj _ _ st5)
  refine dj hp (thn (hg _ s5 σ3 H5 x u _ I5' r5 (step x H5 y5)) λ _ s6 ⟨σ6,H6,I6,q6⟩=>?_)
  refine dj hp (thn (hb _ s6 σ6 H6 _ I6 q6) λ f s7 q7=>?_)
  have again:∀ {σ7:St} {H7:Hp},Inv X (pins++pinsAt fp s5.heap) σ7 H7 s7->N σ7 H7->∃ m,m<n/\∃ i σ' H',Inv X pins σ' H' s7/\tn i s7.heap/\(∀ b∈fp,H' b=none)/\W i m σ' H':=λ {σ7 H7} I7 n7=>by
   obtain⟨m',hm,w7⟩:=hN σ7 H7 n7
   refine⟨m',hm,i+1,σ7,H7,I7.unpinned,T.keep _ _ _ st5 λ b hb o e=>(I7.pin (b,o) (bn _ (bn _ (ja hb e)))).1,λ b hb=>?_,w7⟩
   obtain⟨o,e,d⟩:=T.obj _ _ st5 b hb
   exact(I7.pin (b,o) (bn _ (bn _ (ja hb e)))).2.1
  cases f with
  | next=>obtain⟨σ7,H7,I7,n7⟩:=q7;exact again I7 n7
  | cont=>obtain⟨σ7,H7,I7,n7⟩:=q7;exact again I7 n7
  | brk=>obtain⟨σ7,H7,I7,q7⟩:=q7;exact⟨σ7,H7,I7.unpinned,q7⟩
  | ret v=>obtain⟨x7,σ7,H7,I7,r7,q7⟩:=q7;exact⟨x7,σ7,H7,I7.unpinned,r7,q7⟩
end
noncomputable abbrev R2:=V->V->Hp->VK->Prop
noncomputable def OpR (X:Cx)(f:Value->Value->Sem Value)(r:R2):Prop :=
 ∀(pins:List (Addr×Obj)) (s:ae) (σ:St) (H:Hp) (x y:V) (v u:Value) (Q:VK),Inv X pins σ H s->RelV x v->RelV y u->r x y H Q ->
  wpAny (model X.prog X.w) X.A (f v u) (EP X pins σ Q) X.xe s
noncomputable def CallR (X:Cx)(f:Value)(r:List V->Hp->VK->Prop):Prop :=
 ∀(pins:List (Addr×Obj)) (s:ae) (σ:St) (H:Hp) (xs:List V) (us:List Value) (Q:VK),Inv X pins σ H s->Vals xs us->r xs H Q ->
  wpAny (model X.prog X.w) X.A (call f us) (EP X pins σ Q) X.xe s
noncomputable def tOp (r:R2)(ta tb:TE):TE:=λ σ H Q=>ta σ H λ x H1=>tb σ H1 λ y H2=>r x y H2 Q
noncomputable def rI (C:Int->Int->Prop)(g:Int->Int->V):R2:=λ x y H Q=>∃ i j,x=.int i/\y=.int j/\C i j/\Q (g i j) H
noncomputable def rI0 (g:Int->Int->V):R2:=λ x y H Q=>∃ i j,x=.int i/\y=.int j/\Q (g i j) H
section
variable {X:Cx} {a b c:Expr} {ta tb tc:TE} {pos:Pos}
theorem binT (ha:PE X a ta)(hb:PE X b tb){pins:List (Addr×Obj)}{s:ae}{σ:St}{H:Hp}{R:V->V->Hp->Prop}(I:Inv X pins σ H s)
  (h:ta σ H λ x H1=>tb σ H1 λ y H2=>R x y H2) {Q:Value->ae->Prop} {f:Value->Value->Sem Value}
  (hf:∀ v u s2 x y H2,Inv X pins σ H2 s2->RelV x v->RelV y u->R x y H2->wpAny (model X.prog X.w) X.A (f v u) Q X.xe s2) :
  wpAny (model X.prog X.w) X.A (eval a X.env) (λ v s₁=>wpAny (model X.prog X.w) X.A (eval b X.env) (λ u s₂=>wpAny (model X.prog X.w) X.A (f v u) Q X.xe s₂) X.xe s₁) X.xe s:=by
 refine thn (ha pins s σ H _ I h) λ v s1 ⟨x,H1,I1,r1,q1⟩=>?_
 refine thn (hb pins s1 σ H1 _ I1 q1) λ u s2 ⟨y,H2,I2,r2,q2⟩=>?_
 exact hf v u s2 x y H2 I2 r1 r2 q2
theorem pe_op {op:Operator}{r:R2}(ho:OpR X (bV op) r)(ha:PE X a ta)(hb:PE X b tb):PE X (.BinOp a op b pos) (tOp r ta tb):=by
 intro pins s σ H Q I h
 exact wpAny_BinOp (binT ha hb I h λ v u s2 x y H2 I2 rx ry q=>ho pins s2 σ H2 x y v u Q I2 rx ry q)
theorem opI {f:Value->Value->Sem Value}{C:Int->Int->Prop}{g:Int->Int->Int}
  (rule:∀(i j:Int) (t u:Tok) (s:ae) (Q:Value->ae->Prop) (E:Value->ae->Prop),C i j->Q (.int (g i j) s.toks) { s with toks:=s.toks+1 }->wpAny (model X.prog X.w) X.A (f (.int i t) (.int j u)) Q E s) :
  OpR X f (rI C λ i j=>.int (g i j)):=by
 intro pins s σ H x y v u Q I rx ry h
 obtain⟨i,j,rfl,rfl,hc,q⟩:=h
 obtain⟨t,rfl⟩:=rx
 obtain⟨t',rfl⟩:=ry
 exact rule i j t t' s _ _ hc ⟨.int (g i j),H,I.tok _,⟨_,rfl⟩,q⟩
theorem opI0 {f:Value->Value->Sem Value}{g:Int->Int->Int}
  (rule:∀(i j:Int) (t u:Tok) (s:ae) (Q:Value->ae->Prop) (E:Value->ae->Prop),Q (.int (g i j) s.toks) { s with toks:=s.toks+1 }->wpAny (model X.prog X.w) X.A (f (.int i t) (.int j u)) Q E s) :
  OpR X f (rI0 λ i j=>.int (g i j)):=by
 intro pins s σ H x y v u Q I rx ry h
 obtain⟨i,j,rfl,rfl,q⟩:=h
 obtain⟨t,rfl⟩:=rx
 obtain⟨t',rfl⟩:=ry
 exact rule i j t t' s _ _ ⟨.int (g i j),H,I.tok _,⟨_,rfl⟩,q⟩
theorem opB0 {f:Value->Value->Sem Value}{g:Int->Int->Bool}
  (rule:∀(i j:Int) (t u:Tok) (s:ae) (Q:Value->ae->Prop) (E:Value->ae->Prop),Q (.bool (g i j)) s->wpAny (model X.prog X.w) X.A (f (.int i t) (.int j u)) Q E s) :
  OpR X f (rI0 λ i j=>.bl (g i j)):=by
 intro pins s σ H x y v u Q I rx ry h
 obtain⟨i,j,rfl,rfl,q⟩:=h
 obtain⟨t,rfl⟩:=rx
 obtain⟨t',rfl⟩:=ry
 exact rule i j t t' s _ _ ⟨.bl (g i j),H,I,rfl,q⟩
noncomputable def CPow (i j:Int):Prop:=0<=j/\j<=1000000/\i.natAbs<2^64
noncomputable def CMul (i j:Int):Prop:=(-(2^64)<i/\i<2^64)\/(-(2^64)<j/\j<2^64)
theorem CMul.ok {i j:Int}(h:CMul i j):IntMulOk i j:=by
 rcases h with⟨h1,h2⟩|⟨h1,h2⟩
 ·exact .of_left (intBits_le_64 h1 h2)
 ·exact .of_right (intBits_le_64 h1 h2)
theorem two_pow_nn (k:Nat):(0:Int)<=2^k:=by
 rw[two_pow_cast]
 exact Int.natCast_nonneg _
theorem op_add:OpR X (bV .Add) (rI0 λ i j=>.int (i+j)):=opI0 λ _ _ _ _ _ _ _ q=>add_int q
theorem op_sub:OpR X (bV .Sub) (rI0 λ i j=>.int (i - j)):=opI0 λ _ _ _ _ _ _ _ q=>sub_int q
theorem op_mod:OpR X (bV .Mod) (rI (λ _ j=>0<j) λ i j=>.int (i % j)):=opI λ i j _ _ _ _ _ hc q=>by
 have h1:(0:Int)<j:=hc
 exact mod_int' (by omega) (by rw[Int.fmod_eq_emod_of_nonneg i (by omega)];exact q)
theorem op_pow:OpR X (bV .Pow) (rI CPow λ i j=>.int (i^j.toNat)):=opI λ _ _ _ _ _ _ _ hc q=>pow_int_small hc.1 hc.2.1 hc.2.2 q
theorem op_shl:OpR X (bV .LShift) (rI CPow λ i j=>.int (i*2^j.toNat)):=opI λ _ _ _ _ _ _ _ hc q=>lshift_int_small hc.1 hc.2.1 hc.2.2 q
theorem op_shr:OpR X (bV .RShift) (rI (λ _ j=>0<=j) λ i j=>.int (i / 2^j.toNat)):=opI λ i j _ _ _ _ _ hc q =>
 rshift_int hc (by rw[eG i (two_pow_nn _)];exact q)
end
section
variable {X:Cx} {a b c:Expr} {ta tb tc:TE} {pos:Pos}
theorem op_lt:OpR X (b7 .Lt) (rI0 λ i j=>.bl (decide (i<j))):=opB0 λ _ _ _ _ _ _ _ q=>lt_int q
theorem op_le:OpR X (b7 .LtE) (rI0 λ i j=>.bl (decide (i<=j))):=opB0 λ _ _ _ _ _ _ _ q=>le_int q
theorem op_gt:OpR X (b7 .Gt) (rI0 λ i j=>.bl (decide (j<i))):=opB0 λ _ _ _ _ _ _ _ q=>gt_int q
theorem op_ge:OpR X (b7 .GtE) (rI0 λ i j=>.bl (decide (j<=i))):=opB0 λ _ _ _ _ _ _ _ q=>ge_int q
theorem pe_cmpR {op:CmpOp}{r:R2}(ho:OpR X (b7 op) r)(ha:PE X a ta)(hb:PE X b tb)(hm:cA op b=false):PE X (.Compare a [op] [b] pos) (tOp r ta tb):=by
 intro pins s σ H Q I h
 exact wpAny_Compare1 (binT ha hb I h λ v u s2 x y H2 I2 rx ry q=>ho pins s2 σ H2 x y v u Q I2 rx ry q) hm
noncomputable def tTest (t:TE):TT:=λ σ H Q=>t σ H λ x H'=>∃ k,x=.bl k/\Q k H'
theorem pt_cmpR {op:CmpOp}{r:R2}(ho:OpR X (b7 op) r)(ha:PE X a ta)(hb:PE X b tb)(hm:cA op b=false):PT X (.Compare a [op] [b] pos) (tTest (tOp r ta tb)):=by
 intro pins s σ H Q I h
 refine f9 (thn (ha pins s σ H _ I h) λ v s1 ⟨x,H1,I1,r1,q1⟩=>thn (hb pins s1 σ H1 _ I1 q1) λ u s2 ⟨y,H2,I2,r2,q2⟩ =>
  thn (ho pins s2 σ H2 x y v u _ I2 r1 r2 q2) λ c s3 ⟨z,H3,I3,r3,k,e,q3⟩=>?_) hm
 subst e
 cases r3
 exact bB ⟨H3,I3,q3⟩
noncomputable def tChain (r r':R2)(ta tb tc:TE):TE:=λ σ H Q=>ta σ H λ x H1=>tb σ H1 λ y H2=>r x y H2 λ z H3=>∃ k,z=.bl k /\
 (if k=true then tc σ H3 λ w' H4=>r' y w' H4 Q else Q (.bl false) H3)
theorem pe_chain {op op':CmpOp}{r r':R2}(ho:OpR X (b7 op) r)(ho':OpR X (b7 op') r')(ha:PE X a ta)(hb:PE X b tb)(hc:PE X c tc)
  (hm:jr [op,op'] [b,c]=false:=by with_unfolding_all rfl):PE X (.Compare a [op,op'] [b,c] pos) (tChain r r' ta tb tc):=by
 intro pins s σ H Q I h
 refine Compare_chain (thn (ha pins s σ H _ I h) λ v s1 ⟨x,H1,I1,r1,q1⟩=>chain_link (thn (hb pins s1 σ H1 _ I1 q1) λ u s2 ⟨y,H2,I2,r2,q2⟩ =>
  thn (ho pins s2 σ H2 x y v u _ I2 r1 r2 q2) λ d s3 ⟨z,H3,I3,r3,k,e,q3⟩=>?_)) hm
 subst e
 cases r3
 refine bB ?_
 cases k with
 | false=>exact ite_ff ⟨.bl false,H3,I3,rfl,q3⟩
 | true=>exact ite_tt (chain_last (thn (hc pins s3 σ H3 _ I3 q3) λ w' s4 ⟨z',H4,I4,r4,q4⟩=>ho' pins s4 σ H4 y z' u w' Q I4 r2 r4 q4))
theorem pt_chain {op op':CmpOp}{r r':R2}(ho:OpR X (b7 op) r)(ho':OpR X (b7 op') r')(ha:PE X a ta)(hb:PE X b tb)(hc:PE X c tc)
  (hm:jr [op,op'] [b,c]=false:=by with_unfolding_all rfl):PT X (.Compare a [op,op'] [b,c] pos) (tTest (tChain r r' ta tb tc)):=by
 intro pins s σ H Q I h
 refine isTrue_chain (thn (ha pins s σ H _ I h) λ v s1 ⟨x,H1,I1,r1,q1⟩=>test_link (thn (hb pins s1 σ H1 _ I1 q1) λ u s2 ⟨y,H2,I2,r2,q2⟩ =>
  thn (ho pins s2 σ H2 x y v u _ I2 r1 r2 q2) λ d s3 ⟨z,H3,I3,r3,k,e,q3⟩=>?_)) hm
 subst e
 cases r3
 refine bB ?_
 cases k with
 | false =>
  obtain⟨k',e',q'⟩:=q3
  cases e'
  exact ite_ff ⟨H3,I3,q'⟩
 | true =>
  refine ite_tt (test_last (thn (hc pins s3 σ H3 _ I3 q3) λ w' s4 ⟨z',H4,I4,r4,q4⟩=>thn (ho' pins s4 σ H4 y z' u w' _ I4 r2 r4 q4) λ d' s5 ⟨z2,H5,I5,r5,k2,e2,q5⟩=>?_))
  subst e2
  cases r5
  exact bB ⟨H5,I5,q5⟩
theorem line63:(aH:Nat)<2^63:=by rw[eU];decide
theorem op_add_str:OpR X (bV .Add) (λ x y H Q=>∃ i j,x=.str i/\y=.str j/\i.length+j.length<=aH/\Q (.str (i++j)) H):=by
 intro pins s σ H x y v u Q I rx ry h
 obtain⟨i,j,rfl,rfl,hz,q⟩:=h
 obtain⟨t,rfl⟩:=rx
 obtain⟨t',rfl⟩:=ry
 exact add_str (λ t' tk=>⟨.str (i++j),H,I.tok _,⟨_,rfl⟩,q⟩) hz
theorem vals1 {x:V}{us:List Value}(r:Vals [x] us):∃ u,us=[u]/\RelV x u:=by
 cases r with
 | cons r1 r2=>cases r2;exact⟨_,rfl,r1⟩
theorem vals2 {x y:V}{us:List Value}(r:Vals [x,y] us):∃ u w',us=[u,w']/\RelV x u/\RelV y w':=by
 cases r with
 | cons r1 r2 =>
  cases r2 with
  | cons r3 r4=>cases r4;exact⟨_,_,rfl,r1,r3⟩
theorem call_abs:CallR X (.builtin "abs") (λ xs H Q=>∃ i,xs=[.int i]/\Q (.int (if i<0 then -i else i)) H):=by
 intro pins s σ H xs us Q I r h
 obtain⟨i,rfl,q⟩:=h
 obtain⟨u,rfl,t,rfl⟩:=vals1 r
 exact call_abs_int λ u tk=>⟨.int (if i<0 then -i else i),H,I.tok _,⟨_,rfl⟩,q⟩
theorem call_max2 (hc:X.calm=true):CallR X (.builtin "max") (λ xs H Q=>∃ i j,xs=[.int i,.int j]/\Q (.int (if j > i then j else i)) H):=by
 intro pins s σ H xs us Q I r h
 obtain⟨i,j,rfl,q⟩:=h
 obtain⟨u,w',rfl,⟨t,rfl⟩,⟨t',rfl⟩⟩:=vals2 r
 refine max_two_ints (I.ok.hd hc) λ h' tk k=>⟨_,H,I.kept k,?_,q⟩
 by_cases hj:j > i
 ·rw[if_pos hj,if_pos hj];exact⟨_,rfl⟩
 ·rw[if_neg hj,if_neg hj];exact⟨_,rfl⟩
theorem call_min2 (hc:X.calm=true):CallR X (.builtin "min") (λ xs H Q=>∃ i j,xs=[.int i,.int j]/\Q (.int (if j<i then j else i)) H):=by
 intro pins s σ H xs us Q I r h
 obtain⟨i,j,rfl,q⟩:=h
 obtain⟨u,w',rfl,⟨t,rfl⟩,⟨t',rfl⟩⟩:=vals2 r
 refine min_two_ints (I.ok.hd hc) λ h' tk k=>⟨_,H,I.kept k,?_,q⟩
 by_cases hj:j<i
 ·rw[if_pos hj,if_pos hj];exact⟨_,rfl⟩
 ·rw[if_neg hj,if_neg hj];exact⟨_,rfl⟩
theorem call_int1:CallR X (.type "int") (λ xs H Q=>(∃ i,xs=[.int i]/\Q (.int i) H)\/∃ k,xs=[.bl k]/\Q (.int (if k then 1 else 0)) H):=by
 intro pins s σ H xs us Q I r h
 rcases h with⟨i,rfl,q⟩|⟨k,rfl,q⟩
 ·obtain⟨u,rfl,t,rfl⟩:=vals1 r
  exact call_int_int ⟨.int i,H,I,⟨_,rfl⟩,q⟩
 ·obtain⟨u,rfl,r1⟩:=vals1 r
  cases r1
  exact call_int_bool ⟨.int (if k then 1 else 0),H,I.tok _,⟨_,rfl⟩,q⟩
end
structure ObjM (h:Heap)(x dx C:Addr)(mA:Str->Option Value):Prop where
 obj:h.get? x=some (fW C dx)
 ns:h.Ns1 dx mA
 ne:dx≠x
theorem lookIn_ns {h:Heap}{dx:Addr}{mA:Str->Option Value}(n:h.Ns1 dx mA):∃ od,h.get? dx=some od/\∀ name,gi name od=some (mA name):=by
 obtain⟨o,es,ep,ho,hd,hk,_,hm⟩:=n
 refine⟨o,ho,λ name=>?_⟩
 have e:=hm name
 unfold nsFind findBy at e
 rw[<-Array.find?_toList]at e
 unfold gi
 rw[hd]
 dsimp only
 split
 ·rename_i y q
  rw[q]at e
  exact congrArg some e
 ·rename_i q
  rw[q]at e
  have a:es.toList.any (·.refKey)=false:=by
   rw[List.any_eq_false]
   intro y hy
   obtain⟨z,t,hkey⟩:=hk y (Array.mem_toList_iff.mp hy)
   simp[DictEntry.refKey,hkey]
  have a':¬ es.toList.any (·.refKey)=true:=by rw[a];exact aP
  rw[if_neg a']
  exact congrArg some e
theorem ObjM.look {h:Heap}{x dx C:Addr}{mA:Str->Option Value}(I:ObjM h x dx C mA):∃ od,PySem.W.InstAt h x (fW C dx) C (some od)/\∀ name,gi name od=some (mA name) :=
 let⟨od,ho,hl⟩:=lookIn_ns I.ns
 ⟨od,⟨I.obj,rfl,rfl,ho⟩,hl⟩
section
variable {prog:aL} {w:World} {A:aS} {E:Value->ae->Prop} {s:ae} {K:ab} {x dx C f:Addr} {mA:Str->Option Value} {name:Str} {v:Value}
end
theorem RelO.some_of {v:V}{o:Option Value}(r:RelO (some v) o):∃ u,o=some u/\RelV v u:=by
 cases o with
 | none=>exact(show False from r).elim
 | some u=>exact⟨u,rfl,r⟩
section
variable {P:aL} {w:World} {H H':Hp} {h h':Heap} {a C dx:Addr} {fs fs':List (Str×V)}
theorem ins_get (hok:HOk P w H h)(e:H a=some (.ins C dx fs)):∃ mA,ObjM h a dx C mA/\(∀ f,RelO (fs.lookup f) (mA f))/\jt mA (fs.map (·.1))/\fs.length<=1000/\H dx=some (.own a):=by
 obtain⟨d,z,ne,ob,mA,n,r,q⟩:=(show ObjOk P w H h a (.ins C dx fs)from hok a _ e)
 exact⟨mA,⟨ob,n,ne⟩,r,q,z,d⟩
end
structure Cls (K:ab)(C:Addr):Prop where
 pg:iw K C Str.empty=true
 hd:PySem.W.hasDictIn K C=true
 po:PySem.W.plainOver K C=true
 sa:gj K (.ref C) "__setattr__"=some (some (.builtin "object.__setattr__"))
theorem Cls.get {K:ab}{C:Addr}(c:Cls K C)(f:Str):iw K C f=true:=c.pg
section
variable {X:Cx} {pins:List (Addr×Obj)} {σ:St} {H:Hp} {s:ae} {a C dx:Addr} {fs:List (Str×V)} {f:Str} {v:V} {A:aS} {E:Value->ae->Prop}
end
section
variable {X:Cx} {o e value:Expr} {f:Str} {pos pos' tpos:Pos} {ta tv:TE}
end
section
variable {X:Cx} {pins:List (Addr×Obj)} {σ:St} {H:Hp} {s:ae} {A:aS} {E:Value->ae->Prop} {Q:Value->ae->Prop} {c:Value} {b:Bool}
inductive TyOf (K:ab)(H:Hp):V->Value->Prop where
 | non:TyOf K H .non (.type "NoneType")
 | bl (x:Bool):TyOf K H (.bl x) (.type "bool")
 | int (i:Int):TyOf K H (.int i) (.type "int")
 | str (x:Str):TyOf K H (.str x) (.type "str")
 | flt (x:UInt64):TyOf K H (.flt x) (.type "float")
 | lst {a:Addr} {xs:List V} (e:H a=some (.lst xs)):TyOf K H (.ref a) (.type "list")
 | frz {a:Addr} {o:Obj} {xs:List V} (e:H a=some (.frz o (.lst xs))):TyOf K H (.ref a) (.type "list")
 | tup {a:Addr} {xs:List V} (e:H a=some (.tup xs)):TyOf K H (.ref a) (.type "tuple")
 | dK {a:Addr} {kvs:List (Key×V)} (e:H a=some (.dK kvs)):TyOf K H (.ref a) (.type "dict")
 | dT {a:Addr} {kvs:List (List Key×V)} (e:H a=some (.dT kvs)):TyOf K H (.ref a) (.type "dict")
 | ins {a C dx:Addr} {fs:List (Str×V)} (e:H a=some (.ins C dx fs)) (cl:Cls K C) (ha:gj K (.ref C) "__class__"=some (some (.builtin "object.__class__")))
   (hn:PySem.W.specialIn K (.builtin "object.__class__") "__get__"=some (some (.builtin "getset_descriptor.__get__"))) (htk:PySem.W.takesIn K (.builtin "object.__class__")=some true)
   (hm:PySem.W.mroIn K C (.type "object")=some true):TyOf K H (.ref a) (.ref C)
theorem qP {x:V}{u t:Value}(I:Inv X pins σ H s)(rx:RelV x u)(ty:TyOf X.K H x t)(e:ci X.K t c=some b)(h:∀ tk,Q (.bool b) { s with toks:=tk }) :
  wpAny (model X.prog X.w) A (call (.builtin "isinstance") [u,c]) Q E s:=by
 cases ty with
 | non=>cases(show u=Value.none from rx);exact bE PySem.W.kitx_none I.kIn True.intro e (λ z=>nomatch z) h
 | bl y=>cases(show u=Value.bool y from rx);exact bE PySem.W.kitx_bool I.kIn True.intro e (λ z=>nomatch z) h
 | int i=>obtain⟨t,q⟩:=(show ∃ t,u=Value.int i t from rx);cases q;exact bE PySem.W.kitx_int I.kIn True.intro e (λ z=>nomatch z) h
 | str y=>obtain⟨t,q⟩:=(show ∃ t,u=Value.str y t from rx);cases q;exact bE PySem.W.kitx_str I.kIn True.intro e (λ z=>nomatch z) h
 | flt y=>obtain⟨t,q⟩:=(show ∃ t,u=Value.float y t from rx);cases q;exact bE PySem.W.kitx_float I.kIn True.intro e (λ z=>nomatch z) h
 | @lst a xs ea =>
  cases(show u=Value.ref a from rx)
  obtain⟨_,_,n,_,h1⟩:=(show ObjOk X.prog X.w H s.heap a (.lst xs)from I.hok a _ ea)
  exact bE ig I.kIn ⟨_,h1,rfl⟩ e (λ z=>nomatch z) h
 | @frz a ob xs ea =>
  cases(show u=Value.ref a from rx)
  obtain⟨_,_,_,n,_,h1⟩:=(show ObjOk X.prog X.w H s.heap a (.frz ob (.lst xs))from I.hok a _ ea)
  exact bE ig I.kIn ⟨_,h1,rfl⟩ e (λ z=>nomatch z) h
 | @tup a xs ea =>
  cases(show u=Value.ref a from rx)
  obtain⟨_,_,_,p⟩:=(show ObjOk X.prog X.w H s.heap a (.tup xs)from I.hok a _ ea)
  obtain⟨o,h1,h2,_⟩:=p
  exact bE gY I.kIn ⟨o,h1,h2⟩ e (λ z=>nomatch z) h
 | @dK a kvs ea =>
  cases(show u=Value.ref a from rx)
  obtain⟨_,_,vs,_,p⟩:=(show ObjOk X.prog X.w H s.heap a (.dK kvs)from I.hok a _ ea)
  obtain⟨o,es,ep,h1,h2,_⟩:=p
  exact bE ii I.kIn ⟨o,h1,h2.1⟩ e (λ z=>nomatch z) h
 | @dT a kvs ea =>
  cases(show u=Value.ref a from rx)
  obtain⟨_,_,xs,_,o,es,ep,h1,h2,_⟩:=(show ObjOk X.prog X.w H s.heap a (.dT kvs)from I.hok a _ ea)
  exact bE ii I.kIn ⟨o,h1,h2.1⟩ e (λ z=>nomatch z) h
 | @ins a C dx fs ea cl ha hn htk hm =>
  cases(show u=Value.ref a from rx)
  obtain⟨mA,O,_⟩:=ins_get I.hok ea
  obtain⟨od,J,_⟩:=O.look
  exact bE (PySem.W.kitx_own (cl.get _) cl.hd ha hn htk hm) I.kIn J e (λ z=>nomatch z) h
end
structure Room (k:Nat)(A:aS):Prop where
 hd:A.handled=none
 dp:A.depth+3*k+5<recursionLimit
 un:A.units+16*k+200<cLine
theorem Room.mono {j k:Nat}{A:aS}(r:Room k A)(h:j<=k):Room j A:=⟨r.hd,by have:=r.dp;omega,by have:=r.un;omega⟩
theorem Room.deeper {k:Nat}{A:aS}(r:Room (k+1) A)(env:Env):Room k (A.deeper env) :=
 ⟨r.hd,by have:=r.dp;show A.depth+1+3*k+5<_;omega,by have:=r.un;show A.units+3+16*k+200<_;omega⟩
theorem Room.in1 {k:Nat}{A:aS}(r:Room (k+1) A):Room k A.in1 :=
 ⟨r.hd,by have:=r.dp;show A.depth+3*k+5<_;omega,by have:=r.un;show A.units+1+16*k+200<_;omega⟩
theorem Room.depth {k:Nat}{A:aS}(r:Room k A):A.depth<recursionLimit:=by have:=r.dp;omega
theorem Room.units {k:Nat}{A:aS}(r:Room k A):A.units+64<cLine:=by have:=r.un;omega
theorem Room.units0 {k:Nat}{A:aS}(r:Room k A):A.units<cLine:=by have:=r.un;omega
noncomputable def tNil:TA:=λ _ H Q=>Q [] H
noncomputable def tCons (ta:TE)(tr:TA):TA:=λ σ H Q=>ta σ H λ x H1=>tr σ H1 λ xs H2=>Q (x::xs) H2
section
variable {X:Cx} {e:Expr} {es:List Expr} {te:TE} {t:TA} {pos:Pos}
theorem pa_nil:PA X [] tNil:=λ _ _ _ _ H Q I h=>Calls.spliced_nil ⟨[],H,I,.nil,h⟩
theorem qc (ha:PE X e te)(hr:PA X es t)(hs:bf (e::es) X.env=(false,eval e X.env)::bf es X.env:=by rfl):PA X (e::es) (tCons te t):=by
 intro pos pins s σ H Q I h
 rw[hs]
 show wpAny _ _ (spliced ((false,eval e X.env)::dB pos (bf es X.env))) _ _ s
 refine Calls.spliced_cons (thn (ha pins s σ H _ I h) λ u s1 ⟨x,H1,I1,r1,q1⟩=>?_)
 exact thn (hr pos pins s1 σ H1 _ I1 q1) λ us s2 ⟨xs,H2,I2,r2,q2⟩=>⟨x::xs,H2,I2,.cons r1 r2,q2⟩
noncomputable def tTup (t:TA):TE:=λ σ H Q=>t σ H λ xs H1=>xs.length<=aH/\∀ p,H1 p=none->Q (.ref p) (upd H1 p (.tup xs))
noncomputable def tLst (t:TA):TE:=λ σ H Q=>t σ H λ xs H1=>xs.length<=aH/\∀ p,H1 p=none->Q (.ref p) (upd H1 p (.lst xs))
theorem pe_tup {x1}(h:PA X es t):PE X (.Tuple es x1 pos) (tTup t):=by
 intro pins s σ H Q I hq
 refine wpAny_Tuple_spliced (thn (h pos pins s σ H _ I hq) λ us s1 ⟨xs,H1,I1,r,z,q⟩=>⟨by rw[<-r.length];exact z,?_⟩)
 have hf:H1 s1.heap.objs.size=none:=I1.hok.fresh (aj _)
 refine⟨.ref s1.heap.objs.size,upd H1 s1.heap.objs.size (.tup xs),I1.laid (t':=s1.toks) (λ b u e=>ag _ e) (aj _) ?_,rfl,q _ hf⟩
 exact⟨z,us,r,⟨_,aM _ rfl,rfl,_,rfl⟩⟩
theorem pe_lst (h:PA X es t):PE X (.List es pos) (tLst t):=by
 intro pins s σ H Q I hq
 refine wpAny_List_spliced (thn (h pos pins s σ H _ I hq) λ us s1 ⟨xs,H1,I1,r,z,q⟩=>⟨by rw[<-r.length];exact z,?_⟩)
 have hf:H1 s1.heap.objs.size=none:=I1.hok.fresh (aj _)
 refine⟨.ref s1.heap.objs.size,upd H1 s1.heap.objs.size (.lst xs),I1.laid (t':=s1.toks) (λ b u e=>ag _ e) (aj _) ?_,rfl,q _ hf⟩
 exact⟨z,us,0,r,aM _ rfl⟩
end
noncomputable abbrev Sp:=List V->Hp->VK->XK->Prop
noncomputable abbrev CXT:=List Env->Hp->ae->XK->Value->ae->Prop
structure Env0 (P:aL)(w:World)(K:ab)(mg:Str->Option Value)(base:Heap)(A:aS)(outer:List Env)(s:ae)(H:Hp):Prop where
 frames:A.frames=some outer
 mod:Mod K mg base
 bs:∀ b o,base.get? b=some o->s.heap.get? b=some o/\H b=none
 bsz:base.objs.size<=s.heap.objs.size
 funs:s.heap.FunFrames base outer
 frf:∀ b∈frs outer,H b=none
 hok:HOk P w H s.heap
 bare:eT s.gens
noncomputable def CE (outer:List Env)(P:aL)(w:World)(H:Hp)(s:ae)(Q:VK)(u:Value)(s':ae):Prop :=
 ∃ v H',s'.os=s.os/\eT s'.gens/\Un (frs outer) [] H H' s.heap s'.heap/\HOk P w H' s'.heap/\RelV v u/\Q v H'
noncomputable def CR (CX:CXT)(outer:List Env)(P:aL)(w:World)(H:Hp)(s:ae)(Q:VK)(E:XK)(r:Result)(s':ae):Prop :=
 match r with
 | .ok (.ret u)=>CE outer P w H s Q u s'
 | .ok _=>False
 | .error e=>CX outer H s E e s'
structure FnOk (P:aL)(w:World)(K:ab)(mg:Str->Option Value)(base:Heap)(CX:CXT)(k:Nat)(f:Addr)(fd:bI)(ps:List Str)(sp:Sp):Prop where
 len:∀ vs H Q E,sp vs H Q E->vs.length=ps.length
 run:∀(A:aS) (outer:List Env) (s:ae) (H:Hp) (args:Args) (us:List Value) (vs:List V) (Q:VK) (E:XK),Room k A->Env0 P w K mg base A outer s H->iR s fd args (ps.zip us)->Vals vs us->sp vs H Q E ->
  eV (model P w) A (.call (.ref f) args) (CR CX outer P w H s Q E) s
theorem FnOk.imp {P:aL}{w:World}{K:ab}{mg:Str->Option Value}{base:Heap}{CX:CXT}{k:Nat}{f:Addr}{fd:bI}{ps:List Str}{sp sp':Sp}(F:FnOk P w K mg base CX k f fd ps sp)
  (h:∀ vs H Q E,sp' vs H Q E->sp vs H Q E):FnOk P w K mg base CX k f fd ps sp' :=
 ⟨λ vs H Q E q=>F.len vs H Q E (h _ _ _ _ q),λ A outer s H args us vs Q E hr he hb hv hs=>F.run A outer s H args us vs Q E hr he hb hv (h _ _ _ _ hs)⟩
section
variable {X:Cx} {pins:List (Addr×Obj)} {σ:St} {H:Hp} {s s':ae}
theorem Inv.env0 (I:Inv X pins σ H s):Env0 X.prog X.w X.K X.mg X.base X.A X.stack s H :=
 ⟨I.ok.frames,I.ok.mod,I.bs,am I.ok.bsz I.sz,I.stack,I.stkFree,I.hok,I.bare⟩
theorem Inv.after {Q:VK}{u:Value}(I:Inv X pins σ H s)(h:CE X.stack X.prog X.w H s Q u s'):EP X pins σ Q u s':=by
 obtain⟨v,H',os,bare,un,hok,r,q⟩:=h
 obtain⟨hh,g,d,t,os'⟩:=s'
 obtain rfl:os'=s.os:=os
 exact⟨v,H',I.call (h':=hh) (g':=g) (d':=d) (t':=t) (ch:=[]) un hok bare (λ b z=>absurd z (by simp)),r,q⟩
end
noncomputable def tCall (sp:Sp)(dvs:List V)(E:XK)(t:TA):TE:=λ σ H Q=>t σ H λ vs H1=>sp (vs++dvs) H1 Q E
noncomputable def Binds (K:ab)(fd:bI)(ps:List Str)(ds:List Value):Prop :=
 ∀(s:ae) (us:List Value),K.In s.heap->(us++ds).length=ps.length->iR s fd ⟨us,[]⟩ (ps.zip (us++ds))
theorem Binds.all {K:ab}{fd:bI}{ps:List Str}(h:∀ us:List Value,us.length=ps.length->dY fd ⟨us,[]⟩=pure (ps.zip us)):Binds K fd ps []:=λ s us _ hl=>by
 rw[bF]at hl ⊢
 exact .of_eq (h us hl)
noncomputable def Passes (CX:CXT)(X:Cx)(E:XK):Prop:=∀(pins:List (Addr×Obj)) (σ:St) (H:Hp) (s:ae) (e:Value) (s':ae),Inv X pins σ H s->CX X.stack H s E e s'->X.xe e s'
section
variable {X:Cx} {CX:CXT} {k:Nat} {f C:Addr} {fd:bI} {ps:List Str} {sp:Sp} {dvs:List V} {ds:List Value} {E:XK} {x m:Str} {p pos apos:Pos} {e o:Expr} {es:List Expr} {ta:TE} {t:TA}
theorem run_fn {pins:List (Addr×Obj)}{σ:St}{H:Hp}{s:ae}{Q:VK}{us:List Value}{vs:List V}(F:FnOk X.prog X.w X.K X.mg X.base CX k f fd ps sp)(hr:Room k X.A)(hb:Binds X.K fd ps ds)(hd:Vals dvs ds)(hx:Passes CX X E)
  (I:Inv X pins σ H s) (r:Vals vs us) (h:sp (vs++dvs) H Q E):wpAny (model X.prog X.w) X.A (call (.ref f) us) (EP X pins σ Q) X.xe s:=by
 have r2:Vals (vs++dvs) (us++ds):=r.append hd
 have hl:(us++ds).length=ps.length:=by rw[<-r2.length];exact F.len _ _ _ _ h
 refine iW (eA (F.run X.A X.stack s H ⟨us,[]⟩ (us++ds) (vs++dvs) Q E hr I.env0 (hb s us I.kIn hl) r2 h) λ r s' hq=>?_)
 cases r with
 | error e=>exact hx pins σ H s e s' I hq
 | ok fl =>
  cases fl with
  | ret u=>exact I.after hq
  | next=>exact bz hq
  | brk=>exact bz hq
  | cont=>exact bz hq
theorem pe_call (F:FnOk X.prog X.w X.K X.mg X.base CX k f fd ps sp)(hr:Room k X.A)(hg:Gl X x)(hm:X.mg x=some (.ref f))(hk:bZ X.K (.ref f)=true)(hb:Binds X.K fd ps ds)(hd:Vals dvs ds)(hx:Passes CX X E)
  (ha:PA X (e::es) t) (hdb:(x==("__debug__":Str))=false:=by decide) (he:bf (e::es) X.env=(false,eval e X.env)::bf es X.env:=by rfl) (hpl:(dB pos (bf es X.env)).any (·.1)=false:=by rfl) :
  PE X (.Call (.Name x p) (e::es) [] pos) (tCall sp dvs E t):=by
 intro pins s σ H Q I h
 refine bX (ld_glob I hg hm ?_ hdb)
 refine gZ (h₀:=X.base) I.ok.mod.kin hk (thn (ha pos pins s σ H _ I h) λ us s1 ⟨vs,H1,I1,r,q⟩=>⟨I1.kIn,?_⟩) he hpl
 exact run_fn F hr hb hd hx I1 r q
theorem pe_call0 (F:FnOk X.prog X.w X.K X.mg X.base CX k f fd ps sp)(hr:Room k X.A)(hg:Gl X x)(hm:X.mg x=some (.ref f))(hk:bZ X.K (.ref f)=true)(hb:Binds X.K fd ps ds)(hd:Vals dvs ds)(hx:Passes CX X E)
  (hdb:(x==("__debug__":Str))=false:=by decide):PE X (.Call (.Name x p) [] [] pos) (tCall sp dvs E tNil):=by
 intro pins s σ H Q I h
 refine bX (ld_glob I hg hm ?_ hdb)
 exact PySem.W.callWith_K0 I.kIn hk (run_fn (us:=[]) F hr hb hd hx I .nil h)
structure Mk (K:ab)(C f:Addr):Prop where
 makes:PySem.W.makesIn K C=true
 init:gj K (.ref C) "__init__"=some (some (.ref f))
 fn:PySem.W.isFn K (.ref f)=true
 kp:bZ K (.ref C)=true
end
section
variable {X:Cx} {CX:CXT} {k:Nat} {f C:Addr} {fd:bI} {ps ks:List Str} {sp:Sp} {E:XK} {x m:Str} {p pos apos kpos:Pos} {e o:Expr} {es:List Expr} {kws:List iT} {te ta:TE} {t tk:TA} {nm:Option Str}
variable {g:List Value->List Value->List Value} {gV:List V->List V->List V}
end
structure FnScope (N P:List Str)(sc:Scope):Prop where
 kind:sc.kind=.function
 co:sc.isCoroutine=false
 gen:sc.isGenerator=false
 nd:N.Nodup
 pre:N.take P.length=P
 par:∀ x∈P,sc.names.lookup x=some .local\/sc.names.lookup x=some .cell
 nofree:∀ y∈sc.names,y.2≠.free
theorem bindL_out {dP:Str->Option bJ}{x:Str}:∀ {binds:List (Str×Value)} {m:Str->Option Value},(∀ v,(x,v) ∉ binds)->bindL dP binds m x=m x
 | [],_,_=>rfl
 | (n,v)::r,m,h=>by
  unfold bindL
  rw[bindL_out λ w hw=>h w (aw _ hw)]
  split
  ·have:x≠n:=by rintro rfl;exact h v aC
   simp[this]
  ·rfl
theorem bindC_out {dP:Str->Option bJ}{x:Str}:∀ {binds:List (Str×Value)} {m:Str->Option Value},(∀ v,(x,v) ∉ binds)->bindC dP binds m x=m x
 | [],_,_=>rfl
 | (n,v)::r,m,h=>by
  unfold bindC
  rw[bindC_out λ w hw=>h w (aw _ hw)]
  split
  ·rfl
  ·have:x≠n:=by rintro rfl;exact h v aC
   simp[this]
theorem bindL_get {dP:Str->Option bJ}{x:Str}{v:Value}:∀ {P:List Str} {vs:List Value} {i:Nat} {m:Str->Option Value},P.Nodup->P[i]?=some x->vs[i]?=some v->dP x=some .local ->
  bindL dP (P.zip vs) m x=some v
 | [],_,_,_,_,h,_,_=>by simp at h
 | _::_,[],_,_,_,_,h,_=>by simp at h
 | p::P,w::vs,0,m,nd,h1,h2,hk=>by
  simp at h1 h2;subst h1;subst h2
  show bindL dP ((p,w)::P.zip vs) m p=_
  unfold bindL
  rw[bindL_out λ v hv=>(cK.mp nd).1 (dk hv).1,if_pos hk]
  simp
 | p::P,w::vs,i+1,m,nd,h1,h2,hk=>by
  show bindL dP ((p,w)::P.zip vs) m x=_
  unfold bindL
  exact bindL_get (i:=i) (cK.mp nd).2 (by simpa using h1) (by simpa using h2) hk
theorem bindC_get {dP:Str->Option bJ}{x:Str}{v:Value}:∀ {P:List Str} {vs:List Value} {i:Nat} {m:Str->Option Value},P.Nodup->P[i]?=some x->vs[i]?=some v->dP x≠some .local ->
  bindC dP (P.zip vs) m x=some v
 | [],_,_,_,_,h,_,_=>by simp at h
 | _::_,[],_,_,_,_,h,_=>by simp at h
 | p::P,w::vs,0,m,nd,h1,h2,hk=>by
  simp at h1 h2;subst h1;subst h2
  show bindC dP ((p,w)::P.zip vs) m p=_
  unfold bindC
  rw[bindC_out λ v hv=>(cK.mp nd).1 (dk hv).1,if_neg hk]
  simp
 | p::P,w::vs,i+1,m,nd,h1,h2,hk=>by
  show bindC dP ((p,w)::P.zip vs) m x=_
  unfold bindC
  exact bindC_get (i:=i) (cK.mp nd).2 (by simpa using h1) (by simpa using h2) hk
noncomputable def start (N:List Str)(vs:List V):St:=vs.map some++ar (N.length - vs.length) none
noncomputable def cxOf (CX:CXT)(P:aL)(w:World)(K:ab)(mg:Str->Option Value)(base:Heap)(N:List Str)(qual:Str)(scope:Scope)(f:Addr)(cd:Value)(A:aS)(outer:List Env)(s:ae)(H:Hp)(E:XK):Cx where
 prog:=P
 w:=w
 K:=K
 mg:=mg
 base:=base
 A:=A.deeper (fe qual scope s.heap.objs.size f cd)
 N:=N
 s₀:=s
 H₀:=H
 env:=fe qual scope s.heap.objs.size f cd
 outer:=outer
 stack:=fe qual scope s.heap.objs.size f cd::outer
 ex:=[]
 calm:=true
 fn:=λ _=>true
 pn:=[]
 xe:=λ e s'=>wpAny (model P w) (A.deeper (fe qual scope s.heap.objs.size f cd)) (leaving (fe qual scope s.heap.objs.size f cd) e) (λ _ s''=>CX outer H s E e s'') (λ e' s''=>CX outer H s E e' s'') s'
theorem z5 {sc:Scope}{n:Nat}{x:Str}(h:sc.names.lookup x=some .cell):∃ c,(aI n sc.names []).lookup x=some c:=by
 have q:=fI sc.names n [] (.inl h)
 exact fg.mp q
theorem inv_start {CX:CXT}{P:aL}{w:World}{K:ab}{mg:Str->Option Value}{base:Heap}{N ps:List Str}{qual:Str}{scope:Scope}{f:Addr}{cd:Value}{A:aS}{outer:List Env}{s s1:ae}{H:Hp}{E:XK}{us:List Value}{vs:List V}
  (S:FnScope N ps scope) (hd:A.handled=none) (e0:Env0 P w K mg base A outer s H) (hl:vs.length=ps.length) (r:Vals vs us)
  (x:eW s s.heap.objs.size (bindL (fe qual scope s.heap.objs.size f cd).kindOf (ps.zip us) λ _=>none) (aI (s.heap.objs.size+1) scope.names []) (bindC (fe qual scope s.heap.objs.size f cd).kindOf (ps.zip us) λ _=>none) s1) :
  Inv (cxOf CX P w K mg base N qual scope f cd A outer s H E) [] (start N vs) H s1:=by
 have hpl:ps.length<=N.length:=by have:=congrArg gk S.pre;rw[bR]at this;omega
 obtain⟨h1,tk,rfl,hk⟩:=x.done
 have noA:∀ b:Addr,b ∉ (cxOf CX P w K mg base N qual scope f cd A outer s H E).ex:=λ b z=>absurd (show b∈([]:List Addr)from z) (by simp)
 refine⟨⟨e0.mod,S.kind,rfl,rfl,aj _,λ y z c h1 h2=>?_,λ y hy=>?_,λ y c _ h=>?_,λ _=>hd,gm e0.frames,.inr ⟨rfl,rfl⟩,λ b z=>absurd z (noA b),e0.bs,e0.bsz,λ b _ _=>noA b,λ b z=>absurd z (noA b),e0.funs,e0.frf⟩,
  rfl,e0.bare,Un.kept hk,⟨_,x.toInCall.ns,λ i y v h1 h2 h3=>?_⟩,λ y c h=>⟨_,x.cell y c h⟩,e0.hok.fresh (aj _),λ y c h=>?_,λ p hp=>absurd (show p∈([]:List (Addr×Obj))from hp) (by simp),e0.hok.kept hk,?_⟩
 ·exact fJ x.apart (az h1) (az h2)
 ·have hy:scope.names.lookup y=some .cell\/scope.names.lookup y=some .free:=hy
  rcases hy with hy|hy
  ·exact z5 hy
  ·exact absurd rfl (S.nofree _ (az hy))
 ·exact cZ (x.above y c (az h))
 ·have hi:i<vs.length:=by
   unfold start at h2
   by_cases hi:i<vs.length
   ·exact hi
   ·rw[ak (by simpa using hi)]at h2
    rw[fw]at h2
    split at h2<;>cases h2
  have ha:vs[i]?=some v:=by
   unfold start at h2
   rw[aF (by simpa using hi),aB]at h2
   cases e:vs[i]? with
   | none=>rw[e]at h2;cases h2
   | some a=>rw[e]at h2;cases h2;rfl
  obtain⟨u,hu,rv⟩:=r.get ha
  have hp:ps[i]?=some y:=by
   rw[<-S.pre,List.getElem?_take_of_lt (by omega)];exact h1
  have ndP:ps.Nodup:=by rw[<-S.pre];exact S.nd.sublist (List.take_sublist _ _)
  refine⟨u,rv,?_⟩
  rcases S.par y (aJ hp)with k|k
  ·exact .inl ⟨k,bindL_get ndP hp hu k⟩
  ·obtain⟨c,e⟩:=z5 (n:=s.heap.objs.size+1) k
   refine .inr ⟨.inl k,c,e,?_⟩
   have q:=x.cell y c e
   rw[bindC_get ndP hp hu (by show scope.names.lookup y≠_;rw[k];decide)]at q
   exact q
 ·exact e0.hok.fresh (cZ (x.above y c (az h)))
 ·unfold start
  show _=N.length
  rw[aW,aG,List.length_replicate]
  omega
theorem fn_of {CX:CXT}{P:aL}{w:World}{K:ab}{mg:Str->Option Value}{base:Heap}{k:Nat}{f:Addr}{name qual:Str}{params:aY}{body:List Stmt}{scope:Scope}{dV kV doc pm cdv ct oc:Value}{an od:Option Addr}
  {osl:Array (Option Value)} {N ps:List Str} {sp:Sp} (lk:K.lookup f=some ⟨oc,od,.func (cH name qual params body scope dV kV doc pm an cdv ct),osl⟩) (hcd:eJ K cdv qual=true) (S:FnScope N ps scope)
  (len:∀ vs H Q E,sp vs H Q E->vs.length=ps.length)
  (hbody:∀(A:aS) (outer:List Env) (s:ae) (H:Hp) (vs:List V) (Q:VK) (E:XK),Room k (A.deeper (fe qual scope s.heap.objs.size f cdv))->sp vs H Q E ->
   ∃ t,PSs (cxOf CX P w K mg base N qual scope f cdv A outer s H E) body t/\t { nx:=λ _ H'=>Q .non H',rt:=Q } (start N vs) H) :
  FnOk P w K mg base CX (k+1) f (cH name qual params body scope dV kV doc pm an cdv ct) ps sp:=by
 refine⟨len,λ A outer s H args us vs Q E hr e0 hb r hsp=>?_⟩
 have hl:=len _ _ _ _ hsp
 have KX:K.In s.heap:=e0.mod.kin.keeps λ b o e=>(e0.bs b o e).1
 have lim:s.heap.NoLimit:=e0.mod.nolimit.keeps λ b o e=>(e0.bs b o e).1
 have hkind:∀ y∈ps.zip us,scope.names.lookup y.1=some .local\/(scope.names.lookup y.1=some .cell/\((aI (s.heap.objs.size+1) scope.names []).lookup y.1).isSome=true):=λ⟨n,v⟩ hy=>by
  rcases S.par n (dk hy).1 with q|q
  ·exact .inl q
  ·exact .inr ⟨q,fI _ _ _ (.inl q)⟩
 refine ga hr.depth (KX _ _ lk) rfl S.co S.gen rfl (PySem.W.codeRec_of KX hcd) (hb _ _ _ _ ?_)
 refine wpAny_newFunctionEnv_cells S.kind hkind λ env he s1 x=>?_
 subst he
 refine⟨lim.keeps x.toInCall.keep,codeAny_func ?_⟩
 obtain⟨t,ht,hq⟩:=hbody A outer s H vs Q E (hr.deeper _) hsp
 have I:Inv (cxOf CX P w K mg base N qual scope f cdv A outer s H E) [] (start N vs) H s1:=inv_start S hr.hd e0 hl r x
 refine b8 (ht [] s1 (start N vs) H _ I hq) (λ fl s' hs=>?_) λ e s' hs=>hs
 have fin:∀ {σ':St} {H':Hp} {v:V} {u:Value},Inv (cxOf CX P w K mg base N qual scope f cdv A outer s H E) [] σ' H' s'->RelV v u->Q v H'->CE outer P w H s Q u s' :=
  λ {σ' H' v u} J rv q=>⟨v,H',J.os,J.bare,J.base,J.hok,rv,q⟩
 cases fl with
 | ret u =>
  obtain⟨v,σ',H',J,rv,q⟩:=hs
  exact fin J rv q
 | next =>
  obtain⟨σ',H',J,q⟩:=hs
  exact fin (v:=V.non) (u:=Value.none) J rfl q
 | brk =>
  obtain⟨_,_,_,q⟩:=hs
  exact bz q
 | cont =>
  obtain⟨_,_,_,q⟩:=hs
  exact bz q
section
variable {X:Cx} {x:Str} {p pos:Pos} {e:Expr} {es:List Expr} {t:TA} {id T:String} {r:List V->Hp->VK->Prop}
noncomputable def tCB (r:List V->Hp->VK->Prop)(t:TA):TE:=λ σ H Q=>t σ H λ vs H1=>r vs H1 Q
theorem pe_callB (hc:CallR X (.builtin id) r)(hg:Gl X x)(hm:X.mg x=none)(hv:a9 x=some (.builtin id))(ha:PA X (e::es) t)(hn:x ≠ "__name__":=by decide)(hdb:(x==("__debug__":Str))=false:=by decide)
  (he:bf (e::es) X.env=(false,eval e X.env)::bf es X.env:=by rfl) (hpl:(dB pos (bf es X.env)).any (·.1)=false:=by rfl):PE X (.Call (.Name x p) (e::es) [] pos) (tCB r t):=by
 intro pins s σ H Q I h
 refine bX (ld_blt I hg hm hv ?_ hn hdb)
 exact PyProof.Rows.callWith_builtin1 (thn (ha pos pins s σ H _ I h) λ us s1 ⟨vs,H1,I1,r1,q1⟩=>hc pins s1 σ H1 vs us Q I1 r1 q1) he hpl
theorem pe_callTy (hc:CallR X (.type T) r)(hg:Gl X x)(hm:X.mg x=none)(hv:a9 x=some (.type T))(ha:PA X (e::es) t)(hn:x ≠ "__name__":=by decide)(hdb:(x==("__debug__":Str))=false:=by decide)
  (he:bf (e::es) X.env=(false,eval e X.env)::bf es X.env:=by rfl) (hpl:(dB pos (bf es X.env)).any (·.1)=false:=by rfl):PE X (.Call (.Name x p) (e::es) [] pos) (tCB r t):=by
 intro pins s σ H Q I h
 refine bX (ld_blt I hg hm hv ?_ hn hdb)
 exact et (thn (ha pos pins s σ H _ I h) λ us s1 ⟨vs,H1,I1,r1,q1⟩=>hc pins s1 σ H1 vs us Q I1 r1 q1) he hpl
end
end L2
end
noncomputable section
namespace HT
open PySem PyProof.Rows
section
open PySem.SeqAt
open PySem.AutoSeq1 (wpAny_loadPart')
open PySem.MeetsSeq PySem.MeetsSeq2 PySem.MeetsSeq3
end
section
variable {prog:aL} {w:World} {A:aS} {E:Value->ae->Prop} {s:ae}
theorem cat_tup {t b:Addr}{vs ws:List Value}{Q:Value->ae->Prop}(ht:IsTup s.heap t vs.toArray)(hb:IsTup s.heap b ws.toArray)(hv:vs≠[])
  (h1:ws=[]->Q (.ref t) s) (h2:ws≠[]->Q (.ref s.heap.objs.size) { s with heap:=s.heap.push { cls:=.type "tuple",data:=.seq (vs++ws).toArray } })
  (hsz:vs.length+ws.length<=aH):wpAny (model prog w) A (bV .Add (.ref t) (.ref b)) Q E s:=by
 obtain⟨⟨cls,dd,data,sl⟩,ho,hc,n,hd⟩:=id ht
 obtain⟨⟨cls2,dd2,data2,sl2⟩,ho2,hc2,n2,hd2⟩:=id hb
 simp only at hc hd hc2 hd2
 subst hc hd hc2 hd2
 have e:vs.toArray++ws.toArray=(vs++ws).toArray:=by simp
 by_cases hw:ws=[]
 ·exact ij ⟨_,ho,rfl⟩ ⟨_,ho2,rfl⟩ fx gP dC dv (dh _ _)
   (tuple_addW1 t b vs.toArray ws.toArray n n2 dd dd2 sl sl2 (by simpa using hv) (by simp[hw])) ⟨ho,ho2,h1 hw⟩
 ·refine ij ⟨_,ho,rfl⟩ ⟨_,ho2,rfl⟩ fx gP dC dv (dh _ _)
   (tuple_addW2 t b vs.toArray ws.toArray n n2 dd dd2 sl sl2 (by simpa using hv) (by simpa using hw) (by rw[av,av];exact hsz)) ⟨ho,ho2,?_⟩
  rw[e]
  exact h2 hw
noncomputable def sIx (n d:Nat):Option Int->Nat
 | none=>d
 | some v=>if v<0 then(v+(n:Int)).toNat else min v.toNat n
theorem sIx_le (n d:Nat)(hd:d<=n)(o:Option Int):sIx n d o<=n:=by
 cases o with
 | none=>exact hd
 | some v =>
  show(if v<0 then(v+(n:Int)).toNat else min v.toNat n)<=n
  by_cases hv:v<0
  ·rw[if_pos hv];omega
  ·rw[if_neg hv];exact Nat.min_le_right _ _
theorem clip_eq (v:Int)(n d:Nat):(if v<0 then max (v+(n:Int)) 0 else min v (n:Int))=((sIx n d (some v):Nat):Int):=by
 show(if v<0 then max (v+(n:Int)) 0 else min v (n:Int))=(((if v<0 then(v+(n:Int)).toNat else min v.toNat n):Nat):Int)
 by_cases hv:v<0
 ·simp only[if_pos hv];omega
 ·simp only[if_neg hv];omega
theorem adjust_gen (lo hi:Option Int)(n:Nat):da lo hi 1 (n:Int)=(((sIx n 0 lo:Nat):Int),((sIx n n hi:Nat):Int)):=by
 have h1:¬((1:Int)<0):=by omega
 unfold da
 simp only[h1,if_false]
 refine Prod.ext ?_ ?_
 ·cases lo with
  | none=>rfl
  | some v=>exact clip_eq v n 0
 ·cases hi with
  | none=>rfl
  | some v=>exact clip_eq v n n
theorem places_gen (i j:Nat):cr (i:Int) (j:Int) 1=j - i:=by
 unfold cr
 have h1:(1:Int) > 0:=by omega
 simp only[h1,if_true,Int.ediv_one]
 split<;>omega
theorem slicePart_ {v:Value}{o:Option Int}{Q:Option Int->ae->Prop}(p:fh v o)(h:Q o s):wpAny (model prog w) A (iK v) Q E s:=by
 cases p with
 | none=>exact slicePart_none h
 | int i t=>exact slicePart_int h
theorem sliceApplied_gen {sl:Addr}{vl vu:Value}{lo hi:Option Int}{n:Nat}{Q:Int×Int×Nat->ae->Prop}(hs:s.heap.IsSliceOf sl vl vu .none)(pl:fh vl lo)(pu:fh vu hi)
  (h:Q (((sIx n 0 lo:Nat):Int),1,sIx n n hi - sIx n 0 lo) s):wpAny (model prog w) A (eK (.ref sl) (pure (n:Int))) Q E s:=by
 obtain⟨os,hos,hcs,hds⟩:=id hs
 unfold eK jk
 refine ai (ai (dw hos hds (x:=vl) rfl (ai (dw hos hds (x:=vu) rfl (ai (dw hos hds (x:=.none) rfl (aE ?_)))))))
 refine ai (slicePart_none ?_)
 show wpAny _ _ (if((1:Int)==0)=true then _ else _) _ _ s
 rw[if_neg (by decide)]
 refine ai (slicePart_ pl (ai (slicePart_ pu (ai (aE ?_)))))
 show wpAny _ _ (match da lo hi 1 (n:Int)with|(lo,hi)=>pure (lo,(1:Int),cr lo hi 1)) _ _ s
 rw[adjust_gen lo hi n]
 show wpAny _ _ (pure (((sIx n 0 lo:Nat):Int),(1:Int),cr ((sIx n 0 lo:Nat):Int) ((sIx n n hi:Nat):Int) 1)) _ _ s
 rw[places_gen]
 exact aE h
theorem pick_gen (xs:Array Value)(i k:Nat):((ah k).filterMap λ(m:Nat)=>xs[((i:Int)+(m:Int)*1).toNat]?).toArray=((xs.toList.drop i).take k).toArray:=by
 have e:(λ(m:Nat)=>xs[((i:Int)+(m:Int)*1).toNat]?)=λ m=>xs[i+m]?:=by
  funext m
  have:((i:Int)+(m:Int)*1).toNat=i+m:=by omega
  rw[this]
 rw[e]
 have:=pick_run xs i k
 rw[dr]at this
 have e2:((λ x=>xs[x]?) ∘ λ x=>i+x)=λ m=>xs[i+m]?:=rfl
 rw[e2]at this
 rw[this]
theorem getItem_tuple_cut {t sl:Addr}{items:Array Value}{vl vu:Value}{lo hi:Option Int}{Q:Value->ae->Prop}(ht:IsTup s.heap t items)(hs:s.heap.IsSliceOf sl vl vu .none)(pl:fh vl lo)(pu:fh vu hi)
  (hw:¬(sIx items.size 0 lo=0/\sIx items.size items.size hi=items.size))
  (h:Q (.ref s.heap.objs.size) { s with heap:=s.heap.push { cls:=.type "tuple",data:=.seq ((items.toList.drop (sIx items.size 0 lo)).take (sIx items.size items.size hi - sIx items.size 0 lo)).toArray } })
  (hsz:items.size<=aH):wpAny (model prog w) A (fK (.ref t) (.ref sl)) Q E s:=by
 have htake:sizeOk (.seq ((items.toList.drop (sIx items.size 0 lo)).take (sIx items.size items.size hi - sIx items.size 0 lo)).toArray):=by
  show((items.toList.drop (sIx items.size 0 lo)).take (sIx items.size items.size hi - sIx items.size 0 lo)).toArray.size<=aH
  rw[av,bR,fy,eh]
  omega
 have hj:sIx items.size items.size hi<=items.size:=sIx_le _ _ (aj _) hi
 obtain⟨os,hos,hcs,hds⟩:=id hs
 have hTs:s.TypeIs (.ref sl) "slice":=⟨os,hos,hcs⟩
 unfold fK
 try with_reducible refine cO ?_
 first|refine ai (aE ?_)|skip
 refine ai (ik ht.typeIs (by decide) ?_)
 refine ai (cE (name:=cw "__getitem__") ht.typeIs bo
  (c6 bo ht.typeIs gG ?_ (g6 _ _)))
 show wpAny _ _ (cW (.ref t) >>= _) _ _ s
 refine ai (gQ ht ?_)
 refine ai (fL hTs ?_)
 rw[if_pos (by decide)]
 refine ai (sliceApplied_gen hs pl pu ?_)
 have hno:¬((((sIx items.size 0 lo:Nat):Int)==0&&(1:Int)==1&&(sIx items.size items.size hi - sIx items.size 0 lo)==items.size)=true):=by
  intro q
  rw[ao,ao]at q
  have q1:((sIx items.size 0 lo:Nat):Int)=0:=eq_of_beq q.1.1
  have q2:sIx items.size items.size hi - sIx items.size 0 lo=items.size:=eq_of_beq q.2
  exact hw ⟨by omega,by omega⟩
 show wpAny _ _ (if(((sIx items.size 0 lo:Nat):Int)==0&&(1:Int)==1&&(sIx items.size items.size hi - sIx items.size 0 lo)==items.size)=true then _ else _) _ _ s
 rw[if_neg hno,pick_gen]
 first
  | exact ai (m:=cB _) (bC (aE ⟨_,rfl,aE h⟩) htake)
  | exact ai (m:=cB _) (bC (ai (aE (aE ⟨_,rfl,aE h⟩))) htake)
  | exact ai (ai (m:=cB _) (bC (aE (aE ⟨_,rfl,aE h⟩)) htake))
  | exact ai (ai (m:=cB _) (bC (aE ⟨_,rfl,aE h⟩) htake))
end
end HT
noncomputable section
namespace L2
open PySem PySem.Spec PyProof.Rows
noncomputable abbrev TO:=St->Hp->(Option Int->Hp->Prop)->Prop
noncomputable def PO (X:Cx)(e:Option Expr)(t:TO):Prop :=
 ∀(pins:List (Addr×Obj)) (s:ae) (σ:St) (H:Hp) (Q:Option Int->Hp->Prop),Inv X pins σ H s->t σ H Q ->
  wpAny (model X.prog X.w) X.A (evalPart e X.env) (λ u s'=>∃ o H',Inv X pins σ H' s'/\fh u o/\Q o H') X.xe s
noncomputable def tNoPart:TO:=λ _ H Q=>Q none H
noncomputable def tPart (t:TE):TO:=λ σ H Q=>t σ H λ x H1=>∃ i,x=.int i/\Q (some i) H1
section
variable {X:Cx} {e:Expr} {te:TE} {lo hi:Option Expr} {tl th:TO} {pos p2:Pos}
theorem po_none:PO X none tNoPart:=by
 intro pins s σ H Q I h
 rw[evalPart_none]
 exact aE ⟨none,H,I,.none,h⟩
theorem po_some (h:PE X e te):PO X (some e) (tPart te):=by
 intro pins s σ H Q I hw
 rw[evalPart_some]
 refine thn (h pins s σ H _ I hw) λ u s1 ⟨x,H1,I1,r1,q1⟩=>?_
 obtain⟨i,rfl,q⟩:=q1
 obtain⟨t,rfl⟩:=r1
 exact⟨some i,H1,I1,.int i t,q⟩
noncomputable def SlR (X:Cx)(r:V->Option Int->Option Int->Hp->VK->Prop):Prop :=
 ∀(pins:List (Addr×Obj)) (s:ae) (σ:St) (H:Hp) (x:V) (v vl vu:Value) (lo hi:Option Int) (sl:Addr) (Q:VK),Inv X pins σ H s->RelV x v->s.heap.IsSliceOf sl vl vu .none->fh vl lo->fh vu hi->r x lo hi H Q ->
  ∃ T id,typeLookup (.type T) "__getitem__"=pure (some (.builtin id))/\s.TypeIs v T/\wpAny (model X.prog X.w) X.A (fK v (.ref sl)) (EP X pins σ Q) X.xe s
noncomputable def tSl (r:V->Option Int->Option Int->Hp->VK->Prop)(te:TE)(tl th:TO):TE:=λ σ H Q=>te σ H λ x H1=>tl σ H1 λ l H2=>th σ H2 λ u H3=>r x l u H3 Q
theorem pe_slice {r:V->Option Int->Option Int->Hp->VK->Prop}(hr:SlR X r)(he:PE X e te)(hl:PO X lo tl)(hu:PO X hi th):PE X (.Subscript e (.Slice lo hi none p2) pos) (tSl r te tl th):=by
 intro pins s σ H Q I h
 refine Subscript_ (thn (he pins s σ H _ I h) λ v s1 ⟨x,H1,I1,r1,q1⟩=>?_)
 refine wpAny_Slice (thn (hl pins s1 σ H1 _ I1 q1) λ vl s2 ⟨l,H2,I2,pl,q2⟩=>thn (hu pins s2 σ H2 _ I2 q2) λ vu s3 ⟨u,H3,I3,pu,q3⟩=>?_)
 rw[evalPart_none]
 refine aE ?_
 have I4:Inv X pins σ H3 { s3 with heap:=s3.heap.push { cls:=.type "slice",data:=.fields #[vl,vu,.none] } }:=I3.kept (t':=s3.toks) λ b ob q=>ag _ q
 obtain⟨T,id,hT,ht,hg⟩:=hr pins { s3 with heap:=s3.heap.push { cls:=.type "slice",data:=.fields #[vl,vu,.none] } } σ H3 x v vl vu l u s3.heap.objs.size Q I4 r1 (jI ..) pl pu q3
 show wpAny (model X.prog X.w) X.A (subscriptTail e (.Slice lo hi none p2) v (.ref s3.heap.objs.size)) (EP X pins σ Q) X.xe { s3 with heap:=s3.heap.push { cls:=.type "slice",data:=.fields #[vl,vu,.none] } }
 exact tail_any (ops:=[.ref s3.heap.objs.size,v]) ht hT hg (by with_unfolding_all rfl)
noncomputable def cutV (xs:List V)(lo hi:Option Int):List V:=(xs.drop (HT.sIx xs.length 0 lo)).take (HT.sIx xs.length xs.length hi - HT.sIx xs.length 0 lo)
theorem cutV_length (xs:List V)(lo hi:Option Int):(cutV xs lo hi).length<=xs.length:=by
 unfold cutV
 rw[bR,fy]
 omega
noncomputable def rSlT (K:ab):V->Option Int->Option Int->Hp->VK->Prop:=λ x lo hi H Q=>∃ a xs,x=.ref a/\SqT K H a xs /\
 ¬(HT.sIx xs.length 0 lo=0/\HT.sIx xs.length xs.length hi=xs.length)/\∀ p,H p=none->Q (.ref p) (upd H p (.tup (cutV xs lo hi)))
theorem sl_tup:SlR X (rSlT X.K):=by
 intro pins s σ H x v vl vu lo hi sl Q I rx hs pl pu h
 obtain⟨a,xs,rfl,hx,hw,q⟩:=h
 cases rx
 obtain⟨its,r,ht,hz⟩:=I.tuple hx
 have hlen:its.toArray.size=xs.length:=by rw[av];exact r.length.symm
 refine⟨"tuple",_,bo.lookup,ht.typeIs,?_⟩
 refine HT.getItem_tuple_cut ht hs pl pu (by rw[hlen];exact hw) ?_ (by rw[hlen];exact hz)
 rw[hlen]
 refine⟨.ref s.heap.objs.size,_,I.laid (t':=s.toks) (o:=.tup (cutV xs lo hi)) (λ b ob q=>ag _ q) (aj _) ?_,rfl,q _ (I.hok.fresh (aj _))⟩
 exact⟨am (cutV_length xs lo hi) hz,_,(r.drop (HT.sIx xs.length 0 lo)).take (HT.sIx xs.length xs.length hi - HT.sIx xs.length 0 lo),iy _ _⟩
noncomputable def rCatT (K:ab):R2:=λ x y H Q=>∃ a b xs ys,x=.ref a/\y=.ref b/\SqT K H a xs/\SqT K H b ys/\xs≠[]/\xs.length+ys.length<=aH /\
 (ys=[]->Q (.ref a) H)/\(ys≠[]->∀ p,H p=none->Q (.ref p) (upd H p (.tup (xs++ys))))
theorem Vals.nil_iff {xs:List V}{us:List Value}(r:Vals xs us):us=[]↔xs=[]:=by
 cases r with
 | nil=>simp
 | cons _ _=>simp
theorem op_catT:OpR X (bV .Add) (rCatT X.K):=by
 intro pins s σ H x y v u Q I rx ry h
 obtain⟨a,b,xs,ys,rfl,rfl,ha,hb,hx,hz,q1,q2⟩:=h
 cases rx
 cases ry
 obtain⟨its,r1,p1,_⟩:=I.tuple ha
 obtain⟨its2,r2,p2,_⟩:=I.tuple hb
 refine HT.cat_tup p1 p2 (λ z=>hx (r1.nil_iff.mp z)) (λ z=>⟨.ref a,H,I,rfl,q1 (r2.nil_iff.mp z)⟩) (λ z=>?_) (by rw[<-r1.length,<-r2.length];exact hz)
 refine⟨.ref s.heap.objs.size,_,I.laid (t':=s.toks) (o:=.tup (xs++ys)) (λ b ob q=>ag _ q) (aj _) ?_,rfl,q2 (λ w=>z (r2.nil_iff.mpr w)) _ (I.hok.fresh (aj _))⟩
 exact⟨by rw[aW];exact hz,_,r1.append r2,iy _ _⟩
end
noncomputable def ixN (n:Nat)(i:Int):Option Nat:=if 0<=i then(if i<n then some i.toNat else none)else if -(n:Int)<=i then some (i+n).toNat else none
noncomputable def atI {α:Type}(xs:List α)(i:Int):Option α:=(ixN xs.length i).bind λ j=>xs[j]?
theorem ixN_seq {n:Nat}{i:Int}{j:Nat}(h:ixN n i=some j):seqIndex? i n=some j/\j<n/\-(n:Int)<=i/\i<n:=by
 unfold ixN at h
 by_cases h0:0<=i
 ·rw[if_pos h0]at h
  by_cases h1:i<n
  ·rw[if_pos h1]at h
   have e:i.toNat=j:=au h
   exact⟨by rw[iH h0 h1,e],by omega,by omega,h1⟩
  ·rw[if_neg h1]at h;cases h
 ·rw[if_neg h0]at h
  by_cases h1:-(n:Int)<=i
  ·rw[if_pos h1]at h
   have e:(i+n).toNat=j:=au h
   exact⟨by rw[io (by omega) h1,e],by omega,h1,by omega⟩
  ·rw[if_neg h1]at h;cases h
theorem atI_get {α:Type}{xs:List α}{i:Int}{v:α}(h:atI xs i=some v):∃ j,seqIndex? i xs.length=some j/\xs[j]?=some v/\j<xs.length/\-(xs.length:Int)<=i/\i<xs.length:=by
 unfold atI at h
 cases e:ixN xs.length i with
 | none=>rw[e]at h;cases h
 | some j =>
  rw[e]at h
  obtain⟨h1,h2,h3,h4⟩:=ixN_seq e
  exact⟨j,h1,h,h2,h3,h4⟩
noncomputable def PlainIx (b:Expr):Prop:=∀ o i,subscripted b false o i=operate [o,i] (fK o i)
noncomputable def IxR (X:Cx)(r:R2):Prop :=
 ∀(value slice:Expr) (pins:List (Addr×Obj)) (s:ae) (σ:St) (H:Hp) (x y:V) (v u:Value) (Q:VK),Inv X pins σ H s->RelV x v->RelV y u->r x y H Q ->
  subscripted slice false v u=operate [v,u] (fK v u)->wpAny (model X.prog X.w) X.A (subscriptTail value slice v u) (EP X pins σ Q) X.xe s
noncomputable def MtR (X:Cx)(id:String)(r:V->List V->Hp->VK->Prop):Prop :=
 ∀(pins:List (Addr×Obj)) (s:ae) (σ:St) (H:Hp) (x:V) (xs:List V) (v:Value) (us:List Value) (Q:VK),Inv X pins σ H s->RelV x v->Vals xs us->r x xs H Q ->
  wpAny (model X.prog X.w) X.A (call (.builtin id) (v::us)) (EP X pins σ Q) X.xe s
section
variable {X:Cx} {a b:Expr} {ta tb:TE} {pos:Pos}
theorem pe_ix {r:R2}(hr:IxR X r)(ha:PE X a ta)(hb:PE X b tb)(hs:PlainIx b):PE X (.Subscript a b pos) (tOp r ta tb):=by
 intro pins s σ H Q I h
 exact Subscript_ (binT ha hb I h λ v u s2 x y H2 I2 rx ry q=>hr a b pins s2 σ H2 x y v u Q I2 rx ry q (hs _ _))
noncomputable def rIxL (K:ab):R2:=λ x y H Q=>∃ p xs i v,x=.ref p/\y=.int i/\SqL K H p xs/\atI xs i=some v/\Q v H
noncomputable def rIxT (K:ab):R2:=λ x y H Q=>∃ p xs i v,x=.ref p/\y=.int i/\SqT K H p xs/\atI xs i=some v/\Q v H
noncomputable def rIxS:R2:=λ x y H Q=>∃ z i c,x=.str z/\y=.int i/\z.length<=aH/\atI z.cps.toList i=some c/\Q (.str ⟨#[c]⟩) H
theorem ix_list:IxR X (rIxL X.K):=by
 intro value slice pins s σ H x y v u Q I rx ry h hs
 obtain⟨p,xs,i,z,rfl,rfl,hq,he,q⟩:=h
 cases rx
 obtain⟨t,rfl⟩:=ry
 obtain⟨its,r,pl,hz⟩:=I.list hq
 obtain⟨j,h1,h2,h3,h4,h5⟩:=atI_get he
 obtain⟨w,ew,rw'⟩:=r.get h2
 have hl:=r.length
 have hn:=line63
 have fin:EP X pins σ Q w s:=⟨z,H,I,rw',q⟩
 by_cases h0:0<=i
 ·have hj:i.toNat=j:=by
   rw[iH h0 h5]at h1
   exact au h1
  exact item_listR pl.isList h0 (by omega) (by rw[hj];simpa using ew) fin hs
 ·have hj:(i+(its.toArray.size:Int)).toNat=j:=by
   rw[io (by omega) h4]at h1
   rw[av,<-hl]
   exact au h1
  exact fM (x:=w) pl.isList.typeIs ip.lookup
   (wpAny_getItem_list_neg (Q:=λ r s'=>r=w/\EP X pins σ Q r s') pl.isList (by omega) (by rw[av]<;>omega) (by omega) (by rw[hj];simpa using ew) ⟨rfl,fin⟩) hs
theorem ix_tup:IxR X (rIxT X.K):=by
 intro value slice pins s σ H x y v u Q I rx ry h hs
 obtain⟨p,xs,i,z,rfl,rfl,hq,he,q⟩:=h
 cases rx
 obtain⟨t,rfl⟩:=ry
 obtain⟨its,r,pl,hz⟩:=I.tuple hq
 obtain⟨j,h1,h2,h3,h4,h5⟩:=atI_get he
 obtain⟨w,ew,rw'⟩:=r.get h2
 have hl:=r.length
 have hn:=line63
 have fin:EP X pins σ Q w s:=⟨z,H,I,rw',q⟩
 exact fM (x:=w) pl.typeIs bo.lookup
  (getItem_tuple (j:=j) (Q:=λ r s'=>r=w/\EP X pins σ Q r s') pl (by omega) (by omega) (by rw[av,<-hl];exact h1) (by simpa using ew) ⟨rfl,fin⟩) hs
theorem ix_str:IxR X rIxS:=by
 intro value slice pins s σ H x y v u Q I rx ry h hs
 obtain⟨z,i,c,rfl,rfl,hz,he,q⟩:=h
 obtain⟨t,rfl⟩:=rx
 obtain⟨t',rfl⟩:=ry
 obtain⟨j,h1,h2,h3,h4,h5⟩:=atI_get he
 have hl:z.cps.toList.length=z.length:=by simp[Str.length]
 rw[hl]at h1 h4 h5
 have hn:=line63
 exact tail_any (iX s z t) slot_str_getitem.lookup (getItem_str (c:=c) (by
  have e1:decide (i < -(2^63:Int))=false:=decide_eq_false (by omega)
  have e2:decide (i ≥ 2^63)=false:=decide_eq_false (by omega)
  rw[e1,e2,Bool.or_false]) (by rw[h1];simpa using h2) ⟨.str ⟨#[c]⟩,H,I.tok _,⟨_,rfl⟩,q⟩) hs
theorem mapSeq_set (its:List Value)(n j:Nat)(u:Value):fN (·.setIfInBounds j u) { cls:=.type "list",data:=.seq its.toArray n }={ cls:=.type "list",data:=.seq (its.set j u).toArray n }:=by
 simp[fN]
theorem Inv.lst {pins:List (Addr×Obj)}{σ:St}{H:Hp}{s:ae}{p:Addr}{xs:List V}(I:Inv X pins σ H s)(h:H p=some (.lst xs)) :
  ∃(its:List Value) (n:Nat),Vals xs its/\s.heap.get? p=some { cls:=.type "list",data:=.seq its.toArray n }/\xs.length<=aH:=by
 obtain⟨z,its,n,r,e⟩:=I.hok p _ h
 exact⟨its,n,r,e,z⟩
theorem Inv.lstUpd {pins:List (Addr×Obj)}{σ:St}{H:Hp}{s:ae}{p:Addr}{xs ys:List V}{its its':List Value}{n n':Nat}{f:Obj->Obj}(I:Inv X pins σ H s)(h:H p=some (.lst xs))
  (ho:s.heap.get? p=some { cls:=.type "list",data:=.seq its.toArray n }) (hf:f { cls:=.type "list",data:=.seq its.toArray n }={ cls:=.type "list",data:=.seq its'.toArray n' }) (r:Vals ys its') (hz:ys.length<=aH) (t:Nat) :
  Inv X pins σ (upd H p (.lst ys)) { s with heap:=s.heap.update p f,toks:=t }:=by
 have e:(s.heap.update p f).get? p=some { cls:=.type "list",data:=.seq its'.toArray n' }:=by
  rw[cQ f ho (by rw[hf]<;>rfl),hf]
 refine I.write (x:=p) (e:=p) (by rw[h];trivial) (.inl rfl) (λ b u hb q=>(bL _ _ (bQ hb)).trans q) ⟨_,e⟩ ?_
 exact⟨hz,its',n',r,e⟩
noncomputable def rSetL:V->V->V->Hp->(Hp->Prop)->Prop:=λ o i v H Q=>∃ p xs k j,o=.ref p/\i=.int k/\H p=some (.lst xs)/\ixN xs.length k=some j/\Q (upd H p (.lst (xs.set j v)))
theorem set_list:PSet X rSetL:=by
 intro pins s σ H o i v ov iv u Q I ro ri rv h
 obtain⟨p,xs,k,j,rfl,rfl,hp,hj,q⟩:=h
 cases ro
 obtain⟨t,rfl⟩:=ri
 obtain⟨its,n,r,ho,hz⟩:=I.lst hp
 obtain⟨h1,h2,h3,h4⟩:=ixN_seq hj
 have hl:=r.length
 have hn:=line63
 have I':Inv X pins σ (upd H p (.lst (xs.set j v))) { s with heap:=s.heap.update p (fN (·.setIfInBounds j u)) } :=
  I.lstUpd hp ho (mapSeq_set its n j u) (r.set rv j) (by rw[bG];exact hz) s.toks
 by_cases h0:0<=k
 ·have hk:k.toNat=j:=by
   rw[iH h0 h4]at h1
   exact au h1
  exact PySem.W.ki_setAt ho h0 (by omega) (by rw[av,<-hl];exact h4) (by rw[hk];exact⟨_,I',q⟩)
 ·have hk:(k+(its.toArray.size:Int)).toNat=j:=by
   rw[io (by omega) h3]at h1
   rw[av,<-hl]
   exact au h1
  exact PySem.W.ki_setBack ho (by omega) (by rw[av,<-hl];exact h3) (by omega) (by rw[hk];exact⟨_,I',q⟩)
theorem slice_bounds (lo hi:Option Int)(n:Nat):(dz lo hi none n).1=((HT.sIx n 0 lo:Nat):Int)/\(dz lo hi none n).2.1=((HT.sIx n n hi:Nat):Int)/\(dz lo hi none n).2.2=1:=by
 refine⟨?_,?_,rfl⟩
 ·cases lo with
  | none=>simp[dz,HT.sIx]
  | some i =>
   simp only[dz,HT.sIx,iz,show(1:Int) > 0 by decide,if_true]
   by_cases h:i<0
   ·simp only[h,if_true]<;>omega
   ·simp only[h,if_false]<;>omega
 ·cases hi with
  | none=>simp[dz,HT.sIx]
  | some i =>
   simp only[dz,HT.sIx,iz,show(1:Int) > 0 by decide,if_true]
   by_cases h:i<0
   ·simp only[h,if_true]<;>omega
   ·simp only[h,if_false]<;>omega
theorem slicePick_cut (its:List Value)(lo hi:Option Int):slicePick its.toArray lo hi none=((its.drop (HT.sIx its.length 0 lo)).take (HT.sIx its.length its.length hi - HT.sIx its.length 0 lo)).toArray:=by
 obtain⟨h1,h2,h3⟩:=slice_bounds lo hi its.toArray.size
 unfold slicePick
 rw[h1,h2,h3]
 simp only[sliceRange_one,pick_run,av]<;>rfl
noncomputable def rSlL (K:ab):V->Option Int->Option Int->Hp->VK->Prop:=λ x lo hi H Q=>∃ a xs,x=.ref a/\SqL K H a xs/\∀ p,H p=none->Q (.ref p) (upd H p (.lst (cutV xs lo hi)))
theorem sl_list:SlR X (rSlL X.K):=by
 intro pins s σ H x v vl vu lo hi sl Q I rx hs pl pu h
 obtain⟨a,xs,rfl,hx,q⟩:=h
 cases rx
 obtain⟨its,r,ht,hz⟩:=I.list hx
 have hlen:=r.length
 refine⟨"list",_,ip.lookup,ht.isList.typeIs,?_⟩
 refine wpAny_getItem_list_slice ht.isList hs pl pu .none (by simp) ?_ (by rw[av]<;>omega)
 rw[slicePick_cut,<-hlen]
 refine⟨.ref s.heap.objs.size,_,I.laid (t':=s.toks) (o:=.lst (cutV xs lo hi)) (λ b ob q=>ag _ q) (aj _) ?_,rfl,q _ (I.hok.fresh (aj _))⟩
 exact⟨am (cutV_length xs lo hi) hz,_,0,(r.drop (HT.sIx xs.length 0 lo)).take (HT.sIx xs.length xs.length hi - HT.sIx xs.length 0 lo),aM _ rfl⟩
theorem call_len_seq:CallR X (.builtin "len") (λ xs H Q=>∃ p ys,xs=[.ref p]/\(SqL X.K H p ys\/SqT X.K H p ys)/\Q (.int ys.length) H):=by
 intro pins s σ H xs us Q I r h
 obtain⟨p,ys,rfl,hq,q⟩:=h
 obtain⟨u,rfl,rx⟩:=vals1 r
 cases rx
 have hn:=line63
 rcases hq with hq|hq
 ·obtain⟨its,r',pl,hz⟩:=I.list hq
  have hlen:=r'.length
  exact Calls.call_len_list pl.isList (by simp only[av]<;>omega) ⟨.int ys.length,H,I.tok _,⟨s.toks+1,by rw[av,hlen]⟩,q⟩
 ·obtain⟨its,r',pl,hz⟩:=I.tuple hq
  have hlen:=r'.length
  exact len_tuple pl (by simp only[av]<;>omega) ⟨.int ys.length,H,I.tok _,⟨s.toks+1,by rw[av,hlen]⟩,q⟩
theorem call_len_str:CallR X (.builtin "len") (λ xs H Q=>∃ z,xs=[.str z]/\z.length<=aH/\Q (.int z.length) H):=by
 intro pins s σ H xs us Q I r h
 obtain⟨z,rfl,hz,q⟩:=h
 obtain⟨u,rfl,t,rfl⟩:=vals1 r
 have hn:=line63
 exact len_str (by omega) ⟨.int z.length,H,I.tok _,⟨_,rfl⟩,q⟩
theorem CallR.or {f:Value}{r r':List V->Hp->VK->Prop}(h:CallR X f r)(h':CallR X f r'):CallR X f (λ xs H Q=>r xs H Q\/r' xs H Q):=by
 intro pins s σ H xs us Q I rs q
 rcases q with q|q
 ·exact h pins s σ H xs us Q I rs q
 ·exact h' pins s σ H xs us Q I rs q
theorem call_list_of:CallR X (.type "list") (λ xs H Q=>∃ p ys,xs=[.ref p]/\(SqL X.K H p ys\/SqT X.K H p ys)/\∀ l,H l=none->Q (.ref l) (upd H l (.lst ys))):=by
 intro pins s σ H xs us Q I r h
 obtain⟨p,ys,rfl,hq,q⟩:=h
 obtain⟨u,rfl,rx⟩:=vals1 r
 cases rx
 have fin:∀(its:List Value),Vals ys its->ys.length<=aH->∀(h':Heap) (c':Nat),(∀ b o',s.heap.get? b=some o'->h'.get? b=some o') ->
   h'.get? s.heap.objs.size=some { cls:=.type "list",dict:=none,data:=.seq its.toArray c',slots:=#[] }->EP X pins σ Q (.ref s.heap.objs.size) { s with heap:=h' }:=λ its r' hz h' c' kp e =>
  ⟨.ref s.heap.objs.size,_,I.laid (t':=s.toks) kp (aj _) (show ObjOk X.prog X.w _ h' _ (.lst ys)from⟨hz,its,c',r',e⟩),rfl,q _ (I.hok.fresh (aj _))⟩
 rcases hq with hq|hq
 ·obtain⟨its,r',pl,hz⟩:=I.list hq
  have hlen:=r'.length
  obtain⟨o,ho,hc,n,hd⟩:=pl.isList
  exact call_list_seq p (.inl rfl) ho hc hd (λ h' c' kp e=>fin its r' hz h' c' kp e) (by simp only[av]<;>omega)
 ·obtain⟨its,r',pl,hz⟩:=I.tuple hq
  have hlen:=r'.length
  obtain⟨o,ho,hc,n,hd⟩:=pl
  exact call_list_seq p (.inr rfl) ho hc hd (λ h' c' kp e=>fin its r' hz h' c' kp e) (by simp only[av]<;>omega)
theorem call_tuple_of:CallR X (.type "tuple") (λ xs H Q=>∃ p ys,xs=[.ref p]/\((SqL X.K H p ys/\∀ l,H l=none->Q (.ref l) (upd H l (.tup ys)))\/(SqT X.K H p ys/\Q (.ref p) H))):=by
 intro pins s σ H xs us Q I r h
 obtain⟨p,ys,rfl,h⟩:=h
 obtain⟨u,rfl,rx⟩:=vals1 r
 cases rx
 rcases h with⟨hq,q⟩|⟨hq,q⟩
 ·obtain⟨its,r',pl,hz⟩:=I.list hq
  have hlen:=r'.length
  refine call_tuple_list pl.isList (λ h' kp=>?_) (by simp only[av]<;>omega)
  have I1:Inv X pins σ H { s with heap:=h' }:=I.kept (t':=s.toks) kp
  have I2:Inv X pins σ (upd H h'.objs.size (.tup ys)) { s with heap:=h'.push { cls:=.type "tuple",data:=.seq its.toArray } } :=
   I1.laid (t':=s.toks) (λ b o e=>ag _ e) (aj _) (show ObjOk X.prog X.w _ _ _ (.tup ys)from⟨hz,its,r',iy _ _⟩)
  exact⟨.ref h'.objs.size,_,I2,rfl,q _ (I1.hok.fresh (aj _))⟩
 ·obtain⟨its,r',pl,hz⟩:=I.tuple hq
  exact call_tuple_same pl ⟨.ref p,H,I,rfl,q⟩
noncomputable def tyV (K:ab)(T:String)(x:V)(H:Hp):Prop:=match x with
 | .str _=>T = "str"
 | .int _=>T = "int"
 | .ref p=>(T = "list"/\∃ xs,SqL K H p xs)\/(T = "tuple"/\∃ o,K.lookup p=some o/\o.cls=.type "tuple"/\o.dict=none) \/
   (T = "dict"/\((∃ kvs,H p=some (.dK kvs))\/∃ kvs,H p=some (.dT kvs)))\/(T = "set"/\∃ S n,H p=some (.set S n))
 | _=>False
theorem tyV_is {pins:List (Addr×Obj)}{σ:St}{H:Hp}{s:ae}{T:String}{x:V}{v:Value}(I:Inv X pins σ H s)(r:RelV x v)(ty:tyV X.K T x H) :
  s.TypeIs v T/\∀ a,v=.ref a->∃ ob,s.heap.get? a=some ob/\ob.dict=none:=by
 cases x with
 | str z =>
  obtain⟨t,rfl⟩:=r
  cases(show T = "str" from ty)
  exact⟨iX s z t,λ _ e=>nomatch e⟩
 | int i =>
  obtain⟨t,rfl⟩:=r
  cases(show T = "int" from ty)
  exact⟨fO s i t,λ _ e=>nomatch e⟩
 | ref p =>
  cases r
  rcases ty with⟨rfl,xs,hq⟩|⟨rfl,o,hk,hc,hd⟩|⟨rfl,hk⟩|⟨rfl,S,n,hk⟩
  ·obtain⟨its,_,pl,_⟩:=I.list hq
   refine⟨pl.isList.typeIs,λ a e=>?_⟩
   cases e
   obtain⟨o,n,e,c,hd,_⟩:=pl
   exact⟨o,e,hd⟩
  ·refine⟨⟨o,I.kIn p o hk,hc⟩,λ a e=>?_⟩
   cases e
   exact⟨o,I.kIn _ o hk,hd⟩
  ·have z:∃ o,s.heap.get? p=some o/\o.ExactDict:=by
    rcases hk with⟨kvs,hk⟩|⟨kvs,hk⟩
    ·obtain⟨_,_,_,_,o,_,_,e,ex,_⟩:=I.hok p _ hk
     exact⟨o,e,ex⟩
    ·obtain⟨_,_,_,_,o,_,_,e,ex,_⟩:=I.hok p _ hk
     exact⟨o,e,ex⟩
   obtain⟨o,e,ex⟩:=z
   refine⟨⟨o,e,ex.1⟩,λ a e2=>?_⟩
   cases e2
   exact⟨o,e,ex.2.1⟩
  ·obtain⟨o,_,_,_,e,ex,_⟩:=I.hok p _ hk
   refine⟨⟨o,e,ex.1⟩,λ a e2=>?_⟩
   cases e2
   exact⟨o,e,ex.2.1⟩
 | _=>exact bz ty
noncomputable def tBM0 (K:ab)(T:String)(r:V->List V->Hp->VK->Prop)(to:TE):TE:=λ σ H Q=>to σ H λ x H1=>tyV K T x H1/\r x [] H1 Q
noncomputable def tBM (K:ab)(T:String)(r:V->List V->Hp->VK->Prop)(to:TE)(t:TA):TE:=λ σ H Q=>to σ H λ x H1=>tyV K T x H1/\t σ H1 λ xs H2=>r x xs H2 Q
variable {o e:Expr} {es:List Expr} {to:TE} {t:TA} {name:Str} {apos cpos:Pos} {T id:String} {r:V->List V->Hp->VK->Prop}
theorem pe_bm0 (pa:iY T)(slot:Slot T name id)(hty:typeOf (.builtin id)=pure (.type "method_descriptor"))(hm:MtR X id r)(ho:PE X o to)
  (hbase:fi o name X.env (eval o X.env)=eval o X.env:=by rfl) (hline:(apos.endLine==cpos.line)=true:=by rfl):PE X (.Call (.Attribute o name apos) [] [] cpos) (tBM0 X.K T r to):=by
 intro pins s σ H Q I h
 refine wpAny_Call_method0_late hbase hline (thn (ho pins s σ H _ I h) λ v s1 ⟨x,H1,I1,r1,ty,q1⟩=>?_)
 obtain⟨h1,h2⟩:=tyV_is I1 r1 ty
 exact⟨T,id,pa,slot,hty,h1,h2,fQ rfl (PySem.evalArgs_none (hm pins s1 σ H1 x [] v [] Q I1 r1 .nil q1))⟩
theorem pe_bm (pa:iY T)(slot:Slot T name id)(hty:typeOf (.builtin id)=pure (.type "method_descriptor"))(hm:MtR X id r)(ho:PE X o to)(ha:PA X (e::es) t)
  (hbase:fi o name X.env (eval o X.env)=eval o X.env:=by rfl)
  (hfew:((dB cpos (bf (e::es) X.env)).all (λ x=>!x.1)&&(backToKw cpos (keywordEach [] X.env)).all (λ x=>x.1.isSome)
   && decide ((e::es).length+([]:List iT).length+(if([]:List iT).isEmpty then 0 else 1)<30))=true:=by rfl)
  (hline:(apos.endLine==cpos.line)=true:=by rfl) (hs:bf (e::es) X.env=(false,eval e X.env)::bf es X.env:=by rfl) (hplain:(dB cpos (bf es X.env)).any (·.1)=false:=by rfl) :
  PE X (.Call (.Attribute o name apos) (e::es) [] cpos) (tBM X.K T r to t):=by
 intro pins s σ H Q I h
 refine wpAny_Call_method_late hbase hfew hline rfl (thn (ho pins s σ H _ I h) λ v s1 ⟨x,H1,I1,r1,ty,q1⟩=>?_)
 obtain⟨h1,h2⟩:=tyV_is I1 r1 ty
 refine⟨T,id,pa,slot,hty,h1,h2,?_⟩
 have hA:=ha cpos pins s1 σ H1 _ I1 q1
 rw[hs]at hA ⊢
 refine fQ (by show(false||(dB cpos (bf es X.env)).any (·.1))=false;rw[hplain]<;>rfl) (Calls.evalArgs_plain ?_)
 exact thn hA λ us s2 ⟨vs,H2,I2,r2,q2⟩=>hm pins s2 σ H2 x vs v us Q I2 r1 r2 q2
end
noncomputable def MtM (X:Cx)(id:String)(r:V->List V->Hp->VK->Prop):Prop :=
 ∀(pins:List (Addr×Obj)) (s:ae) (σ:St) (H:Hp) (x:V) (xs:List V) (v:Value) (us:List Value) (Q:VK),Inv X pins σ H s->RelV x v->Vals xs us->r x xs H Q ->
  wpAny (model X.prog X.w) X.A (call (.builtin id) (v::us)) (EP X pins σ Q) X.xe s
theorem Vals.one:∀ {x:V} {us:List Value},Vals [x] us->∃ u,us=[u]/\RelV x u
 | _,_,.cons r .nil=>⟨_,rfl,r⟩
theorem Vals.zero:∀ {us:List Value},Vals [] us->us=[]
 | _,.nil=>rfl
theorem Vals.dropLast {xs:List V}{us:List Value}(h:Vals xs us):Vals xs.dropLast us.dropLast:=by
 induction h with
 | nil=>exact .nil
 | cons r t ih =>
  cases t with
  | nil=>exact .nil
  | cons q t'=>exact .cons r ih
theorem Vals.reverse {xs:List V}{us:List Value}(h:Vals xs us):Vals xs.reverse us.reverse:=by
 induction h with
 | nil=>exact .nil
 | cons r t ih=>rw[dD,dD];exact Vals.append ih (.cons r .nil)
theorem Vals.rep {xs:List V}{us:List Value}(h:Vals xs us):∀ k:Nat,Vals (ar k xs).flatten (ar k us).flatten
 | 0=>.nil
 | k+1=>by
  rw[bH,bH,cU,cU]
  exact Vals.append h (Vals.rep h k)
theorem foldl_rep (its:List Value):∀(k:Nat) (acc:List Value),
  iZ (λ x1 x2=>x1++x2) acc.toArray (ar k its.toArray)=(acc++(ar k its).flatten).toArray
 | 0,acc=>by simp
 | k+1,acc=>by
  have e:acc.toArray++its.toArray=(acc++its).toArray:=by simp
  have e2:(acc++its)++(ar k its).flatten=acc++(ar (k+1) its).flatten:=by
   rw[bH,cU,dE]
  rw[<-e2,<-foldl_rep its k (acc++its),<-e,bH,cu]
section
variable {X:Cx} {pins:List (Addr×Obj)} {σ:St} {H:Hp} {s:ae} {l b:Addr} {xs ys zs:List V}
theorem Inv.lset {its its':List Value}{n:Nat}{f:Array Value->Array Value}{t':Nat}(I:Inv X pins σ H s)(hH:H l=some (.lst xs))
  (e:s.heap.get? l=some { cls:=.type "list",data:=.seq its.toArray n }) (hf:f its.toArray=its'.toArray) (hv:Vals ys its') (hz:ys.length<=aH) :
  Inv X pins σ (upd H l (.lst ys)) { s with heap:=s.heap.update l (fN f),toks:=t' }:=by
 have q:=PySem.IsL.update e f
 rw[hf]at q
 refine I.write (x:=l) (e:=l) (by rw[hH];exact trivial) (.inl rfl) (λ b' u hb hu=>(bL s.heap (fN f) (bQ hb)).trans hu) ⟨_,q⟩ ?_
 exact⟨hz,its',_,hv,q⟩
theorem Inv.lnew {its:List Value}{t':Nat}(I:Inv X pins σ H s)(hv:Vals ys its)(hz:ys.length<=aH) :
  Inv X pins σ (upd H s.heap.objs.size (.lst ys)) { s with heap:=s.heap.push { cls:=.type "list",data:=.seq its.toArray },toks:=t' } :=
 I.laid (λ _ _ q=>ag _ q) (aj _) ⟨hz,its,0,hv,aM _ rfl⟩
theorem Inv.fresh (I:Inv X pins σ H s):H s.heap.objs.size=none:=I.hok.fresh (aj _)
theorem Inv.lstM (I:Inv X pins σ H s)(hH:H l=some (.lst xs)):xs.length<=aH/\∃(its:List Value) (n:Nat),Vals xs its/\xs.length=its.length/\s.heap.get? l=some { cls:=.type "list",data:=.seq its.toArray n }:=by
 obtain⟨z,its,n,r,e⟩:=I.hok l _ hH
 exact⟨z,its,n,r,r.length,e⟩
theorem notLongL {n:Nat}(h:n<=aH):di n=false:=by
 unfold di
 exact decide_eq_false (by omega)
end
section
variable {X:Cx}
noncomputable def rAppend:V->List V->Hp->VK->Prop:=λ x vs H Q=>∃ l xs y,x=.ref l/\vs=[y]/\H l=some (.lst xs)/\xs.length<aH/\Q .non (upd H l (.lst (xs++[y])))
theorem mt_append:MtM X "list.append" rAppend:=by
 intro pins s σ H x vs v us Q I rx rv h
 obtain⟨l,xs,y,rfl,rfl,hH,hz,q⟩:=h
 cases rx
 obtain⟨u,rfl,ru⟩:=rv.one
 obtain⟨z,its,n,r,hl,e⟩:=I.lstM hH
 refine g7 gb ⟨_,e,rfl⟩ F.entry_list_append (F.args_list_append_2 _ _) (PySem.list_append l its.toArray n u (by rw[av];omega)) ⟨e,?_⟩
 refine⟨.non,_,I.lset (its':=its++[u]) hH e (by simp) (r.append (.cons ru .nil)) ?_,rfl,q⟩
 rw[aW,cR]
 omega
noncomputable def rCat:R2:=λ x y H Q=>∃ l b xs zs,x=.ref l/\y=.ref b/\H l=some (.lst xs)/\H b=some (.lst zs)/\xs.length+zs.length<=aH/\∀ p,H p=none->Q (.ref p) (upd H p (.lst (xs++zs)))
theorem op_cat:OpR X (bV .Add) rCat:=by
 intro pins s σ H x y v u Q I rx ry h
 obtain⟨l,b,xs,zs,rfl,rfl,hH,hB,hz,q⟩:=h
 cases rx
 cases ry
 obtain⟨z,its,n,r,hl,e⟩:=I.lstM hH
 obtain⟨z2,its2,n2,r2,hl2,e2⟩:=I.lstM hB
 refine PySem.P.add_list e e2 ?_ (by rw[av,av];omega)
 have ea:its.toArray++its2.toArray=(its++its2).toArray:=by simp
 rw[ea]
 exact⟨.ref _,_,I.lnew (t':=s.toks) (r.append r2) (by rw[aW];omega),rfl,q _ I.fresh⟩
noncomputable def rRep:R2:=λ x y H Q=>∃ l k xs,x=.ref l/\y=.int k/\H l=some (.lst xs)/\-(2^63)<=k/\k<2^63/\xs.length*k.toNat<=aH /\
 ∀ p,H p=none->Q (.ref p) (upd H p (.lst (ar k.toNat xs).flatten))
theorem len_rep {α:Type}(xs:List α)(k:Nat):(ar k xs).flatten.length=k*xs.length:=by
 induction k with
 | zero=>simp
 | succ k ih=>rw[bH,cU,aW,ih,Nat.succ_mul,Nat.add_comm]
theorem op_rep:OpR X (bV .Mult) rRep:=by
 intro pins s σ H x y v u Q I rx ry h
 obtain⟨l,k,xs,rfl,rfl,hH,h1,h2,hz,q⟩:=h
 cases rx
 obtain⟨t,rfl⟩:=ry
 obtain⟨z,its,n,r,hl,e⟩:=I.lstM hH
 have hlen:its.toArray.size*k.toNat<=aH:=by rw[av,<-hl];exact hz
 have hcap:¬ its.toArray.size*k.toNat > (2^63 - 1) / 8:=by
  have:(aH:Nat)<=(2^63 - 1) / 8:=by decide
  omega
 have hfit:¬(!Builtin.List.listFitsIndex k)=true:=by
  rw[fitsIndex_both h1 h2]
  exact aP
 have hlong:¬ di (its.toArray.size*k.toNat)=true:=by
  rw[notLongL hlen]
  exact aP
 have hnew:iZ (λ x1 x2=>x1++x2) #[] (ar (if its.toArray.isEmpty=true then 0 else k.toNat) its.toArray)=(ar k.toNat its).flatten.toArray:=by
  have f0:∀ m:Nat,iZ (λ x1 x2=>x1++x2) #[] (ar m its.toArray)=(ar m its).flatten.toArray:=λ m=>by
   have:=foldl_rep its m []
   rw[d7]at this
   exact this
  rw[f0]
  cases its with
  | nil=>simp
  | cons a r'=>rw[if_neg (by simp)]
 refine eP (T := "list") (U := "int") (by decide) ⟨_,e,rfl⟩ (λ s'=>fO s' k t) noFill_list_mul g8 dt repeat_list gH.lookup
  (g7 dt (fO s k t) gI (gq _ _) (int___rmul___int_list k t l its.toArray n)
   ⟨e,rfl,⟨_,e,rfl⟩,g7 F.slot_list_mul ⟨_,e,rfl⟩ F.entry_list_mul (F.args_list_mul_2 _ _) (AutoListH.list___mul___list_int_3 l its.toArray n k t hfit hcap hlong) ⟨e,?_⟩⟩)
 rw[hnew]
 exact⟨.ref _,_,I.lnew (t':=s.toks) (r.rep k.toNat) (by rw[len_rep,Nat.mul_comm];exact hz),rfl,q _ I.fresh⟩
end
section
variable {prog:aL} {w:World} {A:aS} {E:Value->ae->Prop} {s:ae}
end
section
variable {X:Cx}
end
end L2
end
noncomputable section
namespace Att
open PySem PySem.W PySem.Calls PyProof.Rows
theorem ints_of_wellAll {P:Params}{h:Heap}:∀(ns:List Int) (vs:List Value),WellAll P h vs (ns.map WData.int)->iU vs ns:=by
 intro ns
 induction ns with
 | nil =>
  intro vs w
  rw[dF]at w
  cases w
  exact .nil
 | cons n ns ih =>
  intro vs w
  rw[aK]at w
  cases w with
  | cons a b =>
   cases a
   exact .cons _ _ (ih _ b)
theorem script_of {l:OpenLaw}{n:Nat}(hn:l.most=some n){P:Params}{h:Heap}{args:List WData}{vals:List Value}
  (hpre:l.row.toRowW.claim.pre args=true) (hwl:WellAll P h vals args) :
  ∃ a vs ns,vals=[Value.ref a]/\args=[WData.list (ns.map WData.int)]/\h.get? a=some { cls:=.type "list",data:=.seq vs.toArray }/\iU vs ns/\ns.length<=n:=by
 have hsh:WShape.hasAll [] args [.list .int]=true:=(pre_splitW hpre).1
 have hc:l.pre.holds [] { args:=args }=true:=(pre_splitW hpre).2
 obtain⟨d,r,rfl,h1,h2⟩:=hasAllW_cons hsh
 obtain rfl:=hasAllW_nil h2
 obtain⟨xs,rfl,h3⟩:=hasW_list h1
 obtain⟨ns,rfl⟩:=items_int h3
 have hlen:ns.length<=n:=by
  unfold OpenLaw.pre at hc
  have h4:(WTm.not (.lt (.lit (.int (n:Int))) (.len (.arg 0)))).holds [] { args:=[.list (ns.map .int)] }=true:=by
   have h4:=(holds_andW hc).1
   rw[hn]at h4
   exact h4
  have h5:=condW_of h4 (w_not (w_lt w_lit (w_len_list (w_arg rfl))))
  rw[aG]at h5
  refine iA λ q=>?_
  have q':(n:Int)<((ns.length:Nat):Int):=by omega
  first
   | (rw[decide_eq_true q']at h5;exact absurd h5 (by decide))
   | (simp at h5;omega)
 cases hwl with
 | cons w1 w2 =>
  cases w2
  cases w1 with
  | list ho hall=>exact⟨_,_,ns,rfl,rfl,ho,ints_of_wellAll ns _ hall,hlen⟩
theorem post_true (l:OpenLaw)(args:List WData):l.row.toRowW.claim.post args (.bool true) args=true :=
 postW_of (r:=l.row.toRowW) (X:=(true==true))
  (show WShape.has [] (.bool true) .bool=true by first|rfl|decide|simp[WShape.has,WShape.arms,WShape.armsAll])
  (show(WTm.eq .res (.lit (.bool true))).value [] { args:=args,res:=some (.bool true),after:=args }=some (.bool (true==true))from w_eq_bool (w_res rfl) w_lit) rfl
theorem attach_call {l:OpenLaw}{n:Nat}{q:aL}{loose:List Str}{XP:(Str->Option Value)->Heap->Prop}{YP:World->Heap->Prop}{d:DefRec}
  (hn:l.most=some n) (hdf:d.params.defaults=[])
  (call:∀(w:World) (s₀ s₁:ae) (mg mb:Str->Option Value) (fa:Addr) (o:Obj) (pm cd doc:Value) (a:Addr) (vs:List Value) (ns:List Int),
   Ground q loose [] XP w s₀ mg mb s₁.heap->YP w s₁.heap ->
   s₁.heap.get? fa=some o->o.data=.func (docDef d.name d.params d.body d.scope pm cd doc)->s₁.heap.CodeRec cd d.name->mg d.name=some (.ref fa) ->
   s₁.heap.get? a=some { cls:=.type "list",data:=.seq vs.toArray }->iU vs ns->ns.length<=n->s₁.gens=#[] ->
   eV (model l.prog w) gC (.call (.ref fa) ⟨[.ref a],[]⟩) (λ r s'=>r=.ok (.ret (.bool true))/\OldK s₁.heap s'.heap/\s'.os=s₁.os/\eT s'.gens) s₁) :
  WalkO q loose XP YP l.row.toRowW d [] (λ f vs=>i0 f vs):=by
 intro w s₀ s₁ mg mb G Y fa o pm cd doc dV kV ho hd hcd hD hmg hg args vals as hpre hlay hrd hwl hlo
 obtain rfl:dV=.none:=Dflts.none hD hdf
 obtain rfl:kV=.none:=Dflts.noKw hD
 obtain⟨a,vs,ns,rfl,rfl,hobj,hints,hlen⟩:=script_of hn hpre hwl
 refine enter_call (eA (call w s₀ s₁ mg mb fa o pm cd doc a vs ns G Y ho (fd_plain hd) hcd hmg hobj hints hlen hg) λ r s' hq=>?_)
 obtain⟨rfl,h2,h3,h4⟩:=hq
 exact⟨.inl ⟨.bool true,.bool true,[],rfl,λ _=>rfl,.bool true,post_true l _,λ _=>⟨List.Pairwise.nil,λ _ hm=>(nomatch hm)⟩⟩,h2,h3,h4⟩
section
variable {prog:aL} {w:World} {A:aS} {E:Value->ae->Prop} {s:ae} {K:Frag}
end
end Att
noncomputable section
namespace L2
open PySem PySem.Spec PyProof.Rows
theorem vals_ints:∀ {vs:List Value} {ns:List Int},iU vs ns->Vals (ns.map V.int) vs
 | _,_,.nil=>.nil
 | _,_,.cons n t h=>.cons ⟨t,rfl⟩ (vals_ints h)
noncomputable def defArgs (s:Stmt):aY:=match s with
 | .FunctionDef _ a _ _ _ _ _ _ _ _=>a
 | _=>{ posonlyargs:=[],args:=[],vararg:=none,kwonlyargs:=[],kw_defaults:=[],kwarg:=none,defaults:=[] }
noncomputable def zU (s:Stmt):List Stmt:=match s with
 | .FunctionDef _ _ b _ _ _ _ _ _ _=>b
 | _=>[]
noncomputable def defScope (s:Stmt):Scope:=match s with
 | .FunctionDef _ _ _ _ _ _ sc _ _ _=>sc
 | _=>{ kind:=.function,names:=[],isGenerator:=false,isCoroutine:=false }
noncomputable abbrev CX0:CXT:=λ _ _ _ _ _ _=>False
noncomputable abbrev E0:XK:=λ _ _ _=>False
theorem pass0 {X:Cx}:Passes CX0 X E0:=λ _ _ _ _ _ _ _ h=>h.elim
structure Fun (K:ab)(x qual:Str)(st:Stmt)(f:Addr)(fd:bI):Prop where
 ex:∃(oc:Value) (od:Option Addr) (kV doc pm:Value) (an:Option Addr) (cdv ct:Value) (osl:Array (Option Value)),
  fd=cH x qual (defArgs st) (zU st) (defScope st) .none kV doc pm an cdv ct/\K.lookup f=some ⟨oc,od,.func fd,osl⟩/\eJ K cdv qual=true
 kp:bZ K (.ref f)=true
section
variable {P:aL} {w:World} {K:ab} {mg:Str->Option Value} {base:Heap}
theorem Fun.ok {x qual:Str}{st:Stmt}{f:Addr}{fd:bI}{N ps:List Str}{k:Nat}{sp:Sp}(F:Fun K x qual st f fd)(S:FnScope N ps (defScope st))(len:∀ vs H Q E,sp vs H Q E->vs.length=ps.length)
  (hbody:∀(cdv:Value) (A:aS) (outer:List Env) (s:ae) (H:Hp) (vs:List V) (Q:VK) (E:XK),Room k (A.deeper (fe qual (defScope st) s.heap.objs.size f cdv))->sp vs H Q E ->
   ∃ t,PSs (cxOf CX0 P w K mg base N qual (defScope st) f cdv A outer s H E).nox (zU st) t/\t { nx:=λ _ H'=>Q .non H',rt:=Q } (start N vs) H):FnOk P w K mg base CX0 (k+1) f fd ps sp:=by
 obtain⟨oc,od,kV,doc,pm,an,cdv,ct,osl,rfl,lk,hcd⟩:=F.ex
 refine fn_of lk hcd S len λ A outer s H vs Q E hr hsp=>?_
 obtain⟨t,h,q⟩:=hbody cdv A outer s H vs Q E hr hsp
 exact⟨t,h.nox,q⟩
theorem Fun.binds {x qual:Str}{st:Stmt}{f:Addr}{fd:bI}{ps:List Str}(F:Fun K x qual st f fd)
  (h:∀(kV doc pm:Value) (an:Option Addr) (cdv ct:Value) (us:List Value),us.length=ps.length->dY (cH x qual (defArgs st) (zU st) (defScope st) .none kV doc pm an cdv ct) ⟨us,[]⟩=pure (ps.zip us)):Binds K fd ps []:=by
 obtain⟨oc,od,kV,doc,pm,an,cdv,ct,osl,rfl,lk,hcd⟩:=F.ex
 exact .all (h kV doc pm an cdv ct)
theorem fun_mk {x qual:Str}{st:Stmt}{f:Addr}{oc:Value}{od an:Option Addr}{osl:Array (Option Value)}{kV doc pm cdv ct:Value}(l:K.lookup f=some ⟨oc,od,.func (cH x qual (defArgs st) (zU st) (defScope st) .none kV doc pm an cdv ct),osl⟩)
  (c:eJ K cdv qual=true) (k:bZ K (.ref f)=true):Fun K x qual st f (cH x qual (defArgs st) (zU st) (defScope st) .none kV doc pm an cdv ct):=⟨⟨oc,od,kV,doc,pm,an,cdv,ct,osl,rfl,l,c⟩,k⟩
end
theorem hu_of {A:aS}{k:Nat}(hr:Room k A):A.units+1<cLine:=Nat.lt_of_le_of_lt (Nat.add_le_add_left (by decide:1<=64) _) hr.units
section
variable {X:Cx}
theorem pv (i:Nat){x:Str}{pos:Pos}(hN:X.N[i]?=some x:=by rfl)(hv:Vis X.env.scope x:=by first|exact Or.inl rfl|exact Or.inr (Or.inl rfl)|exact Or.inr (Or.inr rfl))(hd:(x==("__debug__":Str))=false:=by decide)
  (hcd:(x==("__classdict__":Str))=false:=by decide):PE X (.Name x pos) (tVar i):=pe_var hN hv hd hcd
end
theorem iteF {A B:Prop}(h:B):if false=true then A else B:=by
 rw[if_neg aP]
 exact h
theorem iteT {A B:Prop}(h:A):if true=true then A else B:=by
 rw[if_pos rfl]
 exact h
noncomputable def Same (H H':Hp):Prop:=∀ b o,H b=some o->H' b=some o
theorem Same.refl (H:Hp):Same H H:=λ _ _ h=>h
theorem compLoopT {prog:aL}{w:World}{A:aS}{R:Result->ae->Prop}{s:ae}{elt target iter:Expr}{ifs:List Expr}{scope:Scope}{pos:Pos}{it acc:Value}{env:Env}(I:Nat->ae->Prop)
  (turn:∀ n s,I n s->wpAny (model prog w) A (iu it) (λ r s₁=>match r with
   | none=>R (.ok .next) s₁
   | some v=>wpAny (model prog w) A (d6 target it v) (λ _ s₁'=>wpAny (model prog w) A (fH target env v) (λ _ s₂ =>
     wpAny (model prog w) A (forIn ifs true λ c r=>if r=true then do let ok <- dq c env (eval c env);pure (ForInStep.yield ok)else pure (ForInStep.yield r)) (λ ok s₃ =>
      if ok=true then wpAny (model prog w) A (eval elt env) (λ x s₄ =>
       wpAny (model prog w) A (call (.builtin "list.append") [acc,x]) (λ _ s₅=>∃ m,m<n/\I m s₅) (iq (model prog w) A env λ e s'=>R (.error e) s') s₄) (iq (model prog w) A env λ e s'=>R (.error e) s') s₃
      else ∃ m,m<n/\I m s₃) (iq (model prog w) A env λ e s'=>R (.error e) s') s₂) (iq (model prog w) A env λ e s'=>R (.error e) s') s₁') (iq (model prog w) A env λ e s'=>R (.error e) s') s₁) (iq (model prog w) A env λ e s'=>R (.error e) s') s)
  (n:Nat) (h:I n s) :
  eV (model prog w) A (.compLoop (.ListComp elt [⟨target,iter,ifs,0⟩] scope pos) 0 it acc env) R s:=by
 refine codeAny_loop rfl I (λ n s hI=>?_) n h
 show wpAny _ A ((compTurn (.ListComp elt [⟨target,iter,ifs,0⟩] scope pos) 0 it acc env).onRaise (λ x=>do noteFrame x env;theTreesLotGoes x)) _ _ s
 refine wpAny_noted ?_
 rw[compTurn_list]
 refine ai (gO (ai (b8 (turn n s hI) (λ r s₁ h₁=>?_) λ _ _ h'=>h')))
 cases r with
 | none=>exact aE h₁
 | some v =>
  refine ai (b8 h₁ (λ _ s₁' h₁'=>?_) λ _ _ h'=>h')
  refine ai (b8 h₁' (λ _ s₂ h₂=>ai (b8 h₂ (λ ok s₃ h₃=>?_) λ _ _ h'=>h')) λ _ _ h'=>h')
  cases ok with
  | false=>exact aE ⟨rfl,h₃⟩
  | true =>
   exact ai (ai (b8 h₃ (λ x s₄ h₄=>ai (b8 h₄ (λ _ s₅ h₅=>aE (aE ⟨rfl,h₅⟩)) λ _ _ h'=>h')) λ _ _ h'=>h'))
noncomputable def clOf (cells:List (Str×Addr)):List (Str×bJ)->List (Str×Addr)->List (Str×Addr)
 | [],acc=>acc
 | (n,k)::r,acc=>clOf cells r (if k==.free then(match cells.lookup n with|some c=>(n,c)::acc|none=>acc)else acc)
theorem closure_forIn {env:Env}:∀(names:List (Str×bJ)) (acc:List (Str×Addr)),(∀ y∈names,y.2=.free->∃ c,env.cells.lookup y.1=some c) ->
  (forIn names acc λ(x:Str×bJ) (cs:List (Str×Addr))=>(if x.2==.free then do let c <- cellOf env x.1;pure (ForInStep.yield ((x.1,c)::cs))else pure (ForInStep.yield cs):Sem (ForInStep (List (Str×Addr)))))=pure (clOf env.cells names acc)
 | [],acc,_=>by rw[gr];rfl
 | (n,k)::r,acc,h=>by
  have ih:=λ a=>closure_forIn r a λ y hy=>h y (aw _ hy)
  rw[iL]
  unfold clOf
  cases e:(k==NameKind.free)with
  | false =>
   simp only[aQ,if_false]
   exact ih acc
  | true =>
   have hk:k=.free:=by simpa using e
   obtain⟨c,hc⟩:=h (n,k) aC hk
   have e1:cellOf env n=pure c:=by unfold cellOf;rw[hc]
   simp only[if_true,e1,hc]
   exact ih _
theorem qh {scope:Scope}{env:Env}(h:∀ y∈scope.names,y.2=.free->∃ c,env.cells.lookup y.1=some c):closureFor scope env=pure (clOf env.cells scope.names []):=by
 have:=closure_forIn (env:=env) scope.names [] h
 show(forIn scope.names [] (λ(x:Str×bJ) (cs:List (Str×Addr))=>(if x.2==.free then do let c <- cellOf env x.1;pure (ForInStep.yield ((x.1,c)::cs))else pure (ForInStep.yield cs):Sem (ForInStep (List (Str×Addr))))) >>= λ cs=>pure cs)=_
 rw[this]
 rfl
theorem clOf_mem {cells:List (Str×Addr)}{n:Str}{c:Addr}:∀ {names:List (Str×bJ)} {acc:List (Str×Addr)},(n,c)∈clOf cells names acc->cells.lookup n=some c\/(n,c)∈acc
 | [],_,h=>.inr h
 | (m,k)::r,acc,h=>by
  unfold clOf at h
  rcases clOf_mem h with z|z
  ·exact .inl z
  ·cases e:(k==NameKind.free)with
   | false=>simp only[e,aQ,if_false]at z;exact .inr z
   | true =>
    simp only[e,if_true]at z
    cases q:cells.lookup m with
    | none=>rw[q]at z;exact .inr z
    | some d =>
     rw[q]at z
     rcases aD.mp z with y|y
     ·cases y;exact .inl q
     ·exact .inr y
theorem clOf_has {cells:List (Str×Addr)}{n:Str}{c:Addr}(hc:cells.lookup n=some c):∀ {names:List (Str×bJ)} {acc:List (Str×Addr)},((n,NameKind.free)∈names\/(n,c)∈acc)->(n,c)∈clOf cells names acc
 | [],_,h=>by rcases h with h|h;(exact absurd h (by simp));exact h
 | (m,k)::r,acc,h=>by
  unfold clOf
  refine clOf_has hc ?_
  rcases h with h|h
  ·rcases aD.mp h with e|h
   ·cases e
    right
    simp[hc]
   ·exact .inl h
  ·right
   cases e:(k==NameKind.free)with
   | false=>simpa using h
   | true =>
    simp only[if_true]
    cases q:cells.lookup m with
    | none=>exact h
    | some d=>exact aw _ h
theorem lookup_of_mem {α:Type}{n:Str}{c:α}:∀ {l:List (Str×α)},(n,c)∈l->(∀ d,(n,d)∈l->d=c)->l.lookup n=some c
 | (m,d)::r,h,u=>by
  rw[aX]
  cases e:n==m with
  | true =>
   have e':=beq_iff_eq.mp e
   subst e'
   rw[u d aC]
  | false =>
   rcases aD.mp h with z|z
   ·cases z;simp at e
   ·exact lookup_of_mem z λ d' h'=>u d' (aw _ h')
theorem ql {cells:List (Str×Addr)}{n:Str}{c:Addr}{names:List (Str×bJ)}(hc:cells.lookup n=some c)(h:(n,NameKind.free)∈names):(clOf cells names []).lookup n=some c:=by
 refine lookup_of_mem (clOf_has hc (.inl h)) λ d hd=>?_
 rcases clOf_mem hd with z|z
 ·rw[hc]at z;exact(au z).symm
 ·exact absurd z (by simp)
theorem zt:∀(names:List (Str×bJ)) (n:Nat) (acc:List (Str×Addr)),aI n names acc=aI n names []++acc
 | [],_,acc=>by simp[aI]
 | (x,k)::r,n,acc=>by
  unfold aI
  split
  ·rw[zt r (n+1) ((x,n)::acc),zt r (n+1) [(x,n)]]
   simp
  ·exact zt r n acc
theorem zI:∀ {names:List (Str×bJ)} {n:Nat} {acc:List (Str×Addr)} {x:Str} {c:Addr},(x,c)∈aI n names acc->(x,NameKind.cell)∈names\/(x,c)∈acc
 | [],_,_,_,_,h=>.inr h
 | (y,k)::r,n,acc,x,c,h=>by
  unfold aI at h
  split at h
  ·rename_i hk
   rcases zI h with z|z
   ·exact .inl (aw _ z)
   ·rcases aD.mp z with e|z
    ·cases e
     have:k=.cell:=by simpa using hk
     subst this
     exact .inl aC
    ·exact .inr z
  ·rcases zI h with z|z
   ·exact .inl (aw _ z)
   ·exact .inr z
theorem zM {α:Type}(x:Str):∀(l r:List (Str×α)),(l++r).lookup x=(l.lookup x).or (r.lookup x)
 | [],r=>by simp
 | (y,v)::l,r=>by
  rw[c7,aX,aX]
  cases x==y with
  | true=>rfl
  | false=>exact zM x l r
noncomputable def z9 (N':List Str)(src:List (Option Nat))(scope:Scope)(XN:List Str)(xs:Scope):Bool :=
 (scope.kind==.function) &&
 (scope.names.all λ y=>!(y.2==.free)||(xs.names.lookup y.1==some .cell||xs.names.lookup y.1==some .free)) &&
 (scope.names.all λ y=>!(y.2==.local)||scope.names.lookup y.1==some .local) &&
 (scope.names.all λ y=>!(y.2==.cell)||(scope.names.all λ z=>!(z.1==y.1)||z.2==.cell)) &&
 (src.length==N'.length) &&
 ((N'.zip src).all λ y=>match y.2 with|none=>true|some j=>XN[j]?==some y.1&&scope.names.lookup y.1==some .free)
structure CompCk (N':List Str)(src:List (Option Nat))(scope:Scope)(XN:List Str)(xs:Scope):Prop where
 kind:scope.kind=.function
 fr:∀ y∈scope.names,y.2=.free->xs.names.lookup y.1=some .cell\/xs.names.lookup y.1=some .free
 loc:∀ y∈scope.names,y.2=.local->scope.names.lookup y.1=some .local
 cel:∀ y∈scope.names,y.2=.cell->∀ z∈scope.names,z.1=y.1->z.2=.cell
 len:src.length=N'.length
 sr:∀(i j:Nat) (x:Str),src[i]?=some (some j)->N'[i]?=some x->XN[j]?=some x/\scope.names.lookup x=some .free
theorem compCk {N':List Str}{src:List (Option Nat)}{scope:Scope}{XN:List Str}{xs:Scope}(h:z9 N' src scope XN xs=true):CompCk N' src scope XN xs:=by
 unfold z9 at h
 simp only[ao]at h
 obtain⟨⟨⟨⟨⟨h1,h2⟩,h3⟩,h4⟩,h5⟩,h6⟩:=h
 refine⟨by simpa using h1,λ y hy e=>?_,λ y hy e=>?_,λ y hy e z hz ez=>?_,by simpa using h5,λ i j x e1 e2=>?_⟩
 ·have:=aN.mp h2 y hy
  simpa [e]using this
 ·have:=aN.mp h3 y hy
  simpa [e]using this
 ·have:=aN.mp h4 y hy
  simp only[e,beq_self_eq_true,dR,jn]at this
  have:=aN.mp this z hz
  simpa [ez]using this
 ·have hm:(x,some j)∈N'.zip src:=by
   refine aJ (i:=i) ?_
   rw[List.getElem?_zip_eq_some]
   exact⟨e2,e1⟩
  have:=aN.mp h6 _ hm
  simpa using this
noncomputable abbrev zQ (X:Cx)(N':List Str)(scope:Scope)(C:Addr)(cells:List (Str×Addr))(s:ae)(H:Hp)(ex:List Addr):Cx where
 prog:=X.prog
 w:=X.w
 K:=X.K
 mg:=X.mg
 base:=X.base
 A:=X.A
 N:=N'
 s₀:=s
 H₀:=H
 env:={ scope:=dS scope X.env,locals:=C,globals:=X.env.globals,cells:=cells,qual:=X.env.qual,func:=none,code:=X.env.code,frame:=X.env.frame,builtins:=X.env.builtins }
 outer:=X.stack
 stack:=X.stack
 ex:=ex
 fn:=λ x=>scope.names.lookup x==some .cell
 calm:=X.calm
 pn:=[]
 xe:=λ _ _=>False
noncomputable def PIf (X:Cx)(ifs:List Expr)(t:TT):Prop :=
 ∀(pins:List (Addr×Obj)) (s:ae) (σ:St) (H:Hp) (Q:Bool->Hp->Prop),Inv X pins σ H s->t σ H Q ->
  wpAny (model X.prog X.w) X.A (forIn ifs true λ c r=>if r=true then do let ok <- dq c X.env (eval c X.env);pure (ForInStep.yield ok)else pure (ForInStep.yield r)) (TP X pins σ Q) X.xe s
noncomputable def tYes:TT:=λ _ H Q=>Q true H
theorem pif_nil {X:Cx}:PIf X [] tYes:=λ _ _ _ H _ I h=>wpAny_tests_nil ⟨H,I,h⟩
theorem pif_one {X:Cx}{c:Expr}{t:TT}(h:PT X c t):PIf X [c] t:=λ pins s σ H Q I hw=>wpAny_tests_one (h pins s σ H Q I hw)
noncomputable def srcSt (src:List (Option Nat))(σ:St):St:=src.map λ o=>match o with|none=>none|some j=>(σ[j]?).join
noncomputable def tComp (src:List (Option Nat))(wi:TI)(g:TG)(tc:TT)(te:TE):TE:=λ σ H Q=>wi σ H λ J H1=>∀ D,H1 D=none ->
 ∃ W:Nat->Nat->St->Hp->Prop,(∃ m,W 0 m (srcSt src σ) (upd H1 D (.lst [])))/\∀ i m σ' H',W i m σ' H' ->
  (J.stop i H'/\Q (.ref D) H')\/(J.go i H'/\∃ N:St->Hp->Prop,(∀ σ2 H2,N σ2 H2->∃ m',m'<m/\W (i+1) m' σ2 H2) /\
   ∀ x H2,J.yld i H' x H2->g x σ' H2 λ σ3 H3=>tc σ3 H3 λ b H4=>if b=true then te σ3 H4 λ v H5=>∃ ys,H5 D=some (.lst ys)/\ys.length<aH/\N σ3 (upd H5 D (.lst (ys++[v])))else N σ3 H4)
theorem qC {env:Env}:∀ {names:List (Str×bJ)} {x:Str} {k:bJ},names.lookup x=some k ->
  (names.map λ(n,k)=>if(k==NameKind.free&&env.scope.kind==.function&&env.kindOf n==some .cell)then(n,NameKind.cell)else(n,k)).lookup x =
   some (if(k==NameKind.free&&env.scope.kind==.function&&env.kindOf x==some .cell)then NameKind.cell else k)
 | [],_,_,h=>by simp at h
 | (n,k)::r,x,k',h=>by
  have ih:=@qC env r x k'
  show jE x ((if(k==NameKind.free&&env.scope.kind==.function&&env.kindOf n==some .cell)=true then(n,NameKind.cell)else(n,k))::_)=_
  cases hx:x==n with
  | true =>
   have e:=beq_iff_eq.mp hx
   subst e
   simp only[aX,hx]at h
   cases h
   by_cases hc:(k==NameKind.free&&env.scope.kind==.function&&env.kindOf x==some .cell)=true
   ·rw[if_pos hc,if_pos hc];simp only[aX,hx]
   ·rw[if_neg hc,if_neg hc];simp only[aX,hx]
  | false =>
   simp only[aX,hx]at h
   by_cases hc:(k==NameKind.free&&env.scope.kind==.function&&env.kindOf n==some .cell)=true
   ·rw[if_pos hc];simp only[aX,hx];exact ih h
   ·rw[if_neg hc];simp only[aX,hx];exact ih h
theorem qr {env:Env}:∀ {names:List (Str×bJ)} {x:Str},names.lookup x=none ->
  (names.map λ(n,k)=>if(k==NameKind.free&&env.scope.kind==.function&&env.kindOf n==some .cell)then(n,NameKind.cell)else(n,k)).lookup x=none
 | [],_,_=>rfl
 | (n,k)::r,x,h=>by
  have ih:=@qr env r x
  show jE x ((if(k==NameKind.free&&env.scope.kind==.function&&env.kindOf n==some .cell)=true then(n,NameKind.cell)else(n,k))::_)=_
  cases hx:x==n with
  | true=>simp only[aX,hx]at h;cases h
  | false =>
   simp only[aX,hx]at h
   by_cases hc:(k==NameKind.free&&env.scope.kind==.function&&env.kindOf n==some .cell)=true
   ·rw[if_pos hc];simp only[aX,hx];exact ih h
   ·rw[if_neg hc];simp only[aX,hx];exact ih h
theorem comp_start {X:Cx}{N':List Str}{src:List (Option Nat)}{scope:Scope}{pins:List (Addr×Obj)}{σ:St}{H:Hp}{s s4:ae}{fp:List Addr}
  (hck:CompCk N' src scope X.N X.env.scope) (I:Inv X pins σ H s) (hf:∀ b∈fp,FpOk X pins H b) (hfl:∀ b∈fp,b<s.heap.objs.size)
  (e4:∃ tk,s4={ s with heap:=dQ (s.heap.push { cls:=.type "dict",data:=.dict #[] }) scope.names,toks:=tk }) :
  Inv (zQ X N' scope s.heap.objs.size (aI (s.heap.objs.size+1) scope.names (clOf X.env.cells scope.names [])) s H fp) [] (srcSt src σ) H s4:=by
 obtain⟨tk,rfl⟩:=e4
 have hk:∀ b o,s.heap.get? b=some o->(dQ (s.heap.push { cls:=.type "dict",data:=.dict #[] }) scope.names).get? b=some o:=λ b o e=>cL _ _ b o (ag _ e)
 have ok:=cellsFrom_ok scope.names (s.heap.push { cls:=.type "dict",data:=.dict #[] }) (s.heap.objs.size+1) [] ⟨λ _ _ hm=>(nomatch hm),List.Pairwise.nil⟩ (by rw[bU];exact aj _)
 rw[bU]at ok
 have eapp:=zt scope.names (s.heap.objs.size+1) (clOf X.env.cells scope.names [])
 have lk:∀ x c,(aI (s.heap.objs.size+1) scope.names (clOf X.env.cells scope.names [])).lookup x=some c ->
   ((x,c)∈aI (s.heap.objs.size+1) scope.names []/\(x,NameKind.cell)∈scope.names)\/(X.env.cells.lookup x=some c/\(aI (s.heap.objs.size+1) scope.names []).lookup x=none):=λ x c e=>by
  rw[eapp,zM]at e
  cases q:(aI (s.heap.objs.size+1) scope.names []).lookup x with
  | some d =>
   rw[q]at e
   have e':d=c:=au e
   subst e'
   have hm:=az q
   refine .inl ⟨hm,?_⟩
   rcases zI hm with z|z
   ·exact z
   ·exact absurd z (by simp)
  | none =>
   rw[q]at e
   have e':(clOf X.env.cells scope.names []).lookup x=some c:=e
   rcases clOf_mem (az e')with z|z
   ·exact .inr ⟨z,rfl⟩
   ·exact absurd z (by simp)
 have up:∀ x c,(x,c)∈aI (s.heap.objs.size+1) scope.names []->s.heap.objs.size+1<=c:=λ x c h=>(ok.empty x c h).2
 have old:∀ x c,X.env.cells.lookup x=some c->c<s.heap.objs.size:=λ x c h=>by
  obtain⟨v,q⟩:=I.cell x c h
  exact q.lt
 have hbelow:∀ b,b<s.heap.objs.size->b≠s.heap.objs.size:=λ b h=>ay h
 have fpl:∀ b∈fp,H b=none/\b≠X.env.locals/\b ∉ X.fs:=λ b hb=>⟨(hf b hb).1,(hf b hb).2.1,(hf b hb).2.2.1⟩
 have hns:(dQ (s.heap.push { cls:=.type "dict",data:=.dict #[] }) scope.names).Ns s.heap.objs.size (λ _=>none):=(jF s.heap (.type "dict")).keeps (cL _ _)
 have hkind:∀ x k,scope.names.lookup x=some k->(dS scope X.env).names.lookup x=some (if(k==NameKind.free&&X.env.scope.kind==.function&&X.env.kindOf x==some .cell)then NameKind.cell else k):=λ x k e=>qC (env:=X.env) e
 have hkind0:∀ x,scope.names.lookup x=none->(dS scope X.env).names.lookup x=none:=λ x e=>qr (env:=X.env) e
 have frc:∀ x c,(x,NameKind.free)∈scope.names->X.env.cells.lookup x=some c->(aI (s.heap.objs.size+1) scope.names (clOf X.env.cells scope.names [])).lookup x=some c:=λ x c hx hc=>by
  rw[eapp,zM]
  cases q:(aI (s.heap.objs.size+1) scope.names []).lookup x with
  | some d =>
   rcases zI (az q)with z|z
   ·have:=hck.cel _ z rfl _ hx rfl
    cases this
   ·exact absurd z (by simp)
  | none=>exact ql hc hx
 have hfree:∀ x,(x,NameKind.free)∈scope.names->∃ c,X.env.cells.lookup x=some c:=λ x hx=>I.ok.has x (hck.fr _ hx rfl)
 refine⟨⟨I.ok.mod,hck.kind,I.ok.glob,I.ok.blt,aj _,λ x y c e1 e2=>?_,λ x hx=>?_,λ x c hx e=>?_,I.ok.hd,I.ok.frames,.inl rfl,λ b hb=>⟨hbelow b (hfl b hb),λ x c e z=>?_⟩,I.bs,am I.ok.bsz I.sz,λ b o e hb=>?_,λ b hb z=>?_,I.stack,I.stkFree⟩,
  rfl,I.bare,Un.kept hk,⟨_,hns,λ i x v e1 e2 e3=>?_⟩,λ x c e=>?_,I.hok.fresh (aj _),λ x c e=>?_,λ p hp=>absurd (show p∈([]:List (Addr×Obj))from hp) (by simp),I.hok.kept hk,by unfold srcSt;rw[aG];exact hck.len⟩
 ·rcases lk x c e1 with⟨a1,_⟩|⟨a1,_⟩<;>rcases lk y c e2 with⟨a2,_⟩|⟨a2,_⟩
  ·exact fJ ok.apart a1 a2
  ·exact absurd (aq (old _ _ a2) (eX (up _ _ a1))) (bp _)
  ·exact absurd (aq (old _ _ a1) (eX (up _ _ a2))) (bp _)
  ·exact I.ok.inj x y c a1 a2
 ·cases q:scope.names.lookup x with
  | none =>
   have hx':(dS scope X.env).names.lookup x=some .cell\/(dS scope X.env).names.lookup x=some .free:=hx
   rw[hkind0 x q]at hx'
   rcases hx' with z|z<;>cases z
  | some k =>
   have hx':(dS scope X.env).names.lookup x=some .cell\/(dS scope X.env).names.lookup x=some .free:=hx
   rw[hkind x k q]at hx'
   cases k with
   | free =>
    obtain⟨c,hc⟩:=hfree x (az q)
    exact⟨c,frc x c (az q) hc⟩
   | cell =>
    obtain⟨c,hc⟩:=z5 (n:=s.heap.objs.size+1) q
    exact⟨c,by show(aI _ _ _).lookup x=_;rw[eapp,zM,hc];rfl⟩
   | _=>rcases hx' with z|z<;>cases z
 ·have hx':(scope.names.lookup x==some .cell)=true:=hx
  have q:scope.names.lookup x=some .cell:=by simpa using hx'
  rcases lk x c e with⟨a,_⟩|⟨a,b⟩
  ·have:=up _ _ a;show s.heap.objs.size<=c;omega
  ·obtain⟨d,hd⟩:=z5 (n:=s.heap.objs.size+1) q
   rw[hd]at b;cases b
 ·subst z
  rcases lk x c e with⟨a,_⟩|⟨a,_⟩
  ·exact absurd (aq (hfl c hb) (eX (up _ _ a))) (bp _)
  ·exact(hf c hb).2.2.2.2.1 x c a rfl
 ·rcases(hf b hb).2.2.2.1 with z|z
  ·exact I.ok.noex b o e z
  ·exact absurd (aq (aA e) (am I.ok.bsz z)) (bp _)
 ·rcases aD.mp (I.stkSub b z)with y|y
  ·exact(fpl b hb).2.1 y
  ·exact(fpl b hb).2.2 y
 ·have e2':(srcSt src σ)[i]?=some (some v):=e2
  unfold srcSt at e2'
  rw[aB]at e2'
  cases q:src[i]? with
  | none=>rw[q]at e2';cases e2'
  | some o =>
   rw[q]at e2'
   cases o with
   | none=>cases e2'
   | some j =>
    have e2'':(σ[j]?).join=some v:=au e2'
    have ej:σ[j]?=some (some v):=by
     cases q2:σ[j]? with
     | none=>rw[q2]at e2'';cases e2''
     | some o2=>rw[q2]at e2'';exact congrArg some e2''
    obtain⟨h1,h2⟩:=hck.sr i j x q e1
    have hm:=az h2
    obtain⟨mX,hnX,hlX⟩:=I.loc
    have hvis:Vis X.env.scope x:=by
     rcases hck.fr _ hm rfl with z|z
     ·exact .inr (.inl z)
     ·exact .inr (.inr z)
    obtain⟨u,ru,look⟩:=hlX j x v h1 ej hvis
    refine⟨u,ru,.inr ?_⟩
    have hcell:∃ c,X.env.cells.lookup x=some c/\s.heap.IsCell c (some u):=by
     rcases look with⟨z,_⟩|⟨_,c,z1,z2⟩
     ·have z':X.env.scope.names.lookup x=some .local:=z
      rcases hck.fr _ hm rfl with y|y<;>(rw[z']at y;cases y)
     ·exact⟨c,z1,z2⟩
    obtain⟨c,c1,c2⟩:=hcell
    refine⟨?_,c,frc x c hm c1,c2.keeps hk⟩
    show(dS scope X.env).names.lookup x=some .cell\/(dS scope X.env).names.lookup x=some .free
    rw[hkind x _ h2]
    by_cases hc:(NameKind.free==NameKind.free&&X.env.scope.kind==.function&&X.env.kindOf x==some .cell)=true
    ·rw[if_pos hc];exact .inl rfl
    ·rw[if_neg hc];exact .inr rfl
 ·rcases lk x c e with⟨a,_⟩|⟨a,_⟩
  ·exact⟨_,(ok.empty x c a).1⟩
  ·obtain⟨v,q⟩:=I.cell x c a
   exact⟨v,q.keeps hk⟩
 ·rcases lk x c e with⟨a,_⟩|⟨a,_⟩
  ·exact I.hok.fresh (by have:=up _ _ a;omega)
  ·exact I.freeC x c a
theorem comp_end {X:Cx}{N':List Str}{scope:Scope}{pins:List (Addr×Obj)}{σ σ':St}{H H5:Hp}{s s5:ae}{fp:List Addr}{cells:List (Str×Addr)}{h':Heap}
  (I:Inv X pins σ H s) (hf:∀ b∈fp,FpOk X pins H b) (J:Inv (zQ X N' scope s.heap.objs.size cells s H fp) [] σ' H5 s5) (hs:dA s.heap.objs.size s5.heap h') :
  Inv X pins σ H5 { s5 with heap:=h' }:=by
 have neC:∀ b o,s.heap.get? b=some o->b≠s.heap.objs.size:=λ b o e=>ay (aA e)
 have u:Un (frs X.stack) fp H H5 s.heap s5.heap:=J.base
 refine I.call' (s':={ s5 with heap:=h' }) (ch:=fp) J.os ⟨λ b o e n hb hx=>?_,λ b o e n hb hx=>?_,λ b o e n hx=>u.free b o e n hx,λ b o e hx=>?_,u.tups,u.frzs,u.tbls⟩ (λ b o e=>?_) J.bare λ b hb=>⟨(hf b hb).2.2.2.1,(hf b hb).2.1,(hf b hb).2.2.2.2.1,(hf b hb).2.2.2.2.2⟩
 ·exact(hs.2 b (neC b o e)).trans (u.keep b o e n hb hx)
 ·obtain⟨sl,q⟩:=u.slot b o e n hb hx
  exact⟨sl,(hs.2 b (neC b o e)).trans q⟩
 ·obtain⟨o',q⟩:=u.there b o e hx
  exact⟨o',(hs.2 b (neC b o e)).trans q⟩
 ·have fr:H5 s.heap.objs.size=none:=J.free
  refine(J.hok b o e).stay (λ c w' hc q=>(hs.2 c ?_).trans q) (λ _ q=>q) λ _ _ q=>q
  rintro rfl
  rcases hc with z|hc
  ·rw[<-z,fr]at e;cases e
  ·rw[fr]at hc;cases hc
theorem wpAny_compEnv {M:Model}{A:aS}{E:Value->ae->Prop}{s:ae}{scope:Scope}{globals:Addr}{closure:List (Str×Addr)}{qual:Str}{outer:Env}{Q:Env->ae->Prop}
  (h:Q { scope:=scope,locals:=s.heap.objs.size,globals:=globals,cells:=aI (s.heap.objs.size+1) scope.names closure,qual:=qual,func:=none,code:=outer.code,frame:=outer.frame,builtins:=outer.builtins }
   { s with heap:=dQ (s.heap.push { cls:=.type "dict",data:=.dict #[] }) scope.names }) :
  wpAny M A (eM scope globals closure [] qual none .none (some outer)) Q E s:=by
 simp only[eM,eN,if_true]
 refine ai (wpAny_alloc ?_)
 refine ai (wpAny_layCells _ (λ name kind cells=>by cases hkc:kind==NameKind.cell<;>simp[hkc]) _ _ _ _ ?_)
 rw[show({ s with heap:=s.heap.push { cls:=.type "dict",data:=.dict #[] } }:ae).heap.objs.size=s.heap.objs.size+1 from bU ..]
 refine ai ?_
 rw[gr]
 exact aE (aE h)
theorem comp_loop {X':Cx}{R:Result->ae->Prop}{elt tg iter:Expr}{ifs:List Expr}{scope:Scope}{pos:Pos}{g:TG}{tc:TT}{te:TE}{J:It}{fp:List Addr}{it D:Addr}{tn:Nat->Heap->Prop}{W:Nat->Nat->St->Hp->Prop}
  {QD:Hp->Prop} {σ0:St} {H0:Hp} {s4:ae} {m0:Nat} (hx:X'.xe=λ _ _=>False) (hcalm:X'.calm=true) (I4:Inv X' [] σ0 H0 s4) (T:Turn X'.prog X'.w X'.K tg J fp it tn) (tn4:tn 0 s4.heap)
  (stat:∀ H':Hp,(∀ b∈fp,H' b=none)->∀ b∈fp,FpOk X' [] H' b) (fr0:∀ b∈fp,H0 b=none) (w0:W 0 m0 σ0 H0)
  (turn:∀ i m σ' H',W i m σ' H'->(J.stop i H'/\QD H')\/(J.go i H'/\∃ N:St->Hp->Prop,(∀ σ2 H2,N σ2 H2->∃ m',m'<m/\W (i+1) m' σ2 H2) /\
   ∀ x H2,J.yld i H' x H2->g x σ' H2 λ σ3 H3=>tc σ3 H3 λ b H4=>if b=true then te σ3 H4 λ v H5=>∃ ys,H5 D=some (.lst ys)/\ys.length<aH/\N σ3 (upd H5 D (.lst (ys++[v])))else N σ3 H4))
  (hg:PG X' tg g) (hif:PIf X' ifs tc) (he:PE X' elt te) (hend:∀ σ' H' s',Inv X' [] σ' H' s'->QD H'->R (.ok .next) s') :
  eV (model X'.prog X'.w) X'.A (.compLoop (.ListComp elt [⟨tg,iter,ifs,0⟩] scope pos) 0 (.ref it) (.ref D) X'.env) R s4:=by
 have nox:∀ {α:Type} {t:Sem α} {Q Q':α->ae->Prop} {E:Value->ae->Prop} {s:ae},wpAny (model X'.prog X'.w) X'.A t Q X'.xe s->(∀ a s,Q a s->Q' a s)->wpAny (model X'.prog X'.w) X'.A t Q' E s :=
  λ h hQ=>b8 h hQ λ _ _ z=>by rw[hx]at z;exact z.elim
 refine compLoopT (λ n s'=>∃ i σ' H',Inv X' [] σ' H' s'/\tn i s'.heap/\(∀ b∈fp,H' b=none)/\W i n σ' H') ?_ m0 ⟨0,σ0,H0,I4,tn4,fr0,w0⟩
 rintro n s3 ⟨i,σ3,H3,I3,st3,fr3,w3⟩
 rcases turn i n σ3 H3 w3 with⟨stop,qn⟩|⟨go,N,hN,step⟩
 ·refine nox (T.done X' rfl rfl rfl hcalm i [] s3 σ3 H3 X'.xe I3 (stat H3 fr3) st3 stop) λ r s4 ⟨hr,I4⟩=>?_
  subst hr
  exact hend σ3 H3 s4 I4 qn
 ·refine nox (T.item X' rfl rfl rfl hcalm i [] s3 σ3 H3 X'.xe I3 (stat H3 fr3) st3 go) λ r s4 ⟨u,hr,h4⟩=>?_
  subst hr
  refine nox h4 λ _ s5 ⟨x,H5,I5,r5,y5,st5,fr5⟩=>?_
  have I5':=I5.pinned (stat H5 fr5) (T.obj _ _ st5)
  refine nox (hg _ s5 σ3 H5 x u _ I5' r5 (step x H5 y5)) λ _ s6 ⟨σ6,H6,I6,q6⟩=>?_
  have again:∀ {σ7:St} {H7:Hp} {s7:ae},Inv X' ([]++pinsAt fp s5.heap) σ7 H7 s7->N σ7 H7->∃ m,m<n/\∃ i σ' H',Inv X' [] σ' H' s7/\tn i s7.heap/\(∀ b∈fp,H' b=none)/\W i m σ' H':=λ {σ7 H7 s7} I7 n7=>by
   obtain⟨m',hm,w7⟩:=hN σ7 H7 n7
   refine⟨m',hm,i+1,σ7,H7,I7.unpinned,T.keep _ _ _ st5 λ b hb o e=>(I7.pin (b,o) (bn _ (bn _ (ja hb e)))).1,λ b hb=>?_,w7⟩
   obtain⟨o,e,d⟩:=T.obj _ _ st5 b hb
   exact(I7.pin (b,o) (bn _ (bn _ (ja hb e)))).2.1
  refine nox (hif _ s6 σ6 H6 _ I6 q6) λ b s7 ⟨H7,I7,q7⟩=>?_
  cases b with
  | false =>
   rw[if_neg aP]at q7 ⊢
   exact again I7 q7
  | true =>
   rw[if_pos rfl]at q7 ⊢
   refine nox (he _ s7 σ6 H7 _ I7 q7) λ v s8 ⟨y,H8,I8,r8,ys,hy,hz,q8⟩=>?_
   refine nox (mt_append _ s8 σ6 H8 (.ref D) [y] (.ref D) [v] (λ _ H9=>N σ6 H9) I8 rfl (.cons r8 .nil) ⟨D,ys,y,rfl,rfl,hy,hz,q8⟩) λ v9 s9 ⟨_,H9,I9,_,q9⟩=>?_
   exact again I9 q9
theorem pe_comp {X:Cx}{elt tg iter:Expr}{ifs:List Expr}{scope:Scope}{pos:Pos}{wi:TI}{g:TG}{tc:TT}{te:TE}(N':List Str)(src:List (Option Nat))
  (hck:z9 N' src scope X.N X.env.scope=true) (hi:PI X tg iter wi) (hcalm:X.calm=true)
  (hin:∀(C:Addr) (cells:List (Str×Addr)) (s:ae) (H:Hp) (ex:List Addr),PG (zQ X N' scope C cells s H ex) tg g/\PIf (zQ X N' scope C cells s H ex) ifs tc/\PE (zQ X N' scope C cells s H ex) elt te)
  (hs:∀ x,cT iter X.env x=pure x:=by intro _;rfl):PE X (.ListComp elt [⟨tg,iter,ifs,0⟩] scope pos) (tComp src wi g tc te):=by
 intro pins s σ H Q I h
 have ck:=compCk hck
 rw[eval_ListComp]
 have hcl:=qh (scope:=scope) (env:=X.env) λ y hy e=>I.ok.has y.1 (ck.fr y hy e)
 refine fj (use:=none) rfl hs hcl ck.kind ck.loc (thn (hi pins s σ H _ I h) λ v s1 h1=>thn h1 λ itv s2 h2=>?_)
 obtain⟨it,fp,tn,J,H2,e,I2,T,st2,f2,W⟩:=h2
 subst e
 have hD:=I2.fresh
 obtain⟨W,⟨m0,w0⟩,turn⟩:=W _ hD
 have I3:=I2.lnew (its:=[]) (ys:=[]) (t':=s2.toks) .nil (cX _)
 have fpD:∀ b∈fp,b<s2.heap.objs.size:=λ b hb=>by obtain⟨o,q,_⟩:=T.obj _ _ st2 b hb;exact aA q
 have f3:∀ b∈fp,FpOk X pins (upd H2 s2.heap.objs.size (.lst [])) b:=λ b hb=>⟨by rw[za (ay (fpD b hb))];exact(f2 b hb).1,(f2 b hb).2⟩
 refine bC (wpAny_compEnv ?_)
 generalize hs3:({ s2 with heap:=s2.heap.push { cls:=.type "list",data:=.seq ([]:List Value).toArray },toks:=s2.toks }:ae)=s3 at I3
 have hs3':({ s2 with heap:=s2.heap.push { cls:=.type "list",data:=.seq ([]:List Value).toArray } }:ae)=s3:=hs3
 have fp3:∀ b∈fp,b<s3.heap.objs.size:=λ b hb=>by
  rw[<-hs3]
  show b<(s2.heap.push _).objs.size
  rw[bU]
  exact eY (fpD b hb)
 have I4:=comp_start (s4:={ s3 with heap:=dQ (s3.heap.push { cls:=.type "dict",data:=.dict #[] }) scope.names }) ck I3 f3 fp3 ⟨_,rfl⟩
 have tn4:tn 0 (dQ (s3.heap.push { cls:=.type "dict",data:=.dict #[] }) scope.names):=T.keep _ _ _ st2 λ b hb o e=>cL _ _ b o (ag _ (by rw[<-hs3];exact ag _ e))
 obtain⟨hg,hif,he⟩:=hin s3.heap.objs.size (aI (s3.heap.objs.size+1) scope.names (clOf X.env.cells scope.names [])) s3 (upd H2 s2.heap.objs.size (.lst [])) fp
 have stat:∀ H':Hp,(∀ b∈fp,H' b=none)->∀ b∈fp,FpOk (zQ X N' scope s3.heap.objs.size (aI (s3.heap.objs.size+1) scope.names (clOf X.env.cells scope.names [])) s3 (upd H2 s2.heap.objs.size (.lst [])) fp) [] H' b:=λ H' hn b hb =>
  ⟨hn b hb,(I4.ok.exf b hb).1,I4.ok.exfs b hb,.inl hb,λ x c e=>(I4.ok.exf b hb).2 x c e,λ p hp=>absurd (show p∈([]:List (Addr×Obj))from hp) (by simp)⟩
 have T':Turn X.prog X.w X.K tg J fp it tn:=T
 have fr0:∀ b∈fp,upd H2 s2.heap.objs.size (.lst []) b=none:=λ b hb=>(f3 b hb).1
 have L:=comp_loop (X':=zQ X N' scope s3.heap.objs.size (aI (s3.heap.objs.size+1) scope.names (clOf X.env.cells scope.names [])) s3 (upd H2 s2.heap.objs.size (.lst [])) fp) (R:=compPost (model X.prog X.w) X.A X.xe none (EP X pins σ Q) (Value.ref s2.heap.objs.size) s3.heap.objs.size) (iter:=iter) (scope:=scope) (pos:=pos) (QD:=λ H'=>Q (.ref s2.heap.objs.size) H') rfl hcalm I4 T' tn4 stat fr0 w0 turn hg hif he
  (λ σ' H' s' J' q=>by
   obtain⟨mm,hn,_⟩:=J'.loc
   exact⟨mm,hn,λ h' hs'=>⟨.ref s2.heap.objs.size,H',comp_end I3 f3 J' hs',rfl,q⟩⟩)
 exact fR L (T.self _ _ _ _ _ tn4 L)
section
variable {X:Cx}
theorem b_abs:a9 "abs"=some (.builtin "abs"):=by decide +kernel
theorem b_len:a9 "len"=some (.builtin "len"):=by decide +kernel
theorem b_min:a9 "min"=some (.builtin "min"):=by decide +kernel
theorem b_max:a9 "max"=some (.builtin "max"):=by decide +kernel
theorem b_all:a9 "all"=some (.builtin "all"):=by decide +kernel
theorem b_isinstance:a9 "isinstance"=some (.builtin "isinstance"):=by decide +kernel
theorem b_int:a9 "int"=some (.type "int"):=by decide +kernel
theorem b_bool:a9 "bool"=some (.type "bool"):=by decide +kernel
theorem b_str:a9 "str"=some (.type "str"):=by decide +kernel
theorem b_tuple:a9 "tuple"=some (.type "tuple"):=by decide +kernel
theorem b_list:a9 "list"=some (.type "list"):=by decide +kernel
noncomputable def CDivL (i j:Int):Prop:=0<j/\j<2^4096
theorem log2_lt_of {y:Int}(h0:0<y)(h:y<2^4096):y.natAbs.log2<9000:=by
 have hn:y.natAbs<2^4096:=by
  have:(y.natAbs:Int)=y:=by omega
  have h2:(y.natAbs:Int)<((2^4096:Nat):Int):=by rw[this];simpa using h
  exact Int.ofNat_lt.mp h2
 have:=(Nat.log2_lt (by omega)).mpr hn
 omega
theorem op_fdivL:OpR X (bV .FloorDiv) (rI CDivL λ i j=>.int (i / j)):=opI λ i j _ _ _ _ _ hc q=>by
 refine floordiv_int (by have:=hc.1;omega) ?_ (.inl (PyProof.noPylong_of_log2 (log2_lt_of hc.1 hc.2)))
 rw[eG i (by have:=hc.1;omega)]
 exact q
theorem ix_listK {K:ab}(hK:X.K=K):IxR X (rIxL K):=by subst hK;exact ix_list
theorem ix_tupK {K:ab}(hK:X.K=K):IxR X (rIxT K):=by subst hK;exact ix_tup
theorem call_lenK {K:ab}(hK:X.K=K):CallR X (.builtin "len") (λ xs H Q=>∃ p ys,xs=[.ref p]/\(SqL K H p ys\/SqT K H p ys)/\Q (.int ys.length) H):=by subst hK;exact call_len_seq
theorem call_tupleK {K:ab}(hK:X.K=K):CallR X (.type "tuple") (λ xs H Q=>∃ p ys,xs=[.ref p]/\((SqL K H p ys/\∀ l,H l=none->Q (.ref l) (upd H l (.tup ys)))\/(SqT K H p ys/\Q (.ref p) H))):=by subst hK;exact call_tuple_of
theorem call_listK {K:ab}(hK:X.K=K):CallR X (.type "list") (λ xs H Q=>∃ p ys,xs=[.ref p]/\(SqL K H p ys\/SqT K H p ys)/\∀ l,H l=none->Q (.ref l) (upd H l (.lst ys))):=by subst hK;exact call_list_of
theorem pi_listK {K:ab}{tg l:Expr}{tl:TE}(hK:X.K=K)(hl:PE X l tl):PI X tg l (iList K tl):=by subst hK;exact pi_list hl
theorem pi_tupK {K:ab}{tg l:Expr}{tl:TE}(hK:X.K=K)(hl:PE X l tl):PI X tg l (iTup K tl):=by subst hK;exact pi_tup hl
theorem pg_tupK {K:ab}{pos:Pos}{es:List Expr}{k:Nat}{t:TGs}{n:Nat}(hK:X.K=K)(hc:X.calm=true)(h:PGs X es t)
  (hn:(cg es X.env).length=n:=by rfl) (hst:(cg es X.env).findIdx? (·.1)=none:=by rfl):PG X (.Tuple es k pos) (gTup K n t):=by subst hK;exact pg_tup hc h hn hst
end
structure DefAt (K:ab)(mg:Str->Option Value)(x:Str)(st:Stmt)(ps:List Str)(f:Addr)(fd:bI):Prop where
 fn:Fun K x x st f fd
 mg:mg x=some (.ref f)
 bi:Binds K fd ps []
@[irreducible] noncomputable def Hold (p:Prop):Prop:=p
theorem Same.new {p:Addr}{H H1:Hp}{o:HO}(h:Same H H1)(hp:H1 p=none):Same H (L2.upd H1 p o):=λ x o e=>by
 have e1:=h x o e
 rw[za (zB e1 hp)]
 exact e1
section
variable {prog:aL} {w:World} {A:aS} {R:Result->ae->Prop} {I:Addr} {fp wr:List Addr} {n:Nat} {P:Nat->Value->Prop} {St:Nat->Heap->Prop} {kw:List (Str×Value)}
theorem min_loopD (W:Walks prog w A.in1 I fp wr n P St)(bt:Nat->Nat->Bool)(hcmp:CmpOf prog w A.in1 .Lt P bt)(S:Addr)(hSf:S ∉ fp) :
  ∀(k j:Nat) (s:ae) (vb:Value) (c:Nat),n - (j+1)=k->j+1<=n->St (j+1) s.heap->P (c8 bt j) vb ->
  s.heap.get? S=some { cls:=.type "list",dict:=none,data:=.seq #[vb,vb] c,slots:=#[] } ->
  (∀ v h' tk,P (c8 bt (n - 1)) v->(∀ b o,b ∉ wr->b≠S->s.heap.get? b=some o->h'.get? b=some o)->R (.ok (.ret v)) { s with heap:=h',toks:=tk }) ->
  eV (model prog w) A (.builtin "min.loop" ⟨[.ref I,.none,.ref S],kw⟩) R s:=by
 have hSw:S ∉ wr:=λ h=>hSf (W.sub _ h)
 have hname:(toString "min"++toString ".loop":String) = "min.loop":=by decide
 intro k
 induction k with
 | zero =>
  intro j s vb c hk hj hst hPb hS hR
  have hin:j+1=n:=by omega
  refine fY fA ?_
  rw[dZ cf _]
  show wpAny _ A.in1 (gD (.ref S) >>= _) _ _ s
  refine ai (dG hS rfl ?_)
  show wpAny _ A.in1 (tryCatch (iu (.ref I)) _ >>= _) _ _ s
  refine ai (dH (W.done s _ _ (hin▸hst) λ h' tk hk'=>?_))
  have hS':=hk' S _ hSw hS
  show wpAny _ A.in1 (updateSeq S (λ _=>#[]) >>= _) _ _ _
  refine ai ?_
  refine fZ hS' rfl (ai (gu (aE ?_)))
  refine hR vb _ tk (by rw[<-hin];exact hPb) λ b o hbw hbS e=>(bL _ _ (bQ hbS)).trans (hk' b o hbw e)
 | succ k ih =>
  intro j s vb c hk hj hst hPb hS hR
  have hlt:j+1<n:=by omega
  refine fY fA ?_
  rw[dZ cf _]
  show wpAny _ A.in1 (gD (.ref S) >>= _) _ _ s
  refine ai (dG hS rfl ?_)
  show wpAny _ A.in1 (tryCatch (iu (.ref I)) _ >>= _) _ _ s
  refine ai (dH (W.item (j+1) s _ _ hlt hst λ v h' tk hP hst' hk'=>?_))
  have hS':=hk' S _ hSw hS
  show wpAny _ A.in1 (tryCatch (ib [v,v] (richCompare .Lt v vb >>= _)) _ >>= _) _ _ _
  refine ai (dH (cO (ai (hcmp (j+1) (c8 bt j) v vb _ _ _ hP hPb ?_))))
  refine ai (cO (bB ?_))
  refine ai (gu (aE ?_))
  cases hb:bt (j+1) (c8 bt j)with
  | true =>
   simp only[if_true]
   refine ai ?_
   refine fZ hS' rfl (ai (gu ?_))
   rw[hname]
   refine aE ⟨fm cf _,ih (j+1) _ v _ (by omega) hlt (W.frame _ _ _ hst' λ b hbf o e=>?_) (by simp only[c8,hb,if_true];exact hP) (cQ _ hS' rfl)
    λ v' h'' tk'' hP' hk''=>?_⟩
   ·exact(bL _ _ (λ h:S=b=>hSf (by rw[h];exact hbf))).trans e
   ·exact hR v' h'' tk'' hP' λ b o hbw hbS e=>hk'' b o hbw hbS ((bL _ _ (bQ hbS)).trans (hk' b o hbw e))
  | false =>
   simp only[aQ,if_false]
   refine ai (gu ?_)
   rw[hname]
   refine aE ⟨fm cf _,ih (j+1) _ vb c (by omega) hlt hst' (by simp only[c8,hb,aQ,if_false];exact hPb) hS' λ v' h'' tk'' hP' hk''=>?_⟩
   exact hR v' h'' tk'' hP' λ b o hbw hbS e=>hk'' b o hbw hbS (hk' b o hbw e)
theorem min_firstD (W:Walks prog w A.in1 I fp wr n P St)(bt:Nat->Nat->Bool)(hcmp:CmpOf prog w A.in1 .Lt P bt)(S:Addr)(hSf:S ∉ fp){s:ae}{c:Nat}{d:Value}(hst:St 0 s.heap)
  (hS:s.heap.get? S=some { cls:=.type "list",dict:=none,data:=.seq #[] c,slots:=#[] })
  (h0:n=0->∀ h' tk,(∀ b o,b ∉ wr->b≠S->s.heap.get? b=some o->h'.get? b=some o)->R (.ok (.ret d)) { s with heap:=h',toks:=tk })
  (hR:0<n->∀ v h' tk,P (c8 bt (n - 1)) v->(∀ b o,b ∉ wr->b≠S->s.heap.get? b=some o->h'.get? b=some o)->R (.ok (.ret v)) { s with heap:=h',toks:=tk }) :
  eV (model prog w) A (.builtin "min.loop" ⟨[.ref I,.none,.ref S],[(cw "default",d)]⟩) R s:=by
 have hSw:S ∉ wr:=λ h=>hSf (W.sub _ h)
 have hname:(toString "min"++toString ".loop":String) = "min.loop":=by decide
 refine fY fA ?_
 rw[dZ cf _]
 show wpAny _ A.in1 (gD (.ref S) >>= _) _ _ s
 refine ai (dG hS rfl ?_)
 show wpAny _ A.in1 (tryCatch (iu (.ref I)) _ >>= _) _ _ s
 rcases Nat.eq_zero_or_pos n with hn|hn
 ·refine ai (dH (W.done s _ _ (hn▸hst) λ h' tk hk'=>?_))
  show wpAny _ A.in1 (rule _ >>= _) _ _ _
  refine ai (g9 (aE ?_))
  exact h0 hn h' tk λ b o hbw _ e=>hk' b o hbw e
 ·refine ai (dH (W.item 0 s _ _ hn hst λ v h' tk hP hst' hk'=>?_))
  have hS':=hk' S _ hSw hS
  show wpAny _ A.in1 (updateSeq S (λ _=>#[v,v]) >>= _) _ _ _
  refine ai ?_
  refine fZ hS' rfl ?_
  rw[hname]
  refine aE ⟨fm cf _,min_loopD W bt hcmp S hSf _ 0 _ v _ rfl hn (W.frame _ _ _ hst' λ b hbf o e=>?_) hP (cQ _ hS' rfl) λ v' h'' tk'' hP' hk''=>?_⟩
  ·exact(bL _ _ (λ h:S=b=>hSf (by rw[h];exact hbf))).trans e
  ·exact hR hn v' h'' tk'' hP' λ b o hbw hbS e=>hk'' b o hbw hbS ((bL _ _ (bQ hbS)).trans (hk' b o hbw e))
end
theorem args_minD (a d:Value):argsOk "min" ⟨[a],[(cw "default",d)]⟩:=by unfold argsOk;kernel_rfl
theorem jf (val : Nat -> Int) : ∀ k j, j <= k -> val (c8 (λ i j => decide (val i < val j)) k) <= val j
  | 0, j, h => by have : j = 0 := by omega
                  subst this; exact cx _
  | k + 1, j, h => by
    have ih := jf val k
    unfold c8
    by_cases hb : val (k + 1) < val (c8 (λ i j => decide (val i < val j)) k)
    · rw[if_pos (by simpa using hb)]
      by_cases hj : j = k + 1
      · subst hj; exact cx _
      · have := ih j (by omega); omega
    · rw[if_neg (by simpa using hb)]
      by_cases hj : j = k + 1
      · subst hj; omega
      · exact ih j (by omega)
noncomputable def rMinD (K:ab):V->V->Hp->VK->Prop:=λ x d H Q=>∃ a ns,x=.ref a/\SqL K H a (ns.map V.int)/\(ns=[]->Q d H)/\∀ m∈ns,(∀ y∈ns,m<=y)->Q (.int m) H
theorem vals_at {ns:List Int}{its:List Value}(r:Vals (ns.map V.int) its){i:Nat}{v:Value}(h:its[i]?=some v):∃ z t,ns[i]?=some z/\v=Value.int z t:=by
 have hl:=r.length
 rw[aG]at hl
 have hi:i<its.length:=(ac.mp h).1
 obtain⟨u,e1,q⟩:=r.get (i:=i) (x:=.int ns[i]) (by rw[aB,af (by omega)];rfl)
 rw[h]at e1;cases e1
 obtain⟨t,rfl⟩:=q
 exact⟨_,t,af (by omega),rfl⟩
theorem run_minD {X:Cx}{pins:List (Addr×Obj)}{σ:St}{H:Hp}{s:ae}{x d:V}{u w':Value}{Q:VK}(hc:X.calm=true)(I:Inv X pins σ H s)(rx:RelV x u)(rd:RelV d w')(h:rMinD X.K x d H Q) :
  wpAny (model X.prog X.w) X.A (call (.builtin "min") [u] [(cw "default",w')]) (EP X pins σ Q) X.xe s:=by
 obtain⟨a,ns,rfl,hS,q0,qm⟩:=h
 cases rx
 obtain⟨its,rv,pl,hz⟩:=I.list hS
 have hl:=rv.length
 rw[aG]at hl
 have hname:(toString "min"++toString ".loop":String) = "min.loop":=by decide
 refine kmb_tree F.kind_min F.plain_min F.entry_min (args_minD _ _) ?_
 show wpAny _ X.A.in1 (eB "min" ["key", "default"] 0 ⟨[],[(cw "default",w')]⟩ >>= _) _ _ s
 refine ai (wpAny_of_eq (show eB "min" ["key", "default"] 0 ⟨[],[(cw "default",w')]⟩=pure [none,some w']from rfl) ?_)
 refine ai (aE ?_)
 refine ai (cS pl.isList ?_)
 have hal:a<s.heap.objs.size:=by obtain⟨o,_,e,_⟩:=pl;exact aA e
 have W:=i3 (prog:=X.prog) (w:=X.w) (A:=X.A.in1) (I.ok.hd hc) s.heap.objs.size a (ay hal) its.toArray
 refine ai (bC ?_)
 generalize hs2:s.heap.push _=h2
 have hsz2:h2.objs.size=s.heap.objs.size+1:=by rw[<-hs2,bU]
 have hk2:∀ b o,s.heap.get? b=some o->h2.get? b=some o:=λ b o e=>by rw[<-hs2];exact ag _ e
 have hSf:h2.objs.size ∉ [s.heap.objs.size,a]:=by
  rw[hsz2]
  intro z
  rcases aD.mp z with z|z
  ·exact absurd z (Nat.succ_ne_self _)
  ·have z':s.heap.objs.size+1=a:=by simpa using z
   exact absurd (aq hal (by rw[<-z'];exact cY _)) (bp _)
 have st0:(h2.push { cls:=.type "list",data:=.seq ([]:List Value).toArray }).IsListIter s.heap.objs.size a 0/\(h2.push { cls:=.type "list",data:=.seq ([]:List Value).toArray }).IsList a its.toArray:=by
  refine⟨⟨_,ag _ (by rw[<-hs2];exact aM _ rfl),rfl,rfl⟩,?_⟩
  obtain⟨o,e,r⟩:=pl.isList
  exact⟨o,ag _ (hk2 _ _ e),r⟩
 let val:Nat->Int:=λ i=>ns.getD i 0
 have hval:∀ i v,its.toArray[i]?=some v->∃ t,v=Value.int (val i) t:=λ i v e=>by
  obtain⟨z,t,e1,e2⟩:=vals_at rv (i:=i) (v:=v) (by rw[cq]at e;exact e)
  refine⟨t,?_⟩
  rw[e2]
  show Value.int z t=Value.int (ns.getD i 0) t
  rw[a8,e1]
  rfl
 rw[hname]
 have nx:∀(h':Heap) (tk:Nat),(∀ b o,b ∉ [s.heap.objs.size]->b≠h2.objs.size->(h2.push { cls:=.type "list",data:=.seq ([]:List Value).toArray }).get? b=some o->h'.get? b=some o)->Inv X pins σ H { s with heap:=h',toks:=tk }:=λ h' tk k=>I.kept λ b o e=>by
  refine k b o ?_ ?_ (ag _ (hk2 b o e))
  ·intro z
   have z':b=s.heap.objs.size:=by simpa using z
   exact absurd (aA e) (by rw[z'];exact bp _)
  ·intro z
   exact absurd (aA e) (by rw[z,hsz2];exact Nat.not_lt.mpr (cY _))
 refine aE ⟨fm cf _,min_firstD (d:=w') W _ (jo val hval) h2.objs.size hSf st0 (aM _ rfl) (λ hn h' tk k=>?_) λ hn v h' tk hP k=>?_⟩
 ·have e:ns=[]:=by
   have:its.toArray.size=0:=hn
   have:its.length=0:=by simpa using this
   exact cF.mp (by omega)
  exact⟨d,H,nx h' tk k,rd,q0 e⟩
 ·obtain⟨z,t,e1,e2⟩:=vals_at rv (i:=c8 (λ i j=>decide (val i<val j)) (its.toArray.size - 1)) (v:=v) (by rw[cq]at hP;exact hP)
  subst e2
  have hv:val (c8 (λ i j=>decide (val i<val j)) (its.toArray.size - 1))=z:=by
   show ns.getD _ 0=z
   rw[a8,e1]
   rfl
  refine⟨.int z,H,nx h' tk k,⟨t,rfl⟩,qm z (aJ e1) λ y hy=>?_⟩
  obtain⟨j,hj,e3⟩:=cy.mp hy
  have:=jf val (its.toArray.size - 1) j (by simp only[av];omega)
  rw[hv]at this
  have e4:val j=y:=by
   show ns.getD j 0=y
   rw[a8,af hj]
   exact e3
  omega
noncomputable def tMinD (K:ab)(ta td:TE):TE:=λ σ H Q=>ta σ H λ x H1=>td σ H1 λ d H2=>rMinD K x d H2 Q
theorem pe_minD {X:Cx}{K:ab}{e de:Expr}{ta td:TE}{p pos kp:Pos}(hK:X.K=K)(hc:X.calm=true)(hg:Gl X "min")(hm:X.mg "min"=none)(ha:PE X e ta)(hd:PE X de td)
  (hs:bf [e] X.env=[(false,eval e X.env)]:=by rfl) :
  PE X (.Call (.Name "min" p) [e] [⟨some "default",de,kp⟩] pos) (tMinD K ta td):=by
 subst hK
 intro pins s σ H Q I h
 refine bX (ld_blt I hg hm b_min ?_)
 have h':tCons ta tNil σ H (λ vs H1=>match vs with|[x]=>td σ H1 λ d H2=>rMinD X.K x d H2 Q|_=>False):=h
 refine callWith_kw (env:=X.env) (thn ((qc ha pa_nil hs) pos pins s σ H _ I h') λ us s1 ⟨vs,H1,I1,r1,q1⟩=>?_) (by rw[hs];rfl) (by rw[hs];rfl)
 match vs,q1,r1 with
 | [x],q1,r1 =>
  obtain⟨u,rfl,ru⟩:=vals1 r1
  refine kws_cons (thn (hd pins s1 σ H1 _ I1 q1) λ v s2 ⟨d,H2,I2,rd,q2⟩=>kws_nil ?_)
  exact run_minD hc I2 ru rd q2
inductive D where
 | non|bl (b:Bool)|int (i:Int)|str (x:Str)|tup (l:List D)|lst (l:List D)
mutual
noncomputable def D.deep:D->Nat
 | .tup l=>D.deepL l+1
 | .lst l=>D.deepL l+1
 | _=>0
noncomputable def D.deepL:List D->Nat
 | []=>0
 | d::l=>max (D.deep d) (D.deepL l)
end
section
variable {X:Cx}
end
section
variable {X:Cx}
noncomputable def rCatA (K:ab):R2:=λ x y H Q=>∃ a b xs ys,x=.ref a/\y=.ref b/\SqT K H a xs/\SqT K H b ys/\xs.length+ys.length<=aH/\∀ p H',Same H H'->SqT K H' p (xs++ys)->Q (.ref p) H'
theorem cat_nil {prog:aL}{w:World}{A:aS}{E:Value->ae->Prop}{s:ae}{t b:Addr}{ws:List Value}{Q:Value->ae->Prop}(ht:IsTup s.heap t ([]:List Value).toArray)(hb:IsTup s.heap b ws.toArray)(h1:Q (.ref b) s) :
  wpAny (model prog w) A (bV .Add (.ref t) (.ref b)) Q E s:=by
 obtain⟨⟨cls,dd,data,sl⟩,ho,hc,n,hd⟩:=id ht
 obtain⟨⟨cls2,dd2,data2,sl2⟩,ho2,hc2,n2,hd2⟩:=id hb
 simp only at hc hd hc2 hd2
 subst hc hd hc2 hd2
 exact ij ⟨_,ho,rfl⟩ ⟨_,ho2,rfl⟩ fx gP dC dv (dh _ _)
   (tuple_addW0 t b _ ws.toArray n n2 dd dd2 sl sl2 rfl) ⟨ho,ho2,h1⟩
theorem op_catK {K:ab}(hK:X.K=K):OpR X (bV .Add) (rCatA K):=by
 subst hK
 intro pins s σ H x y v u Q I rx ry h
 obtain⟨a,b,xs,ys,e1,e2,ha,hb,hz,q⟩:=h
 by_cases hx:xs=[]
 ·subst e1;subst e2;subst hx
  cases rx;cases ry
  obtain⟨its,r1,p1,_⟩:=I.tuple ha
  obtain⟨its2,r2,p2,_⟩:=I.tuple hb
  obtain rfl:its=[]:=r1.nil_iff.mpr rfl
  exact cat_nil p1 p2 ⟨.ref b,H,I,rfl,q b H (Same.refl H) hb⟩
 ·refine op_catT pins s σ H x y v u Q I rx ry ⟨a,b,xs,ys,e1,e2,ha,hb,hx,hz,λ z=>?_,λ z p hp=>?_⟩
  ·subst z
   exact q a H (Same.refl H) (by rw[bF];exact ha)
  ·exact q p _ ((Same.refl H).new hp) (SqT.of ze)
noncomputable def rSlA (K:ab):V->Option Int->Option Int->Hp->VK->Prop:=λ x lo hi H Q=>∃ a xs,x=.ref a/\SqT K H a xs/\∀ p H',Same H H'->SqT K H' p (cutV xs lo hi)->Q (.ref p) H'
theorem getItem_whole {prog:aL}{w:World}{A:aS}{E:Value->ae->Prop}{s:ae}{t sl:Addr}{items:Array Value}{vl vu:Value}{lo hi:Option Int}{Q:Value->ae->Prop}(ht:IsTup s.heap t items)(hs:s.heap.IsSliceOf sl vl vu .none)(pl:fh vl lo)(pu:fh vu hi)
  (hw:HT.sIx items.size 0 lo=0/\HT.sIx items.size items.size hi=items.size) (h:Q (.ref t) s):wpAny (model prog w) A (fK (.ref t) (.ref sl)) Q E s:=by
 obtain⟨os,hos,hcs,hds⟩:=id hs
 have hTs:s.TypeIs (.ref sl) "slice":=⟨os,hos,hcs⟩
 unfold fK
 try with_reducible refine cO ?_
 first|refine ai (aE ?_)|skip
 refine ai (ik ht.typeIs (by decide) ?_)
 refine ai (cE (name:=cw "__getitem__") ht.typeIs bo
  (c6 bo ht.typeIs gG ?_ (g6 _ _)))
 show wpAny _ _ (cW (.ref t) >>= _) _ _ s
 refine ai (gQ ht ?_)
 refine ai (fL hTs ?_)
 rw[if_pos (by decide)]
 refine ai (HT.sliceApplied_gen hs pl pu ?_)
 have hyes:((((HT.sIx items.size 0 lo:Nat):Int)==0&&(1:Int)==1&&(HT.sIx items.size items.size hi - HT.sIx items.size 0 lo)==items.size)=true):=by
  rw[hw.1,hw.2]
  simp
 show wpAny _ _ (if(((HT.sIx items.size 0 lo:Nat):Int)==0&&(1:Int)==1&&(HT.sIx items.size items.size hi - HT.sIx items.size 0 lo)==items.size)=true then _ else _) _ _ s
 rw[if_pos hyes]
 refine ai (ai (fL ht.typeIs (aE ?_)))
 rw[if_pos (by decide)]
 exact ai (g9 (aE ⟨_,rfl,aE h⟩))
theorem cutV_whole {xs:List V}{lo hi:Option Int}(h:HT.sIx xs.length 0 lo=0/\HT.sIx xs.length xs.length hi=xs.length):cutV xs lo hi=xs:=by
 unfold cutV
 rw[h.1,h.2]
 simp
theorem sl_tupK {K:ab}(hK:X.K=K):SlR X (rSlA K):=by
 subst hK
 intro pins s σ H x v vl vu lo hi sl Q I rx hs pl pu h
 obtain⟨a,xs,e1,hx,q⟩:=h
 by_cases hw:HT.sIx xs.length 0 lo=0/\HT.sIx xs.length xs.length hi=xs.length
 ·subst e1
  cases rx
  obtain⟨its,r,ht,hz⟩:=I.tuple hx
  have hlen:its.toArray.size=xs.length:=by rw[av];exact r.length.symm
  refine⟨"tuple",_,bo.lookup,ht.typeIs,?_⟩
  exact getItem_whole ht hs pl pu (by rw[hlen];exact hw) ⟨.ref a,H,I,rfl,q a H (Same.refl H) (by rw[cutV_whole hw];exact hx)⟩
 ·exact sl_tup pins s σ H x v vl vu lo hi sl Q I rx hs pl pu ⟨a,xs,e1,hx,hw,λ p hp=>q p _ ((Same.refl H).new hp) (SqT.of ze)⟩
theorem sl_listK {K:ab}(hK:X.K=K):SlR X (rSlL K):=by subst hK;exact sl_list
end
noncomputable def Its (x:Str):It:=⟨λ i _=>i<x.cps.size,λ i H v H'=>H'=H/\∃ c,x.cps[i]?=some c/\v=.str ⟨#[c]⟩,λ i _=>x.cps.size<=i⟩
theorem turn_str {P:aL}{w:World}{K:ab}{tg:Expr}{ty:String}{x:Str}{t:Tok}(it:Addr)(hn:["enumerate", "zip", "dict_itemiterator", "dict_reverseitemiterator", "odict_iterator", "itertools.zip_longest", "itertools.pairwise"].contains ty=false)
  (W:∀ A:aS,A.handled=none->Walks P w A it [it] [it] x.cps.size (SignAt x) (λ i h=>h.IsStrIter it ty x t i))
  (hend:∀(A:aS) (s:ae) (i:Nat) (Q:Option Value->ae->Prop) (E:Value->ae->Prop),A.handled=none->s.heap.IsStrIter it ty x t i->x.cps[i]?=none->(∀ h',iI it s.heap h'->Q none { s with heap:=h' })->wpAny (model P w) A (iu (.ref it)) Q E s)
  (hself:∀(A:aS) (i:Nat) (s:ae) (Q:Value->ae->Prop) (E:Value->ae->Prop),s.heap.IsStrIter it ty x t i->Q (.ref it) s->wpAny (model P w) A (ju (.ref it)) Q E s):Turn P w K tg (Its x) [it] it (λ i h=>h.IsStrIter it ty x t i) where
 mem:=by simp
 obj:=λ i h st b hb=>by
  have e:b=it:=by simpa using hb
  subst e
  obtain⟨o,ho,hc,hd⟩:=st
  exact⟨o,ho,λ v z=>by rw[hd]at z;cases z⟩
 keep:=λ i h h' st k=>by
  obtain⟨o,ho,r⟩:=st
  exact⟨o,k it (by simp) _ ho,r⟩
 item:=by
  intro X hP hw hK hc i pins s σ H E I hf st hg
  subst hP hw hK
  obtain⟨f0,f1,f2,f3,f4,f5⟩:=hf it (by simp)
  refine(W X.A (I.ok.hd hc)).item i s _ _ hg st λ v h' tk hv st' kk=>?_
  obtain⟨c,u,hcx,rfl⟩:=hv
  have I1:Inv X pins σ H { s with heap:=h',toks:=tk }:=I.turned (λ b o hb e=>kk b o (by simpa using hb) e) f0 f1 f3 f4 f5
  obtain⟨o,ho,hcl,hd⟩:=id st'
  exact⟨_,rfl,go_of (s:={ s with heap:=h',toks:=tk }) (n:=ty) ho hcl hd hn ⟨.str ⟨#[c]⟩,H,I1,⟨u,rfl⟩,⟨rfl,c,hcx,rfl⟩,st',λ b hb=>(hf b hb).1⟩⟩
 done:=by
  intro X hP hw hK hc i pins s σ H E I hf st hg
  subst hP hw hK
  obtain⟨f0,f1,f2,f3,f4,f5⟩:=hf it (by simp)
  have hin:x.cps.size<=i:=hg
  exact hend X.A s i _ E (I.ok.hd hc) st (by simp;omega) λ h' eb=>⟨rfl,I.turned (t':=s.toks) (λ b o hb e=>eb b o hb e) f0 f1 f3 f4 f5⟩
 self:=λ A i s Q E st h=>hself A i s Q E st h
noncomputable def iStr (tl:TE):TI:=λ σ H R=>tl σ H λ v H1=>∃ x,v=.str x/\R (Its x) H1
theorem pi_str {X:Cx}{tg l:Expr}{tl:TE}(hl:PE X l tl):PI X tg l (iStr tl):=by
 intro pins s σ H R I h
 refine thn (hl pins s σ H _ I h) λ v s1 ⟨v0,H1,I1,r1,q1⟩=>?_
 obtain⟨x,e,q⟩:=q1
 subst e
 obtain⟨t,rfl⟩:=r1
 have fin:∀(ty:String) (o:Obj),o={ cls:=.type ty,data:=.fields #[.str x t,.int 0 0] }->Turn X.prog X.w X.K tg (Its x) [s1.heap.objs.size] s1.heap.objs.size (λ i h=>h.IsStrIter s1.heap.objs.size ty x t i)->PIE X pins σ tg R (.ref s1.heap.objs.size) { s1 with heap:=s1.heap.push o }:=λ ty o eo T=>by
  subst eo
  refine⟨s1.heap.objs.size,[s1.heap.objs.size],_,_,H1,rfl,I1.kept (t':=s1.toks) λ b o e=>ag _ e,T,⟨_,aM _ rfl,rfl,rfl⟩,λ b hb=>?_,q⟩
  have e:b=s1.heap.objs.size:=by simpa using hb
  subst e
  exact I1.fpOk (aj _) (I1.hok.fresh (aj _))
 cases ha:x.cps.all (·<128)
 ·exact wpAny_pyIter_wide ha (fin "str_iterator" _ rfl (turn_str _ (by decide) (λ A hA=>Walks.strWide hA _ x t) (λ A s i Q E hA st hx hQ=>wpAny_pyNext_wide_end hA st hx hQ) λ A i s Q E st h=>wpAny_pyIter_striter_wide st h))
 ·exact wpAny_pyIter_ascii ha (fin "str_ascii_iterator" _ rfl (turn_str _ (by decide) (λ A hA=>Walks.strAscii hA _ x t) (λ A s i Q E hA st hx hQ=>wpAny_pyNext_ascii_end hA st hx hQ) λ A i s Q E st h=>wpAny_pyIter_striter_ascii st h))
section
variable {X:Cx} {K:ab} {T id:String} {name:Str} {o e:Expr} {es:List Expr} {to:TE} {t:TA} {r:V->List V->Hp->VK->Prop} {apos cpos:Pos}
theorem pe_bmK (hK:X.K=K)(pa:iY T)(slot:Slot T name id)(hty:typeOf (.builtin id)=pure (.type "method_descriptor"))(hm:MtR X id r)(ho:PE X o to)(ha:PA X (e::es) t)
  (hbase:fi o name X.env (eval o X.env)=eval o X.env:=by rfl)
  (hfew:((dB cpos (bf (e::es) X.env)).all (λ x=>!x.1)&&(backToKw cpos (keywordEach [] X.env)).all (λ x=>x.1.isSome)
   && decide ((e::es).length+([]:List iT).length+(if([]:List iT).isEmpty then 0 else 1)<30))=true:=by rfl)
  (hline:(apos.endLine==cpos.line)=true:=by rfl) (hs:bf (e::es) X.env=(false,eval e X.env)::bf es X.env:=by rfl) (hplain:(dB cpos (bf es X.env)).any (·.1)=false:=by rfl) :
  PE X (.Call (.Attribute o name apos) (e::es) [] cpos) (tBM K T r to t):=by
 subst hK
 exact pe_bm pa slot hty hm ho ha hbase hfew hline hs hplain
end
structure Mach where
 letters:Int
 rooms:Int
 begins:List Int
 ends:List Int
 doors:List (Int×Str×Int×Int)
noncomputable def doorD (q:Int×Str×Int×Int):D:=.tup [.int q.1,.str q.2.1,.int q.2.2.1,.int q.2.2.2]
noncomputable def Mach.D (M:Mach):D:=.tup [.int M.letters,.int M.rooms,.tup (M.begins.map .int),.tup (M.ends.map .int),.tup (M.doors.map doorD)]
noncomputable def ltr (i:Nat):Str:=⟨#[97+i]⟩
structure DoorOk (letters rooms:Int)(q:Int×Str×Int×Int):Prop where
 s0:0<=q.1
 s1:q.1<rooms
 l:∃ i:Nat,(i:Int)<letters/\q.2.1=ltr i
 g0:0<=q.2.2.1
 g1:q.2.2.1<rooms
 t0:0<=q.2.2.2
 t1:q.2.2.2<=3
structure RoomsOk (rooms:Int)(l:List Int):Prop where
 mem:∀ r∈l,0<=r/\r<rooms
 up:l.Pairwise (· < ·)
structure Mach.Ok (most:Nat)(M:Mach):Prop where
 l0:1<=M.letters
 l1:M.letters<=3
 r0:1<=M.rooms
 r1:M.rooms<=5
 b:RoomsOk M.rooms M.begins
 e:RoomsOk M.rooms M.ends
 d:∀ q∈M.doors,DoorOk M.letters M.rooms q
 m:M.doors.length<=most
mutual
noncomputable def D.tups:D->Bool
 | .lst _=>false
 | .tup l=>D.tupsL l
 | _=>true
noncomputable def D.tupsL:List D->Bool
 | []=>true
 | d::l=>D.tups d&&D.tupsL l
end
end L2
end
noncomputable section
namespace L2
end L2
end
noncomputable section
namespace L2
open PySem PySem.Spec PyProof.Rows
noncomputable def optD:Option Int->D
 | none=>.non
 | some i=>.int i
noncomputable def addO:Option Int->Option Int->Option Int
 | some a,some b=>some (a+b)
 | _,_=>none
noncomputable def minO:List Int->Option Int
 | []=>none
 | a::l=>some (match minO l with|none=>a|some b=>if b<a then b else a)
theorem minO_nil_iff:∀ {l:List Int},minO l=none↔l=[]
 | []=>by simp[minO]
 | a::l=>by simp[minO]
theorem minO_spec:∀ {l:List Int} {m:Int},minO l=some m->m∈l/\∀ y∈l,m<=y
 | [],m,h=>by cases h
 | a::l,m,h=>by
  unfold minO at h
  have h':=au h
  cases e:minO l with
  | none =>
   rw[e]at h'
   have:l=[]:=minO_nil_iff.mp e
   subst this
   have:a=m:=h'
   subst this
   exact⟨aC,λ y hy=>by(have h0:y=a:=(by simpa using hy));omega⟩
  | some b =>
   rw[e]at h'
   obtain⟨h1,h2⟩:=minO_spec e
   have h'':(if b<a then b else a)=m:=h'
   split at h''
   ·subst h''
    exact⟨aw _ h1,λ y hy=>by
     rcases aD.mp hy with z|z
     ·omega
     ·exact h2 y z⟩
   ·subst h''
    exact⟨aC,λ y hy=>by
     rcases aD.mp hy with z|z
     ·omega
     ·have:=h2 y z;omega⟩
theorem ps_setComp {X:Cx}{elt tg iter:Expr}{ifs:List Expr}{scope:Scope}{pos spos py:Pos}{y:Str}{i:Nat}{wi:TI}{g:TG}{tc:TT}{te:TE}(N':List Str)(src:List (Option Nat))
  (hN:X.N.Nodup) (hyi:X.N[i]?=some y) (hyl:X.env.scope.names.lookup y=some .local)
  (hck:z9 N' src scope X.N X.env.scope=true) (hi:PI X tg iter wi) (hcalm:X.calm=true)
  (hin:∀(C:Addr) (cells:List (Str×Addr)) (s:ae) (H:Hp) (ex:List Addr),PG (zQ X N' scope C cells s H ex) tg g/\PIf (zQ X N' scope C cells s H ex) ifs tc/\PE (zQ X N' scope C cells s H ex) elt te)
  (hs:∀ x,cT iter X.env x=pure x:=by intro _;rfl)
  (hsw:fv (.ListComp elt [⟨tg,iter,ifs,0⟩] scope pos) (some (.Name y py)) spos.line X.env=pure true:=by rfl) :
  PS X (.Assign [.Name y py] (.ListComp elt [⟨tg,iter,ifs,0⟩] scope pos) spos) (tAsg (tComp src wi g tc te) (gName i)):=by
 intro pins s σ H D0 I h
 have ck:=compCk hck
 rw[exec_Assign_Name_used _ _ _ _ hsw]
 refine ai (gO (ai ?_))
 show wpAny _ X.A (do let _ <- comprehension (.ListComp elt [⟨tg,iter,ifs,0⟩] scope pos) scope X.env _ (newList []) false (eval iter X.env) (some (fH (.Name y py) X.env))) _ _ s
 have hcl:=qh (scope:=scope) (env:=X.env) λ y hy e=>I.ok.has y.1 (ck.fr y hy e)
 refine ai (b8 (fj (use:=some (fH (.Name y py) X.env)) (Q:=λ _ s'=>SP X pins D0 .next s') rfl hs hcl ck.kind ck.loc (thn (hi pins s σ H _ I h) λ v s1 h1=>thn h1 λ itv s2 h2=>?_)) (λ _ s' hq=>aE (aE hq)) λ _ _ e=>e)
 obtain⟨it,fp,tn,J,H2,e,I2,T,st2,f2,W⟩:=h2
 subst e
 have hD:=I2.fresh
 obtain⟨W,⟨m0,w0⟩,turn⟩:=W _ hD
 have I3:=I2.lnew (its:=[]) (ys:=[]) (t':=s2.toks) .nil (cX _)
 have fpD:∀ b∈fp,b<s2.heap.objs.size:=λ b hb=>by obtain⟨o,q,_⟩:=T.obj _ _ st2 b hb;exact aA q
 have f3:∀ b∈fp,FpOk X pins (upd H2 s2.heap.objs.size (.lst [])) b:=λ b hb=>⟨by rw[za (ay (fpD b hb))];exact(f2 b hb).1,(f2 b hb).2⟩
 refine bC (wpAny_compEnv ?_)
 generalize hs3:({ s2 with heap:=s2.heap.push { cls:=.type "list",data:=.seq ([]:List Value).toArray },toks:=s2.toks }:ae)=s3 at I3
 have hs3':({ s2 with heap:=s2.heap.push { cls:=.type "list",data:=.seq ([]:List Value).toArray } }:ae)=s3:=hs3
 have fp3:∀ b∈fp,b<s3.heap.objs.size:=λ b hb=>by
  rw[<-hs3]
  show b<(s2.heap.push _).objs.size
  rw[bU]
  exact eY (fpD b hb)
 have I4:=comp_start (s4:={ s3 with heap:=dQ (s3.heap.push { cls:=.type "dict",data:=.dict #[] }) scope.names }) ck I3 f3 fp3 ⟨_,rfl⟩
 have tn4:tn 0 (dQ (s3.heap.push { cls:=.type "dict",data:=.dict #[] }) scope.names):=T.keep _ _ _ st2 λ b hb o e=>cL _ _ b o (ag _ (by rw[<-hs3];exact ag _ e))
 obtain⟨hg,hif,he⟩:=hin s3.heap.objs.size (aI (s3.heap.objs.size+1) scope.names (clOf X.env.cells scope.names [])) s3 (upd H2 s2.heap.objs.size (.lst [])) fp
 have stat:∀ H':Hp,(∀ b∈fp,H' b=none)->∀ b∈fp,FpOk (zQ X N' scope s3.heap.objs.size (aI (s3.heap.objs.size+1) scope.names (clOf X.env.cells scope.names [])) s3 (upd H2 s2.heap.objs.size (.lst [])) fp) [] H' b:=λ H' hn b hb =>
  ⟨hn b hb,(I4.ok.exf b hb).1,I4.ok.exfs b hb,.inl hb,λ x c e=>(I4.ok.exf b hb).2 x c e,λ p hp=>absurd (show p∈([]:List (Addr×Obj))from hp) (by simp)⟩
 have T':Turn X.prog X.w X.K tg J fp it tn:=T
 have fr0:∀ b∈fp,upd H2 s2.heap.objs.size (.lst []) b=none:=λ b hb=>(f3 b hb).1
 have L:=comp_loop (X':=zQ X N' scope s3.heap.objs.size (aI (s3.heap.objs.size+1) scope.names (clOf X.env.cells scope.names [])) s3 (upd H2 s2.heap.objs.size (.lst [])) fp) (R:=compPost (model X.prog X.w) X.A X.xe (some (fH (.Name y py) X.env)) (λ _ s'=>SP X pins D0 .next s') (Value.ref s2.heap.objs.size) s3.heap.objs.size) (iter:=iter) (scope:=scope) (pos:=pos) (QD:=λ H'=>D0.nx (σ.set i (some (.ref s2.heap.objs.size))) H') rfl hcalm I4 T' tn4 stat fr0 w0 turn hg hif he
  (λ σ' H' s' J' q=>by
   have J2:=comp_end I3 f3 J' (Heap.SameBut.refl _ _)
   obtain⟨mm,hn,_⟩:=J'.loc
   have nL:s3.heap.objs.size≠X.env.locals:=c5 I3.lt
   have nC:∀ x c,X.env.cells.lookup x=some c->c≠s3.heap.objs.size:=λ x c e=>by
    obtain⟨v,z⟩:=I3.cell x c e
    exact ay z.lt
   show wpAny _ X.A (fH (.Name y py) X.env (.ref s2.heap.objs.size)) _ _ _
   refine ie (store_ok2 (v:=.ref s2.heap.objs.size) J2 hN hyi (.inl hyl) rfl (λ s5 I5 sb=>?_) (.inr hyl))
   obtain⟨aa,sb,ha⟩:=sb
   have na:s3.heap.objs.size≠aa:=by
    rcases ha with z|z
    ·rw[z];exact nL
    ·exact λ e=>nC _ _ z e.symm
   refine⟨mm,hn.sameBut sb na,λ h' hs'=>⟨_,H',I5.turned (t':=s5.toks) (λ b o hb e=>(hs'.2 b hb).trans e) J'.free nL (.inr I3.sz) nC λ p hp z=>?_,q⟩⟩
   exact absurd (aA (I3.pin p hp).1) (by rw[z];exact bp _))
 exact fR L (T.self _ _ _ _ _ tn4 L)
noncomputable def rSlS:V->Option Int->Option Int->Hp->VK->Prop:=λ x lo hi H Q=>∃ z,x=.str z/\z.length<=aH/\Q (.str (d8 z lo hi)) H
theorem isPart_of {v:Value}{o:Option Int}(p:fh v o):∃ q:Option (Int×Tok),v=partValue q/\q.map (·.1)=o:=by
 cases p with
 | none=>exact⟨none,rfl,rfl⟩
 | int i t=>exact⟨some (i,t),rfl,rfl⟩
theorem sl_str {X:Cx}:SlR X rSlS:=by
 intro pins s σ H x v vl vu lo hi sl Q I rx hs pl pu h
 obtain⟨z,rfl,hz,q⟩:=h
 obtain⟨t,rfl⟩:=rx
 obtain⟨l,rfl,el⟩:=isPart_of pl
 obtain⟨u,rfl,eu⟩:=isPart_of pu
 refine⟨"str",_,F.slot_str_getitem.lookup,iX s z t,?_⟩
 refine wpAny_getItem_str_slice (l:=l) (u:=u) (st:=none) hs rfl ?_
 unfold sliceMade
 have e:slicePicked z l u none=br lo hi 1 z.length:=by
  unfold slicePicked
  rw[el,eu]
  rfl
 rw[e]
 unfold d8 at q
 split
 ·rename_i hc
  have hc':((1:Int)==1&&(br lo hi 1 z.length).length==z.length)=true:=hc
  rw[if_pos hc']at q
  exact⟨.str z,H,I,⟨t,rfl⟩,q⟩
 ·rename_i hc
  have hc':¬((1:Int)==1&&(br lo hi 1 z.length).length==z.length)=true:=hc
  rw[if_neg hc']at q
  have hlen:(Str.mk (gv (λ x=>z.cps[x]?) (br lo hi 1 z.length)).toArray).length<=aH:=by
   show(gv (λ x=>z.cps[x]?) (br lo hi 1 z.length)).toArray.size<=aH
   rw[av]
   exact am (fq _ _) (am (sliceIndices_le lo hi z.length) hz)
  exact⟨hlen,.str _,H,I.tok _,⟨_,rfl⟩,q⟩
section
variable {M:Model} {A:aS} {E:Value->ae->Prop} {s₀ s:ae} {m cm:Str->Option Value} {env:Env} {cs:List (Str×Addr)}
theorem put_loc {n:Str}{v:Value}{Q:Unit->ae->Prop}(z:eW s₀ env.locals m cs cm s)(kf:env.scope.kind=.function)(kl:env.kindOf n=some .local)
  (go:∀ s',eW s₀ env.locals (λ y=>if y=n then some v else m y) cs cm s'->Q () s'):wpAny M A (fu env n v) Q E s:=by
 refine f8 kl z.toInCall.ns (λ g gn gs=>go _ ⟨⟨?a,gn,λ b o e=>?b,z.toInCall.fresh⟩,λ k c e=>?c,z.apart,z.above⟩) (by rw[kf];rfl)
 case a=>obtain⟨h₁,tk,e⟩:=z.toInCall.same;subst e;exact⟨g,_,rfl⟩
 case b=>exact gs.extBut b o (ay (aq (aA e) z.toInCall.fresh)) (z.toInCall.keep b o e)
 case c=>exact(z.cell k c e).sameBut gs (c5 (z.above k c (az e)))
theorem put_cel {n:Str}{c:Addr}{v:Value}{Q:Unit->ae->Prop}(z:eW s₀ env.locals m cs cm s)(kf:env.scope.kind=.function)(kc:env.kindOf n=some .cell)
  (e1:env.cells.lookup n=some c) (e2:cs.lookup n=some c) (go:∀ s',eW s₀ env.locals m cs (λ y=>if y=n then some v else cm y) s'->Q () s'):wpAny M A (fu env n v) Q E s:=by
 have up:=z.above n c (az e2)
 refine gh kf kc e1 (z.cell n c e2) λ g gc gs=>go _ ⟨⟨?a,z.toInCall.ns.sameBut gs (ay up),λ b o e=>?b,z.toInCall.fresh⟩,λ k c' e=>?c,z.apart,z.above⟩
 case a=>obtain⟨h₁,tk,e⟩:=z.toInCall.same;subst e;exact⟨g,_,rfl⟩
 case b=>exact gs.extBut b o (ay (dI (aq (aA e) z.toInCall.fresh) up)) (z.toInCall.keep b o e)
 case c =>
  by_cases q:k=n
  ·subst q
   rw[e2]at e;cases e
   simpa using gc
  ·rw[if_neg q]
   exact(z.cell k c' e).sameBut gs λ y=>q (fJ z.apart (az e) (y▸az e2))
theorem put_all (f:Str×Value->PUnit->Sem (ForInStep PUnit))(hf:∀ n v u,f (n,v) u=(do fu env n v;pure (.yield ⟨⟩)))(kf:env.scope.kind=.function)(sub:∀ n c,cs.lookup n=some c->env.cells.lookup n=some c) :
  ∀(bs:List (Str×Value)) (m cm:Str->Option Value) (s:ae) (Q:PUnit->ae->Prop),eW s₀ env.locals m cs cm s ->
   (∀ y∈bs,env.kindOf y.1=some .local\/(env.kindOf y.1=some .cell/\∃ c,cs.lookup y.1=some c)) ->
   (∀ s',eW s₀ env.locals (bindL env.kindOf bs m) cs (bindC env.kindOf bs cm) s'->Q ⟨⟩ s')->wpAny M A (forIn bs ⟨⟩ f) Q E s
 | [],m,cm,s,Q,z,_,go=>by rw[gr];exact aE (go s z)
 | (n,v)::r,m,cm,s,Q,z,hy,go=>by
  rw[iL,hf]
  have hr:=λ y (q:y∈r)=>hy y (aw _ q)
  rcases hy (n,v) aC with kl|⟨kc,c,e2⟩
  ·refine ai (ai (put_loc z kf kl λ s' z'=>aE (put_all f hf kf sub r _ _ s' Q z' hr λ s'' z''=>go s'' ?_)))
   unfold bindL bindC;rw[if_pos kl,if_pos kl];exact z''
  ·have nl:¬ env.kindOf n=some .local:=by rw[kc];decide
   refine ai (ai (put_cel z kf kc (sub n c e2) e2 λ s' z'=>aE (put_all f hf kf sub r _ _ s' Q z' hr λ s'' z''=>go s'' ?_)))
   unfold bindL bindC;rw[if_neg nl,if_neg nl];exact z''
end
theorem enter_clos {M:Model}{A:aS}{E:Value->ae->Prop}{s:ae}{scope:Scope}{globals:Addr}{clos:List (Str×Addr)}{binds:List (Str×Value)}{qual:Str}{func:Option Addr}{code:Value}{builtins:Addr}{Q:Env->ae->Prop}
  (kf:scope.kind=.function) (hy:∀ y∈binds,scope.names.lookup y.1=some .local\/(scope.names.lookup y.1=some .cell/\∃ c,(aI (s.heap.objs.size+1) scope.names []).lookup y.1=some c))
  (go:∀ env,env=newEnv scope s.heap.objs.size globals (aI (s.heap.objs.size+1) scope.names clos) qual func code none builtins ->
   ∀ s',eW s env.locals (bindL env.kindOf binds λ _=>none) (aI (s.heap.objs.size+1) scope.names []) (bindC env.kindOf binds λ _=>none) s'->Q env s') :
  wpAny M A (eM scope globals clos binds qual func code none builtins) Q E s:=by
 simp only[eM,hG,aQ,if_false]
 refine ai (wpAny_alloc (ai (wpAny_layCells _ (λ nm kd ce=>by cases q:kd==NameKind.cell<;>simp[q]) _ _ _ _ ?_)))
 have ok:=cellsFrom_ok scope.names (s.heap.push { cls:=.type "frame",data:=.dict #[] }) (s.heap.objs.size+1) [] ⟨λ _ _ hm=>(nomatch hm),List.Pairwise.nil⟩ (by rw[bU];exact aj _)
 have esz:({ s with heap:=s.heap.push { cls:=.type "frame",data:=.dict #[] } }:ae).heap.objs.size=s.heap.objs.size+1:=bU ..
 rw[bU]at ok
 rw[esz]
 refine ai (put_all (s₀:=s) (cs:=aI (s.heap.objs.size+1) scope.names []) (env:=newEnv scope s.heap.objs.size globals (aI (s.heap.objs.size+1) scope.names clos) qual func code none builtins)
  _ (λ _ _ _=>rfl) kf (λ n c e=>?sub) binds (λ _=>none) (λ _=>none) _ _ ⟨⟨⟨_,_,rfl⟩,?ns,λ b o e=>?k,aj _⟩,λ n c e=>(ok.empty n c (az e)).1,ok.apart,λ n c e=>(ok.empty n c e).2⟩ hy λ s' x=>aE (go _ rfl s' x))
 case sub =>
  show(aI _ _ _).lookup n=some c
  rw[zt,zM,e];rfl
 case ns=>exact(jF s.heap (.type "frame")).keeps (cL _ _)
 case k=>exact cL _ _ b o (ag _ e)
noncomputable def qu (c:Addr)(qual:Str):HO:=.ext λ h=>h.CodeRec (.ref c) qual
noncomputable def lamO (f:Addr)(fd:bI):HO:=.ext λ h=>h.get? f=some { cls:=.type "function",data:=.func fd }
theorem codeO_ok {P:aL}{w:World}{H:Hp}{h:Heap}{c:Addr}{q:Str}(r:h.CodeRec (.ref c) q):ObjOk P w H h c (qu c q):=by
 refine⟨r,?_,λ h1 h2 z k=>?_⟩
 ·obtain⟨c',o,vs,t,e,g,_⟩:=r
  cases e
  exact⟨o,g⟩
 ·obtain⟨c',o,vs,t,e,g,d⟩:=z
  cases e
  exact⟨c,o,vs,t,rfl,k o g,d⟩
theorem codeO_get {P:aL}{w:World}{H:Hp}{h:Heap}{c:Addr}{q:Str}(x:HOk P w H h)(e:H c=some (qu c q)):h.CodeRec (.ref c) q:=(x c _ e).1
theorem lamO_ok {P:aL}{w:World}{H:Hp}{h:Heap}{f:Addr}{fd:bI}(r:h.get? f=some { cls:=.type "function",data:=.func fd }):ObjOk P w H h f (lamO f fd) :=
 ⟨r,⟨_,r⟩,λ _ _ z k=>k _ z⟩
theorem lamO_get {P:aL}{w:World}{H:Hp}{h:Heap}{f:Addr}{fd:bI}(x:HOk P w H h)(e:H f=some (lamO f fd)):h.get? f=some { cls:=.type "function",data:=.func fd }:=(x f _ e).1
noncomputable def isC (cells:List (Str×Addr))(b:Addr):Bool:=cells.any λ p=>cells.lookup p.1==some b
theorem isC_iff {cells:List (Str×Addr)}{b:Addr}:isC cells b=true↔∃ x,cells.lookup x=some b:=by
 unfold isC
 rw[iB]
 constructor
 ·rintro⟨p,_,e⟩;exact⟨p.1,by simpa using e⟩
 ·rintro⟨x,e⟩;exact⟨(x,b),az e,by simpa using e⟩
noncomputable def Drop (cells:List (Str×Addr))(H:Hp):Hp:=λ b=>if isC cells b=true then none else H b
noncomputable def Put (cells:List (Str×Addr))(H H':Hp):Hp:=λ b=>if isC cells b=true then H b else H' b
theorem Drop.cell {cells:List (Str×Addr)}{H:Hp}{b:Addr}(h:isC cells b=true):Drop cells H b=none:=if_pos h
theorem Drop.ne {cells:List (Str×Addr)}{H:Hp}{b:Addr}(h:isC cells b≠true):Drop cells H b=H b:=if_neg h
theorem Drop.some {cells:List (Str×Addr)}{H:Hp}{b:Addr}{o:HO}(h:Drop cells H b=some o):isC cells b≠true/\H b=some o:=by
 unfold Drop at h
 split at h
 ·cases h
 ·rename_i z;exact⟨z,h⟩
theorem Drop.none {cells:List (Str×Addr)}{H:Hp}{b:Addr}(h:H b=none):Drop cells H b=none:=by
 unfold Drop
 split
 ·rfl
 ·exact h
theorem Put.cell {cells:List (Str×Addr)}{H H':Hp}{b:Addr}(h:isC cells b=true):Put cells H H' b=H b:=if_pos h
theorem Put.ne {cells:List (Str×Addr)}{H H':Hp}{b:Addr}(h:isC cells b≠true):Put cells H H' b=H' b:=if_neg h
noncomputable def Cells (clos:List (Str×Addr))(H:Hp):Prop:=∀ x c,clos.lookup x=some c->∃ o v,H c=some (.frz o (.own c))/\o.data=.cell v
theorem Cells.at {clos:List (Str×Addr)}{H:Hp}(z:Cells clos H){b:Addr}(h:isC clos b=true):∃ o v,H b=some (.frz o (.own b))/\o.data=.cell v:=by
 obtain⟨x,e⟩:=isC_iff.mp h
 exact z x b e
noncomputable def Cap (clos:List (Str×Addr))(H:Hp)(fr:List Str)(cap:List V):Prop:=∀(i:Nat) (x:Str) (v:V),fr[i]?=some x->cap[i]?=some v->∃ c o u,clos.lookup x=some c/\H c=some (.frz o (.own c))/\o.data=.cell (some u)/\RelV v u
structure LamScope (N ps fr:List Str)(sc:Scope):Prop where
 kind:sc.kind=.function
 co:sc.isCoroutine=false
 gen:sc.isGenerator=false
 nd:N.Nodup
 app:N=ps++fr
 par:∀ x∈ps,sc.names.lookup x=some .local\/sc.names.lookup x=some .cell
 frs:∀ x∈fr,sc.names.lookup x=some .free
 cel:∀ y∈sc.names,y.2=.cell->sc.names.lookup y.1=some .cell
noncomputable def cxLam (P:aL)(w:World)(K:ab)(mg:Str->Option Value)(base:Heap)(N:List Str)(qual:Str)(scope:Scope)(f:Addr)(cd:Value)(clos:List (Str×Addr))(A:aS)(outer:List Env)(s:ae)(H:Hp):Cx where
 prog:=P
 w:=w
 K:=K
 mg:=mg
 base:=base
 A:=A.deeper (cI qual scope s.heap.objs.size f cd (aI (s.heap.objs.size+1) scope.names clos))
 N:=N
 s₀:=s
 H₀:=Drop clos H
 env:=cI qual scope s.heap.objs.size f cd (aI (s.heap.objs.size+1) scope.names clos)
 outer:=outer
 stack:=cI qual scope s.heap.objs.size f cd (aI (s.heap.objs.size+1) scope.names clos)::outer
 ex:=[]
 fn:=λ x=>scope.names.lookup x==some .cell
 calm:=true
 pn:=[]
 xe:=λ _ _=>False
theorem HOk.drop {P:aL}{w:World}{H:Hp}{h:Heap}{clos:List (Str×Addr)}(x:HOk P w H h)(z:Cells clos H):HOk P w (Drop clos H) h:=λ b o e=>by
 obtain⟨_,e'⟩:=Drop.some e
 have nc:∀ c u,H c=some u->(∀ o v,u≠.frz o v)->isC clos c≠true:=λ c u q d y=>by
  obtain⟨o,v,q',_⟩:=z.at y
  rw[q]at q';cases q'
  exact d _ _ rfl
 exact(x b o e').stay (λ _ _ _ q=>q) (λ c q=>by rw[Drop.ne (nc c _ q λ _ _=>by nofun)];exact q) λ c xs q=>by rw[Drop.ne (nc c _ q λ _ _=>by nofun)];exact q
theorem inv_lam {P:aL}{w:World}{K:ab}{mg:Str->Option Value}{base:Heap}{N ps fr:List Str}{qual:Str}{scope:Scope}{f:Addr}{cd:Value}{clos:List (Str×Addr)}{A:aS}{outer:List Env}{s s1:ae}{H:Hp}{us:List Value}{vs cap:List V}
  (S:LamScope N ps fr scope) (hd:A.handled=none) (e0:Env0 P w K mg base A outer s H) (hl:vs.length=ps.length) (hlc:cap.length=fr.length) (r:Vals vs us)
  (hc:Cells clos H) (inj:∀ x y c,clos.lookup x=some c->clos.lookup y=some c->x=y) (hfr:∀ x,scope.names.lookup x=some .free->∃ c,clos.lookup x=some c) (hcap:Cap clos H fr cap)
  (x:eW s s.heap.objs.size (bindL (cI qual scope s.heap.objs.size f cd (aI (s.heap.objs.size+1) scope.names clos)).kindOf (ps.zip us) λ _=>none) (aI (s.heap.objs.size+1) scope.names [])
   (bindC (cI qual scope s.heap.objs.size f cd (aI (s.heap.objs.size+1) scope.names clos)).kindOf (ps.zip us) λ _=>none) s1) :
  Inv (cxLam P w K mg base N qual scope f cd clos A outer s H) [] (vs.map some++cap.map some) (Drop clos H) s1:=by
 obtain⟨h1,tk,rfl,hk⟩:=x.done
 have noA:∀ b:Addr,b ∉ (cxLam P w K mg base N qual scope f cd clos A outer s H).ex:=λ b z=>absurd (show b∈([]:List Addr)from z) (by simp)
 have lk:∀ y c,(aI (s.heap.objs.size+1) scope.names clos).lookup y=some c->(aI (s.heap.objs.size+1) scope.names []).lookup y=some c\/((aI (s.heap.objs.size+1) scope.names []).lookup y=none/\clos.lookup y=some c):=λ y c e=>by
  rw[zt,zM]at e
  cases q:(aI (s.heap.objs.size+1) scope.names []).lookup y with
  | some d=>rw[q]at e;left;simpa using e
  | none=>rw[q]at e;right;exact⟨rfl,by simpa using e⟩
 have own:∀ y c,(aI (s.heap.objs.size+1) scope.names []).lookup y=some c->s.heap.objs.size<c:=λ y c e=>x.above y c (az e)
 have old:∀ y c,clos.lookup y=some c->c<s.heap.objs.size:=λ y c e=>by
  obtain⟨o,v,q,_⟩:=hc y c e
  exact e0.hok.lt q
 have hx:∀ y c,clos.lookup y=some c->scope.names.lookup y=some .free->(aI (s.heap.objs.size+1) scope.names clos).lookup y=some c:=λ y c e k=>by
  rw[zt,zM]
  cases q:(aI (s.heap.objs.size+1) scope.names []).lookup y with
  | none=>exact e
  | some d =>
   rcases zI (az q)with z|z
   ·rw[S.cel _ z rfl]at k;cases k
   ·exact absurd z (by simp)
 have dn:∀ b,H b=none->Drop clos H b=none:=λ b e=>Drop.none e
 refine⟨⟨e0.mod,S.kind,rfl,rfl,aj _,λ y z c a b=>?inj,λ y hy=>?has,λ y c hy e=>?cab,λ _=>hd,gm e0.frames,.inr ⟨rfl,rfl⟩,λ b z=>absurd z (noA b),λ b o e=>⟨(e0.bs b o e).1,dn b (e0.bs b o e).2⟩,e0.bsz,λ b _ _=>noA b,λ b z=>absurd z (noA b),e0.funs,λ b hb=>dn b (e0.frf b hb)⟩,
  rfl,e0.bare,Un.kept hk,⟨_,x.toInCall.ns,λ i y v q1 q2 q3=>?loc⟩,λ y c e=>?cell,dn _ (e0.hok.fresh (aj _)),λ y c e=>?freeC,λ p hp=>absurd (show p∈([]:List (Addr×Obj))from hp) (by simp),(e0.hok.drop hc).kept hk,?len⟩
 case inj =>
  rcases lk y c a with a|⟨_,a⟩<;>rcases lk z c b with b|⟨_,b⟩
  ·exact fJ x.apart (az a) (az b)
  ·exact absurd (dI (own _ _ a) (old _ _ b)) (bp _)
  ·exact absurd (dI (own _ _ b) (old _ _ a)) (bp _)
  ·exact inj y z c a b
 case has =>
  have hy:scope.names.lookup y=some .cell\/scope.names.lookup y=some .free:=hy
  rcases hy with hy|hy
  ·obtain⟨c,e⟩:=z5 (n:=s.heap.objs.size+1) hy
   refine⟨c,?_⟩
   show(aI (s.heap.objs.size+1) scope.names clos).lookup y=some c
   rw[zt,zM,e];rfl
  ·obtain⟨c,e⟩:=hfr y hy
   exact⟨c,hx y c e hy⟩
 case cab =>
  have hy:(scope.names.lookup y==some .cell)=true:=hy
  have hy':scope.names.lookup y=some .cell:=by simpa using hy
  rcases lk y c e with a|⟨a,_⟩
  ·exact cZ (own y c a)
  ·obtain⟨d,q⟩:=z5 (n:=s.heap.objs.size+1) hy'
   rw[q]at a;cases a
 case loc =>
  have ndP:ps.Nodup:=by have:=S.nd;rw[S.app]at this;exact(List.nodup_append.mp this).1
  by_cases hi:i<vs.length
  ·have ha:vs[i]?=some v:=by
    rw[aF (by simpa using hi),aB]at q2
    cases e:vs[i]? with
    | none=>rw[e]at q2;cases q2
    | some a=>rw[e]at q2;cases q2;rfl
   obtain⟨u,hu,rv⟩:=r.get ha
   have hp:ps[i]?=some y:=by
    have q1':N[i]?=some y:=q1
    rw[S.app,aF (by omega)]at q1';exact q1'
   refine⟨u,rv,?_⟩
   rcases S.par y (aJ hp)with k|k
   ·exact .inl ⟨k,bindL_get ndP hp hu k⟩
   ·obtain⟨c,e⟩:=z5 (n:=s.heap.objs.size+1) k
    refine .inr ⟨.inl k,c,?_,?_⟩
    ·show(aI (s.heap.objs.size+1) scope.names clos).lookup y=some c
     rw[zt,zM,e];rfl
    ·have q:=x.cell y c e
     rw[bindC_get ndP hp hu (by show scope.names.lookup y≠_;rw[k];decide)]at q
     exact q
  ·have hf:fr[i - vs.length]?=some y:=by
    have q1':N[i]?=some y:=q1
    rw[S.app,ak (by omega)]at q1';rw[hl];exact q1'
   have hv:cap[i - vs.length]?=some v:=by
    rw[ak (by simpa using hi),aB,aG]at q2
    cases e:cap[i - vs.length]? with
    | none=>rw[e]at q2;cases q2
    | some a=>rw[e]at q2;cases q2;rfl
   obtain⟨c,o,u,e1,e2,e3,e4⟩:=hcap _ y v hf hv
   have kf:=S.frs y (aJ hf)
   refine⟨u,e4,.inr ⟨.inr kf,c,hx y c e1 kf,?_⟩⟩
   exact⟨o,hk c o (e0.hok c _ e2).1,e3⟩
 case cell =>
  rcases lk y c e with a|⟨_,a⟩
  ·exact⟨_,x.cell y c a⟩
  ·obtain⟨o,v,q,d⟩:=hc y c a
   exact⟨v,o,hk c o (e0.hok c _ q).1,d⟩
 case freeC =>
  rcases lk y c e with a|⟨_,a⟩
  ·exact dn c (e0.hok.fresh (cZ (own y c a)))
  ·exact Drop.cell (isC_iff.mpr ⟨y,a⟩)
 case len =>
  show _=N.length
  rw[S.app]
  simp[hl,hlc]
theorem lam_end {P:aL}{w:World}{outer:List Env}{H H':Hp}{s s':ae}{clos:List (Str×Addr)}(hok:HOk P w H s.heap)(hc:Cells clos H)(frf:∀ b∈frs outer,H b=none)
  (un:Un (frs outer) [] (Drop clos H) H' s.heap s'.heap) (ok':HOk P w H' s'.heap):Un (frs outer) [] H (Put clos H H') s.heap s'.heap/\HOk P w (Put clos H H') s'.heap:=by
 have nc:∀ b,H b=none->isC clos b≠true:=λ b e y=>by
  obtain⟨o,v,q,_⟩:=hc.at y
  rw[e]at q;cases q
 have nc2:∀ c u,H c=some u->(∀ o v,u≠.frz o v)->isC clos c≠true:=λ c u q d y=>by
  obtain⟨o,v,q',_⟩:=hc.at y
  rw[q]at q';cases q'
  exact d _ _ rfl
 have gone:∀ b,isC clos b=true->H' b=none:=λ b y=>by
  obtain⟨o,v,q,_⟩:=hc.at y
  exact un.free b o (hok b _ q).1 (Drop.cell y) (by simp)
 refine⟨⟨λ b o e n hb hx=>un.keep b o e (Drop.none n) hb hx,λ b o e n hb hx=>un.slot b o e (Drop.none n) hb hx,λ b o e n hx=>?_,λ b o e hx=>un.there b o e hx,λ b xs e=>?_,λ b o u e=>?_,λ b ps e=>?_⟩,λ b o e=>?_⟩
 ·rw[Put.ne (nc b n)];exact un.free b o e (Drop.none n) hx
 ·have z:=nc2 b _ e λ _ _=>by nofun
  rw[Put.ne z];exact un.tups b xs (by rw[Drop.ne z];exact e)
 ·by_cases z:isC clos b=true
  ·rw[Put.cell z];exact e
  ·rw[Put.ne z];exact un.frzs b o u (by rw[Drop.ne z];exact e)
 ·have z:=nc2 b _ e λ _ _=>by nofun
  rw[Put.ne z];exact un.tbls b ps (by rw[Drop.ne z];exact e)
 ·by_cases z:isC clos b=true
  ·rw[Put.cell z]at e
   obtain⟨ob,v,q,d⟩:=hc.at z
   rw[q]at e;cases e
   have g:=(hok b _ q).1
   have g':=un.keep b ob g (Drop.cell z) (λ y=>by rw[frf b y]at q;cases q) (by simp)
   exact⟨g',ob,g'⟩
  ·rw[Put.ne z]at e
   have np:∀ c u,H' c=some u->Put clos H H' c=some u:=λ c u q=>by
    rw[Put.ne λ y=>by rw[gone c y]at q;cases q];exact q
   exact(ok' b o e).stay (λ _ _ _ q=>q) (λ c q=>np c _ q) λ c xs q=>np c _ q
structure ClOk (P:aL)(w:World)(K:ab)(mg:Str->Option Value)(base:Heap)(k:Nat)(R:Hp->Prop)(f:Addr)(sp:Sp):Prop where
 run:∀(A:aS) (outer:List Env) (s:ae) (H:Hp) (us:List Value) (vs:List V) (Q:VK),Room k A->Env0 P w K mg base A outer s H->R H->Vals vs us->sp vs H Q E0 ->
  eV (model P w) A (.call (.ref f) ⟨us,[]⟩) (CR CX0 outer P w H s Q E0) s
theorem ClOk.ofFn {P:aL}{w:World}{K:ab}{mg:Str->Option Value}{base:Heap}{k:Nat}{f:Addr}{fd:bI}{ps:List Str}{sp:Sp}(F:FnOk P w K mg base CX0 k f fd ps sp)(hb:Binds K fd ps []):ClOk P w K mg base k (λ _=>True) f sp :=
 ⟨λ A outer s H us vs Q hr e0 _ r h=>by
  have hl:=F.len _ _ _ _ h
  have:=hb s us (e0.mod.kin.keeps λ b o e=>(e0.bs b o e).1) (by rw[bF,<-r.length];exact hl)
  rw[bF]at this
  exact F.run A outer s H ⟨us,[]⟩ us vs Q E0 hr e0 this r h⟩
noncomputable def LamAt (H:Hp)(f:Addr)(qual:Str)(params:aY)(body:Expr)(scope:Scope)(fr:List Str)(cap:List V)(clos:List (Str×Addr)):Prop :=
 ∃ pm c' ctv,H f=some (lamO f (bO "<lambda>" qual params body scope clos pm (.ref c') ctv))/\H c'=some (qu c' qual)/\Cells clos H /\
  (∀ x y c,clos.lookup x=some c->clos.lookup y=some c->x=y)/\(∀ x,scope.names.lookup x=some .free->∃ c,clos.lookup x=some c)/\Cap clos H fr cap
noncomputable def BM (mg:Str->Option Value)(base:Heap):Prop:=∃ bm ob,mg "__builtins__"=some (.ref bm)/\bm≠fG/\base.get? bm=some ob/\ob.cls=.type "module"/\ob.dict=some fG/\ob.data=.plain
noncomputable def tLam (cells:List (Str×Addr))(P:Addr)(qual:Str)(params:aY)(body:Expr)(scope:Scope)(pos:Pos):TE:=λ _ H Q =>
 ∃ ps:Array Value,H P=some (.tbl ps)/\gE ps.toList /\
  (cG pos ps.toList=none->∀ c' f pm ctv,H c'=none->H f=none->c'≠f ->
   Q (.ref f) (upd (upd (upd H P (.tbl (ps++#[cD pos.line,cD pos.col,.ref c']))) c' (qu c' qual)) f (lamO f (bO "<lambda>" qual params body scope (clOf cells scope.names []) pm (.ref c') ctv)))) /\
  (∀ cv,cG pos ps.toList=some cv->∃ c',cv=.ref c'/\∀ f pm ctv,H f=none->Q (.ref f) (upd H f (lamO f (bO "<lambda>" qual params body scope (clOf cells scope.names []) pm (.ref c') ctv))))
noncomputable def lamCheck (scope xs:Scope):Bool:=scope.names.all λ y=>!(y.2==.free)||(xs.names.lookup y.1==some .cell||xs.names.lookup y.1==some .free)
theorem pe_lambda {X:Cx}{c P:Addr}{params:aY}{body:Expr}{scope:Scope}{pos:Pos}(hcode:X.env.code=.ref c)(C:bP X.base c P)(hB:BM X.mg X.base)
  (hck:lamCheck scope X.env.scope=true) (hdef:i4 params X.env=([],[]):=by rfl) :
  PE X (.Lambda params body scope pos) (tLam X.env.cells P (X.env.qual ++ "<lambda>") params body scope pos):=by
 intro pins s σ H Q I h
 have hfr:∀ y∈scope.names,y.2=.free->X.env.kindOf y.1=some .cell\/X.env.kindOf y.1=some .free:=λ y hy e=>by
  have z:=aN.mp hck y hy
  have z':X.env.scope.names.lookup y.1=some .cell\/X.env.scope.names.lookup y.1=some .free:=by simpa [e]using z
  exact z'
 obtain⟨ps,hP,ht,hnew,hhit⟩:=h
 refine PySem.W.kla_eval hdef ?_
 have hcl:=qh (scope:=scope) (env:=X.env) λ y hy e=>I.ok.has y.1 (hfr y hy e)
 have oP:s.heap.get? P=some (dJ ps):=I.hok P _ hP
 have hgs:s.heap.Ns aV X.mg:=I.mod.glob.keeps I.bk
 have hC:bP s.heap c P:=C.keeps I.bk
 have hgP:aV≠P:=λ q=>by
  obtain⟨o,es,ep,e,d,_⟩:=hgs
  rw[q,oP]at e;cases e;cases d
 have hb:s.heap.BuiltinsAt X.mg P:=by
  obtain⟨bm,ob,b1,b2,b3,b4,b5,b6⟩:=hB
  refine⟨bm,ob,b1,b2,λ q=>?_,λ q=>?_,I.bk _ _ b3,b4,b5,b6⟩
  ·obtain⟨o,es,ep,e,d,_⟩:=I.mod.glob
   rw[q,e]at b3;cases b3;rw[d]at b6;cases b6
  ·have e:=I.bk _ _ b3
   rw[q,oP]at e;cases e;cases b4
 cases q:cG pos ps.toList with
 | none =>
  refine PySem.W.kla_makeFunction (mg:=X.mg) hcl I.ok.glob hgs hcode hC oP ht q hgP hb λ c' ctv h' tk hx hge hlt hrec htb=>?_
  have hPl:P<s.heap.objs.size:=aA oP
  have hcP:c'≠P:=c5 (aq hPl hge)
  have hfP:h'.objs.size≠P:=c5 (dI (aq hPl hge) hlt)
  have hcf:c'≠h'.objs.size:=ay hlt
  have hsz:s.heap.objs.size<=h'.objs.size:=am hge (cZ hlt)
  have nP:∀ b,H b=none->b≠P:=λ b n z=>by rw[z,hP]at n;cases n
  have lt:∀ b o,H b=some o->b≠c'/\b≠h'.objs.size:=λ b o e=>⟨ay (aq (I.hok.lt e) hge),ay (aq (I.hok.lt e) hsz)⟩
  have lt2:∀ b o,s.heap.get? b=some o->b≠c'/\b≠h'.objs.size:=λ b o e=>⟨ay (aq (aA e) hge),ay (aq (aA e) hsz)⟩
  have keep:∀ b o,b≠P->s.heap.get? b=some o->(h'.push (PySem.W.kla_obj "<lambda>" (X.env.qual ++ "<lambda>") params body scope (clOf X.env.cells scope.names []) ((X.mg "__name__").getD .none) c' ctv)).get? b=some o:=λ b o n e=>ag _ (hx b o n e)
  have at3:∀ b,b≠P->b≠c'->b≠h'.objs.size->∀ o1 o2 o3,upd (upd (upd H P o1) c' o2) h'.objs.size o3 b=H b:=λ b n1 n2 n3 o1 o2 o3=>by rw[za n3,za n2,za n1]
  refine⟨.ref h'.objs.size,upd (upd (upd H P (.tbl (ps++#[cD pos.line,cD pos.col,.ref c']))) c' (qu c' (X.env.qual ++ "<lambda>"))) h'.objs.size (lamO h'.objs.size (bO "<lambda>" (X.env.qual ++ "<lambda>") params body scope (clOf X.env.cells scope.names []) ((X.mg "__name__").getD .none) (.ref c') ctv)),I.un (t':=tk) ⟨λ b o e n _ _=>keep b o (nP b n) e,λ b o e n _ _=>⟨o.slots,keep b o (nP b n) e⟩,λ b o e n _=>?fr,λ b o e _=>?th,λ b xs e=>?tu,λ b o u e=>?fz,λ b qs e=>?tb⟩ ?ok,rfl,hnew q c' h'.objs.size _ ctv (I.hok.fresh hge) (I.hok.fresh hsz) hcf⟩
  case fr=>rw[at3 b (nP b n) (lt2 b o e).1 (lt2 b o e).2];exact n
  case th =>
   by_cases z:b=P
   ·subst z;exact⟨_,ag _ htb⟩
   ·exact⟨o,keep b o z e⟩
  case tu=>rw[at3 b (λ z=>by rw[z,hP]at e;cases e) (lt b _ e).1 (lt b _ e).2];exact e
  case fz=>rw[at3 b (λ z=>by rw[z,hP]at e;cases e) (lt b _ e).1 (lt b _ e).2];exact e
  case tb =>
   by_cases z:b=P
   ·subst z
    rw[hP]at e;cases e
    exact⟨#[cD pos.line,cD pos.col,.ref c'],by rw[za (bQ hfP),za (bQ hcP),ze]⟩
   ·exact⟨#[],by rw[at3 b z (lt b _ e).1 (lt b _ e).2,e];simp⟩
  case ok =>
   intro b o e
   by_cases zf:b=h'.objs.size
   ·subst zf
    rw[ze]at e;cases e
    exact lamO_ok (aM _ rfl)
   ·rw[za zf]at e
    by_cases zc:b=c'
    ·subst zc
     rw[ze]at e;cases e
     obtain⟨c2,oc,vs,t,e1,e2,e3⟩:=hrec
     exact codeO_ok ⟨c2,oc,vs,t,e1,ag _ e2,e3⟩
    ·rw[za zc]at e
     by_cases zp:b=P
     ·subst zp
      rw[ze]at e;cases e
      exact ag _ htb
     ·rw[za zp]at e
      have up3:∀ d u,H d=some u->(∀ ps,u≠.tbl ps)->upd (upd (upd H P (.tbl (ps++#[cD pos.line,cD pos.col,.ref c']))) c' (qu c' (X.env.qual ++ "<lambda>"))) h'.objs.size (lamO h'.objs.size (bO "<lambda>" (X.env.qual ++ "<lambda>") params body scope (clOf X.env.cells scope.names []) ((X.mg "__name__").getD .none) (.ref c') ctv)) d=some u:=λ d u e nt=>by
       rw[at3 d (λ z=>by rw[z,hP]at e;cases e;exact nt _ rfl) (lt d _ e).1 (lt d _ e).2];exact e
      refine(I.hok b o e).stay (λ d u hd q=>keep d u ?_ q) (λ d q=>up3 d _ q λ _=>by nofun) λ d xs q=>up3 d _ q λ _=>by nofun
      rintro rfl
      rcases hd with hd|hd
      ·exact zp hd.symm
      ·rw[hP]at hd;cases hd
 | some cv =>
  obtain⟨c',rfl,hq⟩:=hhit cv q
  refine PySem.W.kla_makeFunctionHit (mg:=X.mg) hcl I.ok.glob hgs hcode hC oP ht q hb λ ctv h' tk hk hsz=>?_
  refine⟨.ref h'.objs.size,_,I.laid (t':=tk) (λ b o e=>ag _ (hk b o e)) hsz (lamO_ok (aM _ rfl)),rfl,hq h'.objs.size _ ctv (I.hok.fresh hsz)⟩
structure Caught (cl:List (Str×Addr))(N:List Str)(kd:Str->Option bJ)(σ:St)(H1 H2:Hp):Prop where
 ne:∀ b,isC cl b≠true->H2 b=H1 b
 free:∀ b,isC cl b=true->H1 b=none
 cells:Cells cl H2
 cap:∀(i:Nat) (x:Str) (v:V) (c:Addr),N[i]?=some x->σ[i]?=some (some v)->(kd x=some .cell\/kd x=some .free)->cl.lookup x=some c->∃ o u,H2 c=some (.frz o (.own c))/\o.data=.cell (some u)/\RelV v u
 inj:∀ x y c,cl.lookup x=some c->cl.lookup y=some c->x=y
noncomputable def tCallC (cl:List (Str×Addr))(N:List Str)(kd:Str->Option bJ)(sp:Sp)(t:TA):TE:=λ σ H Q=>t σ H λ vs H1=>∀ H2,Caught cl N kd σ H1 H2->sp vs H2 (λ v H3=>Q v (Drop cl H3)) E0
theorem run_fnC {X:Cx}{k:Nat}{f:Addr}{fd:bI}{ps:List Str}{sp:Sp}{pins:List (Addr×Obj)}{σ:St}{H:Hp}{s:ae}{Q:VK}{us:List Value}{vs:List V}(F:FnOk X.prog X.w X.K X.mg X.base CX0 k f fd ps sp)(hr:Room k X.A)(hb:Binds X.K fd ps [])
  (hfn:∀ x,X.fn x=true) (I:Inv X pins σ H s) (r:Vals vs us) (h:∀ H2,Caught X.env.cells X.N X.env.kindOf σ H H2->sp vs H2 (λ v H3=>Q v (Drop X.env.cells H3)) E0):wpAny (model X.prog X.w) X.A (call (.ref f) us) (EP X pins σ Q) X.xe s:=by
 let H2:Hp:=λ b=>if isC X.env.cells b=true then(s.heap.get? b).map λ o=>.frz o (.own b)else H b
 have h2n:∀ b,isC X.env.cells b≠true->H2 b=H b:=λ b z=>if_neg z
 have h2c:∀ b,isC X.env.cells b=true->∃ o v,s.heap.get? b=some o/\o.data=.cell v/\H2 b=some (.frz o (.own b)):=λ b z=>by
  obtain⟨x,e⟩:=isC_iff.mp z
  obtain⟨v,o,g,d⟩:=I.cell x b e
  exact⟨o,v,g,d,by show(if _ then _ else _)=_;rw[if_pos z,g];rfl⟩
 have fr:∀ b,isC X.env.cells b=true->H b=none:=λ b z=>by
  obtain⟨x,e⟩:=isC_iff.mp z
  exact I.freeC x b e
 have up:∀ b,isC X.env.cells b=true->X.s₀.heap.objs.size<=b:=λ b z=>by
  obtain⟨x,e⟩:=isC_iff.mp z
  exact I.ok.cab x b (hfn x) e
 have nlt:∀ b o,X.s₀.heap.get? b=some o->isC X.env.cells b≠true:=λ b o e z=>absurd (aq (aA e) (up b z)) (bp _)
 have nst:∀ b∈frs X.stack,isC X.env.cells b≠true:=λ b hb z=>by
  rcases aD.mp (I.stkSub b hb)with e|hb
  ·obtain⟨x,e2⟩:=isC_iff.mp z
   exact I.cne x b e2 e
  ·obtain⟨_,o,ho,_⟩:=I.ok.funs.mem hb
   exact nlt b o ho z
 have ok2:HOk X.prog X.w H2 s.heap:=λ b o e=>by
  by_cases z:isC X.env.cells b=true
  ·obtain⟨ob,v,g,d,q⟩:=h2c b z
   rw[q]at e;cases e
   exact⟨g,ob,g⟩
  ·rw[h2n b z]at e
   have np:∀ c u,H c=some u->H2 c=some u:=λ c u q=>by rw[h2n c λ y=>by rw[fr c y]at q;cases q];exact q
   exact(I.hok b o e).stay (λ _ _ _ q=>q) (λ c q=>np c _ q) λ c xs q=>np c _ q
 have nb:∀ b o,X.base.get? b=some o->isC X.env.cells b≠true:=λ b o e=>nlt b o (I.ok.bs b o e).1
 have e0:Env0 X.prog X.w X.K X.mg X.base X.A X.stack s H2:=⟨I.ok.frames,I.ok.mod,λ b o e=>⟨(I.bs b o e).1,by rw[h2n b (nb b o e)];exact(I.bs b o e).2⟩,am I.ok.bsz I.sz,I.stack,λ b hb=>by rw[h2n b (nst b hb)];exact I.stkFree b hb,ok2,I.bare⟩
 have ca:Caught X.env.cells X.N X.env.kindOf σ H H2:=⟨h2n,fr,λ x c e=>by
   obtain⟨o,v,g,d,q⟩:=h2c c (isC_iff.mpr ⟨x,e⟩)
   exact⟨o,v,q,d⟩,λ i x v c e1 e2 e3 e4=>by
   obtain⟨m,hn,hl⟩:=I.loc
   have vis:Vis X.env.scope x:=e3.elim (λ z=>.inr (.inl z)) λ z=>.inr (.inr z)
   obtain⟨u,ru,lk⟩:=hl i x v e1 e2 vis
   rcases lk with⟨z,_⟩|⟨_,c2,z1,z2⟩
   ·rcases e3 with y|y<;>(rw[z]at y;cases y)
   ·rw[e4]at z1;cases z1
    obtain⟨o,w',g,d,q⟩:=h2c c (isC_iff.mpr ⟨x,e4⟩)
    obtain⟨o2,g2,d2⟩:=z2
    rw[g]at g2;cases g2
    exact⟨o,u,q,d2,ru⟩,I.ok.inj⟩
 have hsp:=h H2 ca
 have hl:=F.len _ _ _ _ hsp
 have hb':=hb s us I.kIn (by rw[bF,<-r.length];exact hl)
 rw[bF]at hb'
 refine iW (eA (F.run X.A X.stack s H2 ⟨us,[]⟩ us vs _ E0 hr e0 hb' r hsp) λ r s' hq=>?_)
 cases r with
 | error e=>exact bz hq
 | ok fl =>
  cases fl with
  | next=>exact bz hq
  | brk=>exact bz hq
  | cont=>exact bz hq
  | ret u =>
   obtain⟨v,H3,os,bare,un,ok3,rv,q⟩:=hq
   have h3c:∀ b,isC X.env.cells b=true->∃ o,s.heap.get? b=some o/\s'.heap.get? b=some o/\H3 b=some (.frz o (.own b)):=λ b z=>by
    obtain⟨o,v,g,d,q2⟩:=h2c b z
    have q3:=un.frzs b o _ q2
    exact⟨o,g,(ok3 b _ q3).1,q3⟩
   have nz:∀ b u,H b=some u->isC X.env.cells b≠true:=λ b u e y=>by rw[fr b y]at e;cases e
   refine⟨v,_,I.call' (H':=Drop X.env.cells H3) (ch:=[]) os ⟨λ b o e n hb hx=>?k,λ b o e n hb hx=>?sl,λ b o e n hx=>?fr,λ b o e hx=>un.there b o e hx,λ b xs e=>?tu,λ b o u e=>?fz,λ b ps e=>?tb⟩ (λ b o e=>?hok) bare (λ b z=>absurd z (by simp)),rv,q⟩
   case k =>
    by_cases z:isC X.env.cells b=true
    ·obtain⟨o2,g,g',_⟩:=h3c b z
     rw[e]at g;cases g
     exact g'
    ·exact un.keep b o e (by rw[h2n b z];exact n) hb hx
   case sl=>exact un.slot b o e (by rw[h2n b (nst b hb)];exact n) hb hx
   case fr =>
    by_cases z:isC X.env.cells b=true
    ·exact Drop.cell z
    ·exact Drop.none (un.free b o e (by rw[h2n b z];exact n) hx)
   case tu =>
    rw[Drop.ne (nz b _ e)]
    exact un.tups b xs (by rw[h2n b (nz b _ e)];exact e)
   case fz =>
    rw[Drop.ne (nz b _ e)]
    exact un.frzs b o u (by rw[h2n b (nz b _ e)];exact e)
   case tb =>
    rw[Drop.ne (nz b _ e)]
    exact un.tbls b ps (by rw[h2n b (nz b _ e)];exact e)
   case hok =>
    obtain⟨z,e3⟩:=Drop.some e
    have np:∀ c u,H3 c=some u->(∀ o w',u≠.frz o w')->Drop X.env.cells H3 c=some u:=λ c u q d=>by
     rw[Drop.ne λ y=>by obtain⟨o,_,_,q3⟩:=h3c c y;rw[q]at q3;cases q3;exact d _ _ rfl];exact q
    exact(ok3 b o e3).stay (λ _ _ _ q=>q) (λ c q=>np c _ q λ _ _=>by nofun) λ c xs q=>np c _ q λ _ _=>by nofun
theorem pe_callC {X:Cx}{k:Nat}{f:Addr}{fd:bI}{ps:List Str}{sp:Sp}{x:Str}{p pos:Pos}{e:Expr}{es:List Expr}{t:TA}(F:FnOk X.prog X.w X.K X.mg X.base CX0 k f fd ps sp)(hr:Room k X.A)(hg:Gl X x)(hm:X.mg x=some (.ref f))(hk:bZ X.K (.ref f)=true)(hb:Binds X.K fd ps [])
  (hfn:∀ x,X.fn x=true) (ha:PA X (e::es) t) (hdb:(x==("__debug__":Str))=false:=by decide) (he:bf (e::es) X.env=(false,eval e X.env)::bf es X.env:=by rfl) (hpl:(dB pos (bf es X.env)).any (·.1)=false:=by rfl) :
  PE X (.Call (.Name x p) (e::es) [] pos) (tCallC X.env.cells X.N X.env.kindOf sp t):=by
 intro pins s σ H Q I h
 refine bX (ld_glob I hg hm ?_ hdb)
 refine gZ (h₀:=X.base) I.ok.mod.kin hk (thn (ha pos pins s σ H _ I h) λ us s1 ⟨vs,H1,I1,r,q⟩=>⟨I1.kIn,?_⟩) he hpl
 exact run_fnC F hr hb hfn I1 r q
noncomputable def FnIn (K:ab)(H:Hp)(f:Addr):Prop:=(∃ fd,H f=some (lamO f fd))\/∃ oc od fd sl,K.lookup f=some ⟨oc,od,.func fd,sl⟩
theorem FnIn.at {X:Cx}{pins:List (Addr×Obj)}{σ:St}{H:Hp}{s:ae}{f:Addr}(h:FnIn X.K H f)(I:Inv X pins σ H s):PySem.W.FnAt f s.heap:=by
 rcases h with⟨fd,h⟩|⟨oc,od,fd,sl,h⟩
 ·exact⟨_,_,_,_,lamO_get I.hok h⟩
 ·exact⟨_,_,_,_,I.kIn _ _ h⟩
noncomputable def tCallV (P:aL)(w:World)(K:ab)(mg:Str->Option Value)(base:Heap)(k:Nat)(i:Nat)(t:TA):TE:=λ σ H Q=>∃ f,σ[i]?=some (some (.ref f))/\FnIn K H f/\t σ H λ vs H1=>FnIn K H1 f/\∃ R sp,ClOk P w K mg base k R f sp/\R H1/\sp vs H1 Q E0
theorem run_cl {X:Cx}{k:Nat}{f:Addr}{sp:Sp}{R:Hp->Prop}{pins:List (Addr×Obj)}{σ:St}{H:Hp}{s:ae}{Q:VK}{us:List Value}{vs:List V}(F:ClOk X.prog X.w X.K X.mg X.base k R f sp)(hr:Room k X.A)(I:Inv X pins σ H s)(hR:R H)(r:Vals vs us)(h:sp vs H Q E0) :
  wpAny (model X.prog X.w) X.A (call (.ref f) us) (EP X pins σ Q) X.xe s:=by
 refine iW (eA (F.run X.A X.stack s H us vs Q hr I.env0 hR r h) λ r s' hq=>?_)
 cases r with
 | error e=>exact bz hq
 | ok fl =>
  cases fl with
  | ret u=>exact I.after hq
  | next=>exact bz hq
  | brk=>exact bz hq
  | cont=>exact bz hq
theorem pe_callV {X:Cx}{P:aL}{w:World}{K:ab}{mg:Str->Option Value}{base:Heap}{k i:Nat}{x:Str}{p pos:Pos}{e:Expr}{es:List Expr}{t:TA}(hP:X.prog=P)(hw:X.w=w)(hK:X.K=K)(hmg:X.mg=mg)(hbs:X.base=base)(hr:Room k X.A)(hv:PE X (.Name x p) (tVar i))(ha:PA X (e::es) t)
  (he:bf (e::es) X.env=(false,eval e X.env)::bf es X.env:=by rfl) (hpl:(dB pos (bf es X.env)).any (·.1)=false:=by rfl) :
  PE X (.Call (.Name x p) (e::es) [] pos) (tCallV P w K mg base k i t):=by
 subst hP hw hK hmg hbs
 intro pins s σ H Q I h
 obtain⟨f,hσ,hf,ht⟩:=h
 refine bX (thn (hv pins s σ H (λ v H'=>v=.ref f/\H'=H) I ⟨.ref f,hσ,rfl,rfl⟩) λ u s0 ⟨v,H0,I0,r0,ev,eH⟩=>?_)
 subst ev
 subst eH
 cases r0
 exact PySem.W.callWith_F (q:=f) (hf.at I0) (thn (ha pos pins s0 σ H0 _ I0 ht) λ us s1 ⟨vs,H1,I1,r,hF,R,sp,F,hR,q⟩=>⟨hF.at I1,run_cl F hr I1 hR r q⟩) he hpl
noncomputable def tabsOf (K:ab)(names:List Str):List (Str×Addr×Addr):=names.filterMap λ x=>(be K x).map λ p=>(x,p)
theorem mem_tabsOf {K:ab}{names:List Str}{y:Str×Addr×Addr}:y∈tabsOf K names↔y.1∈names/\be K y.1=some y.2:=by
 unfold tabsOf
 rw[bW]
 constructor
 ·rintro⟨x,hx,e⟩
  obtain⟨p,hp,rfl⟩:=cJ.mp e
  exact⟨hx,hp⟩
 ·rintro⟨hx,e⟩
  exact⟨y.1,hx,by rw[e];rfl⟩
noncomputable def Codes (K:ab)(names:List Str)(base:Heap):Prop:=∀ x∈names,∀ c P,be K x=some (c,P)->bP base c P
noncomputable def Blank (K:ab)(names:List Str)(H:Hp):Prop:=∀ x∈names,∀ c P,be K x=some (c,P)->H P=some (.tbl #[])
noncomputable def tabsIn (K:ab)(names:List Str)(ts:List Addr):Bool:=names.all λ x=>match be K x with
 | some (c,P)=>iC K c P&&ts.contains P
 | none=>true
theorem tab_some {K:ab}{x:Str}(h:(be K x).isSome=true):be K x=some (((be K x).getD (0,0)).1,((be K x).getD (0,0)).2):=by
 obtain⟨p,e⟩:=fg.mp h
 rw[e]
 rfl
noncomputable def TabOkH (H:Hp)(P:Addr)(q:Str):Prop:=∃ ps:Array Value,H P=some (.tbl ps)/\gE ps.toList/\∀ pos cv,cG pos ps.toList=some cv->∃ c',cv=.ref c'/\H c'=some (qu c' q)
noncomputable def TabsH (T:List (Addr×Str))(H:Hp):Prop:=∀ y∈T,TabOkH H y.1 y.2
noncomputable def SameT (H H':Hp):Prop:=∀ b o,(∀ ps,o≠.tbl ps)->H b=some o->H' b=some o
theorem SameT.of {H H1:Hp}(a:Same H H1):SameT H H1:=λ c o _ h=>a c o h
theorem TabsH.keep {T:List (Addr×Str)}{H H':Hp}(h:TabsH T H)(k:∀ b o,(∀ xs,o≠.lst xs)->H b=some o->H' b=some o):TabsH T H':=λ y hy=>by
 obtain⟨ps,e,t,c⟩:=h y hy
 refine⟨ps,k _ _ (λ _=>by nofun) e,t,λ pos cv q=>?_⟩
 obtain⟨c',e1,e2⟩:=c pos cv q
 exact⟨c',e1,k _ _ (λ _=>by unfold qu;nofun) e2⟩
theorem TabsH.same {T:List (Addr×Str)}{H H':Hp}(h:TabsH T H)(s:Same H H'):TabsH T H':=h.keep λ b o _ e=>s b o e
theorem TabsH.new {T:List (Addr×Str)}{H:Hp}{a:Addr}{o:HO}(h:TabsH T H)(n:H a=none):TabsH T (upd H a o):=h.same ((Same.refl H).new n)
theorem TabsH.put {T:List (Addr×Str)}{H:Hp}{a:Addr}{o:HO}{xs:List V}(h:TabsH T H)(n:H a=some (.lst xs)):TabsH T (upd H a o):=h.keep λ b u d e=>by
 rw[za λ z=>by subst z;rw[n]at e;cases e;exact d _ rfl];exact e
theorem TabsH.init {T:List (Addr×Str)}{H:Hp}(h:∀ p∈T.map (·.1),H p=some (.tbl #[])):TabsH T H:=λ y hy =>
 ⟨#[],h _ (bh hy),trivial,λ pos cv e=>by simp[cG]at e⟩
theorem codeAmong_add {pos:Pos}{a b:Int}{c cv:Value}:∀(l:List Value),gE l->cG pos (l++[cD a,cD b,c])=some cv->cG pos l=some cv\/cv=c:=by
 intro l
 fun_induction gE l with
 | case1 =>
  intro _ e
  simp only[d7,cG,cD]at e
  split at e
  ·exact .inr (au e).symm
  ·cases e
 | case2 x t y u z rest ih =>
  intro h e
  simp only[c7,cG]at e ⊢
  split at e
  ·rename_i q
   left;rw[if_pos q];exact e
  ·rename_i q
   rw[if_neg q];exact ih h e
 | case3 l h1 h2=>intro h;exact h.elim
theorem lamAt_of {cells:List (Str×Addr)}{N:List Str}{kd:Str->Option bJ}{σ:St}{H1 H2:Hp}{f:Addr}{q:Str}{params:aY}{body:Expr}{scope:Scope}{fr:List Str}{cap:List V}(ca:Caught cells N kd σ H1 H2)
  (hf:∃ pm c' ctv,H1 f=some (lamO f (bO "<lambda>" q params body scope (clOf cells scope.names []) pm (.ref c') ctv))/\H1 c'=some (qu c' q))
  (hfr:∀ x,scope.names.lookup x=some .free->∃ c,cells.lookup x=some c)
  (hcap:∀(i:Nat) (x:Str) (v:V),fr[i]?=some x->cap[i]?=some v->scope.names.lookup x=some .free/\(kd x=some .cell\/kd x=some .free)/\∃ j:Nat,N[j]?=some x/\σ[j]?=some (some v)) :
  LamAt H2 f q params body scope fr cap (clOf cells scope.names []):=by
 obtain⟨pm,c',ctv,h1,h2⟩:=hf
 have up:∀ b o,H1 b=some o->H2 b=some o:=λ b o e=>by
  rw[ca.ne b λ z=>by rw[ca.free b z]at e;cases e];exact e
 have sub:∀ x c,(clOf cells scope.names []).lookup x=some c->cells.lookup x=some c:=λ x c e=>by
  rcases clOf_mem (az e)with z|z
  ·exact z
  ·exact absurd z (by simp)
 refine⟨pm,c',ctv,up _ _ h1,up _ _ h2,λ x c e=>ca.cells x c (sub x c e),λ x y c e1 e2=>ca.inj x y c (sub x c e1) (sub y c e2),λ x k=>?_,λ i x v e1 e2=>?_⟩
 ·obtain⟨c,e⟩:=hfr x k
  exact⟨c,ql e (az k)⟩
 ·obtain⟨k,kk,j,e3,e4⟩:=hcap i x v e1 e2
  obtain⟨c,e⟩:=hfr x k
  obtain⟨o,u,e5,e6,e7⟩:=ca.cap j x v c e3 e4 kk e
  exact⟨c,o,u,ql e (az k),e5,e6,e7⟩
theorem Caught.same {cells:List (Str×Addr)}{N:List Str}{kd:Str->Option bJ}{σ:St}{H1 H2:Hp}(ca:Caught cells N kd σ H1 H2):Same H1 H2:=λ b o e=>by
 rw[ca.ne b λ z=>by rw[ca.free b z]at e;cases e];exact e
theorem Fun.okC {P:aL}{w:World}{K:ab}{mg:Str->Option Value}{base:Heap}{x qual:Str}{st:Stmt}{f c:Addr}{fd:bI}{N ps:List Str}{k:Nat}{sp:Sp}(F:Fun K x qual st f fd)(hcd:fd.code=.ref c)(S:FnScope N ps (defScope st))(len:∀ vs H Q E,sp vs H Q E->vs.length=ps.length)
  (hbody:∀(A:aS) (outer:List Env) (s:ae) (H:Hp) (vs:List V) (Q:VK) (E:XK),Room k (A.deeper (fe qual (defScope st) s.heap.objs.size f (.ref c)))->sp vs H Q E ->
   ∃ t,PSs (cxOf CX0 P w K mg base N qual (defScope st) f (.ref c) A outer s H E).nox (zU st) t/\t { nx:=λ _ H'=>Q .non H',rt:=Q } (start N vs) H):FnOk P w K mg base CX0 (k+1) f fd ps sp:=by
 obtain⟨oc,od,kV,doc,pm,an,cdv,ct,osl,rfl,lk,hc⟩:=F.ex
 have e:cdv=.ref c:=hcd
 subst e
 refine fn_of lk hc S len λ A outer s H vs Q E hr hsp=>?_
 obtain⟨t,h,q⟩:=hbody A outer s H vs Q E hr hsp
 exact⟨t,h.nox,q⟩
noncomputable def rowO (r:List (Option Int)):D:=.tup (r.map optD)
theorem call_minL {X:Cx}{K:ab}(hc:X.calm=true)(hK:X.K=K):CallR X (.builtin "min") (λ xs H Q=>∃ a ns,xs=[.ref a]/\SqL K H a (ns.map V.int)/\ns≠[]/\∀ m∈ns,(∀ y∈ns,m<=y)->Q (.int m) H):=by
 subst hK
 intro pins s σ H xs us Q I r h
 obtain⟨a,ns,rfl,hS,hne,q⟩:=h
 obtain⟨u,rfl,ru⟩:=vals1 r
 cases ru
 obtain⟨its,rv,pl,hz⟩:=I.list hS
 have hl:=rv.length
 rw[aG]at hl
 have hpos:0<ns.length:=List.length_pos_iff.mpr hne
 refine call_min_walk (cS pl.isList ?_)
 have hal:a<s.heap.objs.size:=by obtain⟨o,_,e,_⟩:=pl;exact aA e
 have W:=i3 (prog:=X.prog) (w:=X.w) (A:=X.A.in1) (I.ok.hd hc) s.heap.objs.size a (ay hal) its.toArray
 let val:Nat->Int:=λ i=>ns.getD i 0
 have hval:∀ i v,its.toArray[i]?=some v->∃ t,v=Value.int (val i) t:=λ i v e=>by
  obtain⟨z,t,e1,e2⟩:=vals_at rv (i:=i) (v:=v) (by rw[cq]at e;exact e)
  refine⟨t,?_⟩
  rw[e2]
  show Value.int z t=Value.int (ns.getD i 0) t
  rw[a8,e1]
  rfl
 refine⟨_,_,_,_,_,_,_,rfl,W,⟨⟨_,aM _ rfl,rfl,rfl⟩,?_⟩,λ b hb=>?_,by rw[av];omega,jo val hval,λ v h' tk hP k=>?_⟩
 ·obtain⟨o,e,r⟩:=pl.isList
  exact⟨o,ag _ e,r⟩
 ·show b<(s.heap.push _).objs.size
  rw[bU]
  rcases aD.mp hb with z|z
  ·rw[z];exact iD _
  ·have z':b=a:=by simpa using z
   rw[z'];exact eY hal
 ·obtain⟨z,t,e1,e2⟩:=vals_at rv (i:=c8 (λ i j=>decide (val i<val j)) (its.toArray.size - 1)) (v:=v) (by rw[cq]at hP;exact hP)
  subst e2
  have hv:val (c8 (λ i j=>decide (val i<val j)) (its.toArray.size - 1))=z:=by
   show ns.getD _ 0=z
   rw[a8,e1]
   rfl
  refine⟨.int z,H,I.kept (h':=h') (t':=tk) λ b o q=>k b o ?_ (ag _ q),⟨t,rfl⟩,q z (aJ e1) λ y hy=>?_⟩
  ·intro z
   have z':b=s.heap.objs.size:=by simpa using z
   exact absurd (aA q) (by rw[z'];exact bp _)
  ·obtain⟨j,hj,e3⟩:=cy.mp hy
   have:=jf val (its.toArray.size - 1) j (by simp only[av];omega)
   rw[hv]at this
   have e4:val j=y:=by
    show ns.getD j 0=y
    rw[a8,af hj]
    exact e3
   omega
noncomputable def mx (a b:Int):Int:=if b > a then b else a
theorem mx_le {a b x:Int}:mx a b<=x↔a<=x/\b<=x:=by unfold mx;split<;>omega
noncomputable def sgn (s:Nat->Nat->Int):Nat->Nat->Option Int:=λ i j=>some (s i j)
noncomputable def sprod (n:Nat)(s t:Nat->Nat->Int)(i j:Nat):Int:=(minO ((ah n).map λ k=>mx (s i k) (t k j))).getD 3
theorem minO_le {l:List Int}{m x:Int}(h:minO l=some m):m<=x↔∃ y∈l,y<=x:=by
 obtain⟨h1,h2⟩:=minO_spec h
 exact⟨λ z=>⟨m,h1,z⟩,λ⟨y,hy,z⟩=>fS (h2 y hy) z⟩
theorem minO_some {l:List Int}(h:l≠[]):∃ m,minO l=some m:=by
 cases e:minO l with
 | none=>exact absurd (minO_nil_iff.mp e) h
 | some m=>exact⟨m,rfl⟩
theorem sprod_le {n:Nat}(hn:1<=n){s t:Nat->Nat->Int}{i j:Nat}{x:Int}:sprod n s t i j<=x↔∃ k,k<n/\s i k<=x/\t k j<=x:=by
 obtain⟨m,hm⟩:=minO_some (l:=(ah n).map λ k=>mx (s i k) (t k j)) (by
  intro z
  have:=congrArg gk z
  rw[aG,eZ]at this
  simp at this
  omega)
 unfold sprod
 rw[hm]
 show m<=x↔_
 rw[minO_le hm]
 constructor
 ·rintro⟨y,hy,hx⟩
  obtain⟨k,hk,rfl⟩:=ax.mp hy
  exact⟨k,aZ.mp hk,mx_le.mp hx⟩
 ·rintro⟨k,hk,hx⟩
  exact⟨_,ax.mpr ⟨k,aZ.mpr hk,rfl⟩,mx_le.mpr hx⟩
theorem eq_of_le {a b:Int}(h:∀ x,a<=x↔b<=x):a=b:=by
 have h1:=(h b).mpr (cx _)
 have h2:=(h a).mp (cx _)
 omega
theorem sprod_in {n:Nat}(hn:1<=n){s t:Nat->Nat->Int}(h:∀ i j,i<n->j<n->0<=s i j/\s i j<=3)(h':∀ i j,i<n->j<n->0<=t i j/\t i j<=3){i j:Nat}(hi:i<n)(hj:j<n):0<=sprod n s t i j/\sprod n s t i j<=3:=by
 constructor
 ·obtain⟨k,hk,h1,h2⟩:=(sprod_le hn (s:=s) (t:=t) (i:=i) (j:=j)).mp (cx _)
  have:=h i k hi hk
  omega
 ·exact(sprod_le hn).mpr ⟨0,by omega,(h i 0 hi (by omega)).2,(h' 0 j (by omega) hj).2⟩
section
variable {X:Cx}
end
noncomputable def mx3 (a b c:Int):Int:=mx (mx a b) c
theorem mx3_le {a b c x:Int}:mx3 a b c<=x↔a<=x/\b<=x/\c<=x:=by unfold mx3;rw[mx_le,mx_le,and_assoc]
theorem call_max3 {X:Cx}(hc:X.calm=true):CallR X (.builtin "max") (λ xs H Q=>∃ i j k,xs=[.int i,.int j,.int k]/\Q (.int (mx3 i j k)) H):=by
 intro pins s σ H xs us Q I r h
 obtain⟨i,j,k,rfl,q⟩:=h
 cases r with
 | cons r1 r =>
  cases r with
  | cons r2 r =>
   cases r with
   | cons r3 r =>
    cases r
    obtain⟨t1,rfl⟩:=r1
    obtain⟨t2,rfl⟩:=r2
    obtain⟨t3,rfl⟩:=r3
    refine max_three_ints (I.ok.hd hc) λ h' tk kk=>⟨_,H,I.kept kk,?_,q⟩
    unfold mx3 mx
    by_cases h1:j > i
    ·rw[if_pos h1,if_pos h1]
     by_cases h2:k > j
     ·rw[if_pos h2,if_pos h2];exact⟨_,rfl⟩
     ·rw[if_neg h2,if_neg h2];exact⟨_,rfl⟩
    ·rw[if_neg h1,if_neg h1]
     by_cases h2:k > i
     ·rw[if_pos h2,if_pos h2];exact⟨_,rfl⟩
     ·rw[if_neg h2,if_neg h2];exact⟨_,rfl⟩
noncomputable def InT (n:Nat)(s:Nat->Nat->Int):Prop:=∀ i j,i<n->j<n->0<=s i j/\s i j<=3
noncomputable def rnd (x:Int):Int:=if x=0\/x=3 then x else 2
noncomputable def sharp (n:Nat)(s:Nat->Nat->Int)(i j:Nat):Int:=(minO ((ah n).map λ k=>mx3 (s i k) (rnd (s k k)) (s k j))).getD 3
theorem sharp_le {n:Nat}(hn:1<=n){s:Nat->Nat->Int}{i j:Nat}{x:Int}:sharp n s i j<=x↔∃ k,k<n/\s i k<=x/\rnd (s k k)<=x/\s k j<=x:=by
 obtain⟨m,hm⟩:=minO_some (l:=(ah n).map λ k=>mx3 (s i k) (rnd (s k k)) (s k j)) (by
  intro z
  have:=congrArg gk z
  rw[aG,eZ]at this
  simp at this
  omega)
 unfold sharp
 rw[hm]
 show m<=x↔_
 rw[minO_le hm]
 constructor
 ·rintro⟨y,hy,hx⟩
  obtain⟨k,hk,rfl⟩:=ax.mp hy
  exact⟨k,aZ.mp hk,mx3_le.mp hx⟩
 ·rintro⟨k,hk,hx⟩
  exact⟨_,ax.mpr ⟨k,aZ.mpr hk,rfl⟩,mx3_le.mpr hx⟩
theorem rnd_in {y:Int}(h:0<=y)(h3:y<=3):0<=rnd y/\rnd y<=3:=by unfold rnd;split<;>omega
theorem sharp_in {n:Nat}(hn:1<=n){s:Nat->Nat->Int}(h:InT n s):InT n (sharp n s):=λ i j hi hj=>by
 constructor
 ·obtain⟨k,hk,h1,_⟩:=(sharp_le hn (s:=s) (i:=i) (j:=j)).mp (cx _)
  have:=h i k hi hk
  omega
 ·exact(sharp_le hn).mpr ⟨0,by omega,(h i 0 hi (by omega)).2,(rnd_in (h 0 0 (by omega) (by omega)).1 (h 0 0 (by omega) (by omega)).2).2,(h 0 j (by omega) hj).2⟩
section
variable {n:Nat} {s:Nat->Nat->Int}
end
noncomputable def tDef (cells:List (Str×Addr))(P:Addr)(name q:Str)(params:aY)(body:List Stmt)(scope:Scope)(pos:Pos)(i:Nat):TS:=λ D σ H =>
 ∃ ps:Array Value,H P=some (.tbl ps)/\gE ps.toList /\
  (cG pos ps.toList=none->∀ c' f doc pm ctv,H c'=none->H f=none->c'≠f ->
   D.nx (σ.set i (some (.ref f))) (upd (upd (upd H P (.tbl (ps++#[cD pos.line,cD pos.col,.ref c']))) c' (qu c' q)) f (lamO f (cc name q params body scope (clOf cells scope.names []) .none .none doc pm none (.ref c') ctv)))) /\
  (∀ cv,cG pos ps.toList=some cv->∃ c',cv=.ref c'/\∀ f doc pm ctv,H f=none->D.nx (σ.set i (some (.ref f))) (upd H f (lamO f (cc name q params body scope (clOf cells scope.names []) .none .none doc pm none (.ref c') ctv))))
theorem ps_def {X:Cx}{c P:Addr}{name q:Str}{i:Nat}{params:aY}{body:List Stmt}{scope:Scope}{pos:Pos}(hN:X.N.Nodup)(hi:X.N[i]?=some name)(hx:Loc X.env.scope name)(hcode:X.env.code=.ref c)(C:bP X.base c P)(hB:BM X.mg X.base)
  (hck:lamCheck scope X.env.scope=true) (hq:i5 X.env name name=q:=by rfl) (hd0:params.defaults=[]:=by rfl) (hk0:params.kw_defaults=[]:=by rfl) (ha:annTrees params none X.env=[]:=by rfl) (hf:X.fn name=true\/X.env.scope.names.lookup name=some .local:=by first|exact .inl rfl|exact .inr rfl) :
  PS X (.FunctionDef name params body [] none [] scope none name pos) (tDef X.env.cells P name q params body scope pos i):=by
 intro pins s σ H D I h
 have hfr:∀ y∈scope.names,y.2=.free->X.env.kindOf y.1=some .cell\/X.env.kindOf y.1=some .free:=λ y hy e=>by
  have z:=aN.mp hck y hy
  have z':X.env.scope.names.lookup y.1=some .cell\/X.env.scope.names.lookup y.1=some .free:=by simpa [e]using z
  exact z'
 obtain⟨ps,hP,ht,hnew,hhit⟩:=h
 refine PySem.W.nestDef_K hd0 hk0 ha ?_
 rw[hq]
 have fin:∀ {H2:Hp} {f:Addr} {s2:ae},Inv X pins σ H2 s2->D.nx (σ.set i (some (.ref f))) H2->wpAny (model X.prog X.w) X.A (fu X.env name (.ref f)) (λ _ s3=>SP X pins D .next s3) X.xe s2:=λ {H2 f s2} I2 q2=>store_ok (v:=.ref f) I2 hN hi hx rfl (λ s3 I3=>⟨_,H2,I3,q2⟩) hf
 have hcl:=qh (scope:=scope) (env:=X.env) λ y hy e=>I.ok.has y.1 (hfr y hy e)
 have oP:s.heap.get? P=some (dJ ps):=I.hok P _ hP
 have hgs:s.heap.Ns aV X.mg:=I.mod.glob.keeps I.bk
 have hC:bP s.heap c P:=C.keeps I.bk
 have hgP:aV≠P:=λ q=>by
  obtain⟨o,es,ep,e,d,_⟩:=hgs
  rw[q,oP]at e;cases e;cases d
 have hb:s.heap.BuiltinsAt X.mg P:=by
  obtain⟨bm,ob,b1,b2,b3,b4,b5,b6⟩:=hB
  refine⟨bm,ob,b1,b2,λ q=>?_,λ q=>?_,I.bk _ _ b3,b4,b5,b6⟩
  ·obtain⟨o,es,ep,e,d,_⟩:=I.mod.glob
   rw[q,e]at b3;cases b3;rw[d]at b6;cases b6
  ·have e:=I.bk _ _ b3
   rw[q,oP]at e;cases e;cases b4
 cases qq:cG pos ps.toList with
 | none =>
  refine PySem.W.makeFunction_K (mg:=X.mg) hcl I.ok.glob hgs hcode hC oP ht qq hgP hb λ c' ctv doc h' tk hx hge hlt hrec htb=>?_
  have hPl:P<s.heap.objs.size:=aA oP
  have hcP:c'≠P:=c5 (aq hPl hge)
  have hfP:h'.objs.size≠P:=c5 (dI (aq hPl hge) hlt)
  have hcf:c'≠h'.objs.size:=ay hlt
  have hsz:s.heap.objs.size<=h'.objs.size:=am hge (cZ hlt)
  have nP:∀ b,H b=none->b≠P:=λ b n z=>by rw[z,hP]at n;cases n
  have lt:∀ b o,H b=some o->b≠c'/\b≠h'.objs.size:=λ b o e=>⟨ay (aq (I.hok.lt e) hge),ay (aq (I.hok.lt e) hsz)⟩
  have lt2:∀ b o,s.heap.get? b=some o->b≠c'/\b≠h'.objs.size:=λ b o e=>⟨ay (aq (aA e) hge),ay (aq (aA e) hsz)⟩
  have keep:∀ b o,b≠P->s.heap.get? b=some o->(h'.push (PySem.W.fnMade name q params body scope (clOf X.env.cells scope.names []) doc ((X.mg "__name__").getD .none) c' ctv)).get? b=some o:=λ b o n e=>ag _ (hx b o n e)
  have at3:∀ b,b≠P->b≠c'->b≠h'.objs.size->∀ o1 o2 o3,upd (upd (upd H P o1) c' o2) h'.objs.size o3 b=H b:=λ b n1 n2 n3 o1 o2 o3=>by rw[za n3,za n2,za n1]
  refine fin (H2:=upd (upd (upd H P (.tbl (ps++#[cD pos.line,cD pos.col,.ref c']))) c' (qu c' q)) h'.objs.size (lamO h'.objs.size (cc name q params body scope (clOf X.env.cells scope.names []) .none .none doc ((X.mg "__name__").getD .none) none (.ref c') ctv))) (I.un (t':=tk) ⟨λ b o e n _ _=>keep b o (nP b n) e,λ b o e n _ _=>⟨o.slots,keep b o (nP b n) e⟩,λ b o e n _=>?fr,λ b o e _=>?th,λ b xs e=>?tu,λ b o u e=>?fz,λ b qs e=>?tb⟩ ?ok) (hnew qq c' h'.objs.size doc _ ctv (I.hok.fresh hge) (I.hok.fresh hsz) hcf)
  case fr=>rw[at3 b (nP b n) (lt2 b o e).1 (lt2 b o e).2];exact n
  case th =>
   by_cases z:b=P
   ·subst z;exact⟨_,ag _ htb⟩
   ·exact⟨o,keep b o z e⟩
  case tu=>rw[at3 b (λ z=>by rw[z,hP]at e;cases e) (lt b _ e).1 (lt b _ e).2];exact e
  case fz=>rw[at3 b (λ z=>by rw[z,hP]at e;cases e) (lt b _ e).1 (lt b _ e).2];exact e
  case tb =>
   by_cases z:b=P
   ·subst z
    rw[hP]at e;cases e
    exact⟨#[cD pos.line,cD pos.col,.ref c'],by rw[za (bQ hfP),za (bQ hcP),ze]⟩
   ·exact⟨#[],by rw[at3 b z (lt b _ e).1 (lt b _ e).2,e];simp⟩
  case ok =>
   intro b o e
   by_cases zf:b=h'.objs.size
   ·subst zf
    rw[ze]at e;cases e
    exact lamO_ok (aM _ rfl)
   ·rw[za zf]at e
    by_cases zc:b=c'
    ·subst zc
     rw[ze]at e;cases e
     obtain⟨c2,oc,vs,t,e1,e2,e3⟩:=hrec
     exact codeO_ok ⟨c2,oc,vs,t,e1,ag _ e2,e3⟩
    ·rw[za zc]at e
     by_cases zp:b=P
     ·subst zp
      rw[ze]at e;cases e
      exact ag _ htb
     ·rw[za zp]at e
      have up3:∀ d u,H d=some u->(∀ ps,u≠.tbl ps)->upd (upd (upd H P (.tbl (ps++#[cD pos.line,cD pos.col,.ref c']))) c' (qu c' q)) h'.objs.size (lamO h'.objs.size (cc name q params body scope (clOf X.env.cells scope.names []) .none .none doc ((X.mg "__name__").getD .none) none (.ref c') ctv)) d=some u:=λ d u e nt=>by
       rw[at3 d (λ z=>by rw[z,hP]at e;cases e;exact nt _ rfl) (lt d _ e).1 (lt d _ e).2];exact e
      refine(I.hok b o e).stay (λ d u hd q=>keep d u ?_ q) (λ d q=>up3 d _ q λ _=>by nofun) λ d xs q=>up3 d _ q λ _=>by nofun
      rintro rfl
      rcases hd with hd|hd
      ·exact zp hd.symm
      ·rw[hP]at hd;cases hd
 | some cv =>
  obtain⟨c',rfl,hq2⟩:=hhit cv qq
  refine PySem.W.makeFunction_hit (mg:=X.mg) hcl I.ok.glob hgs hcode hC oP ht qq hb λ ctv doc h' tk hk hsz=>?_
  exact fin (I.laid (t':=tk) (λ b o e=>ag _ (hk b o e)) hsz (lamO_ok (aM _ rfl))) (hq2 h'.objs.size doc _ ctv (I.hok.fresh hsz))
noncomputable def DefIn (H:Hp)(f:Addr)(name qual:Str)(params:aY)(body:List Stmt)(scope:Scope)(fr:List Str)(cap:List V)(clos:List (Str×Addr)):Prop :=
 ∃ doc pm c' ctv,H f=some (lamO f (cc name qual params body scope clos .none .none doc pm none (.ref c') ctv))/\H c'=some (qu c' qual)/\Cells clos H /\
  (∀ x y c,clos.lookup x=some c->clos.lookup y=some c->x=y)/\(∀ x,scope.names.lookup x=some .free->∃ c,clos.lookup x=some c)/\Cap clos H fr cap
theorem defIn_of {cells:List (Str×Addr)}{N:List Str}{kd:Str->Option bJ}{σ:St}{H1 H2:Hp}{f:Addr}{q:Str}{name:Str}{params:aY}{body:List Stmt}{scope:Scope}{fr:List Str}{cap:List V}(ca:Caught cells N kd σ H1 H2)
  (hf:∃ doc pm c' ctv,H1 f=some (lamO f (cc name q params body scope (clOf cells scope.names []) .none .none doc pm none (.ref c') ctv))/\H1 c'=some (qu c' q))
  (hfr:∀ x,scope.names.lookup x=some .free->∃ c,cells.lookup x=some c)
  (hcap:∀(i:Nat) (x:Str) (v:V),fr[i]?=some x->cap[i]?=some v->scope.names.lookup x=some .free/\(kd x=some .cell\/kd x=some .free)/\∃ j:Nat,N[j]?=some x/\σ[j]?=some (some v)) :
  DefIn H2 f name q params body scope fr cap (clOf cells scope.names []):=by
 obtain⟨doc,pm,c',ctv,h1,h2⟩:=hf
 have up:∀ b o,H1 b=some o->H2 b=some o:=λ b o e=>by
  rw[ca.ne b λ z=>by rw[ca.free b z]at e;cases e];exact e
 have sub:∀ x c,(clOf cells scope.names []).lookup x=some c->cells.lookup x=some c:=λ x c e=>by
  rcases clOf_mem (az e)with z|z
  ·exact z
  ·exact absurd z (by simp)
 refine⟨doc,pm,c',ctv,up _ _ h1,up _ _ h2,λ x c e=>ca.cells x c (sub x c e),λ x y c e1 e2=>ca.inj x y c (sub x c e1) (sub y c e2),λ x k=>?_,λ i x v e1 e2=>?_⟩
 ·obtain⟨c,e⟩:=hfr x k
  exact⟨c,ql e (az k)⟩
 ·obtain⟨k,kk,j,e3,e4⟩:=hcap i x v e1 e2
  obtain⟨c,e⟩:=hfr x k
  obtain⟨o,u,e5,e6,e7⟩:=ca.cap j x v c e3 e4 kk e
  exact⟨c,o,u,ql e (az k),e5,e6,e7⟩
theorem DefIn.fn {K:ab}{H:Hp}{f:Addr}{name qual:Str}{params:aY}{body:List Stmt}{scope:Scope}{fr:List Str}{cap:List V}{clos:List (Str×Addr)}(h:DefIn H f name qual params body scope fr cap clos):FnIn K H f:=by
 obtain⟨doc,pm,c',ctv,h1,_⟩:=h
 exact .inl ⟨_,h1⟩
end L2
end
noncomputable section
namespace L2
open PySem PySem.Spec PyProof.Rows Builtin
section
variable {P:aL} {w:World} {A:aS} {E:Value->ae->Prop} {s:ae}
theorem nx_tup_item {it t:Addr}{i:Nat}{l:Array Value}{v:Value}{Q:Value->ae->Prop}(ti:s.heap.IsTupleIter it t i)(tt:s.heap.IsTuple t l)(hv:l[i]?=some v)
  (k:∀ h',h'.IsTupleIter it t (i+1)->dA it s.heap h'->Q v { s with heap:=h' }):wpAny (model P w) A (bM (.ref it)) Q E s:=by
 obtain⟨o,e1,e2,e3⟩:=id ti
 obtain⟨p,p1,_,n,p2⟩:=tt
 unfold bM
 refine ai (cE (name:=cw "__next__") ti.typeIs cj (c6 cj ti.typeIs eC ?_ (d9 _)))
 show wpAny _ _ (field (.ref it) 0 >>= _) _ _ _
 refine ai (dw e1 e3 (x:=.ref t) rfl ?_)
 show wpAny _ _ (if(Value.ref t==Value.none)=true then _ else _) _ _ _
 rw[if_neg (show ¬((Value.ref t==Value.none)=true)from λ z=>nomatch z)]
 show wpAny _ _ (field (.ref it) 1 >>= _) _ _ _
 refine ai (dw e1 e3 (x:=.int i 0) rfl ?_)
 show wpAny _ _ (gD (.ref t) >>= _) _ _ _
 refine ai (dG p1 p2 ?_)
 simp only[dL,hv]
 refine ai (wpAny_setField e1 e3 (by simp) (aE ⟨v,rfl,aE (k _ ⟨_,cQ _ e1 (Obj.isFreed_of_fields (hJ e3 _)),(Obj.cls_mapFields ..).trans e2,by rw[hJ e3];simp[cD]⟩ (gJ ..))⟩))
theorem nx_tup_end {it t:Addr}{i:Nat}{l:Array Value}{Q:Value->ae->Prop}(hh:A.handled=none)(ti:s.heap.IsTupleIter it t i)(tt:s.heap.IsTuple t l)(hv:l[i]?=none)
  (k:∀ h' e,iI it s.heap h'->(∃ o,h'.get? e=some o/\o.cls=.type "StopIteration")->E (.ref e) { s with heap:=h' }):wpAny (model P w) A (bM (.ref it)) Q E s:=by
 obtain⟨o,e1,e2,e3⟩:=id ti
 obtain⟨p,p1,_,n,p2⟩:=tt
 unfold bM
 refine ai (cE (name:=cw "__next__") ti.typeIs cj (c6 cj ti.typeIs eC ?_ (d9 _)))
 show wpAny _ _ (field (.ref it) 0 >>= _) _ _ _
 refine ai (dw e1 e3 (x:=.ref t) rfl ?_)
 show wpAny _ _ (if(Value.ref t==Value.none)=true then _ else _) _ _ _
 rw[if_neg (show ¬((Value.ref t==Value.none)=true)from λ z=>nomatch z)]
 show wpAny _ _ (field (.ref it) 1 >>= _) _ _ _
 refine ai (dw e1 e3 (x:=.int i 0) rfl ?_)
 show wpAny _ _ (gD (.ref t) >>= _) _ _ _
 refine ai (dG p1 p2 ?_)
 simp only[dL,hv]
 refine ai (g9 (ai (wpAny_setField e1 e3 (by simp) ?_)))
 show wpAny _ _ (newExc (.type "StopIteration") [] >>= _) _ _ (_:ae)
 refine ai ?_
 simp only[newExc,newTuple]
 refine ai (bC ?_ (by size_fits))
 refine ai (m:=firstArgMember _ _) (wpAny_of_eq (a:=Value.none) (by first|rfl|(simp only[firstArgMember];rfl)) (bC ?_ (by size_fits)))
 simp only[raiseNew]
 refine ai (wpAny_handled ?_)
 first|rw[show A.in1.handled=none from hh]|rw[hh]
 exact ai (aE (wpAny_throw (k _ _ (((gJ ..).extBut.push _).push _) ⟨_,aM _ rfl,rfl⟩)))
end
structure Dw (P:aL)(w:World)(K:ab)(J:It)(it:Addr)(tn:Nat->Heap->Prop):Prop where
 obj:∀ i h,tn i h->∃ o,h.get? it=some o/\∀ v,o.data≠.cell v
 keep:∀ i h h',tn i h->(∀ o,h.get? it=some o->h'.get? it=some o)->tn i h'
 item:∀(X:Cx),X.prog=P->X.w=w->X.K=K->∀(A:aS) (i:Nat) (pins:List (Addr×Obj)) (s:ae) (σ:St) (H:Hp) (Q:Value->ae->Prop) (E:Value->ae->Prop),Inv X pins σ H s->tn i s.heap->J.go i H ->
  (∀ x u h' tk,RelV x u->J.yld i H x H->tn (i+1) h'->dA it s.heap h'->Q u { s with heap:=h',toks:=tk })->wpAny (model P w) A (bM (.ref it)) Q E s
 done:∀(X:Cx),X.prog=P->X.w=w->X.K=K->∀(A:aS) (i:Nat) (pins:List (Addr×Obj)) (s:ae) (σ:St) (H:Hp) (Q:Value->ae->Prop) (E:Value->ae->Prop),A.handled=none->Inv X pins σ H s->tn i s.heap->J.stop i H ->
  (∀ h' e,iI it s.heap h'->(∃ o,h'.get? e=some o/\o.cls=.type "StopIteration")->E (.ref e) { s with heap:=h' })->wpAny (model P w) A (bM (.ref it)) Q E s
theorem dw_list {P:aL}{w:World}{K:ab}(a it:Addr):Dw P w K (Itl K a) it (λ i h=>h.IsListIter it a i) where
 obj:=λ i h st=>by
  obtain⟨o,e,c,d⟩:=st
  exact⟨o,e,λ v z=>by rw[d]at z;cases z⟩
 keep:=λ i h h' st k=>st.at k
 item:=by
  intro X hP hw hK A i pins s σ H Q E I st hg k
  subst hP hw hK
  obtain⟨xs,x,hq,hx⟩:=hg
  obtain⟨its,rv,p,hz⟩:=I.list hq
  obtain⟨u,hu,ru⟩:=rv.get hx
  exact wpAny_nextOf_list_item st p.isList (x:=u) (by simpa using hu) λ h' st' sb=>k x u h' s.toks ru ⟨rfl,λ ys hy=>by rw[I.list_inj hy hq];exact hx⟩ st' sb
 done:=by
  intro X hP hw hK A i pins s σ H Q E hA I st hg k
  subst hP hw hK
  obtain⟨xs,hq,hx⟩:=hg
  obtain⟨its,rv,p,hz⟩:=I.list hq
  have hl:=rv.length
  exact wpAny_nextOf_list_end hA st p.isList (by simp;omega) k
theorem dw_tup {P:aL}{w:World}{K:ab}(a it:Addr):Dw P w K (Itt K a) it (λ i h=>h.IsTupleIter it a i) where
 obj:=λ i h st=>by
  obtain⟨o,e,c,d⟩:=st
  exact⟨o,e,λ v z=>by rw[d]at z;cases z⟩
 keep:=λ i h h' st k=>st.at k
 item:=by
  intro X hP hw hK A i pins s σ H Q E I st hg k
  subst hP hw hK
  obtain⟨xs,x,hq,hx⟩:=hg
  obtain⟨its,rv,p,hz⟩:=I.tuple hq
  obtain⟨u,hu,ru⟩:=rv.get hx
  exact nx_tup_item st (show s.heap.IsTuple a its.toArray from p) (v:=u) (by simpa using hu) λ h' st' sb=>k x u h' s.toks ru ⟨rfl,λ ys hy=>by rw[I.tuple_inj hy hq];exact hx⟩ st' sb
 done:=by
  intro X hP hw hK A i pins s σ H Q E hA I st hg k
  subst hP hw hK
  obtain⟨xs,hq,hx⟩:=hg
  obtain⟨its,rv,p,hz⟩:=I.tuple hq
  have hl:=rv.length
  exact nx_tup_end hA st (show s.heap.IsTuple a its.toArray from p) (by simp;omega) k
theorem dw_str {P:aL}{w:World}{K:ab}(x:Str)(t:Tok)(it:Addr):Dw P w K (Its x) it (λ i h=>h.IsStrIter it (gx x) x t i) where
 obj:=λ i h st=>by
  obtain⟨o,e,c,d⟩:=st
  exact⟨o,e,λ v z=>by rw[d]at z;cases z⟩
 keep:=λ i h h' st k=>by
  obtain⟨o,ho,r⟩:=st
  exact⟨o,k _ ho,r⟩
 item:=by
  intro X hP hw hK A i pins s σ H Q E I st hg k
  subst hP hw hK
  have hg':i<x.cps.size:=hg
  have hc:x.cps[i]?=some x.cps[i]:=by simp[hg']
  unfold gx at st k
  cases ha:x.cps.all (·<128)
  ·rw[ha]at st k
   exact wpAny_nextOf_wide_item st hc λ h' st' sb=>k (.str ⟨#[x.cps[i]]⟩) _ h' (s.toks+1) ⟨_,rfl⟩ ⟨rfl,_,hc,rfl⟩ st' sb
  ·rw[ha]at st k
   exact wpAny_nextOf_ascii_item st hc λ h' st' sb=>k (.str ⟨#[x.cps[i]]⟩) _ h' (s.toks+1) ⟨_,rfl⟩ ⟨rfl,_,hc,rfl⟩ st' sb
 done:=by
  intro X hP hw hK A i pins s σ H Q E hA I st hg k
  subst hP hw hK
  have hg':x.cps.size<=i:=hg
  have hc:x.cps[i]?=none:=by simp[hg']
  unfold gx at st
  cases ha:x.cps.all (·<128)
  ·rw[ha]at st
   exact wpAny_nextOf_wide_end hA st hc k
  ·rw[ha]at st
   exact wpAny_nextOf_ascii_end hA st hc k
section
variable {X:Cx} {pins:List (Addr×Obj)} {σ:St} {H:Hp} {s:ae} {A:aS} {E:Value->ae->Prop} {J1 J2:It} {t1 t2:Nat->Heap->Prop} {z ti to i1 i2:Addr} {n:Nat} {a b:Value}
end
noncomputable def Mkr (v:Value)(o:Obj)(h:Heap):Prop:=∀(P:aL) (w:World) (A:aS) (E:Value->ae->Prop) (s:ae) (Q:Value->ae->Prop),(∀ b u,h.get? b=some u->s.heap.get? b=some u) ->
 Q (.ref s.heap.objs.size) { s with heap:=s.heap.push o }->wpAny (model P w) A (ju v) Q E s
noncomputable def Sr (K:ab)(H:Hp)(x:V)(J:It):Prop:=(∃ a,x=.ref a/\(∃ xs,SqL K H a xs)/\J=Itl K a)\/(∃ a,x=.ref a/\(∃ xs,SqT K H a xs)/\J=Itt K a)\/∃ y,x=.str y/\J=Its y
theorem Sr.mk {X:Cx}{pins:List (Addr×Obj)}{σ:St}{H:Hp}{s:ae}{x:V}{u:Value}{J:It}(I:Inv X pins σ H s)(h:Sr X.K H x J)(r:RelV x u) :
  ∃(o:Obj) (tn:Addr->Nat->Heap->Prop),o.isFreed=false/\Mkr u o s.heap/\(∀ it,Dw X.prog X.w X.K J it (tn it))/\∀ it h',h'.get? it=some o->tn it 0 h':=by
 rcases h with⟨a,e,⟨xs,hq⟩,e'⟩|⟨a,e,⟨xs,hq⟩,e'⟩|⟨y,e,e'⟩
 ·subst e e';cases r
  obtain⟨its,rv,p,hz⟩:=I.list hq
  exact⟨_,λ it i h=>h.IsListIter it a i,rfl,λ P w A E s' Q hk q=>cS (p.isList.at λ o e=>hk _ _ e) q,λ it=>dw_list a it,λ it h' e=>⟨_,e,rfl,rfl⟩⟩
 ·subst e e';cases r
  obtain⟨its,rv,p,hz⟩:=I.tuple hq
  exact⟨_,λ it i h=>h.IsTupleIter it a i,rfl,λ P w A E s' Q hk q=>gX (Heap.IsTuple.at (show s.heap.IsTuple a its.toArray from p) λ o e=>hk _ _ e) q,λ it=>dw_tup a it,λ it h' e=>⟨_,e,rfl,rfl⟩⟩
 ·subst e e';obtain⟨t,rfl⟩:=r
  exact⟨_,λ it i h=>h.IsStrIter it (gx y) y t i,rfl,λ P w A E s' Q hk q=>wpAny_pyIter_strU q,λ it=>dw_str y t it,λ it h' e=>⟨_,e,rfl,rfl⟩⟩
end L2
end
noncomputable section
namespace L2
open PySem PySem.Spec PyProof.Rows Builtin
open AutoSeq1 (wpAny_loadPart')
section
variable {X:Cx} {pins:List (Addr×Obj)} {σ:St} {H:Hp} {s:ae} {A:aS} {E:Value->ae->Prop} {J1:It} {t1:Nat->Heap->Prop} {z it:Addr} {n:Nat} {old:Value}
end
end L2
end
noncomputable section
namespace L2
open PySem PySem.Spec PyProof.Rows Builtin
open AutoSeq1 (wpAny_loadPart')
theorem noFill_tmul:fillsNumberSlot (.type "tuple") "mul"=pure false :=
 PySem.fillsNumberSlot_seq (id := "tuple.__mul__") (r:=some (.builtin "tuple.__rmul__")) dM.lookup (by decide +kernel) fB.lookup (by decide +kernel)
theorem repeat_tup:seqRepeat? (.type "tuple")=pure (some (.builtin "tuple.__mul__")):=by
 unfold seqRepeat?
 rw[iE (T := "tuple") (name := "__mul__") (id := "tuple.__mul__") dM.lookup (by decide +kernel),iE (T := "tuple") (name := "__rmul__") (id := "tuple.__rmul__") fB.lookup (by decide +kernel)]
 rfl
theorem int_rmul_tup (a:Int)(t:Tok)(l:Addr)(o:Obj)(items:Array Value)(n:Nat)(dct:Option Addr)(sl:Array (Option Value)) :
  Meets (Builtin.«int.__rmul__» ⟨[.int a t,.ref l],[]⟩) (λ _ R s=>s.heap.get? l=some { cls:=.type "tuple",dict:=dct,data:=.seq items n,slots:=sl }/\R (.ok (.ret Value.notImplemented)) s) :=
 .of_wp λ prog w A R s h=>by obtain⟨hp,g,d,tk,os⟩:=s;obtain⟨hl,h⟩:=h;wp_walk;exact⟨_,rfl,h⟩
noncomputable def repT {α:Type}:Nat->List α->List α
 | 0,_=>[]
 | n+1,a=>a++repT n a
theorem fold_rep {α:Type}(l:List α):∀(n:Nat) (acc:Array α),(ar n l.toArray).foldl (·++·) acc=acc++(repT n l).toArray
 | 0,acc=>by simp[repT]
 | n+1,acc=>by rw[bH,cu,fold_rep l n];simp[repT]
theorem fold_size {α:Type}(a:Array α):∀(n:Nat) (acc:Array α),((ar n a).foldl (·++·) acc).size=acc.size+a.size*n
 | 0,acc=>by simp
 | n+1,acc=>by rw[bH,cu,fold_size a n,Array.size_append,Nat.mul_succ];omega
noncomputable def TmA (items:Array Value)(k:Int)(l:Addr)(R:Value->ae->Prop)(s:ae):Prop :=
 ((items.isEmpty||k==1)=true->R (.ref l) s)/\((items.isEmpty||k==1)=false->R (.ref s.heap.objs.size) { s with heap:=s.heap.push { cls:=.type "tuple",data:=.seq ((ar k.toNat items).foldl (·++·) #[]) } })
theorem tmul_call {P:aL}{w:World}{A:aS}{E:Value->ae->Prop}{s:ae}{l:Addr}{items:Array Value}{k:Int}{t:Tok}{Q:Value->ae->Prop}(h0:0<=k)(h1:k<=1000000)(hz:items.size*k.toNat<=1000000)(hl:IsTup s.heap l items)
  (h:TmA items k l Q s):wpAny (model P w) A (call (.builtin "tuple.__mul__") [.ref l,.int k t]) Q E s:=by
 refine c6 dM hl.typeIs PySem.F.entry_tuple_mul ?_ (PySem.F.args_tuple_mul_2 _ _)
 obtain⟨q1,q2⟩:=h
 show wpAny _ _ (asIndex (.int k t) >>= _) _ _ _
 refine ai (aE ?_)
 rw[if_neg (by rw[decide_eq_false (by omega),decide_eq_false (by omega)];decide)]
 show wpAny _ _ (cW (.ref l) >>= _) _ _ _
 refine ai (gQ hl ?_)
 have hzi:(items.size:Int)*k<=1000000:=by
  have:((items.size*k.toNat:Nat):Int)<=1000000:=by omega
  rw[iM,gK h0]at this
  exact this
 cases hb:(items.isEmpty||k==1)with
 | true =>
  rw[if_pos rfl]
  unfold i6
  refine ai (ai (fL hl.typeIs (aE ?_)))
  rw[if_pos (by decide)]
  exact ai (g9 (aE ⟨_,rfl,q1 hb⟩))
 | false =>
  rw[if_neg aP]
  have he:items.isEmpty=false:=by
   rw[d3]at hb;exact hb.1
  have q:=q2 hb
  show wpAny _ _ (if(decide (k<=0)||items.isEmpty)=true then _ else _) _ _ _
  by_cases hk:k<=0
  ·rw[if_pos (by rw[decide_eq_true hk];rfl)]
   have:k.toNat=0:=by omega
   rw[this]at q
   exact ai (bC (aE ⟨_,rfl,q⟩) (by size_fits))
  ·rw[if_neg (by rw[decide_eq_false hk,he];decide)]
   show wpAny _ _ (if(items.size:Int)*k > (2^63 - 1) / 8 then _ else _) _ _ _
   rw[if_neg (by omega)]
   show wpAny _ _ (if eO ((items.size:Int)*k)=true then _ else _) _ _ _
   rw[if_neg (by unfold eO;rw[decide_eq_false (by unfold aH;omega)];decide)]
   refine ai (bC (aE ⟨_,rfl,q⟩) ?_)
   show Array.size _<=aH
   rw[fold_size]
   show 0+_<=_
   rw[cz]
   have h3:items.size*k.toNat<=aH:=am hz (by decide)
   exact h3
theorem repT_nil {α:Type}:∀ n,repT n ([]:List α)=[]
 | 0=>rfl
 | n+1=>by simp[repT,repT_nil n]
theorem repT_one {α:Type}(l:List α):repT 1 l=l:=by simp[repT]
theorem repT_len {α:Type}(l:List α):∀ n,(repT n l).length=l.length*n
 | 0=>by simp[repT]
 | n+1=>by simp[repT,repT_len l n,iJ];omega
theorem Vals.repT {xs:List V}{us:List Value}(r:Vals xs us):∀ n,Vals (repT n xs) (repT n us)
 | 0=>.nil
 | n+1=>r.append (Vals.repT r n)
noncomputable def rMulT (K:ab):R2:=λ x y H Q=>∃ a xs n,x=.ref a/\y=.int n/\SqT K H a xs/\(0<=n/\n<=1000000/\xs.length*n.toNat<=1000000)/\∀ p H',Same H H'->SqT K H' p (repT n.toNat xs)->Q (.ref p) H'
theorem op_mulT {X:Cx}{K:ab}(hK:X.K=K):OpR X (bV .Mult) (rMulT K):=by
 subst hK
 intro pins s σ H x y v u Q I rx ry h
 obtain⟨a,xs,n,rfl,rfl,ha,⟨h0,h1,hz⟩,q⟩:=h
 cases rx
 obtain⟨t,rfl⟩:=ry
 obtain⟨its,r1,p1,hzz⟩:=I.tuple ha
 have hlen:=r1.length
 obtain⟨⟨cls,dd,data,sl⟩,ho,hc,n1,hd⟩:=id p1
 simp only at hc hd
 subst hc hd
 refine eP (T := "tuple") (U := "int") (by decide) p1.typeIs (λ s'=>fO s' n t) noFill_tmul g8 dt repeat_tup gH.lookup
  (g7 dt (fO s n t) gI (gq _ _) (int_rmul_tup n t a default its.toArray n1 dd sl) ⟨ho,⟨rfl,p1.typeIs,tmul_call h0 h1 (by rw[av,<-hlen];exact hz) p1 ⟨λ hb=>?_,λ hb=>?_⟩⟩⟩)
 ·refine⟨.ref a,H,I,rfl,q a H (Same.refl H) ?_⟩
  rw[bK]at hb
  rcases hb with hb|hb
  ·have hi:its=[]:=by simpa using hb
   have hx:xs=[]:=r1.nil_iff.mp hi
   rw[hx,repT_nil];rw[hx]at ha;exact ha
  ·have:n=1:=by simpa using hb
   subst this
   show SqT _ _ _ (repT 1 xs)
   rw[repT_one];exact ha
 ·have hp:=I.hok.fresh (aj s.heap.objs.size)
  refine⟨.ref s.heap.objs.size,_,I.laid (t':=s.toks) (o:=.tup (repT n.toNat xs)) (λ b ob q=>ag _ q) (aj _) ?_,rfl,q _ _ ((Same.refl H).new hp) (SqT.of ze)⟩
  refine⟨by rw[repT_len];exact am hz (by decide),repT n.toNat its,r1.repT _,?_⟩
  rw[show(repT n.toNat its).toArray=(ar n.toNat its.toArray).foldl (·++·) #[]by rw[fold_rep];simp]
  exact⟨_,aM _ rfl,rfl,_,rfl⟩
end L2
end
noncomputable section
namespace L2
open PySem PySem.Spec PyProof.Rows
section
variable {κ:Type} [DecidableEq κ]
noncomputable def valV (kvs:List (κ×V))(k:κ):Option V:=(kvs.find? λ kv=>decide (kv.1=k)).map (·.2)
noncomputable def putK (kvs:List (κ×V))(k:κ)(v:V):List (κ×V) :=
 if(kvs.any λ kv=>decide (kv.1=k))=true then kvs.map (λ kv=>if kv.1=k then(kv.1,v)else kv)else kvs++[(k,v)]
theorem valV_pos {p:κ×V}{r:List (κ×V)}{k:κ}(e:p.1=k):valV (p::r) k=some p.2:=by simp[valV,cM,e]
theorem valV_neg {p:κ×V}{r:List (κ×V)}{k:κ}(e:¬ p.1=k):valV (p::r) k=valV r k:=by simp[valV,cM,e]
theorem valV_any (k:κ):∀ kvs:List (κ×V),(kvs.any λ kv=>decide (kv.1=k))=(valV kvs k).isSome
 | []=>rfl
 | p::r=>by
  rw[ft]
  by_cases e:p.1=k
  ·simp only[valV_pos e,decide_eq_true e,Bool.true_or,eN]
  ·rw[valV_neg e,decide_eq_false e,jn];exact valV_any k r
theorem je (kvs:List (κ×V))(k:κ)(v:V):(putK kvs k v).length<=kvs.length+1:=by
 unfold putK
 split
 ·rw[aG];omega
 ·rw[aW,aR,dm];omega
theorem RelO.isSome_eq {o:Option V}{u:Option Value}(r:RelO o u):o.isSome=u.isSome:=by
 cases o with
 | none=>cases u with
  | none=>rfl
  | some _=>exact(show False from r).elim
 | some _=>cases u with
  | none=>exact(show False from r).elim
  | some _=>rfl
theorem KV.val {kvs:List (κ×V)}{vs:List (κ×Value)}(r:KV kvs vs)(k:κ):RelO (valV kvs k) (gF vs k):=by
 unfold KV at r
 induction r with
 | nil=>exact True.intro
 | @cons p q ps qs h t ih =>
  obtain⟨h1,h2⟩:=h
  by_cases e:p.1=k
  ·have e':q.1=k:=h1.symm.trans e
   have b:gF (q::qs) k=some q.2:=by simp[gF,cM,e']
   rw[valV_pos e,b];exact h2
  ·have e':¬ q.1=k:=λ z=>e (h1.trans z)
   have b:gF (q::qs) k=gF qs k:=by simp[gF,cM,e']
   rw[valV_neg e,b];exact ih
theorem KV.any {kvs:List (κ×V)}{vs:List (κ×Value)}(r:KV kvs vs)(k:κ):(kvs.any λ kv=>decide (kv.1=k))=vs.any λ kv=>decide (kv.1=k):=by
 unfold KV at r
 induction r with
 | nil=>rfl
 | cons h t ih=>rw[ft,ft,ih,h.1]
theorem KV.repl {kvs:List (κ×V)}{vs:List (κ×Value)}(r:KV kvs vs)(k:κ){y:V}{u:Value}(ry:RelV y u) :
  KV (kvs.map λ kv=>if kv.1=k then(kv.1,y)else kv) (vs.map λ kv=>if kv.1=k then(kv.1,u)else kv):=by
 unfold KV at r ⊢
 induction r with
 | nil=>exact .nil
 | @cons p q ps qs h t ih =>
  rw[aK,aK]
  refine .cons ?_ ih
  obtain⟨h1,h2⟩:=h
  by_cases e:p.1=k
  ·rw[if_pos e,if_pos (h1.symm.trans e)];exact⟨h1,ry⟩
  ·rw[if_neg e,if_neg (λ z=>e (h1.trans z))];exact⟨h1,h2⟩
theorem KV.put {kvs:List (κ×V)}{vs:List (κ×Value)}(r:KV kvs vs)(k:κ){y:V}{u:Value}(ry:RelV y u):KV (putK kvs k y) (stored vs k u):=by
 unfold putK stored
 rw[r.any k]
 by_cases e:(vs.any λ kv=>decide (kv.1=k))=true
 ·rw[if_pos e,if_pos e];exact r.repl k ry
 ·rw[if_neg e,if_neg e];exact jG r ⟨rfl,ry⟩
theorem KV.length {kvs:List (κ×V)}{vs:List (κ×Value)}(r:KV kvs vs):kvs.length=vs.length:=gM r
end
theorem kV_is {P:aL}{w:World}{k:Key}{u:Value}(r:RelV (kV k) u):(zT P w).is k u=true:=by
 cases k with
 | inl i=>obtain⟨t,e⟩:=(show ∃ t,u=Value.int i t from r);subst e;exact mixKind_int P w i t
 | inr x=>obtain⟨t,e⟩:=(show ∃ t,u=Value.str x t from r);subst e;exact mixKind_str P w x t
theorem items_are {P:aL}{w:World}:∀ {ks:List Key} {us:List Value},Vals (ks.map kV) us->ItemsAre (zT P w) ks us
 | [],_,r=>by rw[dF]at r;cases r;exact .nil
 | k::ks,_,r=>by
  rw[aK]at r
  cases r with
  | cons h t=>exact .cons (kV_is h) (items_are t)
noncomputable abbrev KT (H:Hp):List (List Key×V)->List (List Key×Addr×Value)->Prop:=fc λ p q=>p.1=q.1/\H q.2.1=some (.tup (p.1.map kV))/\RelV p.2 q.2.2
theorem KT.val {H:Hp}{kvs:List (List Key×V)}{xs:List (List Key×Addr×Value)}(r:KT H kvs xs)(k:List Key):RelO (valV kvs k) ((atKey xs k).map (·.2)):=by
 induction r with
 | nil=>exact True.intro
 | @cons p q ps qs h t ih =>
  obtain⟨h1,_,h2⟩:=h
  by_cases e:p.1=k
  ·have e':q.1=k:=h1.symm.trans e
   have b:atKey (q::qs) k=some q.2:=by simp[atKey,cM,e']
   rw[valV_pos e,b];exact h2
  ·have e':¬ q.1=k:=λ z=>e (h1.trans z)
   have b:atKey (q::qs) k=atKey qs k:=by simp[atKey,cM,e']
   rw[valV_neg e,b];exact ih
theorem KT.repl {H:Hp}{kvs:List (List Key×V)}{xs:List (List Key×Addr×Value)}(r:KT H kvs xs)(k:List Key){y:V}{u:Value}(ry:RelV y u) :
  KT H (kvs.map λ kv=>if kv.1=k then(kv.1,y)else kv) (xs.map (putAt k u)):=by
 induction r with
 | nil=>exact .nil
 | @cons p q ps qs h t ih =>
  rw[aK,aK]
  refine .cons ?_ ih
  obtain⟨h1,h2,h3⟩:=h
  unfold putAt
  by_cases e:p.1=k
  ·rw[if_pos e,if_pos (h1.symm.trans e)];exact⟨h1,h2,ry⟩
  ·rw[if_neg e,if_neg (λ z=>e (h1.trans z))];exact⟨h1,h2,h3⟩
theorem KT.put {H:Hp}{kvs:List (List Key×V)}{xs:List (List Key×Addr×Value)}(r:KT H kvs xs)(k:List Key){b:Addr}{y:V}{u:Value}(hb:H b=some (.tup (k.map kV)))(ry:RelV y u) :
  KT H (putK kvs k y) (storedH xs k b u):=by
 have e:(kvs.any λ kv=>decide (kv.1=k))=(atKey xs k).isSome:=by
  rw[valV_any,(r.val k).isSome_eq,e8]
 unfold putK storedH
 rw[e]
 by_cases q:(atKey xs k).isSome=true
 ·rw[if_pos q,if_pos q];exact r.repl k ry
 ·rw[if_neg q,if_neg q];exact jG r ⟨rfl,hb,ry⟩
theorem KT.keeps {H H':Hp}{kvs:List (List Key×V)}{xs:List (List Key×Addr×Value)}(r:KT H kvs xs)(ht:∀ b ys,H b=some (.tup ys)->H' b=some (.tup ys)):KT H' kvs xs :=
 fc.mapP r λ _ _ z=>⟨z.1,ht _ _ z.2.1,z.2.2⟩
section
variable {P:aL} {w:World} {H:Hp} {h:Heap} {a:Addr}
theorem rd_of {u:HO}(ok:HOk P w H h)(e:Rd H a u):ObjOk P w H h a u:=e.ok ok
theorem dk_rd {kvs:List (Key×V)}(ok:HOk P w H h)(e:Rd H a (.dK kvs)):kvs.length<=aH/\(a==cV)=false/\∃ vs,KV kvs vs/\h.DictOf (zT P w) a vs :=
 show ObjOk P w H h a (.dK kvs)from rd_of ok e
theorem dk_of {kvs:List (Key×V)}(ok:HOk P w H h)(e:H a=some (.dK kvs)):kvs.length<=aH/\(a==cV)=false/\∃ vs,KV kvs vs/\h.DictOf (zT P w) a vs:=dk_rd ok (.inl e)
theorem key_of {ks:List Key}(ok:HOk P w H h)(e:H a=some (.tup (ks.map kV))):(gB (zT P w)).is h ks a:=by
 obtain⟨_,its,r,o,h1,h2,n,h3⟩:=(show ObjOk P w H h a (.tup (ks.map kV))from ok a _ e)
 exact⟨o,its.toArray,n,h1,h2,h3,by simpa using items_are r⟩
theorem dt_rd {kvs:List (List Key×V)}(ok:HOk P w H h)(e:Rd H a (.dT kvs)):kvs.length<=aH/\(a==cV)=false /\
  ∃ xs,KT H kvs xs/\h.DictOfH (gB (zT P w)) a xs:=by
 obtain⟨z,y,xs,r,o,es,ep,h1,h2,h3,h4,h5⟩:=(show ObjOk P w H h a (.dT kvs)from rd_of ok e)
 refine⟨z,y,xs,r,o,es,ep,h1,h2,h3,h4,λ x hx=>?_,h5⟩
 have all:∀ {l:List (List Key×V)} {m:List (List Key×Addr×Value)},KT H l m->∀ x∈m,(gB (zT P w)).is h x.1 x.2.1:=by
  intro l m q
  induction q with
  | nil=>intro x hx;exact nomatch hx
  | @cons p q ps qs hq t ih =>
   intro x hx
   rcases aD.mp hx with e|hx
   ·subst e
    exact key_of ok (by rw[<-hq.1];exact hq.2.1)
   ·exact ih x hx
 exact all r x hx
theorem dt_of {kvs:List (List Key×V)}(ok:HOk P w H h)(e:H a=some (.dT kvs)):kvs.length<=aH/\(a==cV)=false /\
  ∃ xs,KT H kvs xs/\h.DictOfH (gB (zT P w)) a xs:=dt_rd ok (.inl e)
end
noncomputable def DGet (H:Hp)(a:Addr)(y:V)(r:Option V):Prop :=
 (∃ kvs k,Rd H a (.dK kvs)/\y=kV k/\r=valV kvs k)\/∃ kvs k b,Rd H a (.dT kvs)/\y=.ref b/\H b=some (.tup (k.map kV))/\r=valV kvs k
noncomputable def DPut (H:Hp)(a:Addr)(y v:V)(H':Hp):Prop :=
 (∃ kvs k,H a=some (.dK kvs)/\y=kV k/\kvs.length<aH/\H'=upd H a (.dK (putK kvs k v))) \/
 ∃ kvs k b,H a=some (.dT kvs)/\y=.ref b/\H b=some (.tup (k.map kV))/\kvs.length<aH/\H'=upd H a (.dT (putK kvs k v))
theorem DGet.k {H:Hp}{a:Addr}{kvs:List (Key×V)}{k:Key}(e:H a=some (.dK kvs)):DGet H a (kV k) (valV kvs k):=.inl ⟨kvs,k,.inl e,rfl,rfl⟩
theorem DPut.k {H:Hp}{a:Addr}{kvs:List (Key×V)}{k:Key}{v:V}(e:H a=some (.dK kvs))(hl:kvs.length<aH):DPut H a (kV k) v (upd H a (.dK (putK kvs k v))):=.inl ⟨kvs,k,e,rfl,hl,rfl⟩
section
variable {X:Cx} {pins:List (Addr×Obj)} {σ:St} {H:Hp} {s:ae} {a:Addr} {y v:V} {u r:Value} {o:Option V} {A:aS} {E:Value->ae->Prop}
theorem Inv.big (I:Inv X pins σ H s):cV<s.heap.objs.size:=by
 have h:aV<s.heap.objs.size:=(I.mod.glob.keeps I.bk).lt
 exact dI (by decide) h
theorem d_getItem {Q:Value->ae->Prop}(hu:A.units+1<cLine)(I:Inv X pins σ H s)(g:DGet H a y (some v))(ry:RelV y u)(h:∀ w' s',Inv X pins σ H s'->RelV v w'->Q w' s') :
  wpAny (model X.prog X.w) A (fK (.ref a) u) Q E s:=by
 rcases g with⟨kvs,k,e,ey,l⟩|⟨kvs,k,b,e,ey,eb,l⟩
 ·subst ey
  obtain⟨z,hd,vs,rel,dd⟩:=dk_rd I.hok e
  obtain⟨w',hw,rw'⟩:=RelO.some_of (v:=v) (o:=gF vs k) (by rw[l];exact rel.val k)
  exact wpAny_getItem_of (kV_is ry) dd.mapOf hw (h w' _ (I.tok _) rw')
 ·subst ey
  cases(show u=Value.ref b from ry)
  obtain⟨z,hd,xs,rel,dd⟩:=dt_rd I.hok e
  obtain⟨w',hw,rw'⟩:=RelO.some_of (v:=v) (o:=(atKey xs k).map (·.2)) (by rw[l];exact rel.val k)
  obtain⟨p,hp,hp2⟩:=cJ.mp hw
  refine wpAny_getItem_heap (du hu) (key_of I.hok eb) dd hp ?_
  rw[hp2]
  exact h w' _ (I.tok _) rw'
theorem d_in {Q:Value->ae->Prop}(hu:A.units+1<cLine)(I:Inv X pins σ H s)(g:DGet H a y o)(ry:RelV y u)(h:∀ s',Inv X pins σ H s'->Q (.bool o.isSome) s') :
  wpAny (model X.prog X.w) A (b7 .In u (.ref a)) Q E s:=by
 rcases g with⟨kvs,k,e,ey,l⟩|⟨kvs,k,b,e,ey,eb,l⟩
 ·subst ey
  obtain⟨z,hd,vs,rel,dd⟩:=dk_rd I.hok e
  refine wpAny_in_of (kV_is ry) hd dd.mapOf ?_
  rw[<-(rel.val k).isSome_eq,<-l]
  exact h _ (I.tok _)
 ·subst ey
  cases(show u=Value.ref b from ry)
  obtain⟨z,hd,xs,rel,dd⟩:=dt_rd I.hok e
  refine wpAny_in_heap (du hu) (key_of I.hok eb) hd dd ?_
  have q:=(rel.val k).isSome_eq
  rw[e8]at q
  rw[<-q,<-l]
  exact h _ (I.tok _)
theorem d_notIn {Q:Value->ae->Prop}(hu:A.units+1<cLine)(I:Inv X pins σ H s)(g:DGet H a y o)(ry:RelV y u)(h:∀ s',Inv X pins σ H s'->Q (.bool (!o.isSome)) s') :
  wpAny (model X.prog X.w) A (b7 .NotIn u (.ref a)) Q E s:=by
 rcases g with⟨kvs,k,e,ey,l⟩|⟨kvs,k,b,e,ey,eb,l⟩
 ·subst ey
  obtain⟨z,hd,vs,rel,dd⟩:=dk_rd I.hok e
  refine wpAny_notIn_of (kV_is ry) hd dd.mapOf ?_
  rw[<-(rel.val k).isSome_eq,<-l]
  exact h _ (I.tok _)
 ·subst ey
  cases(show u=Value.ref b from ry)
  obtain⟨z,hd,xs,rel,dd⟩:=dt_rd I.hok e
  refine wpAny_notIn_heap (du hu) (key_of I.hok eb) hd dd ?_
  have q:=(rel.val k).isSome_eq
  rw[e8]at q
  rw[<-q,<-l]
  exact h _ (I.tok _)
theorem d_write {h':Heap}{t':Nat}{ob:HO}(I:Inv X pins σ H s)(mu:Mut (H a))(hs:dA a s.heap h')(he:∃ q,h'.get? a=some q)(new:ObjOk X.prog X.w (upd H a ob) h' a ob) :
  Inv X pins σ (upd H a ob) { s with heap:=h',toks:=t' } :=
 I.write (x:=a) (e:=a) mu (.inl rfl) (λ b q hb z=>(hs.2 b hb).trans z) he new
theorem dk_new {P:aL}{w:World}{H':Hp}{h':Heap}{kvs:List (Key×V)}{vs:List (Key×Value)}(z:kvs.length<=aH)(hd:(a==cV)=false)(rel:KV kvs vs)(dd:h'.DictOf (zT P w) a vs) :
  ObjOk P w H' h' a (.dK kvs):=⟨z,hd,vs,rel,dd⟩
theorem d_setItem {H':Hp}{Q:Unit->ae->Prop}(hu:A.units+1<cLine)(I:Inv X pins σ H s)(g:DPut H a y v H')(ry:RelV y u)(rv:RelV v r)(h:∀ s',Inv X pins σ H' s'->Q () s') :
  wpAny (model X.prog X.w) A (setItem (.ref a) u r) Q E s:=by
 rcases g with⟨kvs,k,e,ey,l,eH⟩|⟨kvs,k,b,e,ey,eb,l,eH⟩
 ·subst ey eH
  obtain⟨z,hd,vs,rel,dd⟩:=dk_of I.hok e
  have hz:vs.length<=aH:=by rw[<-rel.length];exact z
  have hl:(putK kvs k v).length<=aH:=by have:=je kvs k v;omega
  refine wpAny_setItem_pairs (hsz:=hz) (kV_is ry) dd λ h' dd' hs=>h _ ?_
  have he:∃ q,h'.get? a=some q:=let⟨q,_,_,hq,_⟩:=dd';⟨q,hq⟩
  exact d_write I (by rw[e];exact True.intro) hs he (dk_new hl hd (rel.put k rv) dd')
 ·subst ey eH
  cases(show u=Value.ref b from ry)
  obtain⟨z,hd,xs,rel,dd⟩:=dt_of I.hok e
  have hz:xs.length<=aH:=by rw[<-gM rel];exact z
  have hl:(putK kvs k v).length<=aH:=by have:=je kvs k v;omega
  refine wpAny_setItem_heap (hsz:=hz) (du hu) (key_of I.hok eb) dd λ h' dd' hs=>h _ ?_
  obtain⟨q,es,ep,hq,h2,h3,h4,_,h5⟩:=dd'
  refine d_write I (by rw[e];exact True.intro) hs ⟨q,hq⟩ ⟨hl,hd,_,(rel.put k eb rv).keeps λ c ys ec=>?_,q,es,ep,hq,h2,h3,h4,h5⟩
  rw[za (ne_of ec e (λ z=>nomatch z))]
  exact ec
end
section
variable {X:Cx} {pins:List (Addr×Obj)} {σ:St} {H:Hp} {s:ae} {a:Addr} {kvs:List (Key×V)} {k:Key} {u:Value} {A:aS} {E:Value->ae->Prop}
end
theorem dict_typeIs {X:Cx}{pins:List (Addr×Obj)}{σ:St}{H:Hp}{s:ae}{a:Addr}{y:V}{o:Option V}(I:Inv X pins σ H s)(g:DGet H a y o):s.TypeIs (.ref a) "dict":=by
 rcases g with⟨kvs,k,e,_,_⟩|⟨kvs,k,b,e,_,_,_⟩
 ·obtain⟨_,_,vs,_,dd⟩:=dk_rd I.hok e
  exact dd.typeIs
 ·obtain⟨_,_,xs,_,dd⟩:=dt_rd I.hok e
  exact dd.typeIs
section
variable {X:Cx} {o i e value:Expr} {pos pos' tpos:Pos} {td ty tv:TE}
end
theorem dk_empty {P:aL}{w:World}{H:Hp}(h:Heap)(hb:cV<h.objs.size):ObjOk P w H (h.push { cls:=.type "dict",data:=.dict #[] }) h.objs.size (.dK []) :=
 ⟨cX _,beq_eq_false_iff_ne.mpr (bQ (ay hb)),[],.nil,Heap.DictOf.new h⟩
noncomputable def tDNewK:TE:=λ _ H Q=>∀ p,H p=none->Q (.ref p) (upd H p (.dK []))
section
variable {X:Cx} {pos:Pos}
theorem pe_dnewK:PE X (.Dict [] [] pos) tDNewK:=λ pins s σ H Q I h =>
 wpAny_Dict_empty ⟨.ref s.heap.objs.size,_,I.laid (a:=s.heap.objs.size) (o:=.dK []) (t':=s.toks) (λ _ _ q=>ag _ q) (aj _) (dk_empty s.heap I.big),rfl,h _ (I.hok.fresh (aj _))⟩
end
noncomputable def tPairs:List (TE×TE)->St->Hp->(List (V×V)->Hp->Prop)->Prop
 | [],_,H,Q=>Q [] H
 | (tk,tv)::r,σ,H,Q=>tk σ H λ x H1=>tv σ H1 λ y H2=>tPairs r σ H2 λ ps H3=>Q ((x,y)::ps) H3
noncomputable abbrev VV:List (V×V)->List (Value×Value)->Prop:=fc λ p q=>RelV p.1 q.1/\RelV p.2 q.2
noncomputable def PPs (X:Cx)(pos:Pos)(keys:List (Option Expr))(values:List Expr)(trs:List (TE×TE)):Prop :=
 ∀(pins:List (Addr×Obj)) (s:ae) (σ:St) (H:Hp) (Q:List (V×V)->Hp->Prop),Inv X pins σ H s->tPairs trs σ H Q ->
  wpAny (model X.prog X.w) X.A (evalPairs (pairTrees keys values X.env pos)) (λ vs s'=>∃ ps H',Inv X pins σ H' s'/\VV ps vs/\Q ps H') X.xe s
theorem pps_nil {X:Cx}{pos:Pos}:PPs X pos [] [] []:=λ pins s σ H Q I h=>pairTrees_nil_walk ⟨[],H,I,.nil,h⟩
theorem pps_cons {X:Cx}{pos:Pos}{k v:Expr}{ks:List (Option Expr)}{vs:List Expr}{tk tv:TE}{trs:List (TE×TE)}(hk:PE X k tk)(hv:PE X v tv)(hr:PPs X pos ks vs trs) :
  PPs X pos (some k::ks) (v::vs) ((tk,tv)::trs):=λ pins s σ H Q I h =>
 pairTrees_cons_walk (thn (hk pins s σ H _ I h) λ u s1 ⟨x,H1,I1,rx,q1⟩=>thn (hv pins s1 σ H1 _ I1 q1) λ w2 s2 ⟨y,H2,I2,ry,q2⟩ =>
  thn (hr pins s2 σ H2 _ I2 q2) λ ws s3 ⟨ps,H3,I3,rel,q3⟩=>⟨(x,y)::ps,H3,I3,.cons ⟨rx,ry⟩ rel,q3⟩)
noncomputable def mergeK (kvs more:List (Key×V)):List (Key×V):=more.foldl (λ acc kv=>putK acc kv.1 kv.2) kvs
theorem KV.merge:∀ {more:List (Key×V)} {rs:List (Key×Value)} {kvs:List (Key×V)} {vs:List (Key×Value)},KV more rs->KV kvs vs->KV (mergeK kvs more) (merged vs rs):=by
 intro more rs kvs vs r
 unfold KV at r
 induction r generalizing kvs vs with
 | nil=>intro q;exact q
 | @cons p q ps qs h t ih =>
  intro r0
  have e:KV (putK kvs p.1 p.2) (stored vs q.1 q.2):=by
   have:=r0.put p.1 h.2
   rw[<-h.1];exact this
  exact ih e
theorem length_mergeK:∀(more kvs:List (Key×V)),(mergeK kvs more).length<=kvs.length+more.length
 | [],kvs=>by show kvs.length<=kvs.length+0;omega
 | p::r,kvs=>by
  have h1:=length_mergeK r (putK kvs p.1 p.2)
  have h2:=je kvs p.1 p.2
  show(mergeK (putK kvs p.1 p.2) r).length<=_
  rw[aR];omega
theorem carries_of {P:aL}{w:World}:∀ {kvs:List (Key×V)} {ws:List (Value×Value)},VV (kvs.map λ kv=>(kV kv.1,kv.2)) ws->∃ rs,Carries (zT P w) ws rs/\KV kvs rs
 | [],_,r=>by rw[dF]at r;cases r;exact⟨[],True.intro,.nil⟩
 | p::kvs,_,r=>by
  rw[aK]at r
  cases r with
  | @cons a b as bs h t =>
   obtain⟨rs,c,q⟩:=carries_of (P:=P) (w:=w) t
   obtain⟨b1,b2⟩:=b
   exact⟨(p.1,b2)::rs,⟨kV_is h.1,rfl,c⟩,.cons ⟨rfl,h.2⟩ q⟩
noncomputable def tDisp (trs:List (TE×TE)):TE:=λ σ H Q=>∀ p,H p=none->tPairs trs σ (upd H p (.dK [])) λ ps H2=>H2 p=some (.dK [])/\∃ kvs:List (Key×V),ps=kvs.map (λ kv=>(kV kv.1,kv.2))/\kvs.length<=15/\Q (.ref p) (upd H2 p (.dK (mergeK [] kvs)))
theorem pe_disp {X:Cx}{pos:Pos}{keys:List (Option Expr)}{values:List Expr}{trs:List (TE×TE)}(h:PPs X pos keys values trs)(hall:keys.all (·.isSome)=true)(hl:keys.length=values.length)(h0:keys≠[])
  (h15:keys.length<=15):PE X (.Dict keys values pos) (tDisp trs):=by
 intro pins s σ H Q I q
 have hn:=I.hok.fresh (aj s.heap.objs.size)
 have I1:=I.laid (a:=s.heap.objs.size) (o:=.dK []) (h':=s.heap.push { cls:=.type "dict",data:=.dict #[] }) (t':=s.toks) (λ _ _ q=>ag _ q) (aj _) (dk_empty s.heap I.big)
 refine wpAny_Dict_walk (knd:=zT X.prog X.w) hall hl h0 h15 (thn (h pins _ σ _ _ I1 (q _ hn)) λ ws s2 ⟨ps,H2,I2,rel,e,kvs,ep,lk,q2⟩=>?_)
 subst ep
 obtain⟨rs,c,rk⟩:=carries_of (P:=X.prog) (w:=X.w) rel
 obtain⟨z,hd,vs0,r0,dd⟩:=dk_of I2.hok e
 cases r0
 refine⟨rs,c,dd,λ h' dd' hs=>⟨.ref s.heap.objs.size,_,?_,rfl,q2⟩⟩
 have hz:(mergeK [] kvs).length<=aH:=by
  have h1:=length_mergeK kvs []
  rw[dm]at h1
  rw[eU];omega
 have he:∃ q,h'.get? s.heap.objs.size=some q:=let⟨q,_,_,hq,_⟩:=dd';⟨q,hq⟩
 exact d_write I2 (by rw[e];exact True.intro) hs he (dk_new hz hd (rk.merge .nil) dd')
section
variable {X:Cx} {pins:List (Addr×Obj)} {σ:St} {H:Hp} {s:ae} {a:Addr} {y d:V} {u r:Value} {o:Option V} {A:aS} {E:Value->ae->Prop}
end
section
variable {X:Cx} {o e f:Expr} {apos cpos:Pos} {td ty tx:TE}
end
end L2
end
noncomputable section
namespace DV
inductive D where
 | non|bl (b:Bool)|int (i:Int)|str (x:List Nat)|tup (l:List D)|ref (n:Nat)|fn (f:String)|clo (f:String) (cs:List D)
mutual
noncomputable def D.beq:D->D->Bool
 | .non,.non=>true
 | .bl a,.bl b=>a==b
 | .int a,.int b=>a==b
 | .str a,.str b=>a==b
 | .tup a,.tup b=>D.beqL a b
 | .ref a,.ref b=>a==b
 | .fn a,.fn b=>a==b
 | .clo a l,.clo b m=>a==b&&D.beqL l m
 | _,_=>false
noncomputable def D.beqL:List D->List D->Bool
 | [],[]=>true
 | a::l,b::m=>D.beq a b&&D.beqL l m
 | _,_=>false
end
mutual
theorem D.beq_eq:∀ a b:D,D.beq a b=true->a=b
 | .non,b,h=>by cases b<;>first|rfl|(unfold D.beq at h;cases h)
 | .bl x,b,h=>by cases b<;>first|(unfold D.beq at h;rw[beq_iff_eq.mp h])|(unfold D.beq at h;cases h)
 | .int x,b,h=>by cases b<;>first|(unfold D.beq at h;rw[beq_iff_eq.mp h])|(unfold D.beq at h;cases h)
 | .str x,b,h=>by cases b<;>first|(unfold D.beq at h;rw[beq_iff_eq.mp h])|(unfold D.beq at h;cases h)
 | .tup x,b,h=>by cases b<;>first|(unfold D.beq at h;rw[D.beqL_eq _ _ h])|(unfold D.beq at h;cases h)
 | .ref x,b,h=>by cases b<;>first|(unfold D.beq at h;rw[beq_iff_eq.mp h])|(unfold D.beq at h;cases h)
 | .fn x,b,h=>by cases b<;>first|(unfold D.beq at h;rw[beq_iff_eq.mp h])|(unfold D.beq at h;cases h)
 | .clo x l,b,h=>by cases b<;>first|(unfold D.beq at h;rw[ao]at h;rw[beq_iff_eq.mp h.1,D.beqL_eq _ _ h.2])|(unfold D.beq at h;cases h)
theorem D.beqL_eq:∀ a b:List D,D.beqL a b=true->a=b
 | [],b,h=>by cases b<;>first|rfl|(unfold D.beqL at h;cases h)
 | x::l,b,h=>by
  cases b with
  | nil=>unfold D.beqL at h;cases h
  | cons y m=>unfold D.beqL at h;rw[ao]at h;rw[D.beq_eq _ _ h.1,D.beqL_eq _ _ h.2]
end
mutual
theorem D.beq_refl:∀ a:D,D.beq a a=true
 | .non=>rfl
 | .bl _=>by unfold D.beq;exact beq_self_eq_true _
 | .int _=>by unfold D.beq;exact beq_self_eq_true _
 | .str _=>by unfold D.beq;exact beq_self_eq_true _
 | .tup l=>by unfold D.beq;exact D.beqL_refl l
 | .ref _=>by unfold D.beq;exact beq_self_eq_true _
 | .fn _=>by unfold D.beq;exact beq_self_eq_true _
 | .clo _ l=>by unfold D.beq;rw[beq_self_eq_true,D.beqL_refl l];rfl
theorem D.beqL_refl:∀ a:List D,D.beqL a a=true
 | []=>rfl
 | x::l=>by unfold D.beqL;rw[D.beq_refl x,D.beqL_refl l];rfl
end
noncomputable instance:DecidableEq D:=λ a b=>if h:D.beq a b=true then .isTrue (D.beq_eq a b h)else .isFalse λ e=>h (e▸D.beq_refl a)
inductive O where
 | lst (l:List D)|ro (l:List D)|dic (l:List (D×D))|ins (c:String) (fs:List (String×D))
 deriving DecidableEq
noncomputable abbrev Sto:=List O
noncomputable def O.kd:O->Nat
 | .lst _=>0|.ro _=>1|.dic _=>2|.ins _ _=>3
inductive R (α:Type) where
 | ok (a:α) (s:Sto)|exc (e:D) (s:Sto)|bad
noncomputable abbrev M (α:Type):=Sto->R α
noncomputable def R.bind {α β:Type}(r:R α)(f:α->Sto->R β):R β:=match r with
 | .ok a s=>f a s
 | .exc e s=>.exc e s
 | .bad=>.bad
@[simp] theorem R.bind_ok {α β:Type} (a:α) (s:Sto) (f:α->Sto->R β):(R.ok a s).bind f=f a s:=rfl
@[simp] theorem R.bind_bad {α β:Type} (f:α->Sto->R β):(R.bad:R α).bind f=.bad:=rfl
@[simp] theorem R.bind_exc {α β:Type} (e:D) (s:Sto) (f:α->Sto->R β):(R.exc e s:R α).bind f=.exc e s:=rfl
theorem R.bind_inv {α β:Type}{r:R α}{f:α->Sto->R β}{b:β}{t:Sto}(h:r.bind f=.ok b t):∃ a s,r=.ok a s/\f a s=.ok b t:=by
 cases r with
 | ok a s=>exact⟨a,s,rfl,h⟩
 | exc e s=>cases h
 | bad=>cases h
@[simp] theorem R.bind_assoc {α β γ:Type} (r:R α) (f:α->Sto->R β) (g:β->Sto->R γ):(r.bind f).bind g=r.bind λ a s=>(f a s).bind g:=by cases r<;>rfl
mutual
noncomputable def D.bnd (n:Nat):D->Bool
 | .tup l=>D.bndL n l
 | .ref k=>decide (k<n)
 | .clo _ l=>D.bndL n l
 | _=>true
noncomputable def D.bndL (n:Nat):List D->Bool
 | []=>true
 | d::l=>D.bnd n d&&D.bndL n l
end
noncomputable def O.bnd (n:Nat):O->Bool
 | .lst l=>D.bndL n l
 | .ro l=>D.bndL n l
 | .dic l=>D.bndL n (l.map (·.1))&&D.bndL n (l.map (·.2))
 | .ins _ fs=>D.bndL n (fs.map (·.2))
mutual
noncomputable def D.plain:D->Bool
 | .non=>true|.int _=>true|.str _=>true
 | .tup l=>D.plainL l
 | _=>false
noncomputable def D.plainL:List D->Bool
 | []=>true
 | d::l=>D.plain d&&D.plainL l
end
mutual
noncomputable def D.ncl:D->Bool
 | .tup l=>D.nclL l
 | .clo _ _=>false
 | _=>true
noncomputable def D.nclL:List D->Bool
 | []=>true
 | d::l=>D.ncl d&&D.nclL l
end
noncomputable def O.ncl:O->Bool
 | .lst l=>D.nclL l
 | .ro l=>D.nclL l
 | .dic l=>D.nclL (l.map (·.2))
 | _=>false
noncomputable def D.key:D->Bool
 | .int _=>true|.str _=>true|_=>false
noncomputable def LIM:Nat:=1000000
@[irreducible] noncomputable def BIG:Nat:=2^60000
@[irreducible] noncomputable def DIVL:Nat:=2^4096
inductive BOp where
 | add|sub|mul|fdiv|mod|pow|shl|shr|band|bor
 deriving DecidableEq
inductive COp where
 | eq|ne|lt|le|gt|ge|isin|notin
 deriving DecidableEq
inductive Cn where
 | non|bl (b:Bool)|int (i:Int)|str (x:List Nat)
 deriving DecidableEq
noncomputable def Cn.d:Cn->D
 | .non=>.non|.bl b=>.bl b|.int i=>.int i|.str x=>.str x
inductive Bi where
 | len|abs|int|str|min2|max2|max3|min3|isInt|isBool|isStr|isTup|isList|ord
 deriving DecidableEq
inductive Mk where
 | tuple|list|all|any|sum|min|max|sorted|lenset
 deriving DecidableEq
inductive Mt where
 | append|pop|index|count|reverse|clear|bitlen|get1|get2|setdefault|update|split|partition
 deriving DecidableEq
inductive Tg where
 | one (i:Nat)|tup (is:List Nat)
 deriving DecidableEq
mutual
inductive E where
 | var (i:Nat)|cst (c:Cn)|glob (x:String)
 | bin (op:BOp) (a b:E)|neg (a:E)|not (a:E)
 | cmp (op:COp) (a b:E)|chain (o p:COp) (a b c:E)
 | isN (a:E)|notN (a:E)|isB (a:E) (b:Bool)|notB (a:E) (b:Bool)
 | and (a b:E)|or (a b:E)|ite (c a b:E)
 | tup (es:Es)|lst (es:Es)|dic (ks vs:Es)
 | ix (a b:E)|slL (a lo:E)|slU (a hi:E)|slLU (a lo hi:E)|rev (a:E)
 | call (f:String) (as:As)|callC (f:String) (as:As)|callV (i:Nat) (es:Es)
 | bi (b:Bi) (es:Es)|mk (k:Mk) (l:L)|mkD (k:Mk) (l:L) (d:E)
 | meth (m:Mt) (o:E) (es:Es)|ext (o:E) (l:L)|extS (o e:E)|join (o e:E)|mks (k:Mk) (e:E)|mkDs (k:Mk) (e d:E)
inductive Es where
 | nil|cons (e:E) (es:Es)
inductive As where
 | nil|ex (e:E) (as:As)|lam (id:String) (caps:List Nat) (as:As)|fn (f:String) (as:As)
inductive I where
 | seq (e:E)|rng1 (a:E)|rng2 (a b:E)|rng3 (a b:E) (c:Int)|enum (it:I)|zip (a b:I)|items (e:E)
inductive L where
 | comp (tg:Tg) (it:I) (e:E) (caps:List (Option Nat))|compIf (tg:Tg) (it:I) (c e:E) (caps:List (Option Nat))|disp (es:Es)|seq (e:E)
end
mutual
inductive S where
 | asg (tg:Tg) (e:E)|setIx (o i e:E)|aug (i:Nat) (e:E)|ex (e:E)|ret (e:E)|retN
 | ite (c:E) (a b:Ss)|whl (c:E) (b:Ss)|for_ (tg:Tg) (it:I) (b:Ss)|pass|cont|brk|raise|und (i:Nat)
inductive Ss where
 | nil|cons (s:S) (ss:Ss)
end
noncomputable abbrev Env:=List (Option D)
noncomputable def alloc (o:O):M D:=λ s=>.ok (.ref s.length) (s++[o])
noncomputable def pur (d:D):M D:=λ s=>.ok d s
noncomputable def bad {α:Type}:M α:=λ _=>.bad
noncomputable def mulOk (a b:Int):Bool:=decide (a.natAbs<2^64)||decide (b.natAbs<2^64)||(decide (a.natAbs<BIG)&&decide (b.natAbs<BIG))
noncomputable def rep:Nat->List Nat->List Nat
 | 0,_=>[]
 | n+1,a=>a++rep n a
noncomputable def repD:Nat->List D->List D
 | 0,_=>[]
 | n+1,a=>a++repD n a
noncomputable def binop:BOp->D->D->M D
 | .add,.int a,.int b=>pur (.int (a+b))
 | .add,.str a,.str b=>if a.length+b.length<=LIM then pur (.str (a++b))else bad
 | .add,.tup a,.tup b=>if a.length+b.length<=LIM then pur (.tup (a++b))else bad
 | .add,.ref a,.ref b=>λ s=>match s[a]?,s[b]? with
  | some (.lst l),some (.lst m)=>if l.length+m.length<=LIM then alloc (.lst (l++m)) s else .bad
  | _,_=>.bad
 | .sub,.int a,.int b=>pur (.int (a - b))
 | .mul,.int a,.int b=>if mulOk a b then pur (.int (a*b))else bad
 | .mul,.str a,.int n=>if 0<=n/\n<=1000000/\a.length*n.toNat<=LIM then pur (.str (rep n.toNat a))else bad
 | .mul,.tup a,.int n=>if 0<=n/\n<=1000000/\a.length*n.toNat<=LIM then pur (.tup (repD n.toNat a))else bad
 | .mul,.ref a,.int n=>λ s=>match s[a]? with
  | some (.lst l)=>if 0<=n/\n<=1000000/\l.length*n.toNat<=LIM then alloc (.lst (repD n.toNat l)) s else .bad
  | _=>.bad
 | .fdiv,.int a,.int b=>if 0<b/\b<(DIVL:Int)then pur (.int (a / b))else bad
 | .mod,.int a,.int b=>if 0<b then pur (.int (a % b))else bad
 | .pow,.int a,.int b=>if 0<=b/\b<=1000000/\a.natAbs<2^64 then pur (.int (a^b.toNat))else bad
 | .shl,.int a,.int b=>if 0<=b/\b<=1000000/\a.natAbs<2^64 then pur (.int (a*2^b.toNat))else bad
 | .shr,.int a,.int b=>if 0<=b then pur (.int (a / 2^b.toNat))else bad
 | _,_,_=>bad
noncomputable def kd (s:Sto):D->Nat
 | .non=>0|.bl _=>1|.int _=>1|.str _=>2|.tup _=>3
 | .ref r=>match s[r]? with|some (.lst _)=>4|_=>9
 | _=>9
noncomputable def kdBad (a b:Nat):Bool:=a==9||b==9||a==b
noncomputable def b2i (b:Bool):Int:=if b then 1 else 0
noncomputable def eqLit:D->D->Option Bool
 | .non,.non=>some true
 | .bl a,.bl b=>some (a==b)
 | .int a,.int b=>some (a==b)
 | .bl a,.int b=>some (b2i a==b)
 | .int a,.bl b=>some (a==b2i b)
 | .str a,.str b=>some (a==b)
 | _,_=>none
noncomputable def eqAtom (s:Sto)(a b:D):Option Bool:=match eqLit a b with
 | some z=>some z
 | none=>if kdBad (kd s a) (kd s b)then none else some false
noncomputable def eqL (f:D->D->Option Bool):List D->List D->Option Bool
 | [],[]=>some true
 | [],_::_=>some false
 | _::_,[]=>some false
 | a::l,b::m=>match f a b,eqL f l m with
  | some x,some y=>some (x&&y)
  | _,_=>none
noncomputable def eqv (s:Sto):Nat->D->D->Option Bool
 | 0,a,b=>eqAtom s a b
 | n+1,a,b=>match a,b with
  | .tup l,.tup m=>eqL (eqv s n) l m
  | .ref x,.ref y=>match s[x]?,s[y]? with
   | some (.lst l),some (.lst m)=>if l.length=m.length then eqL (eqv s n) l m else some false
   | _,_=>none
  | a,b=>eqAtom s a b
noncomputable def DEEP:Nat:=30
noncomputable def eqM (a b:D):M D:=λ s=>match eqv s DEEP a b with
 | some r=>.ok (.bl r) s
 | none=>.bad
noncomputable def inL (s:Sto)(x:D):List D->Option Bool
 | []=>some false
 | y::l=>match eqv s DEEP y x,inL s x l with
  | some a,some b=>some (a||b)
  | _,_=>none
noncomputable def look (k:D):List (D×D)->Option D
 | []=>none
 | (a,v)::l=>if a=k then some v else look k l
noncomputable def inM (a b:D):M Bool:=λ s=>match b with
 | .tup l=>match inL s a l with|some r=>.ok r s|none=>.bad
 | .ref r=>match s[r]? with
  | some (.lst l)=>match inL s a l with|some r=>.ok r s|none=>.bad
  | some (.dic l)=>if a.key then .ok (look a l).isSome s else .bad
  | _=>.bad
 | .str y=>match a with|.str [c]=>.ok (decide (c∈y)) s|_=>.bad
 | _=>.bad
noncomputable def qd:COp->D->D->M D
 | .eq,a,b=>eqM a b
 | .ne,a,b=>λ s=>match eqv s DEEP a b with|some r=>.ok (.bl (!r)) s|none=>.bad
 | .lt,.int a,.int b=>pur (.bl (decide (a<b)))
 | .le,.int a,.int b=>pur (.bl (decide (a<=b)))
 | .gt,.int a,.int b=>pur (.bl (decide (b<a)))
 | .ge,.int a,.int b=>pur (.bl (decide (b<=a)))
 | .isin,a,b=>λ s=>(inM a b s).bind λ r s=>.ok (.bl r) s
 | .notin,a,b=>λ s=>(inM a b s).bind λ r s=>.ok (.bl (!r)) s
 | _,_,_=>bad
noncomputable def ixn (n:Nat)(i:Int):Option Nat:=if 0<=i then(if i<n then some i.toNat else none)else if -(n:Int)<=i then some (i+n).toNat else none
noncomputable def sbd (n:Nat)(i:Int):Nat:=if 0<=i then min i.toNat n else(i+n).toNat
noncomputable def loB (n:Nat):Option Int->Nat
 | none=>0
 | some i=>sbd n i
noncomputable def hiB (n:Nat):Option Int->Nat
 | none=>n
 | some i=>sbd n i
noncomputable def cutL {α:Type}(l:List α)(lo hi:Option Int):List α:=(l.drop (loB l.length lo)).take (hiB l.length hi - loB l.length lo)
noncomputable def ixM (a b:D):M D:=λ s=>match a,b with
 | .tup l,.int i=>match(ixn l.length i).bind λ j=>l[j]? with|some d=>.ok d s|none=>.bad
 | .str l,.int i=>match(ixn l.length i).bind λ j=>l[j]? with|some c=>.ok (.str [c]) s|none=>.bad
 | .ref r,b=>match s[r]? with
  | some (.lst l)=>match b with
   | .int i=>match(ixn l.length i).bind λ j=>l[j]? with|some d=>.ok d s|none=>.bad
   | _=>.bad
  | some (.ro l)=>match b with
   | .int i=>match(ixn l.length i).bind λ j=>l[j]? with|some d=>.ok d s|none=>.bad
   | _=>.bad
  | some (.dic l)=>if b.key then match look b l with|some d=>.ok d s|none=>.bad else .bad
  | _=>.bad
 | _,_=>.bad
noncomputable def slM (a:D)(lo hi:Option Int):M D:=λ s=>match a with
 | .tup l=>.ok (.tup (cutL l lo hi)) s
 | .str l=>.ok (.str (cutL l lo hi)) s
 | .ref r=>match s[r]? with
  | some (.lst l)=>alloc (.lst (cutL l lo hi)) s
  | _=>.bad
 | _=>.bad
noncomputable def revM (a:D):M D:=λ s=>match a with
 | .str l=>.ok (.str l.reverse) s
 | _=>.bad
noncomputable def blsOf:List D->Option (List Bool)
 | []=>some []
 | .bl b::l=>(blsOf l).map (b::·)
 | _=>none
noncomputable def qe:List D->Option (List Int)
 | []=>some []
 | .int i::l=>(qe l).map (i::·)
 | _=>none
noncomputable def strsOf:List D->Option (List (List Nat))
 | []=>some []
 | .str i::l=>(strsOf l).map (i::·)
 | _=>none
noncomputable def lenM (d:D):M D:=λ s=>match d with
 | .tup l=>.ok (.int l.length) s
 | .str l=>.ok (.int l.length) s
 | .ref r=>match s[r]? with
  | some (.lst l)=>.ok (.int l.length) s
  | some (.ro l)=>.ok (.int l.length) s
  | _=>.bad
 | _=>.bad
noncomputable def isK (k:Nat)(d:D):M D:=λ s=>match d with
 | .non=>.ok (.bl false) s
 | .bl _=>.ok (.bl (k==1||k==2)) s
 | .int _=>.ok (.bl (k==1)) s
 | .str _=>.ok (.bl (k==3)) s
 | .tup _=>.ok (.bl (k==4)) s
 | .ref r=>match s[r]? with
  | some (.lst _)=>.ok (.bl (k==5)) s
  | _=>.bad
 | _=>.bad
noncomputable def bi1 (f:D->M D):List D->M D
 | [d]=>f d
 | _=>bad
noncomputable def bi:Bi->List D->M D
 | .len,l=>bi1 lenM l
 | .abs,l=>λ s=>match qe l with|some [i]=>.ok (.int (if i<0 then -i else i)) s|_=>.bad
 | .int,l=>λ s=>match blsOf l with|some [b]=>.ok (.int (if b then 1 else 0)) s|_=>.bad
 | .min2,l=>λ s=>match qe l with|some [a,b]=>.ok (.int (if b<a then b else a)) s|_=>.bad
 | .max2,l=>λ s=>match qe l with|some [a,b]=>.ok (.int (if b > a then b else a)) s|_=>.bad
 | .max3,l=>λ s=>match qe l with|some [a,b,c]=>.ok (.int (max (max a b) c)) s|_=>.bad
 | .isInt,l=>bi1 (isK 1) l
 | .isBool,l=>bi1 (isK 2) l
 | .isStr,l=>bi1 (isK 3) l
 | .isTup,l=>bi1 (isK 4) l
 | .isList,l=>bi1 (isK 5) l
 | _,_=>bad
noncomputable def minI:List Int->Option Int
 | []=>none
 | a::l=>some (l.foldl min a)
noncomputable def maxI:List Int->Option Int
 | []=>none
 | a::l=>some (l.foldl max a)
noncomputable def ins (a:Int):List Int->List Int
 | []=>[a]
 | b::l=>if a<=b then a::b::l else b::ins a l
noncomputable def sortI:List Int->List Int
 | []=>[]
 | a::l=>ins a (sortI l)
noncomputable def fitL (is:List Int):Bool:=is.all (λ i=>decide (-1000000000<=i/\i<=1000000000))&&decide (is.length<=1000000)
noncomputable def mk:Mk->List D->M D
 | .tuple,l=>λ s=>.ok (.tup l) s
 | .list,l=>alloc (.lst l)
 | .all,l=>λ s=>match blsOf l with|some bs=>.ok (.bl (bs.all id)) s|none=>.bad
 | .any,l=>λ s=>match blsOf l with|some bs=>.ok (.bl (bs.any id)) s|none=>.bad
 | .sum,l=>λ s=>match qe l with|some is=>if fitL is then .ok (.int is.sum) s else .bad|none=>.bad
 | .min,l=>λ s=>match(qe l).bind minI with|some m=>.ok (.int m) s|none=>.bad
 | .max,l=>λ s=>match(qe l).bind maxI with|some m=>.ok (.int m) s|none=>.bad
 | .sorted,l=>λ s=>match qe l with|some is=>alloc (.lst ((sortI is).map D.int)) s|none=>.bad
 | .lenset,l=>bad
noncomputable def mkD (k:Mk)(l:List D)(d:D):M D:=λ s=>match k with
 | .min=>match qe l with|some is=>(match minI is with|some m=>.ok (.int m) s|none=>.ok d s)|none=>.bad
 | .max=>match qe l with|some is=>(match maxI is with|some m=>.ok (.int m) s|none=>.ok d s)|none=>.bad
 | _=>.bad
noncomputable def putD (k v:D)(l:List (D×D)):List (D×D):=if(look k l).isSome then l.map (λ p=>if p.1=k then(p.1,v)else p)else l++[(k,v)]
noncomputable def setIx (o i v:D):Sto->R Unit:=λ s=>match o with
 | .ref r=>match s[r]? with
  | some (.lst l)=>match i with
   | .int i=>match ixn l.length i with|some j=>.ok () (s.set r (.lst (l.set j v)))|none=>.bad
   | _=>.bad
  | some (.dic l)=>if i.key&&decide (l.length<LIM)then .ok () (s.set r (.dic (putD i v l)))else .bad
  | _=>.bad
 | _=>.bad
noncomputable def idx (s:Sto)(x:D):Nat->List D->Option Nat
 | _,[]=>none
 | n,y::l=>match eqv s DEEP y x with
  | some true=>some n
  | some false=>idx s x (n+1) l
  | none=>none
noncomputable def meth:Mt->D->List D->M D
 | .append,.ref r,[d]=>λ s=>match s[r]? with
  | some (.lst l)=>if l.length<LIM then .ok .non (s.set r (.lst (l++[d])))else .bad
  | _=>.bad
 | .pop,.ref r,[]=>λ s=>match s[r]? with
  | some (.lst l)=>match l.getLast? with|some d=>.ok d (s.set r (.lst l.dropLast))|none=>.bad
  | _=>.bad
 | .reverse,.ref r,[]=>λ s=>match s[r]? with
  | some (.lst l)=>.ok .non (s.set r (.lst l.reverse))
  | _=>.bad
 | .clear,.ref r,[]=>λ s=>match s[r]? with
  | some (.lst l)=>.ok .non (s.set r (.lst []))
  | _=>.bad
 | .index,.ref r,[d]=>λ s=>match s[r]? with
  | some (.lst l)=>match inL s d l,idx s d 0 l with|some true,some n=>.ok (.int n) s|_,_=>.bad
  | _=>.bad
 | _,_,_=>bad
noncomputable def extM (o:D)(l:List D):M D:=λ s=>match o with
 | .ref r=>match s[r]? with
  | some (.lst m)=>if m.length+l.length<=LIM then .ok .non (s.set r (.lst (m++l)))else .bad
  | _=>.bad
 | _=>.bad
noncomputable def joinM (x y:D):M D:=λ s=>match x with
 | .str []=>match y with
  | .ref r=>match s[r]? with
   | some (.lst l)=>match strsOf l with
    | some ss=>if ss.flatten.length<=LIM then .ok (.str ss.flatten) s else .bad
    | none=>.bad
   | _=>.bad
  | _=>.bad
 | _=>.bad
noncomputable def extS (o d:D):M D:=λ s=>match d with
 | .ref k=>match s[k]? with
  | some (.lst l)=>extM o l s
  | _=>.bad
 | _=>.bad
structure Fns where
 call:String->List D->M D
 lam:String->List D->List D->M D
 con:String->Option D
noncomputable def getV (ρ:Env)(i:Nat):M D:=λ s=>match ρ[i]? with|some (some d)=>.ok d s|_=>.bad
noncomputable def getVs (ρ:Env):List Nat->Option (List D)
 | []=>some []
 | i::is=>match ρ[i]?,getVs ρ is with|some (some d),some l=>some (d::l)|_,_=>none
noncomputable def zK (ρ:Env)(caps:List (Option Nat)):Env:=caps.map λ o=>match o with|none=>none|some j=>(ρ[j]?).join
noncomputable def setV (ρ:Env)(i:Nat)(d:D):Option Env:=if i < ρ.length then some (ρ.set i (some d))else none
noncomputable def unsetV (ρ:Env)(i:Nat):Option Env:=if i < ρ.length then some (ρ.set i none)else none
noncomputable def setVs (ρ:Env):List Nat->List D->Option Env
 | [],[]=>some ρ
 | i::is,d::l=>(setV ρ i d).bind λ ρ=>setVs ρ is l
 | _,_=>none
noncomputable def bindT (ρ:Env):Tg->D->Option Env
 | .one i,d=>setV ρ i d
 | .tup is,.tup l=>setVs ρ is l
 | _,_=>none
structure Sq where
 its:List D
 src:List Nat
noncomputable def seqM (d:D):M Sq:=λ s=>match d with
 | .tup l=>.ok ⟨l,[]⟩ s
 | .str l=>.ok ⟨l.map λ c=>.str [c],[]⟩ s
 | .ref r=>match s[r]? with
  | some (.lst l)=>.ok ⟨l,[r]⟩ s
  | some (.ro l)=>.ok ⟨l,[]⟩ s
  | _=>.bad
 | _=>.bad
noncomputable def drawM (d:D):M Sq:=λ s=>match d with
 | .tup l=>.ok ⟨l,[]⟩ s
 | .str l=>.ok ⟨l.map λ c=>.str [c],[]⟩ s
 | .ref r=>match s[r]? with
  | some (.lst l)=>.ok ⟨l,[r]⟩ s
  | some (.ro l)=>.ok ⟨l,[]⟩ s
  | _=>.bad
 | _=>.bad
noncomputable def enumM (d:D):M Sq:=λ s=>match d with
 | .tup l=>.ok ⟨l,[]⟩ s
 | .ref r=>match s[r]? with
  | some (.lst l)=>.ok ⟨l,[r]⟩ s
  | some (.ro l)=>.ok ⟨l,[]⟩ s
  | _=>.bad
 | _=>.bad
noncomputable def lstM (d:D):Sto->R (List D):=λ s=>match d with
 | .tup l=>.ok l s
 | .str l=>.ok (l.map λ c=>.str [c]) s
 | .ref r=>match s[r]? with
  | some (.lst l)=>.ok l s
  | some (.ro l)=>.ok l s
  | _=>.bad
 | _=>.bad
noncomputable def lstR (d:D):Sto->R (List D):=λ s=>match d with
 | .ref r=>match s[r]? with
  | some (.lst l)=>.ok l s
  | _=>.bad
 | _=>.bad
noncomputable def W62:Int:=4611686018427387904
noncomputable def jh (a b:Int):List D:=(ah (b - a).toNat).map λ(k:Nat)=>.int (a+k)
noncomputable def rngC (a b c:Int):List D:=if 0<c then(ah ((b - a+c - 1) / c).toNat).map λ(k:Nat)=>.int (a+c*k)else(ah ((a - b+(-c) - 1) / (-c)).toNat).map λ(k:Nat)=>.int (a+c*k)
noncomputable def enumL (n:Nat):List D->List D
 | []=>[]
 | d::l=>.tup [.int n,d]::enumL (n+1) l
noncomputable def zipL:List D->List D->List D
 | a::l,b::m=>.tup [a,b]::zipL l m
 | _,_=>[]
noncomputable def chk (s0 s:Sto)(src:List Nat):Bool:=src.all λ r=>decide (s[r]?=s0[r]?)
noncomputable def tru {α:Type}(r:R D)(f:Bool->Sto->R α):R α:=r.bind λ d s=>match d with|.bl b=>f b s|_=>.bad
@[simp] theorem zW {α:Type} (b:Bool) (s:Sto) (f:Bool->Sto->R α):tru (.ok (.bl b) s) f=f b s:=rfl
noncomputable def qN (ok:Sto->Bool)(g:D->Env->Sto->R (Option D×Env)):List D->Env->Sto->R (List D)
 | [],_,s=>if ok s then .ok [] s else .bad
 | d::l,ρ,s=>if ok s then(g d ρ s).bind λ p s=>(qN ok g l p.2 s).bind λ r s=>.ok (match p.1 with|some v=>v::r|none=>r) s else .bad
mutual
noncomputable def ev (F:Fns):E->Env->Sto->R D
 | .var i,ρ,s=>getV ρ i s
 | .cst c,_,s=>.ok c.d s
 | .glob x,_,s=>match F.con x with|some d=>.ok d s|none=>.bad
 | .bin op a b,ρ,s=>(ev F a ρ s).bind λ x s=>(ev F b ρ s).bind λ y s=>binop op x y s
 | .neg a,ρ,s=>(ev F a ρ s).bind λ x s=>match x with|.int i=>.ok (.int (-i)) s|_=>.bad
 | .not a,ρ,s=>tru (ev F a ρ s) λ b s=>.ok (.bl (!b)) s
 | .cmp op a b,ρ,s=>(ev F a ρ s).bind λ x s=>(ev F b ρ s).bind λ y s=>qd op x y s
 | .chain o p a b c,ρ,s=>(ev F a ρ s).bind λ x s=>(ev F b ρ s).bind λ y s=>tru (qd o x y s) λ k s=>if k then(ev F c ρ s).bind λ z s=>qd p y z s else .ok (.bl false) s
 | .isN a,ρ,s=>(ev F a ρ s).bind λ x s=>.ok (.bl (decide (x=.non))) s
 | .notN a,ρ,s=>(ev F a ρ s).bind λ x s=>.ok (.bl (!decide (x=.non))) s
 | .isB a b,ρ,s=>(ev F a ρ s).bind λ x s=>match x with|.bl c=>.ok (.bl (c==b)) s|_=>.bad
 | .notB a b,ρ,s=>(ev F a ρ s).bind λ x s=>match x with|.bl c=>.ok (.bl (!(c==b))) s|_=>.bad
 | .and a b,ρ,s=>tru (ev F a ρ s) λ c s=>if c then tru (ev F b ρ s) λ c s=>.ok (.bl c) s else .ok (.bl false) s
 | .or a b,ρ,s=>tru (ev F a ρ s) λ c s=>if c then .ok (.bl true) s else tru (ev F b ρ s) λ c s=>.ok (.bl c) s
 | .ite c a b,ρ,s=>tru (ev F c ρ s) λ k s=>if k then ev F a ρ s else ev F b ρ s
 | .tup es,ρ,s=>(evs F es ρ s).bind λ l s=>.ok (.tup l) s
 | .lst es,ρ,s=>(evs F es ρ s).bind λ l s=>alloc (.lst l) s
 | .dic .nil .nil,ρ,s=>alloc (.dic []) s
 | .dic (.cons k .nil) (.cons v .nil),ρ,s=>(ev F k ρ (s++[.dic []])).bind λ kd s1=>(ev F v ρ s1).bind λ vd s2=>if kd.key=true/\s2[s.length]?=some (.dic [])then .ok (.ref s.length) (s2.set s.length (.dic [(kd,vd)]))else .bad
 | .dic _ _,ρ,s=>.bad
 | .ix a b,ρ,s=>(ev F a ρ s).bind λ x s=>(ev F b ρ s).bind λ y s=>ixM x y s
 | .slL a lo,ρ,s=>(ev F a ρ s).bind λ x s=>(ev F lo ρ s).bind λ y s=>match y with|.int i=>slM x (some i) none s|_=>.bad
 | .slU a hi,ρ,s=>(ev F a ρ s).bind λ x s=>(ev F hi ρ s).bind λ y s=>match y with|.int i=>slM x none (some i) s|_=>.bad
 | .slLU a lo hi,ρ,s=>(ev F a ρ s).bind λ x s=>(ev F lo ρ s).bind λ y s=>match y with|.int i=>(ev F hi ρ s).bind (λ z s=>match z with|.int j=>slM x (some i) (some j) s|_=>.bad)|_=>.bad
 | .rev a,ρ,s=>(ev F a ρ s).bind λ x s=>revM x s
 | .call f as,ρ,s=>(evas F as ρ s).bind λ l s=>F.call f l s
 | .callC f as,ρ,s=>(evas F as ρ s).bind λ l s=>(F.call f l s).bind λ d s'=>if(d.ncl&&s'.all O.ncl)=true then .ok d s' else .bad
 | .callV i es,ρ,s=>(evs F es ρ s).bind λ l s=>match ρ[i]? with
  | some (some (.fn f))=>F.call f l s
  | some (some (.clo id cs))=>F.lam id cs l s
  | _=>.bad
 | .bi b es,ρ,s=>(evs F es ρ s).bind λ l s=>bi b l s
 | .mk k it,ρ,s=>(evL F it ρ s).bind λ q s=>mk k q s
 | .mkD k it d,ρ,s=>(evL F it ρ s).bind λ q s=>(ev F d ρ s).bind λ d s=>mkD k q d s
 | .meth m o es,ρ,s=>(ev F o ρ s).bind λ x s=>(evs F es ρ s).bind λ l s=>meth m x l s
 | .ext o it,ρ,s=>(ev F o ρ s).bind λ x s=>(evL F it ρ s).bind λ q s=>extM x q s
 | .extS o e,ρ,s=>(ev F o ρ s).bind λ x s=>(ev F e ρ s).bind λ y s=>extS x y s
 | .join o e,ρ,s=>(ev F o ρ s).bind λ x s=>(ev F e ρ s).bind λ y s=>joinM x y s
 | .mks k e,ρ,s=>(ev F e ρ s).bind λ x s=>(lstR x s).bind λ q s=>mk k q s
 | .mkDs k e d,ρ,s=>(ev F e ρ s).bind λ x s=>(ev F d ρ s).bind λ z s=>(lstR x s).bind λ q s=>mkD k q z s
noncomputable def evs (F:Fns):Es->Env->Sto->R (List D)
 | .nil,_,s=>.ok [] s
 | .cons e es,ρ,s=>(ev F e ρ s).bind λ d s=>(evs F es ρ s).bind λ l s=>.ok (d::l) s
noncomputable def evas (F:Fns):As->Env->Sto->R (List D)
 | .nil,_,s=>.ok [] s
 | .ex e as,ρ,s=>(ev F e ρ s).bind λ d s=>(evas F as ρ s).bind λ l s=>.ok (d::l) s
 | .lam id caps as,ρ,s=>match getVs ρ caps with
  | some cs=>(evas F as ρ s).bind λ l s=>.ok (.clo id cs::l) s
  | none=>.bad
 | .fn f as,ρ,s=>(evas F as ρ s).bind λ l s=>.ok (.fn f::l) s
noncomputable def evI (F:Fns):I->Env->Sto->R Sq
 | .seq e,ρ,s=>(ev F e ρ s).bind λ d s=>seqM d s
 | .rng1 a,ρ,s=>(ev F a ρ s).bind λ x s=>match x with|.int i=>if -W62<=i/\i<W62 then .ok ⟨jh 0 i,[]⟩ s else .bad|_=>.bad
 | .rng2 a b,ρ,s=>(ev F a ρ s).bind λ x s=>(ev F b ρ s).bind λ y s=>match x,y with|.int i,.int j=>if(-W62<=i/\i<W62)/\-W62<=j/\j<W62 then .ok ⟨jh i j,[]⟩ s else .bad|_,_=>.bad
 | .rng3 a b c,ρ,s=>(ev F a ρ s).bind λ x s=>(ev F b ρ s).bind λ y s=>match x,y with|.int i,.int j=>if c=2/\(0<=i/\i<1048576)/\0<=j/\j<1048576 then .ok ⟨rngC i j c,[]⟩ s else .bad|_,_=>.bad
 | .enum (.seq e),ρ,s=>(ev F e ρ s).bind λ d s=>(enumM d s).bind λ q s=>.ok ⟨enumL 0 q.its,q.src⟩ s
 | .zip (.seq a) (.seq b),ρ,s=>(ev F a ρ s).bind λ x s=>(ev F b ρ s).bind λ y s=>(drawM x s).bind λ p s=>(drawM y s).bind λ q s=>.ok ⟨zipL p.its q.its,p.src++q.src⟩ s
 | .enum _,_,_=>.bad
 | .zip _ _,_,_=>.bad
 | .items e,ρ,s=>.bad
noncomputable def evL (F:Fns):L->Env->Sto->R (List D)
 | .comp tg it e caps,ρ,s=>(evI F it ρ s).bind λ q s0=>if q.its.length<=LIM then qN (λ s=>chk s0 s q.src) (λ d ρ s=>match bindT ρ tg d with
   | some ρ=>(ev F e ρ s).bind λ v s=>.ok (some v,ρ) s
   | none=>.bad) q.its (zK ρ caps) s0 else .bad
 | .compIf tg it c e caps,ρ,s=>(evI F it ρ s).bind λ q s0=>if q.its.length<=LIM then qN (λ s=>chk s0 s q.src) (λ d ρ s=>match bindT ρ tg d with
   | some ρ=>tru (ev F c ρ s) λ k s=>if k then(ev F e ρ s).bind λ v s=>.ok (some v,ρ) s else .ok (none,ρ) s
   | none=>.bad) q.its (zK ρ caps) s0 else .bad
 | .disp es,ρ,s=>evs F es ρ s
 | .seq e,ρ,s=>(ev F e ρ s).bind λ d s=>lstM d s
end
inductive Ct where
 | next (ρ:Env)|ret (d:D)|cont (ρ:Env)|brk (ρ:Env)
noncomputable def forL (ok:Sto->Bool)(g:D->Env->Sto->R Ct):List D->Env->Sto->R Ct
 | [],ρ,s=>if ok s then .ok (.next ρ) s else .bad
 | d::l,ρ,s=>if ok s then(g d ρ s).bind λ c s=>match c with
   | .next ρ=>forL ok g l ρ s
   | .cont ρ=>forL ok g l ρ s
   | .brk ρ=>.ok (.next ρ) s
   | .ret d=>.ok (.ret d) s
  else .bad
noncomputable def whlN (c:Env->Sto->R D)(g:Env->Sto->R Ct):Nat->Env->Sto->R Ct
 | 0,_,_=>.bad
 | n+1,ρ,s=>tru (c ρ s) λ b s=>if b then(g ρ s).bind λ c' s=>match c' with
   | .next ρ=>whlN c g n ρ s
   | .cont ρ=>whlN c g n ρ s
   | .brk ρ=>.ok (.next ρ) s
   | .ret d=>.ok (.ret d) s
  else .ok (.next ρ) s
open Classical in
noncomputable def whl (c:Env->Sto->R D)(g:Env->Sto->R Ct)(ρ:Env)(s:Sto):R Ct :=
 if h:∃ n,whlN c g n ρ s≠.bad then whlN c g h.choose ρ s else .bad
mutual
noncomputable def ex (F:Fns):S->Env->Sto->R Ct
 | .asg tg e,ρ,s=>(ev F e ρ s).bind λ d s=>match bindT ρ tg d with|some ρ=>.ok (.next ρ) s|none=>.bad
 | .setIx o i e,ρ,s=>(ev F e ρ s).bind λ d s=>(ev F o ρ s).bind λ x s=>(ev F i ρ s).bind λ y s=>(setIx x y d s).bind λ _ s=>.ok (.next ρ) s
 | .aug i e,ρ,s=>(getV ρ i s).bind λ x s=>(ev F e ρ s).bind λ y s=>match x,y with
  | .int a,.int b=>match setV ρ i (.int (a+b))with|some ρ=>.ok (.next ρ) s|none=>.bad
  | _,_=>.bad
 | .ex e,ρ,s=>(ev F e ρ s).bind λ _ s=>.ok (.next ρ) s
 | .ret e,ρ,s=>(ev F e ρ s).bind λ d s=>.ok (.ret d) s
 | .retN,_,s=>.ok (.ret .non) s
 | .ite c a b,ρ,s=>tru (ev F c ρ s) λ k s=>if k then exs F a ρ s else exs F b ρ s
 | .whl c b,ρ,s=>whl (ev F c) (exs F b) ρ s
 | .for_ tg it b,ρ,s=>(evI F it ρ s).bind λ q s0=>forL (λ s=>chk s0 s q.src) (λ d ρ s=>match bindT ρ tg d with
   | some ρ=>exs F b ρ s
   | none=>.bad) q.its ρ s0
 | .pass,ρ,s=>.ok (.next ρ) s
 | .cont,ρ,s=>.ok (.cont ρ) s
 | .brk,ρ,s=>.ok (.brk ρ) s
 | .raise,_,_=>.bad
 | .und i,ρ,s=>match unsetV ρ i with|some ρ=>.ok (.next ρ) s|none=>.bad
noncomputable def exs (F:Fns):Ss->Env->Sto->R Ct
 | .nil,ρ,s=>.ok (.next ρ) s
 | .cons st ss,ρ,s=>(ex F st ρ s).bind λ c s=>match c with|.next ρ=>exs F ss ρ s|c=>.ok c s
end
structure Df where
 name:String
 ps:Nat
 vs:Nat
 body:Ss
structure Lm where
 id:String
 ps:Nat
 cs:Nat
 body:E
structure Pr where
 df:String->Option Df
 lm:String->Option Lm
 con:String->Option D
noncomputable def okOld (st st':Sto):Bool:=(ah st.length).all λ i=>decide (st'[i]?=st[i]?)||(match st'[i]? with|some o=>o.bnd st.length|none=>false)
noncomputable def zJ (st:Sto)(d:D)(st':Sto):R D :=
 if okOld st st' then
  match d with
  | .ref r=>if r<st.length then .ok d (st'.take st.length)else match st'[r]? with
   | some o=>if o.bnd st.length then .ok (.ref st.length) (st'.take st.length++[o])else .ok d st'
   | none=>.bad
  | d=>if d.bnd st.length then .ok d (st'.take st.length)else .ok d st'
 else .ok d st'
noncomputable def callN (P:Pr):Nat->Fns
 | 0=>⟨λ _ _ _=>.bad,λ _ _ _ _=>.bad,P.con⟩
 | n+1=>⟨λ f l s=>match P.df f with
   | some d=>if l.length=d.ps then(exs (callN P n) d.body (l.map some++ar d.vs none) s).bind λ c s'=>match c with
     | .ret v=>zJ s v s'
     | .next _=>zJ s .non s'
     | _=>.bad else .bad
   | none=>.bad,
  λ id cs l s=>match P.lm id with
   | some d=>if l.length=d.ps/\cs.length=d.cs/\(D.nclL l&&D.nclL cs&&s.all O.ncl)=true then(ev (callN P n) d.body (l.map some++cs.map some) s).bind λ v s'=>zJ s v s' else .bad
   | none=>.bad,P.con⟩
noncomputable def KP (s s':Sto):Prop:=∀(i:Nat) (o:O),s[i]?=some o->∃ o',s'[i]?=some o'/\o'.kd=o.kd
theorem KP.refl (s:Sto):KP s s:=λ i o h=>⟨o,h,rfl⟩
theorem KP.trans {a b c:Sto}(h:KP a b)(g:KP b c):KP a c:=λ i o e=>by
 obtain⟨o1,e1,k1⟩:=h i o e
 obtain⟨o2,e2,k2⟩:=g i o1 e1
 exact⟨o2,e2,k2.trans k1⟩
theorem KP.app (s t:Sto):KP s (s++t):=λ i o e=>⟨o,by rw[aF (ac.mp e).1];exact e,rfl⟩
theorem KP.set {s:Sto}{r:Nat}{o o0:O}(h:s[r]?=some o0)(k:o.kd=o0.kd):KP s (s.set r o):=λ i u e=>by
 by_cases z:r=i
 ·subst z
  rw[h]at e;cases e
  exact⟨o,aU (ac.mp h).1,k⟩
 ·exact⟨u,by rw[a7 z];exact e,rfl⟩
noncomputable def KR {α:Type}(s:Sto)(r:R α):Prop:=∀ a s',r=.ok a s'->KP s s'
theorem KR.bad {α:Type}{s:Sto}:KR s (.bad:R α):=λ _ _ h=>by cases h
theorem KR.ok {α:Type}{s:Sto}{a:α}:KR s (.ok a s):=λ _ _ h=>by cases h;exact KP.refl _
theorem KR.bind {α β:Type}{s:Sto}{r:R α}{f:α->Sto->R β}(h:KR s r)(g:∀ a s1,KR s1 (f a s1)):KR s (r.bind f):=λ b s' e=>by
 obtain⟨a,s1,e1,e2⟩:=R.bind_inv e
 exact(h a s1 e1).trans (g a s1 b s' e2)
theorem KR.tru {α:Type}{s:Sto}{r:R D}{f:Bool->Sto->R α}(h:KR s r)(g:∀ a s1,KR s1 (f a s1)):KR s (tru r f):=KR.bind h λ a s1=>by
 cases a with
 | bl b=>exact g b s1
 | _=>exact KR.bad
theorem KR.if {α:Type}{s:Sto}{c:Prop}[Decidable c]{a b:R α}(h:KR s a)(g:KR s b):KR s (if c then a else b):=by split;exact h;exact g
theorem KR.al {s:Sto}{o:O}:KR s (alloc o s):=λ _ _ h=>by cases h;exact KP.app _ _
theorem KR.pu {s:Sto}{d:D}:KR s (pur d s):=λ _ _ h=>by cases h;exact KP.refl _
theorem KR.bd {s:Sto}:KR s ((DV.bad:M D) s):=λ _ _ h=>by cases h
theorem KR.im {s:Sto}{c:Prop}{_:Decidable c}{d:D}:KR s ((if c then pur d else DV.bad:M D) s):=by split;exact KR.pu;exact KR.bd
theorem KR.ia {s:Sto}{c:Prop}{_:Decidable c}{o:O}:KR s (if c then alloc o s else .bad):=KR.if KR.al KR.bd
theorem binop_kr (op:BOp)(x y:D)(s:Sto):KR s (binop op x y s):=by
 cases op with
 | add=>cases x with
  | int a=>cases y with
   | int b=>exact KR.pu
   | _=>exact KR.bd
  | str a=>cases y with
   | str b=>exact KR.im
   | _=>exact KR.bd
  | tup a=>cases y with
   | tup b=>exact KR.im
   | _=>exact KR.bd
  | ref a=>cases y with
   | ref b =>
    show KR s (match s[a]?,s[b]? with|some (.lst l),some (.lst m)=>if l.length+m.length<=LIM then alloc (.lst (l++m)) s else .bad|_,_=>.bad)
    split
    ·exact KR.ia
    ·exact KR.bd
   | _=>exact KR.bd
  | _=>exact KR.bd
 | sub=>cases x with
  | int a=>cases y with
   | int b=>exact KR.pu
   | _=>exact KR.bd
  | _=>exact KR.bd
 | mul=>cases x with
  | int a=>cases y with
   | int b=>exact KR.im
   | _=>exact KR.bd
  | str a=>cases y with
   | int b=>exact KR.im
   | _=>exact KR.bd
  | tup a=>cases y with
   | int b=>exact KR.im
   | _=>exact KR.bd
  | ref a=>cases y with
   | int n =>
    show KR s (match s[a]? with|some (.lst l)=>if 0<=n/\n<=1000000/\l.length*n.toNat<=LIM then alloc (.lst (repD n.toNat l)) s else .bad|_=>.bad)
    split
    ·exact KR.ia
    ·exact KR.bd
   | _=>exact KR.bd
  | _=>exact KR.bd
 | fdiv=>cases x with
  | int a=>cases y with
   | int b=>exact KR.im
   | _=>exact KR.bd
  | _=>exact KR.bd
 | mod=>cases x with
  | int a=>cases y with
   | int b=>exact KR.im
   | _=>exact KR.bd
  | _=>exact KR.bd
 | pow=>cases x with
  | int a=>cases y with
   | int b=>exact KR.im
   | _=>exact KR.bd
  | _=>exact KR.bd
 | shl=>cases x with
  | int a=>cases y with
   | int b=>exact KR.im
   | _=>exact KR.bd
  | _=>exact KR.bd
 | shr=>cases x with
  | int a=>cases y with
   | int b=>exact KR.im
   | _=>exact KR.bd
  | _=>exact KR.bd
 | _=>exact KR.bd
theorem cmp_kr (op:COp)(x y:D)(s:Sto):KR s (qd op x y s):=by
 have hin:∀ a b:D,KR s (inM a b s):=λ a b=>by
  intro r s' h
  unfold inM at h
  split at h
  ·split at h<;>cases h;exact KP.refl _
  ·split at h
   ·split at h<;>cases h;exact KP.refl _
   ·split at h<;>cases h;exact KP.refl _
   ·cases h
  ·split at h<;>cases h;exact KP.refl _
  ·cases h
 cases op with
 | isin=>exact KR.bind (hin x y) λ _ _=>KR.ok
 | notin=>exact KR.bind (hin x y) λ _ _=>KR.ok
 | eq=>intro a s' h;change eqM x y s=_ at h;unfold eqM at h;split at h<;>cases h;exact KP.refl _
 | ne =>
  intro a s' h
  change(match eqv s DEEP x y with|some r=>R.ok (D.bl (!r)) s|none=>.bad)=_ at h
  split at h<;>cases h;exact KP.refl _
 | _ =>
  intro a s' h
  cases x with
  | int i=>(cases y with
   | int j=>cases h;exact KP.refl _
   | _=>cases h)
  | _=>cases h
theorem ix_kr (x y:D)(s:Sto):KR s (ixM x y s):=by
 intro a s' h
 unfold ixM at h
 repeat' split at h
 all_goals first|(cases h;exact KP.refl _;done)|(cases h;done)
theorem sl_kr (x:D)(lo hi:Option Int)(s:Sto):KR s (slM x lo hi s):=by
 intro a s' h
 unfold slM at h
 repeat' split at h
 all_goals first|(cases h;exact KP.refl _;done)|(cases h;exact KP.app _ _;done)|(cases h;done)
theorem lstM_kr (x:D)(s:Sto):KR s (lstM x s):=by
 intro a s' h
 unfold lstM at h
 repeat' split at h
 all_goals first|(cases h;exact KP.refl _;done)|(cases h;done)
theorem lstR_kr (x:D)(s:Sto):KR s (lstR x s):=by
 intro a s' h
 unfold lstR at h
 repeat' split at h
 all_goals first|(cases h;exact KP.refl _;done)|(cases h;done)
theorem seqM_kr (x:D)(s:Sto):KR s (seqM x s):=by
 intro a s' h
 unfold seqM at h
 repeat' split at h
 all_goals first|(cases h;exact KP.refl _;done)|(cases h;done)
theorem drawM_kr (x:D)(s:Sto):KR s (drawM x s):=by
 intro a s' h
 unfold drawM at h
 repeat' split at h
 all_goals first|(cases h;exact KP.refl _;done)|(cases h;done)
theorem enumM_kr (x:D)(s:Sto):KR s (enumM x s):=by
 intro a s' h
 unfold enumM at h
 repeat' split at h
 all_goals first|(cases h;exact KP.refl _;done)|(cases h;done)
theorem join_kr (x y:D)(s:Sto):KR s (joinM x y s):=by
 intro a s' h
 unfold joinM at h
 repeat' split at h
 all_goals first|(cases h;exact KP.refl _;done)|(cases h;done)
theorem bi_kr (b:Bi)(l:List D)(s:Sto):KR s (bi b l s):=by
 have k1:∀ f:D->M D,(∀ d,KR s (f d s))->KR s (bi1 f l s):=λ f hf=>by
  cases l with
  | nil=>exact KR.bad
  | cons d t=>(cases t with
   | nil=>exact hf d
   | cons _ _=>exact KR.bad)
 have k2:∀ k d,KR s (isK k d s):=λ k d=>by
  intro a s' h
  unfold isK at h
  repeat' split at h
  all_goals first|(cases h;exact KP.refl _;done)|(cases h;done)
 have k3:∀ d,KR s (lenM d s):=λ d=>by
  intro a s' h
  unfold lenM at h
  repeat' split at h
  all_goals first|(cases h;exact KP.refl _;done)|(cases h;done)
 cases b with
 | len=>exact k1 _ k3
 | isInt=>exact k1 _ (k2 1)
 | isBool=>exact k1 _ (k2 2)
 | isStr=>exact k1 _ (k2 3)
 | isTup=>exact k1 _ (k2 4)
 | isList=>exact k1 _ (k2 5)
 | _ =>
  intro a s' h
  unfold bi at h
  first|(cases h;done)|(simp only at h;split at h<;>first|(cases h;exact KP.refl _;done)|(cases h;done))
theorem mk_kr (k:Mk)(l:List D)(s:Sto):KR s (mk k l s):=by
 cases k with
 | tuple=>exact KR.ok
 | list=>exact KR.al
 | lenset=>exact KR.bad
 | _ =>
  intro a s' h
  unfold mk at h
  simp only at h
  repeat' split at h
  all_goals first|(cases h;exact KP.refl _;done)|(cases h;exact KP.app _ _;done)|(cases h;done)
theorem mkD_kr (k:Mk)(l:List D)(d:D)(s:Sto):KR s (mkD k l d s):=by
 intro a s' h
 unfold mkD at h
 repeat' split at h
 all_goals first|(cases h;exact KP.refl _;done)|(cases h;done)
theorem meth_kr (m:Mt)(o:D)(l:List D)(s:Sto):KR s (meth m o l s):=by
 intro a s' h
 unfold meth at h
 repeat' split at h
 all_goals first|(cases h;done)|(cases h;exact KP.refl _;done)|(rename_i e _;cases h;exact KP.set e rfl;done)|(rename_i e _ _ _;cases h;exact KP.set e rfl;done)|(rename_i e;cases h;exact KP.set e rfl;done)|(rename_i e _ _;cases h;exact KP.set e rfl;done)
theorem extM_kr (o:D)(l:List D)(s:Sto):KR s (extM o l s):=by
 intro a s' h
 unfold extM at h
 repeat' split at h
 all_goals first|(cases h;done)|(rename_i e _;cases h;exact KP.set e rfl;done)
theorem setIx_kr (o i v:D)(s:Sto):KR s (setIx o i v s):=by
 intro a s' h
 unfold setIx at h
 cases o with
 | ref r =>
  simp only at h
  cases e:s[r]? with
  | none=>rw[e]at h;cases h
  | some ob =>
   rw[e]at h
   cases ob with
   | lst l =>
    cases i with
    | int k=>simp only at h;split at h<;>cases h;exact KP.set e rfl
    | _=>cases h
   | dic l=>simp only at h;split at h<;>cases h;exact KP.set e rfl
   | _=>cases h
 | _=>cases h
structure FK (F:Fns):Prop where
 call:∀ f l s,KR s (F.call f l s)
 lam:∀ id cs l s,KR s (F.lam id cs l s)
theorem compL_kr {ok:Sto->Bool}{g:D->Env->Sto->R (Option D×Env)}(hg:∀ d ρ s,KR s (g d ρ s)):∀(l:List D) (ρ:Env) (s:Sto),KR s (qN ok g l ρ s)
 | [],ρ,s=>KR.if KR.ok KR.bad
 | d::l,ρ,s=>KR.if (KR.bind (hg d ρ s) λ p s1=>KR.bind (compL_kr hg l p.2 s1) λ r s2=>KR.ok) KR.bad
section
variable {F:Fns} (hF:FK F)
theorem getV_kr (ρ:Env)(i:Nat)(s:Sto):KR s (getV ρ i s):=by
 intro a s' h
 unfold getV at h
 split at h<;>cases h;exact KP.refl _
include hF
mutual
theorem zo:∀(e:E) (ρ:Env) (s:Sto),KR s (ev F e ρ s)
 | .var i,ρ,s=>getV_kr ρ i s
 | .cst c,ρ,s=>KR.ok
 | .glob x,ρ,s=>by
  intro a s' h
  change(match F.con x with|some d=>R.ok d s|none=>.bad)=_ at h
  split at h<;>cases h;exact KP.refl _
 | .bin op a b,ρ,s=>KR.bind (zo a ρ s) λ x s=>KR.bind (zo b ρ s) λ y s=>binop_kr op x y s
 | .neg a,ρ,s=>KR.bind (zo a ρ s) λ x s=>by
  cases x with
  | int i=>exact KR.ok
  | _=>exact KR.bad
 | .not a,ρ,s=>KR.tru (zo a ρ s) λ b s=>KR.ok
 | .cmp op a b,ρ,s=>KR.bind (zo a ρ s) λ x s=>KR.bind (zo b ρ s) λ y s=>cmp_kr op x y s
 | .chain o p a b c,ρ,s=>KR.bind (zo a ρ s) λ x s=>KR.bind (zo b ρ s) λ y s=>KR.tru (cmp_kr o x y s) λ k s=>KR.if (KR.bind (zo c ρ s) λ z s=>cmp_kr p y z s) KR.ok
 | .isN a,ρ,s=>KR.bind (zo a ρ s) λ x s=>KR.ok
 | .notN a,ρ,s=>KR.bind (zo a ρ s) λ x s=>KR.ok
 | .isB a b,ρ,s=>KR.bind (zo a ρ s) λ x s=>by
  cases x with
  | bl i=>exact KR.ok
  | _=>exact KR.bad
 | .notB a b,ρ,s=>KR.bind (zo a ρ s) λ x s=>by
  cases x with
  | bl i=>exact KR.ok
  | _=>exact KR.bad
 | .and a b,ρ,s=>KR.tru (zo a ρ s) λ c s=>KR.if (KR.tru (zo b ρ s) λ c s=>KR.ok) KR.ok
 | .or a b,ρ,s=>KR.tru (zo a ρ s) λ c s=>KR.if KR.ok (KR.tru (zo b ρ s) λ c s=>KR.ok)
 | .ite c a b,ρ,s=>KR.tru (zo c ρ s) λ k s=>KR.if (zo a ρ s) (zo b ρ s)
 | .tup es,ρ,s=>KR.bind (evs_kr es ρ s) λ l s=>KR.ok
 | .lst es,ρ,s=>KR.bind (evs_kr es ρ s) λ l s=>KR.al
 | .dic .nil .nil,ρ,s=>KR.al
 | .dic (.cons k .nil) (.cons v .nil),ρ,s=>by
  intro a s' h
  obtain⟨kd,s1,e1,h⟩:=R.bind_inv (show(ev F k ρ (s++[.dic []])).bind _=_ from h)
  obtain⟨vd,s2,e2,h⟩:=R.bind_inv h
  split at h
  case isFalse=>cases h
  rename_i hc
  cases h
  exact((KP.app _ _).trans ((zo k ρ _ _ _ e1).trans (zo v ρ _ _ _ e2))).trans (KP.set hc.2 rfl)
 | .dic .nil (.cons _ _),ρ,s=>KR.bad
 | .dic (.cons _ .nil) .nil,ρ,s=>KR.bad
 | .dic (.cons _ .nil) (.cons _ (.cons _ _)),ρ,s=>KR.bad
 | .dic (.cons _ (.cons _ _)) _,ρ,s=>KR.bad
 | .ix a b,ρ,s=>KR.bind (zo a ρ s) λ x s=>KR.bind (zo b ρ s) λ y s=>ix_kr x y s
 | .slL a lo,ρ,s=>KR.bind (zo a ρ s) λ x s=>KR.bind (zo lo ρ s) λ y s=>by
  cases y with
  | int i=>exact sl_kr _ _ _ _
  | _=>exact KR.bad
 | .slU a hi,ρ,s=>KR.bind (zo a ρ s) λ x s=>KR.bind (zo hi ρ s) λ y s=>by
  cases y with
  | int i=>exact sl_kr _ _ _ _
  | _=>exact KR.bad
 | .slLU a lo hi,ρ,s=>KR.bind (zo a ρ s) λ x s=>KR.bind (zo lo ρ s) λ y s=>by
  cases y with
  | int i =>
   refine KR.bind (zo hi ρ s) λ z s=>?_
   cases z with
   | int j=>exact sl_kr _ _ _ _
   | _=>exact KR.bad
  | _=>exact KR.bad
 | .rev a,ρ,s=>KR.bind (zo a ρ s) λ x s=>by
  cases x with
  | str l=>exact KR.ok
  | _=>exact KR.bad
 | .call f as,ρ,s=>KR.bind (evas_kr as ρ s) λ l s=>hF.call f l s
 | .callC f as,ρ,s=>KR.bind (evas_kr as ρ s) λ l s=>KR.bind (hF.call f l s) λ d s'=>KR.if KR.ok KR.bad
 | .callV i es,ρ,s=>KR.bind (evs_kr es ρ s) λ l s=>by
  intro a s' h
  split at h
  ·exact hF.call _ _ _ _ _ h
  ·exact hF.lam _ _ _ _ _ _ h
  ·cases h
 | .bi b es,ρ,s=>KR.bind (evs_kr es ρ s) λ l s=>bi_kr b l s
 | .mk k it,ρ,s=>KR.bind (evL_kr it ρ s) λ q s=>mk_kr k q s
 | .mkD k it d,ρ,s=>KR.bind (evL_kr it ρ s) λ q s=>KR.bind (zo d ρ s) λ d s=>mkD_kr k q d s
 | .meth m o es,ρ,s=>KR.bind (zo o ρ s) λ x s=>KR.bind (evs_kr es ρ s) λ l s=>meth_kr m x l s
 | .ext o it,ρ,s=>KR.bind (zo o ρ s) λ x s=>KR.bind (evL_kr it ρ s) λ q s=>extM_kr x q s
 | .extS o e,ρ,s=>KR.bind (zo o ρ s) λ x s=>KR.bind (zo e ρ s) λ y s=>by
  intro a s' h
  unfold extS at h
  repeat' split at h
  all_goals first|(cases h;done)|exact extM_kr _ _ _ _ _ h
 | .join o e,ρ,s=>KR.bind (zo o ρ s) λ x s=>KR.bind (zo e ρ s) λ y s=>join_kr x y s
 | .mks k e,ρ,s=>KR.bind (zo e ρ s) λ x s=>KR.bind (lstR_kr x s) λ q s=>mk_kr k q s
 | .mkDs k e d,ρ,s=>KR.bind (zo e ρ s) λ x s=>KR.bind (zo d ρ s) λ z s=>KR.bind (lstR_kr x s) λ q s=>mkD_kr k q z s
theorem evs_kr:∀(es:Es) (ρ:Env) (s:Sto),KR s (evs F es ρ s)
 | .nil,ρ,s=>KR.ok
 | .cons e es,ρ,s=>KR.bind (zo e ρ s) λ d s=>KR.bind (evs_kr es ρ s) λ l s=>KR.ok
theorem evas_kr:∀(as:As) (ρ:Env) (s:Sto),KR s (evas F as ρ s)
 | .nil,ρ,s=>KR.ok
 | .ex e as,ρ,s=>KR.bind (zo e ρ s) λ d s=>KR.bind (evas_kr as ρ s) λ l s=>KR.ok
 | .lam id caps as,ρ,s=>by
  intro a s' h
  change(match getVs ρ caps with|some cs=>(evas F as ρ s).bind λ l s=>R.ok (D.clo id cs::l) s|none=>.bad)=_ at h
  split at h
  ·exact KR.bind (evas_kr as ρ s) (λ l s=>KR.ok) _ _ h
  ·cases h
 | .fn f as,ρ,s=>KR.bind (evas_kr as ρ s) λ l s=>KR.ok
theorem evI_kr:∀(it:I) (ρ:Env) (s:Sto),KR s (evI F it ρ s)
 | .seq e,ρ,s=>KR.bind (zo e ρ s) λ d s=>seqM_kr d s
 | .rng1 a,ρ,s=>KR.bind (zo a ρ s) λ x s=>by
  cases x with
  | int i=>exact KR.if KR.ok KR.bad
  | _=>exact KR.bad
 | .rng2 a b,ρ,s=>KR.bind (zo a ρ s) λ x s=>KR.bind (zo b ρ s) λ y s=>by
  cases x with
  | int i=>(cases y with
   | int j=>exact KR.if KR.ok KR.bad
   | _=>exact KR.bad)
  | _=>exact KR.bad
 | .rng3 a b c,ρ,s=>KR.bind (zo a ρ s) λ x s=>KR.bind (zo b ρ s) λ y s=>by
  cases x with
  | int i=>(cases y with
   | int j=>exact KR.if KR.ok KR.bad
   | _=>exact KR.bad)
  | _=>exact KR.bad
 | .enum (.seq e),ρ,s=>KR.bind (zo e ρ s) λ d s=>KR.bind (enumM_kr d s) λ q s=>KR.ok
 | .zip (.seq a) (.seq b),ρ,s=>KR.bind (zo a ρ s) λ x s=>KR.bind (zo b ρ s) λ y s=>KR.bind (drawM_kr x s) λ p s=>KR.bind (drawM_kr y s) λ q s=>KR.ok
 | .enum (.rng1 _),ρ,s=>KR.bad
 | .enum (.rng2 _ _),ρ,s=>KR.bad
 | .enum (.rng3 _ _ _),ρ,s=>KR.bad
 | .enum (.enum _),ρ,s=>KR.bad
 | .enum (.zip _ _),ρ,s=>KR.bad
 | .enum (.items _),ρ,s=>KR.bad
 | .zip (.rng1 _) _,ρ,s=>KR.bad
 | .zip (.rng2 _ _) _,ρ,s=>KR.bad
 | .zip (.rng3 _ _ _) _,ρ,s=>KR.bad
 | .zip (.enum _) _,ρ,s=>KR.bad
 | .zip (.zip _ _) _,ρ,s=>KR.bad
 | .zip (.items _) _,ρ,s=>KR.bad
 | .zip (.seq _) (.rng1 _),ρ,s=>KR.bad
 | .zip (.seq _) (.rng2 _ _),ρ,s=>KR.bad
 | .zip (.seq _) (.rng3 _ _ _),ρ,s=>KR.bad
 | .zip (.seq _) (.enum _),ρ,s=>KR.bad
 | .zip (.seq _) (.zip _ _),ρ,s=>KR.bad
 | .zip (.seq _) (.items _),ρ,s=>KR.bad
 | .items e,ρ,s=>KR.bad
theorem evL_kr:∀(it:L) (ρ:Env) (s:Sto),KR s (evL F it ρ s)
 | .comp tg it e caps,ρ,s=>KR.bind (evI_kr it ρ s) λ q s0=>KR.if (compL_kr (λ d ρ s=>by
   intro a s' h
   split at h
   ·exact KR.bind (zo e _ s) (λ v s=>KR.ok) _ _ h
   ·cases h) _ _ _) KR.bad
 | .compIf tg it c e caps,ρ,s=>KR.bind (evI_kr it ρ s) λ q s0=>KR.if (compL_kr (λ d ρ s=>by
   intro a s' h
   split at h
   ·exact KR.tru (zo c _ s) (λ k s=>KR.if (KR.bind (zo e _ s) λ v s=>KR.ok) KR.ok) _ _ h
   ·cases h) _ _ _) KR.bad
 | .disp es,ρ,s=>evs_kr es ρ s
 | .seq e,ρ,s=>KR.bind (zo e ρ s) λ d s=>lstM_kr d s
end
theorem forL_kr {ok:Sto->Bool}{g:D->Env->Sto->R Ct}(hg:∀ d ρ s,KR s (g d ρ s)):∀(l:List D) (ρ:Env) (s:Sto),KR s (forL ok g l ρ s)
 | [],ρ,s=>KR.if KR.ok KR.bad
 | d::l,ρ,s=>KR.if (KR.bind (hg d ρ s) λ c s=>by
   cases c with
   | next ρ=>exact forL_kr hg l ρ s
   | cont ρ=>exact forL_kr hg l ρ s
   | brk ρ=>exact KR.ok
   | ret d=>exact KR.ok) KR.bad
theorem whlN_kr {c:Env->Sto->R D}{g:Env->Sto->R Ct}(hc:∀ ρ s,KR s (c ρ s))(hg:∀ ρ s,KR s (g ρ s)):∀(n:Nat) (ρ:Env) (s:Sto),KR s (whlN c g n ρ s)
 | 0,ρ,s=>KR.bad
 | n+1,ρ,s=>KR.tru (hc ρ s) λ b s=>KR.if (KR.bind (hg ρ s) λ c' s=>by
   cases c' with
   | next ρ=>exact whlN_kr hc hg n ρ s
   | cont ρ=>exact whlN_kr hc hg n ρ s
   | brk ρ=>exact KR.ok
   | ret d=>exact KR.ok) KR.ok
mutual
theorem ex_kr:∀(st:S) (ρ:Env) (s:Sto),KR s (ex F st ρ s)
 | .asg tg e,ρ,s=>KR.bind (zo hF e ρ s) λ d s=>by
  intro a s' h
  split at h<;>cases h;exact KP.refl _
 | .setIx o i e,ρ,s=>KR.bind (zo hF e ρ s) λ d s=>KR.bind (zo hF o ρ s) λ x s=>KR.bind (zo hF i ρ s) λ y s=>KR.bind (setIx_kr x y d s) λ _ s=>KR.ok
 | .aug i e,ρ,s=>KR.bind (getV_kr ρ i s) λ x s=>KR.bind (zo hF e ρ s) λ y s=>by
  intro a s' h
  repeat' split at h
  all_goals first|(cases h;exact KP.refl _;done)|(cases h;done)
 | .ex e,ρ,s=>KR.bind (zo hF e ρ s) λ d s=>KR.ok
 | .ret e,ρ,s=>KR.bind (zo hF e ρ s) λ d s=>KR.ok
 | .retN,ρ,s=>KR.ok
 | .ite c a b,ρ,s=>KR.tru (zo hF c ρ s) λ k s=>KR.if (exs_kr a ρ s) (exs_kr b ρ s)
 | .whl c b,ρ,s=>by
  intro r s' h
  change whl (ev F c) (exs F b) ρ s=_ at h
  unfold whl at h
  split at h
  ·exact whlN_kr hF (λ ρ s=>zo hF c ρ s) (λ ρ s=>exs_kr b ρ s) _ ρ s _ _ h
  ·cases h
 | .for_ tg it b,ρ,s=>KR.bind (evI_kr hF it ρ s) λ q s0=>forL_kr hF (λ d ρ s=>by
   intro a s' h
   split at h
   ·exact exs_kr b _ _ _ _ h
   ·cases h) _ _ _
 | .pass,ρ,s=>KR.ok
 | .cont,ρ,s=>KR.ok
 | .brk,ρ,s=>KR.ok
 | .raise,ρ,s=>KR.bad
 | .und i,ρ,s=>by
  intro a s' h
  change(match unsetV ρ i with|some ρ=>R.ok (Ct.next ρ) s|none=>.bad)=_ at h
  split at h<;>cases h;exact KP.refl _
theorem exs_kr:∀(ss:Ss) (ρ:Env) (s:Sto),KR s (exs F ss ρ s)
 | .nil,ρ,s=>KR.ok
 | .cons st ss,ρ,s=>KR.bind (ex_kr st ρ s) λ c s=>by
  cases c with
  | next ρ=>exact exs_kr ss ρ s
  | _=>exact KR.ok
end
end
theorem canon_kr {s st:Sto}{d:D}(h:KP s st):KR s (zJ s d st):=by
 have tk:∀ t,KP s (st.take s.length++t):=λ t i o e=>by
  obtain⟨o',e',k⟩:=h i o e
  have hi:=(ac.mp e).1
  have hi':=(ac.mp e').1
  refine⟨o',?_,k⟩
  rw[aF (by rw[bR];omega),hU,if_pos hi];exact e'
 have tk0:KP s (st.take s.length):=by have:=tk [];rwa [bF]at this
 intro a s' e
 unfold zJ at e
 repeat' split at e
 all_goals first|(cases e;exact tk0;done)|(cases e;exact tk _;done)|(cases e;exact h;done)|(cases e;done)
theorem callN_fk (P:Pr):∀ n,FK (callN P n)
 | 0=>⟨λ _ _ _=>KR.bad,λ _ _ _ _=>KR.bad⟩
 | n+1=>by
  refine⟨λ f l s=>?_,λ id cs l s=>?_⟩
  ·intro a s' h
   unfold callN at h
   simp only at h
   split at h
   case h_2=>cases h
   split at h
   case isFalse=>cases h
   obtain⟨c,s1,e1,h⟩:=R.bind_inv h
   have k1:=exs_kr (callN_fk P n) _ _ _ _ _ e1
   cases c with
   | ret v=>exact canon_kr k1 _ _ h
   | next ρ=>exact canon_kr k1 _ _ h
   | _=>cases h
  ·intro a s' h
   unfold callN at h
   simp only at h
   split at h
   case h_2=>cases h
   split at h
   case isFalse=>cases h
   obtain⟨v,s1,e1,h⟩:=R.bind_inv h
   exact canon_kr (zo (callN_fk P n) _ _ _ _ _ e1) _ _ h
end DV
end
open DV renaming Sto->jK,D->jL,Env->jN,ev->jP,R->jQ,callN->jS,eqv->jT,LIM->jU,eqAtom->jV,tru->jW,bindT->jX,DEEP->jY,getVs->jZ,eqL->j0,rep->j1,kd->j2,Pr->j3,putD->j4,Es->j5,O->j6,Fns->j7,evs->j8,alloc->j9,kdBad->ka,blsOf->kb,look->ke,cutL->kg,Bi->kh,Tg->ki,sbd->kj,chk->km,qe->kn,setV->ko,setVs->kq,Ct->kr,evas->kt,inL->ku,ixn->kx,As->kA,minI->kB,eqLit->kC,loB->kD,M->kE,E->kF,Sq->kG,zK->kH,mk->kI,unsetV->kJ,Lm->kK,Df->kL,COp->kM,hiB->kN,slM->kO,forL->kP,meth->kQ,jh->kR,qN->kS,Mk->kT,Mt->kU,Ss->kW,okOld->kX,callN_fk->kY,pur->kZ,inM->k6,bi1->k7,repD->k8,bi->k9,BOp->la,isK->lb,W62->lh,S->li,evI->lj,exs->ln
open DV.D renaming bndL->jM,bnd->jO,nclL->kz,ncl->lc
open DV.O renaming bnd->jR,ncl->lf
noncomputable section
namespace L2
open PySem PySem.Spec PyProof.Rows
structure LamI where
 qual:Str
 params:aY
 body:Expr
 scope:Scope
 ps:List Str
 fr:List Str
 nm:Option (Str×Pos)
noncomputable def CloAt (H:Hp)(f:Addr)(J:LamI)(cap:List V)(clos:List (Str×Addr)):Prop:=match J.nm with
 | none=>LamAt H f J.qual J.params J.body J.scope J.fr cap clos
 | some p=>DefIn H f p.1 J.qual J.params [.Return (some J.body) p.2] J.scope J.fr cap clos
noncomputable def CloRaw (H:Hp)(f:Addr)(J:LamI)(clos:List (Str×Addr)):Prop:=match J.nm with
 | none=>∃ pm c' ctv,H f=some (lamO f (bO "<lambda>" J.qual J.params J.body J.scope clos pm (.ref c') ctv))/\H c'=some (qu c' J.qual)
 | some p=>∃ doc pm c' ctv,H f=some (lamO f (cc p.1 J.qual J.params [.Return (some J.body) p.2] J.scope clos .none .none doc pm none (.ref c') ctv))/\H c'=some (qu c' J.qual)
structure Gm where
 K:ab
 fa:String->Option Addr
 lg:String->LamI->Prop
 T:List (Addr×Str)
variable (Γ:Gm)
mutual
noncomputable def RV (φ:Nat->Addr)(H:Hp):jL->V->Prop
 | .non,v=>v=.non
 | .bl b,v=>v=.bl b
 | .int i,v=>v=.int i
 | .str x,v=>v=.str ⟨x.toArray⟩/\x.length<=jU
 | .tup l,v=>∃ a xs,v=.ref a/\SqT Γ.K H a xs/\RVL φ H l xs
 | .ref n,v=>v=.ref (φ n)
 | .fn f,v=>∃ a,Γ.fa f=some a/\v=.ref a
 | .clo id cs,v=>∃ f cap J clos,v=.ref f/\Γ.lg id J/\CloAt H f J cap clos/\cap.length=J.fr.length/\RVL φ H cs cap
noncomputable def RVL (φ:Nat->Addr)(H:Hp):List jL->List V->Prop
 | [],xs=>xs=[]
 | d::l,xs=>∃ x r,xs=x::r/\RV φ H d x/\RVL φ H l r
end
noncomputable def fixd:HO->Bool
 | .tup _=>true
 | .frz _ _=>true
 | .ext _=>true
 | _=>false
noncomputable def Kp (H H':Hp):Prop:=∀ b o,H b=some o->fixd o=true->H' b=some o
theorem Kp.refl (H:Hp):Kp H H:=λ _ _ h _=>h
theorem Kp.trans {H H1 H2:Hp}(a:Kp H H1)(b:Kp H1 H2):Kp H H2:=λ c o h f=>b c o (a c o h f) f
theorem Kp.new {H H1:Hp}{p:Addr}{o:HO}(a:Kp H H1)(h:H1 p=none):Kp H (upd H1 p o):=λ c u e f=>by
 have e1:=a c u e f
 rw[za (zB e1 h)];exact e1
theorem Kp.put {H H1:Hp}{p:Addr}{o u:HO}(a:Kp H H1)(h:H1 p=some u)(hu:fixd u=false):Kp H (upd H1 p o):=λ c v e f=>by
 have e1:=a c v e f
 rw[za (λ z=>by subst z;rw[h]at e1;cases e1;rw[hu]at f;cases f)];exact e1
theorem Kp.sqT {K:ab}{H H':Hp}{a:Addr}{xs:List V}(e:Kp H H')(h:SqT K H a xs):SqT K H' a xs:=by
 rcases h with(h|⟨o,h⟩)|h
 ·exact .inl (.inl (e _ _ h rfl))
 ·exact .inl (.inr ⟨o,e _ _ h rfl⟩)
 ·exact .inr h
theorem LamAt.kp {H H':Hp}{f:Addr}{qual:Str}{params:aY}{body:Expr}{scope:Scope}{fr:List Str}{cap:List V}{clos:List (Str×Addr)}(h:LamAt H f qual params body scope fr cap clos)(e:Kp H H'):LamAt H' f qual params body scope fr cap clos:=by
 obtain⟨pm,c',ctv,h1,h2,h3,h4,h5,h6⟩:=h
 refine⟨pm,c',ctv,e _ _ h1 rfl,e _ _ h2 rfl,λ x c q=>?_,h4,h5,λ i x v a b=>?_⟩
 ·obtain⟨o,v,z,d⟩:=h3 x c q
  exact⟨o,v,e _ _ z rfl,d⟩
 ·obtain⟨c,o,u,z1,z2,z3⟩:=h6 i x v a b
  exact⟨c,o,u,z1,e _ _ z2 rfl,z3⟩
theorem DefIn.kp {H H':Hp}{f:Addr}{name qual:Str}{params:aY}{body:List Stmt}{scope:Scope}{fr:List Str}{cap:List V}{clos:List (Str×Addr)}(h:DefIn H f name qual params body scope fr cap clos)(e:Kp H H'):DefIn H' f name qual params body scope fr cap clos:=by
 obtain⟨doc,pm,c',ctv,h1,h2,h3,h4,h5,h6⟩:=h
 refine⟨doc,pm,c',ctv,e _ _ h1 rfl,e _ _ h2 rfl,λ x c q=>?_,h4,h5,λ i x v a b=>?_⟩
 ·obtain⟨o,v,z,d⟩:=h3 x c q
  exact⟨o,v,e _ _ z rfl,d⟩
 ·obtain⟨c,o,u,z1,z2,z3⟩:=h6 i x v a b
  exact⟨c,o,u,z1,e _ _ z2 rfl,z3⟩
theorem CloAt.kp {H H':Hp}{f:Addr}{J:LamI}{cap:List V}{clos:List (Str×Addr)}(h:CloAt H f J cap clos)(e:Kp H H'):CloAt H' f J cap clos:=by
 unfold CloAt at h ⊢
 cases q:J.nm with
 | none=>rw[q]at h;exact LamAt.kp h e
 | some p=>rw[q]at h;exact DefIn.kp h e
theorem CloRaw.kp {H H':Hp}{f:Addr}{J:LamI}{clos:List (Str×Addr)}(h:CloRaw H f J clos)(e:Kp H H'):CloRaw H' f J clos:=by
 unfold CloRaw at h ⊢
 cases q:J.nm with
 | none =>
  rw[q]at h
  obtain⟨pm,c',ctv,h1,h2⟩:=h
  exact⟨pm,c',ctv,e _ _ h1 rfl,e _ _ h2 rfl⟩
 | some p =>
  rw[q]at h
  obtain⟨doc,pm,c',ctv,h1,h2⟩:=h
  exact⟨doc,pm,c',ctv,e _ _ h1 rfl,e _ _ h2 rfl⟩
theorem CloAt.fn {K:ab}{H:Hp}{f:Addr}{J:LamI}{cap:List V}{clos:List (Str×Addr)}(h:CloAt H f J cap clos):FnIn K H f:=by
 unfold CloAt at h
 cases q:J.nm with
 | none=>rw[q]at h;obtain⟨pm,c',ctv,h1,_⟩:=h;exact .inl ⟨_,h1⟩
 | some p=>rw[q]at h;exact DefIn.fn h
structure Gw (φ:Nat->Addr)(n:Nat)(H:Hp)(φ':Nat->Addr)(H':Hp):Prop where
 map:∀ i,i<n->φ' i=φ i
 kp:Kp H H'
variable {Γ:Gm}
mutual
theorem RV.monoW {φ φ':Nat->Addr}{n:Nat}{H H':Hp}(g:Gw φ n H φ' H'):∀(d:jL) (v:V),d.bnd n=true->RV Γ φ H d v->RV Γ φ' H' d v
 | .non,_,_,h=>by unfold RV at h ⊢;exact h
 | .bl _,_,_,h=>by unfold RV at h ⊢;exact h
 | .int _,_,_,h=>by unfold RV at h ⊢;exact h
 | .str _,_,_,h=>by unfold RV at h ⊢;exact h
 | .tup l,_,b,h=>by
  unfold RV at h ⊢
  unfold jO at b
  obtain⟨a,xs,e,q,r⟩:=h
  exact⟨a,xs,e,g.kp.sqT q,RVL.monoW g l xs b r⟩
 | .ref k,_,b,h=>by
  unfold RV at h ⊢
  unfold jO at b
  rw[g.map k (of_decide_eq_true b)];exact h
 | .fn _,_,_,h=>by unfold RV at h ⊢;exact h
 | .clo id cs,_,b,h=>by
  unfold RV at h ⊢
  unfold jO at b
  obtain⟨f,cap,J,clos,e,h1,h2,h3,h4⟩:=h
  exact⟨f,cap,J,clos,e,h1,h2.kp g.kp,h3,RVL.monoW g cs cap b h4⟩
theorem RVL.monoW {φ φ':Nat->Addr}{n:Nat}{H H':Hp}(g:Gw φ n H φ' H'):∀(l:List jL) (xs:List V),jM n l=true->RVL Γ φ H l xs->RVL Γ φ' H' l xs
 | [],_,_,h=>by unfold RVL at h ⊢;exact h
 | d::l,_,b,h=>by
  unfold RVL at h ⊢
  unfold jM at b
  rw[ao]at b
  obtain⟨x,r,e,q,t⟩:=h
  exact⟨x,r,e,RV.monoW g d x b.1 q,RVL.monoW g l r b.2 t⟩
end
mutual
theorem zw {n m:Nat}(h:n<=m):∀ d:jL,d.bnd n=true->d.bnd m=true
 | .non,_=>rfl
 | .bl _,_=>rfl
 | .int _,_=>rfl
 | .str _,_=>rfl
 | .tup l,b=>by unfold jO at b ⊢;exact D_bndL_mono h l b
 | .ref k,b=>by unfold jO at b ⊢;exact decide_eq_true (aq (of_decide_eq_true b) h)
 | .fn _,_=>rfl
 | .clo _ l,b=>by unfold jO at b ⊢;exact D_bndL_mono h l b
theorem D_bndL_mono {n m:Nat}(h:n<=m):∀ l:List jL,jM n l=true->jM m l=true
 | [],_=>rfl
 | d::l,b=>by
  unfold jM at b ⊢
  rw[ao]at b ⊢
  exact⟨zw h d b.1,D_bndL_mono h l b.2⟩
end
theorem bndL_iff {n:Nat}:∀ {l:List jL},jM n l=true↔∀ d∈l,d.bnd n=true
 | []=>by unfold jM;simp
 | d::l=>by
  unfold jM
  rw[ao,bndL_iff (l:=l)]
  simp
theorem z0 {n:Nat}{l m:List jL}(h:jM n l=true)(h':jM n m=true):jM n (l++m)=true :=
 bndL_iff.mpr λ d hd=>(bw.mp hd).elim (bndL_iff.mp h d) (bndL_iff.mp h' d)
theorem bndL_sub {n:Nat}{l m:List jL}(h:jM n l=true)(s:∀ d∈m,d∈l):jM n m=true:=bndL_iff.mpr λ d hd=>bndL_iff.mp h d (s d hd)
theorem bndL_get {n:Nat}{l:List jL}{i:Nat}{d:jL}(h:jM n l=true)(e:l[i]?=some d):d.bnd n=true:=bndL_iff.mp h d (aJ e)
section
variable {φ:Nat->Addr} {H:Hp}
theorem RVL.nil:RVL Γ φ H [] []:=by unfold RVL;rfl
theorem RVL.cons {d:jL}{l:List jL}{x:V}{xs:List V}(a:RV Γ φ H d x)(b:RVL Γ φ H l xs):RVL Γ φ H (d::l) (x::xs):=by unfold RVL;exact⟨x,xs,rfl,a,b⟩
theorem RVL.unnil {xs:List V}(h:RVL Γ φ H [] xs):xs=[]:=by unfold RVL at h;exact h
theorem RVL.uncons {d:jL}{l:List jL}{xs:List V}(h:RVL Γ φ H (d::l) xs):∃ x r,xs=x::r/\RV Γ φ H d x/\RVL Γ φ H l r:=by unfold RVL at h;exact h
theorem RVL.length:∀ {l:List jL} {xs:List V},RVL Γ φ H l xs->xs.length=l.length
 | [],_,h=>by rw[h.unnil];rfl
 | d::l,_,h=>by
  obtain⟨x,r,rfl,_,t⟩:=h.uncons
  rw[aR,aR,RVL.length t]
theorem RVL.get:∀ {l:List jL} {xs:List V} {i:Nat} {d:jL},RVL Γ φ H l xs->l[i]?=some d->∃ x,xs[i]?=some x/\RV Γ φ H d x
 | [],_,_,_,_,e=>by simp at e
 | d::l,_,0,d',h,e=>by
  obtain⟨x,r,rfl,q,t⟩:=h.uncons
  have e':d=d':=by simpa using e
  subst e'
  exact⟨x,rfl,q⟩
 | d::l,_,i+1,_,h,e=>by
  obtain⟨x,r,rfl,q,t⟩:=h.uncons
  obtain⟨y,e1,e2⟩:=RVL.get (i:=i) t (by simpa using e)
  exact⟨y,by simpa using e1,e2⟩
theorem RVL.append:∀ {l m:List jL} {xs ys:List V},RVL Γ φ H l xs->RVL Γ φ H m ys->RVL Γ φ H (l++m) (xs++ys)
 | [],_,_,_,h,h'=>by rw[h.unnil];exact h'
 | d::l,_,_,_,h,h'=>by
  obtain⟨x,r,rfl,q,t⟩:=h.uncons
  exact .cons q (RVL.append t h')
theorem RVL.drop:∀ {l:List jL} {xs:List V} (n:Nat),RVL Γ φ H l xs->RVL Γ φ H (l.drop n) (xs.drop n)
 | _,_,0,h=>h
 | [],_,n+1,h=>by rw[h.unnil];exact .nil
 | d::l,_,n+1,h=>by
  obtain⟨x,r,rfl,q,t⟩:=h.uncons
  exact RVL.drop n t
theorem RVL.take:∀ {l:List jL} {xs:List V} (n:Nat),RVL Γ φ H l xs->RVL Γ φ H (l.take n) (xs.take n)
 | _,_,0,h=>.nil
 | [],_,n+1,h=>by rw[h.unnil];exact .nil
 | d::l,_,n+1,h=>by
  obtain⟨x,r,rfl,q,t⟩:=h.uncons
  exact .cons q (RVL.take n t)
theorem RVL.set:∀ {l:List jL} {xs:List V} {d:jL} {x:V} (i:Nat),RVL Γ φ H l xs->RV Γ φ H d x->RVL Γ φ H (l.set i d) (xs.set i x)
 | [],_,_,_,_,h,_=>by rw[h.unnil];exact .nil
 | d::l,_,_,_,0,h,q=>by
  obtain⟨x,r,rfl,_,t⟩:=h.uncons
  exact .cons q t
 | d::l,_,_,_,i+1,h,q=>by
  obtain⟨x,r,rfl,q',t⟩:=h.uncons
  exact .cons q' (RVL.set i t q)
theorem RVL.reverse:∀ {l:List jL} {xs:List V},RVL Γ φ H l xs->RVL Γ φ H l.reverse xs.reverse
 | [],_,h=>by rw[h.unnil];exact .nil
 | d::l,_,h=>by
  obtain⟨x,r,rfl,q,t⟩:=h.uncons
  rw[dD,dD]
  exact(RVL.reverse t).append (.cons q .nil)
theorem RV.intE {i:Int}{v:V}(h:RV Γ φ H (.int i) v):v=.int i:=by unfold RV at h;exact h
theorem RV.blE {i:Bool}{v:V}(h:RV Γ φ H (.bl i) v):v=.bl i:=by unfold RV at h;exact h
theorem RV.nonE {v:V}(h:RV Γ φ H .non v):v=.non:=by unfold RV at h;exact h
theorem RV.strE {x:List Nat}{v:V}(h:RV Γ φ H (.str x) v):v=.str ⟨x.toArray⟩:=by unfold RV at h;exact h.1
theorem RV.strL {x:List Nat}{v:V}(h:RV Γ φ H (.str x) v):x.length<=jU:=by unfold RV at h;exact h.2
theorem RV.tupE {l:List jL}{v:V}(h:RV Γ φ H (.tup l) v):∃ a xs,v=.ref a/\SqT Γ.K H a xs/\RVL Γ φ H l xs:=by unfold RV at h;exact h
theorem RV.refE {n:Nat}{v:V}(h:RV Γ φ H (.ref n) v):v=.ref (φ n):=by unfold RV at h;exact h
theorem RV.intI {i:Int}:RV Γ φ H (.int i) (.int i):=by unfold RV;rfl
theorem RV.blI {i:Bool}:RV Γ φ H (.bl i) (.bl i):=by unfold RV;rfl
theorem RV.nonI:RV Γ φ H .non .non:=by unfold RV;rfl
theorem RV.strI {x:List Nat}(h:x.length<=jU):RV Γ φ H (.str x) (.str ⟨x.toArray⟩):=by unfold RV;exact⟨rfl,h⟩
theorem RV.tupI {l:List jL}{a:Addr}{xs:List V}(h:SqT Γ.K H a xs)(q:RVL Γ φ H l xs):RV Γ φ H (.tup l) (.ref a):=by unfold RV;exact⟨a,xs,rfl,h,q⟩
theorem RV.refI {n:Nat}:RV Γ φ H (.ref n) (.ref (φ n)):=by unfold RV;rfl
end
noncomputable def SqF (K:ab)(H:Hp)(a:Addr)(xs:List V):Prop:=SqL K H a xs/\∀ H',Kp H H'->SqL K H' a xs
noncomputable def keyOf:jL->Option Key
 | .int i=>some (.inl i)
 | .str x=>some (.inr ⟨x.toArray⟩)
 | _=>none
noncomputable def RVD (Γ:Gm)(φ:Nat->Addr)(H:Hp):List (jL×jL)->List (Key×V)->Prop
 | [],kvs=>kvs=[]
 | (d,e)::l,kvs=>∃ k v r,kvs=(k,v)::r/\keyOf d=some k/\RV Γ φ H e v/\RVD Γ φ H l r
variable (Γ)
noncomputable def RO (φ:Nat->Addr)(H:Hp)(a:Addr):j6->Prop
 | .lst l=>∃ xs,H a=some (.lst xs)/\RVL Γ φ H l xs
 | .ro l=>∃ xs,SqF Γ.K H a xs/\RVL Γ φ H l xs
 | .dic l=>∃ kvs,H a=some (.dK kvs)/\RVD Γ φ H l kvs
 | .ins _ _=>False
noncomputable abbrev okd:j6->Nat:=DV.O.kd
noncomputable def isMut:j6->Bool
 | .ro _=>false
 | _=>true
structure Rp (φ:Nat->Addr)(H:Hp)(s:jK):Prop where
 inj:∀(i j:Nat) (o o':j6),s[i]?=some o->s[j]?=some o'->isMut o=true->isMut o'=true->φ i=φ j->i=j
 obj:∀(i:Nat) (o:j6),s[i]?=some o->RO Γ φ H (φ i) o
 wf:∀(i:Nat) (o:j6),s[i]?=some o->o.bnd s.length=true
 tab:TabsH Γ.T H
structure RE (φ:Nat->Addr)(H:Hp)(n:Nat)(ρ:jN)(σ:St):Prop where
 len:ρ.length=σ.length
 val:∀(i:Nat) (d:jL),ρ[i]?=some (some d)->d.bnd n=true/\∃ v,σ[i]?=some (some v)/\RV Γ φ H d v
structure Gr (φ:Nat->Addr)(s:jK)(H:Hp)(φ':Nat->Addr)(s':jK)(H':Hp):Prop where
 w:Gw φ s.length H φ' H'
 le:s.length<=s'.length
 new:∀ i:Nat,s.length<=i->i<s'.length->H (φ' i)=none
 kd:∀(i:Nat) (o o':j6),s[i]?=some o->s'[i]?=some o'->okd o'=okd o
 st:∀ b,H b≠none->H' b≠none
 fr:∀ b o,H b=some o->(∀ ps,o≠.tbl ps)->(∀(i:Nat) (ob:j6),s[i]?=some ob->isMut ob=true->φ i≠b)->H' b=some o
variable {Γ}
theorem okd_mut {o o':j6}(h:okd o'=okd o)(m:isMut o'=true):isMut o=true:=by
 cases o with
 | ro _=>cases o' with
  | ro _=>cases m
  | _=>cases h
 | _=>rfl
theorem Gr.mu {φ φ':Nat->Addr}{s s':jK}{H H':Hp}(g:Gr φ s H φ' s' H')(i:Nat)(o o':j6)(e:s[i]?=some o)(e':s'[i]?=some o')(m:isMut o'=true):isMut o=true:=okd_mut (g.kd i o o' e e') m
theorem Gr.refl (φ:Nat->Addr)(s:jK)(H:Hp):Gr φ s H φ s H:=⟨⟨λ _ _=>rfl,Kp.refl H⟩,aj _,λ i h1 h2=>absurd h2 (by omega),λ i o o' e e'=>by rw[e]at e';cases e';rfl,λ _ h=>h,λ _ _ h _ _=>h⟩
theorem Gr.trans {φ φ1 φ2:Nat->Addr}{s s1 s2:jK}{H H1 H2:Hp}(a:Gr φ s H φ1 s1 H1)(b:Gr φ1 s1 H1 φ2 s2 H2)(_h:s.length<=s1.length):Gr φ s H φ2 s2 H2:=by
 refine⟨⟨λ i hi=>(b.w.map i (aq hi a.le)).trans (a.w.map i hi),a.w.kp.trans b.w.kp⟩,am a.le b.le,λ i h1 h2=>?_,λ i o o' e e'=>?_,λ c h=>b.st c (a.st c h),λ c o h nt ne=>?_⟩
 ·by_cases hi:i<s1.length
  ·rw[b.w.map i hi];exact a.new i h1 hi
  ·have e:=b.new i (by omega) h2
   cases q:H (φ2 i)with
   | none=>rfl
   | some o=>exact absurd e (a.st _ (by rw[q];simp))
 ·have hl:i<s1.length:=aq (ac.mp e).1 a.le
  obtain⟨o1,e1⟩:∃ o1,s1[i]?=some o1:=⟨s1[i],af hl⟩
  exact(b.kd i o1 o' e1 e').trans (a.kd i o o1 e e1)
 ·refine b.fr c o (a.fr c o h nt ne) nt λ i ob e m z=>?_
  by_cases hi:i<s.length
  ·obtain⟨o0,e0⟩:∃ o0,s[i]?=some o0:=⟨s[i],af hi⟩
   exact ne i o0 e0 (a.mu i o0 ob e0 e m) (by rw[<-a.w.map i hi];exact z)
  ·have:=a.new i (by omega) (ac.mp e).1
   rw[z,h]at this;cases this
theorem RV.mono {φ φ':Nat->Addr}{s s':jK}{H H':Hp}(g:Gr φ s H φ' s' H')(d:jL)(v:V)(b:d.bnd s.length=true)(h:RV Γ φ H d v):RV Γ φ' H' d v:=RV.monoW g.w d v b h
theorem RVL.mono {φ φ':Nat->Addr}{s s':jK}{H H':Hp}(g:Gr φ s H φ' s' H')(d:List jL)(v:List V)(b:jM s.length d=true)(h:RVL Γ φ H d v):RVL Γ φ' H' d v:=RVL.monoW g.w d v b h
theorem RE.mono {φ φ':Nat->Addr}{s s':jK}{H H':Hp}{ρ:jN}{σ:St}(h:RE Γ φ H s.length ρ σ)(g:Gr φ s H φ' s' H')(hn:s.length<=s'.length):RE Γ φ' H' s'.length ρ σ :=
 ⟨h.len,λ i d e=>by
  obtain⟨b,v,e1,e2⟩:=h.val i d e
  exact⟨zw hn d b,v,e1,RV.mono g d v b e2⟩⟩
noncomputable def After (Γ:Gm)(φ:Nat->Addr)(s:jK)(H:Hp)(d:jL)(s':jK)(Q:VK):Prop :=
 ∀ v φ' H',Gr φ s H φ' s' H'->s.length<=s'.length->d.bnd s'.length=true->RV Γ φ' H' d v->Rp Γ φ' H' s'->Q v H'
theorem After.trans {φ φ1:Nat->Addr}{s s1 s':jK}{H H1:Hp}{d:jL}{Q:VK}(h:After Γ φ s H d s' Q)(g:Gr φ s H φ1 s1 H1)(l:s.length<=s1.length):After Γ φ1 s1 H1 d s' Q :=
 λ v φ' H' g' l' b r p=>h v φ' H' (g.trans g' l) (am l l') b r p
theorem After.here {φ:Nat->Addr}{s:jK}{H:Hp}{d:jL}{Q:VK}{v:V}(h:After Γ φ s H d s Q)(p:Rp Γ φ H s)(b:d.bnd s.length=true)(r:RV Γ φ H d v):Q v H :=
 h v φ H (Gr.refl φ s H) (aj _) b r p
theorem RVD.monoW {φ φ':Nat->Addr}{n:Nat}{H H':Hp}(g:Gw φ n H φ' H'):∀(l:List (jL×jL)) (kvs:List (Key×V)),jM n (l.map (·.2))=true->RVD Γ φ H l kvs->RVD Γ φ' H' l kvs
 | [],_,_,h=>h
 | (d,e)::l,_,b,h=>by
  obtain⟨k,v,r,e1,e2,e3,e4⟩:=h
  rw[aK]at b
  unfold jM at b
  rw[ao]at b
  exact⟨k,v,r,e1,e2,RV.monoW g e v b.1 e3,RVD.monoW g l r b.2 e4⟩
theorem RO.mono {φ φ':Nat->Addr}{n:Nat}{H H':Hp}{a:Addr}{o:j6}(h:RO Γ φ H a o)(g:Gw φ n H φ' H')(b:o.bnd n=true)(hl:isMut o=true->∀ u,H a=some u->H' a=some u):RO Γ φ' H' a o:=by
 cases o with
 | lst l =>
  unfold jR at b
  obtain⟨xs,e,r⟩:=h
  exact⟨xs,hl rfl _ e,RVL.monoW g l xs b r⟩
 | ro l =>
  unfold jR at b
  obtain⟨xs,e,r⟩:=h
  exact⟨xs,⟨e.2 _ g.kp,λ H2 k=>e.2 _ (g.kp.trans k)⟩,RVL.monoW g l xs b r⟩
 | dic l =>
  unfold jR at b
  rw[ao]at b
  obtain⟨kvs,e,r⟩:=h
  exact⟨kvs,hl rfl _ e,RVD.monoW g l kvs b.2 r⟩
 | ins _ _=>exact h.elim
theorem RO.there {φ:Nat->Addr}{H:Hp}{a:Addr}{o:j6}(h:RO Γ φ H a o)(m:isMut o=true):∃ u,H a=some u/\fixd u=false/\∀ ps,u≠.tbl ps:=by
 cases o with
 | lst l=>obtain⟨xs,e,_⟩:=h;exact⟨_,e,rfl,by nofun⟩
 | ro l=>cases m
 | dic l=>obtain⟨xs,e,_⟩:=h;exact⟨_,e,rfl,by nofun⟩
 | ins _ _=>exact h.elim
theorem Rp.addr {φ:Nat->Addr}{H:Hp}{s:jK}(p:Rp Γ φ H s){i:Nat}{l:List jL}(e:s[i]?=some (.lst l)):∃ xs,H (φ i)=some (.lst xs)/\RVL Γ φ H l xs:=p.obj i _ e
theorem qk {n m:Nat}(h:n<=m)(o:j6)(b:o.bnd n=true):o.bnd m=true:=by
 cases o with
 | lst l=>unfold jR at b ⊢;exact D_bndL_mono h l b
 | ro l=>unfold jR at b ⊢;exact D_bndL_mono h l b
 | dic l =>
  unfold jR at b ⊢
  rw[ao]at b ⊢
  exact⟨D_bndL_mono h _ b.1,D_bndL_mono h _ b.2⟩
 | ins c l=>unfold jR at b ⊢;exact D_bndL_mono h _ b
theorem TabsH.keepF {T:List (Addr×Str)}{H H':Hp}(h:TabsH T H)(k:∀ b o,(fixd o=true\/∃ ps,o=.tbl ps)->H b=some o->H' b=some o):TabsH T H':=λ y hy=>by
 obtain⟨ps,e,t,c⟩:=h y hy
 refine⟨ps,k _ _ (.inr ⟨_,rfl⟩) e,t,λ pos cv q=>?_⟩
 obtain⟨c',e1,e2⟩:=c pos cv q
 exact⟨c',e1,k _ _ (.inl rfl) e2⟩
theorem Rp.new {φ:Nat->Addr}{H:Hp}{s:jK}{p:Addr}{u:HO}{o:j6}(r:Rp Γ φ H s)(hp:H p=none)(hb:o.bnd s.length=true)
  (ho:∀ φ' H',Gw φ s.length H φ' H'->H' p=some u->RO Γ φ' H' p o):Gr φ s H (λ i=>if i=s.length then p else φ i) (s++[o]) (upd H p u)/\Rp Γ (λ i=>if i=s.length then p else φ i) (upd H p u) (s++[o]):=by
 have g:Gw φ s.length H (λ i=>if i=s.length then p else φ i) (upd H p u):=⟨λ i hi=>if_neg (ay hi),(Kp.refl H).new hp⟩
 have key:∀ i o',(s++[o])[i]?=some o'->(i<s.length/\s[i]?=some o')\/(i=s.length/\o'=o):=λ i o' e=>by
  rcases e9 i s.length with h|h|h
  ·rw[aF h]at e;exact .inl ⟨h,e⟩
  ·subst h;simp at e;exact .inr ⟨rfl,e.symm⟩
  ·rw[bN (by simp;omega)]at e;cases e
 refine⟨⟨g,by simp,λ i h1 h2=>?_,λ i o1 o2 e1 e2=>?_,λ b hb=>?_,λ b ob hb _ _=>by rw[za (zB hb hp)];exact hb⟩,λ i j oi oj ei ej mi mj e=>?_,λ i o' e=>?_,λ i o' e=>?_,r.tab.new hp⟩
 ·rw[aW,cR]at h2
  rw[if_pos (by omega)];exact hp
 ·rcases key i o2 e2 with⟨_,e⟩|⟨hi,_⟩
  ·rw[e1]at e;cases e;rfl
  ·have:=(ac.mp e1).1;omega
 ·unfold upd;split
  ·simp
  ·exact hb
 ·rcases key i oi ei with⟨hi,ei⟩|⟨hi,rfl⟩<;>rcases key j oj ej with⟨hj,ej⟩|⟨hj,ej'⟩
  ·rw[if_neg (ay hi),if_neg (ay hj)]at e
   exact r.inj i j oi oj ei ej mi mj e
  ·rw[if_neg (ay hi),if_pos hj]at e
   obtain⟨u,hu,_,_⟩:=(r.obj i oi ei).there mi
   rw[e,hp]at hu;cases hu
  ·rw[if_neg (ay hj),if_pos hi]at e
   obtain⟨u,hu,_,_⟩:=(r.obj j oj ej).there mj
   rw[<-e,hp]at hu;cases hu
  ·rw[hi,hj]
 ·rcases key i o' e with⟨hi,e⟩|⟨hi,rfl⟩
  ·show RO Γ _ _ (if i=s.length then p else φ i) o'
   rw[if_neg (ay hi)]
   exact(r.obj i o' e).mono g (r.wf i o' e) λ _ v hv=>by rw[za (zB hv hp)];exact hv
  ·show RO Γ _ _ (if i=s.length then p else φ i) o'
   rw[if_pos hi]
   exact ho _ _ g ze
 ·rw[aW,cR]
  rcases key i o' e with⟨hi,e⟩|⟨hi,rfl⟩
  ·exact qk (cY _) _ (r.wf i o' e)
  ·exact qk (cY _) _ hb
theorem Rp.set {φ:Nat->Addr}{H:Hp}{s:jK}{k:Nat}{u:HO}{o o0:j6}(r:Rp Γ φ H s)(hk:s[k]?=some o0)(m0:isMut o0=true)(hb:o.bnd s.length=true)
  (ho:∀ H',Gw φ s.length H φ H'->H' (φ k)=some u->RO Γ φ H' (φ k) o) (hkd:okd o=okd o0:=by rfl):Gr φ s H φ (s.set k o) (upd H (φ k) u)/\Rp Γ φ (upd H (φ k) u) (s.set k o):=by
 obtain⟨v0,hv0,f0,nt0⟩:=(r.obj k o0 hk).there m0
 have hkl:k<s.length:=(ac.mp hk).1
 have g:Gw φ s.length H φ (upd H (φ k) u):=⟨λ _ _=>rfl,(Kp.refl H).put hv0 f0⟩
 have key:∀ i o',(s.set k o)[i]?=some o'->(i≠k/\s[i]?=some o')\/(i=k/\o'=o):=λ i o' e=>by
  by_cases h:i=k
  ·subst h;rw[aU hkl]at e;exact .inr ⟨rfl,(au e).symm⟩
  ·rw[a7 (bQ h)]at e;exact .inl ⟨h,e⟩
 have mm:∀ i o',(s.set k o)[i]?=some o'->isMut o'=true->∃ o'',s[i]?=some o''/\isMut o''=true:=λ i o' e m=>by
  rcases key i o' e with⟨_,e⟩|⟨h,_⟩
  ·exact⟨o',e,m⟩
  ·exact⟨o0,by rw[h];exact hk,m0⟩
 refine⟨⟨g,by simp,λ i h1 h2=>by rw[bG]at h2;omega,λ i o1 o2 e1 e2=>?_,λ b hb=>?_,λ b ob hb nt ne=>by rw[za (bQ (ne k o0 hk m0))];exact hb⟩,λ i j oi oj ei ej mi mj e=>?_,λ i o' e=>?_,λ i o' e=>?_,r.tab.keepF λ b v hv q=>?_⟩
 ·rcases key i o2 e2 with⟨_,e⟩|⟨h,rfl⟩
  ·rw[e1]at e;cases e;rfl
  ·subst h;rw[hk]at e1;cases e1;exact hkd
 ·unfold upd;split
  ·simp
  ·exact hb
 ·obtain⟨o1,e1,m1⟩:=mm i oi ei mi
  obtain⟨o2,e2,m2⟩:=mm j oj ej mj
  exact r.inj i j o1 o2 e1 e2 m1 m2 e
 ·rcases key i o' e with⟨h,e⟩|⟨h,rfl⟩
  ·refine(r.obj i o' e).mono g (r.wf i o' e) λ m v hv=>?_
   rw[za λ z=>h (r.inj i k o' o0 e hk m m0 z)];exact hv
  ·subst h
   exact ho _ g ze
 ·rw[bG]
  rcases key i o' e with⟨_,e⟩|⟨_,rfl⟩
  ·exact r.wf i o' e
  ·exact hb
 ·rw[za λ z=>by
   subst z;rw[hv0]at q;cases q
   rcases hv with h|⟨ps,h⟩
   ·rw[f0]at h;cases h
   ·exact nt0 _ h]
  exact q
theorem Rp.same {φ:Nat->Addr}{H H':Hp}{s:jK}(r:Rp Γ φ H s)(e:Same H H'):Gr φ s H φ s H'/\Rp Γ φ H' s:=by
 have g:Gw φ s.length H φ H':=⟨λ _ _=>rfl,λ b o h _=>e b o h⟩
 exact⟨⟨g,aj _,λ i h1 h2=>absurd h2 (by omega),λ i o o' e e'=>by rw[e]at e';cases e';rfl,λ b hb=>by
  cases q:H b with
  | none=>exact absurd q hb
  | some o=>rw[e b o q];simp,λ b o h _ _=>e b o h⟩,r.inj,λ i o h=>(r.obj i o h).mono g (r.wf i o h) λ _ u hu=>e _ u hu,r.wf,r.tab.same e⟩
section
variable {φ:Nat->Addr} {H:Hp} {s:jK} {Q:VK}
theorem After.alloc {l:List jL}{xs:List V}(h:After Γ φ s H (.ref s.length) (s++[.lst l]) Q)(r:Rp Γ φ H s)(hl:RVL Γ φ H l xs)(hb:jM s.length l=true){p:Addr}(hp:H p=none):Q (.ref p) (upd H p (.lst xs)):=by
 obtain⟨g,r'⟩:=r.new (o:=.lst l) (u:=.lst xs) hp hb λ φ' H' g e=>⟨xs,e,RVL.monoW g l xs hb hl⟩
 have:=h (.ref p) _ _ g (by simp) (by unfold jO;simp) (by unfold RV;simp) r'
 exact this
theorem After.tup {l:List jL}{xs:List V}(h:After Γ φ s H (.tup l) s Q)(r:Rp Γ φ H s)(hl:RVL Γ φ H l xs)(hb:jM s.length l=true){p:Addr}(hp:H p=none):Q (.ref p) (upd H p (.tup xs)):=by
 obtain⟨g,r'⟩:=r.same (H':=upd H p (.tup xs)) ((Same.refl H).new hp)
 exact h _ _ _ g (aj _) (by unfold jO;exact hb) (RV.tupI (SqT.of ze) (RVL.mono g l xs hb hl)) r'
theorem After.put {k:Nat}{l l0:List jL}{xs:List V}{d:jL}{v:V}(h:After Γ φ s H d (s.set k (.lst l)) Q)(r:Rp Γ φ H s)(hk:s[k]?=some (.lst l0))(hl:RVL Γ φ H l xs)(hb:jM s.length l=true)
  (hd:d.bnd s.length=true) (hv:RV Γ φ H d v):Q v (upd H (φ k) (.lst xs)):=by
 obtain⟨g,r'⟩:=r.set (o:=.lst l) (u:=.lst xs) hk rfl hb λ H' g e=>⟨xs,e,RVL.monoW g l xs hb hl⟩
 exact h _ _ _ g (by simp) (by rw[bG];exact hd) (RV.mono g d v hd hv) r'
end
variable {Γ:Gm}
theorem keyOf_inj {a b:jL}{k:Key}(ha:keyOf a=some k)(hb:keyOf b=some k):a=b:=by
 cases a with
 | int i =>
  cases ha
  cases b with
  | int j=>cases hb;rfl
  | str y=>cases hb
  | _=>cases hb
 | str x =>
  cases ha
  cases b with
  | int j=>cases hb
  | str y =>
   have h:=au hb
   injection h with h
   injection h with h
   have h2:y=x:=by simpa using h
   rw[h2]
  | _=>cases hb
 | _=>cases ha
theorem key_some {d:jL}(h:d.key=true):∃ k,keyOf d=some k:=by
 cases d with
 | int i=>exact⟨_,rfl⟩
 | str x=>exact⟨_,rfl⟩
 | _=>cases h
theorem key_kV {φ:Nat->Addr}{H:Hp}{d:jL}{k:Key}{v:V}(h:keyOf d=some k)(r:RV Γ φ H d v):v=kV k:=by
 cases d with
 | int i=>cases h;exact r.intE
 | str x=>cases h;exact r.strE
 | _=>cases h
theorem RVD.val {φ:Nat->Addr}{H:Hp}{d:jL}{k:Key}(hk:keyOf d=some k):∀ {l:List (jL×jL)} {kvs:List (Key×V)},RVD Γ φ H l kvs->(ke d l=none/\valV kvs k=none)\/∃ e v,ke d l=some e/\valV kvs k=some v/\RV Γ φ H e v/\e∈l.map (·.2)
 | [],kvs,h=>by
  have h:kvs=[]:=h
  subst h
  exact .inl ⟨rfl,rfl⟩
 | (a,e)::l,kvs,h=>by
  obtain⟨k',v,r,rfl,e2,e3,e4⟩:=h
  by_cases z:a=d
  ·subst z
   rw[hk]at e2;cases e2
   exact .inr ⟨e,v,by unfold ke;rw[if_pos rfl],valV_pos rfl,e3,by simp⟩
  ·have zk:¬ k'=k:=λ q=>z (keyOf_inj e2 (by rw[q];exact hk))
   have e5:ke d ((a,e)::l)=ke d l:=by
    conv=>lhs;unfold ke
    rw[if_neg z]
   rw[e5,valV_neg (show ¬(k',v).1=k from zk)]
   rcases RVD.val hk e4 with q|⟨e',v',q1,q2,q3,q4⟩
   ·exact .inl q
   ·exact .inr ⟨e',v',q1,q2,q3,by simp at q4 ⊢;exact .inr q4⟩
theorem RVD.repl {φ:Nat->Addr}{H:Hp}{d e:jL}{k:Key}{v:V}(hk:keyOf d=some k)(hv:RV Γ φ H e v):∀ {l:List (jL×jL)} {kvs:List (Key×V)},RVD Γ φ H l kvs->RVD Γ φ H (l.map λ p=>if p.1=d then(p.1,e)else p) (kvs.map λ kv=>if kv.1=k then(kv.1,v)else kv)
 | [],kvs,h=>by
  have h:kvs=[]:=h
  subst h;exact(rfl:([]:List (Key×V))=[])
 | (a,e0)::l,kvs,h=>by
  obtain⟨k',v0,r,rfl,e2,e3,e4⟩:=h
  rw[aK,aK]
  by_cases z:a=d
  ·subst z
   rw[hk]at e2;cases e2
   rw[if_pos rfl,if_pos rfl]
   exact⟨k,v,_,rfl,hk,hv,RVD.repl hk hv e4⟩
  ·have zk:¬ k'=k:=λ q=>z (keyOf_inj e2 (by rw[q];exact hk))
   rw[if_neg z,if_neg zk]
   exact⟨k',v0,_,rfl,e2,e3,RVD.repl hk hv e4⟩
theorem RVD.snoc {φ:Nat->Addr}{H:Hp}{d e:jL}{k:Key}{v:V}(hk:keyOf d=some k)(hv:RV Γ φ H e v):∀ {l:List (jL×jL)} {kvs:List (Key×V)},RVD Γ φ H l kvs->RVD Γ φ H (l++[(d,e)]) (kvs++[(k,v)])
 | [],kvs,h=>by
  have h:kvs=[]:=h
  subst h;exact⟨k,v,[],rfl,hk,hv,rfl⟩
 | (a,e0)::l,kvs,h=>by
  obtain⟨k',v0,r,rfl,e2,e3,e4⟩:=h
  exact⟨k',v0,_,rfl,e2,e3,RVD.snoc hk hv e4⟩
theorem RVD.put {φ:Nat->Addr}{H:Hp}{d e:jL}{k:Key}{v:V}{l:List (jL×jL)}{kvs:List (Key×V)}(hk:keyOf d=some k)(hv:RV Γ φ H e v)(h:RVD Γ φ H l kvs):RVD Γ φ H (j4 d e l) (putK kvs k v):=by
 unfold j4 putK
 rw[valV_any]
 rcases h.val hk with⟨q1,q2⟩|⟨e',v',q1,q2,_⟩
 ·rw[q1,q2];exact h.snoc hk hv
 ·rw[q1,q2];exact h.repl hk hv
theorem RVD.length {φ:Nat->Addr}{H:Hp}:∀ {l:List (jL×jL)} {kvs:List (Key×V)},RVD Γ φ H l kvs->kvs.length=l.length
 | [],kvs,h=>by
  have h:kvs=[]:=h
  subst h;rfl
 | (a,e)::l,kvs,h=>by
  obtain⟨k',v,r,rfl,e2,e3,e4⟩:=h
  rw[aR,aR,RVD.length e4]
theorem putD_bnd {n:Nat}{d e:jL}{l:List (jL×jL)}(h:(DV.O.dic l).bnd n=true)(hd:d.bnd n=true)(he:e.bnd n=true):(DV.O.dic (j4 d e l)).bnd n=true:=by
 unfold jR at h ⊢
 rw[ao]at h ⊢
 obtain⟨h1,h2⟩:=h
 have g1:=bndL_iff.mp h1
 have g2:=bndL_iff.mp h2
 unfold j4
 refine⟨bndL_iff.mpr λ x hx=>?_,bndL_iff.mpr λ x hx=>?_⟩
 ·obtain⟨p,hp,rfl⟩:=ax.mp hx
  split at hp
  ·obtain⟨q,hq,rfl⟩:=ax.mp hp
   split
   ·exact g1 _ (bh (f:=(·.1)) hq)
   ·exact g1 _ (bh (f:=(·.1)) hq)
  ·rcases bw.mp hp with q|q
   ·exact g1 _ (bh (f:=(·.1)) q)
   ·rw[bj.mp q];exact hd
 ·obtain⟨p,hp,rfl⟩:=ax.mp hx
  split at hp
  ·obtain⟨q,hq,rfl⟩:=ax.mp hp
   split
   ·exact he
   ·exact g2 _ (bh (f:=(·.2)) hq)
  ·rcases bw.mp hp with q|q
   ·exact g2 _ (bh (f:=(·.2)) q)
   ·rw[bj.mp q];exact he
theorem eqL_cons {f:jL->jL->Option Bool}{a b:jL}{l m:List jL}{z:Bool}(h:j0 f (a::l) (b::m)=some z):∃ x y,f a b=some x/\j0 f l m=some y/\z=(x&&y):=by
 unfold j0 at h
 cases e1:f a b with
 | none=>rw[e1]at h;cases h
 | some x =>
  cases e2:j0 f l m with
  | none=>rw[e1,e2]at h;cases h
  | some y=>rw[e1,e2]at h;exact⟨x,y,rfl,rfl,(au h).symm⟩
theorem eqL_at {f:jL->jL->Option Bool}:∀ {l m:List jL} {z:Bool},j0 f l m=some z->∃ e:Nat->Bool,(∀ j d d',l[j]?=some d->m[j]?=some d'->f d d'=some (e j))/\((l.length==m.length)&&(ah (min l.length m.length)).all e)=z
 | [],[],z,h=>by
  unfold j0 at h
  cases h
  exact⟨λ _=>true,λ j d d' h=>by simp at h,by simp⟩
 | [],b::m,z,h=>by
  unfold j0 at h
  cases h
  exact⟨λ _=>true,λ j d d' h=>by simp at h,by simp⟩
 | a::l,[],z,h=>by
  unfold j0 at h
  cases h
  exact⟨λ _=>true,λ j d d' h1 h2=>by simp at h2,by simp⟩
 | a::l,b::m,z,h=>by
  obtain⟨x,y,e1,e2,ez⟩:=eqL_cons h
  obtain⟨e,h1,h2⟩:=eqL_at e2
  refine⟨λ j=>match j with|0=>x|j+1=>e j,λ j d d' g1 g2=>?_,?_⟩
  ·cases j with
   | zero=>simp at g1 g2;subst g1;subst g2;exact e1
   | succ j=>exact h1 j d d' (by simpa using g1) (by simpa using g2)
  ·rw[aR,aR,show min (l.length+1) (m.length+1)=min l.length m.length+1 by omega,dN,dU,List.all_map,ez,<-h2]
   have:((l.length+1==m.length+1)=(l.length==m.length)):=by
    by_cases q:l.length=m.length
    ·simp[q]
    ·have:¬ l.length+1=m.length+1:=by omega
     simp[q]
   rw[this]
   show((l.length==m.length)&&(x&&(ah _).all e))=_
   cases x<;>cases(l.length==m.length)<;>simp
section
variable {X:Cx} {pins:List (Addr×Obj)} {σ:St} {H:Hp} {sh:ae} {φ:Nat->Addr} {s:jK}
theorem lst_not_tup (I:Inv X pins σ H sh){a:Addr}{xs ys:List V}(h:H a=some (.lst xs))(h':SqT X.K H a ys):False:=by
 rcases h' with(z|⟨o,z⟩)|⟨o,its,n,hk,_⟩
 ·rw[h]at z;cases z
 ·rw[h]at z;cases z
 ·have:=(I.bs a o (I.mod.kin a o hk)).2
  rw[h]at this;cases this
theorem rv_two (I:Inv X pins σ H sh)(hK:X.K=Γ.K)(R:Rp Γ φ H s){a b:jL}{x:V}(h1:RV Γ φ H a x)(h2:RV Γ φ H b x)(n1:j2 s a≠9)(n2:j2 s b≠9):a=b\/∃ l m p xs,a=.tup l/\b=.tup m/\x=.ref p/\RVL Γ φ H l xs/\RVL Γ φ H m xs:=by
 have ofR:∀ {r:Nat},j2 s (.ref r)≠9->∃ l,s[r]?=some (.lst l):=λ {r} h=>by
  have h:(match s[r]? with|some (DV.O.lst l)=>4|_=>9:Nat)≠9:=h
  cases hs:s[r]? with
  | none=>rw[hs]at h;exact absurd rfl h
  | some o =>
   rw[hs]at h
   cases o with
   | lst l=>exact⟨l,rfl⟩
   | _=>exact absurd rfl h
 cases a with
 | non=>have e:=h1.nonE;subst e;cases b with
  | non=>exact .inl rfl
  | bl _=>cases h2.blE
  | int _=>cases h2.intE
  | str _=>cases h2.strE
  | tup _=>obtain⟨_,_,e,_⟩:=h2.tupE;cases e
  | ref _=>cases h2.refE
  | fn _=>exact absurd rfl n2
  | clo _ _=>exact absurd rfl n2
 | bl p=>have e:=h1.blE;subst e;cases b with
  | non=>cases h2.nonE
  | bl _=>cases h2.blE;exact .inl rfl
  | int _=>cases h2.intE
  | str _=>cases h2.strE
  | tup _=>obtain⟨_,_,e,_⟩:=h2.tupE;cases e
  | ref _=>cases h2.refE
  | fn _=>exact absurd rfl n2
  | clo _ _=>exact absurd rfl n2
 | int p=>have e:=h1.intE;subst e;cases b with
  | non=>cases h2.nonE
  | bl _=>cases h2.blE
  | int _=>cases h2.intE;exact .inl rfl
  | str _=>cases h2.strE
  | tup _=>obtain⟨_,_,e,_⟩:=h2.tupE;cases e
  | ref _=>cases h2.refE
  | fn _=>exact absurd rfl n2
  | clo _ _=>exact absurd rfl n2
 | str p=>have e:=h1.strE;subst e;cases b with
  | non=>cases h2.nonE
  | bl _=>cases h2.blE
  | int _=>cases h2.intE
  | str q =>
   have e':p.toArray=q.toArray:=Str.mk.inj (V.str.inj h2.strE)
   have e'':p=q:=by simpa using congrArg ic e'
   subst e'';exact .inl rfl
  | tup _=>obtain⟨_,_,e,_⟩:=h2.tupE;cases e
  | ref _=>cases h2.refE
  | fn _=>exact absurd rfl n2
  | clo _ _=>exact absurd rfl n2
 | tup l =>
  obtain⟨p,xs,e,q1,d1⟩:=h1.tupE;subst e;cases b with
  | non=>cases h2.nonE
  | bl _=>cases h2.blE
  | int _=>cases h2.intE
  | str _=>cases h2.strE
  | tup m =>
   obtain⟨p',ys,e,q2,d2⟩:=h2.tupE
   cases e
   rw[<-hK]at q1 q2
   rw[I.tuple_inj q2 q1]at d2
   exact .inr ⟨l,m,p,xs,rfl,rfl,rfl,d1,d2⟩
  | ref r =>
   cases h2.refE
   obtain⟨m,hm⟩:=ofR n2
   obtain⟨ys,hy,_⟩:=R.addr hm
   rw[<-hK]at q1
   exact(lst_not_tup I hy q1).elim
  | fn _=>exact absurd rfl n2
  | clo _ _=>exact absurd rfl n2
 | ref r =>
  have e:=h1.refE;subst e
  obtain⟨l,hl⟩:=ofR n1
  obtain⟨xs,hx,_⟩:=R.addr hl
  cases b with
  | non=>cases h2.nonE
  | bl _=>cases h2.blE
  | int _=>cases h2.intE
  | str _=>cases h2.strE
  | tup m =>
   obtain⟨p',ys,e,q2,d2⟩:=h2.tupE
   cases e
   rw[<-hK]at q2
   exact(lst_not_tup I hx q2).elim
  | ref r' =>
   obtain⟨m,hm⟩:=ofR n2
   have e:φ r=φ r':=V.ref.inj h2.refE
   rw[R.inj r r' _ _ hl hm rfl rfl e]
   exact .inl rfl
  | fn _=>exact absurd rfl n2
  | clo _ _=>exact absurd rfl n2
 | fn _=>exact absurd rfl n1
 | clo _ _=>exact absurd rfl n1
theorem qY {a b:jL}{z:Bool}(h:jV s a b=some z):kC a b=some z\/(kC a b=none/\ka (j2 s a) (j2 s b)=false/\z=false):=by
 unfold jV at h
 cases e:kC a b with
 | some w=>rw[e]at h;exact .inl h
 | none =>
  rw[e]at h
  cases q:ka (j2 s a) (j2 s b)with
  | true=>rw[q]at h;cases h
  | false=>rw[q]at h;exact .inr ⟨rfl,rfl,(au h).symm⟩
theorem eqLit_kd {a b:jL}{z:Bool}(h:kC a b=some z):j2 s a≠9/\j2 s b≠9:=by
 cases a<;>cases b<;>first|(cases h;done)|(constructor<;>(intro z;cases z))
theorem eqAtom_kd {a b:jL}{z:Bool}(h:jV s a b=some z):j2 s a≠9/\j2 s b≠9:=by
 rcases qY h with h|⟨_,h,_⟩
 ·exact eqLit_kd h
 ·unfold ka at h
  simp only[d3,beq_eq_false_iff_ne]at h
  exact⟨h.1.1,h.1.2⟩
theorem eqAtom_self {a:jL}{z:Bool}(h:jV s a a=some z):z=true:=by
 rcases qY h with h|⟨_,h,_⟩
 ·cases a<;>cases h<;>first|rfl|exact beq_self_eq_true _
 ·unfold ka at h;simp at h
theorem eqv_same (I:Inv X pins σ H sh)(hK:X.K=Γ.K)(R:Rp Γ φ H s):∀(n:Nat) (a b:jL) (x:V) (z:Bool),jT s n a b=some z->RV Γ φ H a x->RV Γ φ H b x->z=true:=by
 have atom:∀(a b:jL) (x:V) (z:Bool),jV s a b=some z->RV Γ φ H a x->RV Γ φ H b x->z=true:=by
  intro a b x z h h1 h2
  rcases rv_two I hK R h1 h2 (eqAtom_kd h).1 (eqAtom_kd h).2 with e|⟨l,m,_,_,rfl,rfl,_⟩
  ·subst e;exact eqAtom_self h
  ·rcases qY h with h|⟨_,h,_⟩
   ·cases h
   ·unfold ka at h;simp[j2]at h
 intro n
 induction n with
 | zero=>intro a b x z h;unfold jT at h;exact atom a b x z h
 | succ n ih =>
  have ihL:∀(l m:List jL) (xs:List V) (z:Bool),j0 (jT s n) l m=some z->RVL Γ φ H l xs->RVL Γ φ H m xs->z=true:=by
   intro l
   induction l with
   | nil =>
    intro m xs z h h1 h2
    cases m with
    | nil=>unfold j0 at h;exact(au h).symm
    | cons b m=>obtain⟨x,r,e,_⟩:=h2.uncons;rw[h1.unnil]at e;cases e
   | cons a l ihl =>
    intro m xs z h h1 h2
    cases m with
    | nil=>obtain⟨x,r,e,_⟩:=h1.uncons;rw[h2.unnil]at e;cases e
    | cons b m =>
     obtain⟨p,q,e1,e2,ez⟩:=eqL_cons h
     obtain⟨v,r,rfl,g1,g2⟩:=h1.uncons
     obtain⟨v',r',e,g3,g4⟩:=h2.uncons
     cases e
     rw[ez,ih a b v p e1 g1 g3,ihl m r q e2 g2 g4];rfl
  intro a b x z h h1 h2
  unfold jT at h
  split at h
  ·rename_i l m
   obtain⟨a,xs,rfl,q1,d1⟩:=h1.tupE
   obtain⟨b,ys,e,q2,d2⟩:=h2.tupE
   cases e
   rw[<-hK]at q1 q2
   rw[I.tuple_inj q2 q1]at d2
   exact ihL l m xs z h d1 d2
  ·rename_i p q
   split at h
   ·rename_i l m hl hm
    obtain⟨xs,e1,d1⟩:=R.addr hl
    obtain⟨ys,e2,d2⟩:=R.addr hm
    have e:=h1.refE.symm.trans h2.refE
    have e':φ p=φ q:=V.ref.inj e
    rw[e',e2]at e1
    have e3:ys=xs:=by injection (au e1)
    subst e3
    split at h
    ·exact ihL l m ys z h d1 d2
    ·rename_i hlen;exact absurd (d1.length.symm.trans d2.length) hlen
   ·cases h
  ·exact atom a b x z h h1 h2
end
variable {Γ:Gm}
inductive Vw (sh:ae):Nat->Value->Prop where
 | non:Vw sh 0 .none
 | bl (b:Bool):Vw sh 1 (.bool b)
 | int (i:Int) (t:Tok):Vw sh 1 (.int i t)
 | str (x:Str) (t:Tok):Vw sh 2 (.str x t)
 | tup {l:Addr} {items:Array Value} (h:sh.heap.IsTuple l items):Vw sh 3 (.ref l)
 | lst {l:Addr} {items:Array Value} (h:sh.heap.IsList l items):Vw sh 4 (.ref l)
theorem Vw.eq {A:aS}{sh:ae}{k k':Nat}{u v:Value}(a:Vw sh k u)(b:Vw sh k' v)(hne:k≠k')(hu:A.units<cLine):fT A sh u v false:=by
 cases a with
 | non=>cases b with
  | non=>exact absurd rfl hne
  | bl b=>exact SeqAt.EqAt.none_bool b
  | int i t=>exact SeqAt.EqAt.none_int i t
  | str x t=>exact SeqAt.EqAt.none_str x t
  | tup h=>exact SeqAt.EqAt.none_tuple h hu
  | lst h=>exact SeqAt.EqAt.none_list h hu
 | bl a=>cases b with
  | non=>exact SeqAt.EqAt.bool_none a
  | bl b=>exact absurd rfl hne
  | int i t=>exact absurd rfl hne
  | str x t=>exact SeqAt.EqAt.bool_str a x t
  | tup h=>exact SeqAt.EqAt.bool_tuple a h hu
  | lst h=>exact SeqAt.EqAt.bool_list a h hu
 | int a q=>cases b with
  | non=>exact SeqAt.EqAt.int_none a q
  | bl b=>exact absurd rfl hne
  | int i t=>exact absurd rfl hne
  | str x t=>exact gT a q x t
  | tup h=>exact SeqAt.EqAt.int_tuple a q h hu
  | lst h=>exact SeqAt.EqAt.int_list a q h hu
 | str a q=>cases b with
  | non=>exact SeqAt.EqAt.str_none a q
  | bl b=>exact SeqAt.EqAt.str_bool a q b
  | int i t=>exact gU a q i t
  | str x t=>exact absurd rfl hne
  | tup h=>exact SeqAt.EqAt.str_tuple a q h hu
  | lst h=>exact SeqAt.EqAt.str_list a q h hu
 | tup g=>cases b with
  | non=>exact SeqAt.EqAt.tuple_none g hu
  | bl b=>exact SeqAt.EqAt.tuple_bool b g hu
  | int i t=>exact SeqAt.EqAt.tuple_int i t g hu
  | str x t=>exact SeqAt.EqAt.tuple_str x t g hu
  | tup h=>exact absurd rfl hne
  | lst h=>exact SeqAt.EqAt.tuple_list g h hu
 | lst g=>cases b with
  | non=>exact SeqAt.EqAt.list_none g hu
  | bl b=>exact SeqAt.EqAt.list_bool b g hu
  | int i t=>exact SeqAt.EqAt.list_int i t g hu
  | str x t=>exact SeqAt.EqAt.list_str x t g hu
  | tup h=>exact SeqAt.EqAt.list_tuple g h hu
  | lst h=>exact absurd rfl hne
theorem Vw.rc {A:aS}{sh:ae}{k k':Nat}{u v:Value}(a:Vw sh k u)(b:Vw sh k' v)(hne:k≠k')(hu:A.units<cLine):jJ A sh u v false:=by
 cases a with
 | non=>cases b with
  | non=>exact absurd rfl hne
  | bl b=>exact SeqAt.RcAt.none_bool b
  | int i t=>exact SeqAt.RcAt.none_int i t
  | str x t=>exact SeqAt.RcAt.none_str x t
  | tup h=>exact SeqAt.RcAt.none_tuple h hu
  | lst h=>exact SeqAt.RcAt.none_list h hu
 | bl a=>cases b with
  | non=>exact SeqAt.RcAt.bool_none a
  | bl b=>exact absurd rfl hne
  | int i t=>exact absurd rfl hne
  | str x t=>exact SeqAt.RcAt.bool_str a x t
  | tup h=>exact SeqAt.RcAt.bool_tuple a h hu
  | lst h=>exact SeqAt.RcAt.bool_list a h hu
 | int a q=>cases b with
  | non=>exact SeqAt.RcAt.int_none a q
  | bl b=>exact absurd rfl hne
  | int i t=>exact absurd rfl hne
  | str x t=>exact SeqAt.RcAt.int_str a q x t
  | tup h=>exact SeqAt.RcAt.int_tuple a q h hu
  | lst h=>exact SeqAt.RcAt.int_list a q h hu
 | str a q=>cases b with
  | non=>exact SeqAt.RcAt.str_none a q
  | bl b=>exact SeqAt.RcAt.str_bool a q b
  | int i t=>exact SeqAt.RcAt.str_int a q i t
  | str x t=>exact absurd rfl hne
  | tup h=>exact SeqAt.RcAt.str_tuple a q h hu
  | lst h=>exact SeqAt.RcAt.str_list a q h hu
 | tup g=>cases b with
  | non=>exact SeqAt.RcAt.tuple_none g hu
  | bl b=>exact SeqAt.RcAt.tuple_bool b g hu
  | int i t=>exact SeqAt.RcAt.tuple_int i t g hu
  | str x t=>exact SeqAt.RcAt.tuple_str x t g hu
  | tup h=>exact absurd rfl hne
  | lst h=>exact SeqAt.RcAt.tuple_list g h hu
 | lst g=>cases b with
  | non=>exact SeqAt.RcAt.list_none g hu
  | bl b=>exact SeqAt.RcAt.list_bool b g hu
  | int i t=>exact SeqAt.RcAt.list_int i t g hu
  | str x t=>exact SeqAt.RcAt.list_str x t g hu
  | tup h=>exact SeqAt.RcAt.list_tuple g h hu
  | lst h=>exact absurd rfl hne
theorem Vw.ne {A:aS}{sh:ae}{k k':Nat}{u v:Value}(a:Vw sh k u)(b:Vw sh k' v)(hne:k≠k')(hu:A.units<cLine):jv A sh u v true:=by
 cases a with
 | non=>cases b with
  | non=>exact absurd rfl hne
  | bl b=>exact SeqAt.RcNeAt.none_bool b
  | int i t=>exact SeqAt.RcNeAt.none_int i t
  | str x t=>exact SeqAt.RcNeAt.none_str x t
  | tup h=>exact SeqAt.RcNeAt.none_tuple h hu
  | lst h=>exact SeqAt.RcNeAt.none_list h hu
 | bl a=>cases b with
  | non=>exact SeqAt.RcNeAt.bool_none a
  | bl b=>exact absurd rfl hne
  | int i t=>exact absurd rfl hne
  | str x t=>exact SeqAt.RcNeAt.bool_str a x t
  | tup h=>exact SeqAt.RcNeAt.bool_tuple a h hu
  | lst h=>exact SeqAt.RcNeAt.bool_list a h hu
 | int a q=>cases b with
  | non=>exact SeqAt.RcNeAt.int_none a q
  | bl b=>exact absurd rfl hne
  | int i t=>exact absurd rfl hne
  | str x t=>exact SeqAt.RcNeAt.int_str a q x t
  | tup h=>exact SeqAt.RcNeAt.int_tuple a q h hu
  | lst h=>exact SeqAt.RcNeAt.int_list a q h hu
 | str a q=>cases b with
  | non=>exact SeqAt.RcNeAt.str_none a q
  | bl b=>exact SeqAt.RcNeAt.str_bool a q b
  | int i t=>exact SeqAt.RcNeAt.str_int a q i t
  | str x t=>exact absurd rfl hne
  | tup h=>exact SeqAt.RcNeAt.str_tuple a q h hu
  | lst h=>exact SeqAt.RcNeAt.str_list a q h hu
 | tup g=>cases b with
  | non=>exact SeqAt.RcNeAt.tuple_none g hu
  | bl b=>exact SeqAt.RcNeAt.tuple_bool b g hu
  | int i t=>exact SeqAt.RcNeAt.tuple_int i t g hu
  | str x t=>exact SeqAt.RcNeAt.tuple_str x t g hu
  | tup h=>exact absurd rfl hne
  | lst h=>exact SeqAt.RcNeAt.tuple_list g h hu
 | lst g=>cases b with
  | non=>exact SeqAt.RcNeAt.list_none g hu
  | bl b=>exact SeqAt.RcNeAt.list_bool b g hu
  | int i t=>exact SeqAt.RcNeAt.list_int i t g hu
  | str x t=>exact SeqAt.RcNeAt.list_str x t g hu
  | tup h=>exact SeqAt.RcNeAt.list_tuple g h hu
  | lst h=>exact absurd rfl hne
theorem mk_beq (a b:List Nat):((⟨a.toArray⟩:Str)==⟨b.toArray⟩)=(a==b):=by
 by_cases e:a=b
 ·subst e;simp
 ·have:(⟨a.toArray⟩:Str)≠⟨b.toArray⟩:=λ q=>e (by simpa using congrArg (λ z=>z.cps.toList) q)
  rw[beq_eq_false_iff_ne.mpr this,beq_eq_false_iff_ne.mpr e]
structure Cmp (A:aS)(sh:ae)(u v:Value)(z:Bool):Prop where
 rc:jJ A sh u v z
 ne:jv A sh u v (!z)
section
variable {X:Cx} {pins:List (Addr×Obj)} {σ:St} {H:Hp} {sh:ae} {φ:Nat->Addr} {s:jK}
theorem vw_of (I:Inv X pins σ H sh)(hK:X.K=Γ.K)(R:Rp Γ φ H s){d:jL}{x:V}{u:Value}(h:RV Γ φ H d x)(r:RelV x u)(hk:j2 s d≠9):Vw sh (j2 s d) u:=by
 cases d with
 | non=>have e:=h.nonE;subst e;cases r;exact .non
 | bl b=>have e:=h.blE;subst e;cases r;exact .bl b
 | int i=>have e:=h.intE;subst e;obtain⟨t,rfl⟩:=r;exact .int i t
 | str y=>have e:=h.strE;subst e;obtain⟨t,rfl⟩:=r;exact .str _ t
 | tup l =>
  obtain⟨a,xs,e,q,_⟩:=h.tupE
  subst e;cases r
  rw[<-hK]at q
  obtain⟨its,_,t,_⟩:=I.tuple q
  exact .tup t
 | ref n =>
  have e:=h.refE;subst e;cases r
  have hk:(match s[n]? with|some (DV.O.lst l)=>4|_=>9:Nat)≠9:=hk
  show Vw sh (match s[n]? with|some (DV.O.lst l)=>4|_=>9:Nat) _
  cases hs:s[n]? with
  | none=>rw[hs]at hk;exact absurd rfl hk
  | some o =>
   rw[hs]at hk
   cases o with
   | lst l =>
    obtain⟨xs,e,_⟩:=R.addr hs
    obtain⟨its,_,t,_⟩:=I.list (SqL.of e)
    exact .lst t.isList
   | _=>exact absurd rfl hk
 | fn _=>exact absurd rfl hk
 | clo _ _=>exact absurd rfl hk
theorem eqAtom_ok (I:Inv X pins σ H sh)(hK:X.K=Γ.K)(R:Rp Γ φ H s){a b:jL}{x y:V}{u v:Value}{A:aS}{z:Bool}(h:jV s a b=some z)(h1:RV Γ φ H a x)(h2:RV Γ φ H b y)(r1:RelV x u)(r2:RelV y v)(hu:A.units<cLine) :
  fT A sh u v z/\Cmp A sh u v z:=by
 rcases qY h with h|⟨_,hn,hz⟩
 ·cases a<;>cases b<;>try cases h
  ·cases h1.nonE;cases h2.nonE;cases r1;cases r2
   exact⟨f6 _,SeqAt.RcAt.none_none,SeqAt.RcNeAt.none_none⟩
  ·cases h1.blE;cases h2.blE;cases r1;cases r2
   exact⟨SeqAt.EqAt.bool_bool _ _,SeqAt.RcAt.bool_bool _ _,SeqAt.RcNeAt.bool_bool _ _⟩
  ·cases h1.blE;cases h2.intE;cases r1;obtain⟨t',rfl⟩:=r2
   exact⟨SeqAt.EqAt.bool_int _ _ _,SeqAt.RcAt.bool_int _ _ _,SeqAt.RcNeAt.bool_int _ _ _⟩
  ·cases h1.intE;cases h2.blE;obtain⟨t,rfl⟩:=r1;cases r2
   exact⟨SeqAt.EqAt.int_bool _ _ _,SeqAt.RcAt.int_bool _ _ _,SeqAt.RcNeAt.int_bool _ _ _⟩
  ·cases h1.intE;cases h2.intE;obtain⟨t,rfl⟩:=r1;obtain⟨t',rfl⟩:=r2
   exact⟨SeqAt.EqAt.int_int _ _ _ _,SeqAt.RcAt.int_int _ _ _ _,SeqAt.RcNeAt.int_int _ _ _ _⟩
  ·cases h1.strE;cases h2.strE;obtain⟨t,rfl⟩:=r1;obtain⟨t',rfl⟩:=r2
   rw[<-mk_beq]
   exact⟨SeqAt.EqAt.str_str _ _ _ _,SeqAt.RcAt.str_str _ _ _ _,SeqAt.RcNeAt.str_str _ _ _ _⟩
 ·subst hz
  unfold ka at hn
  simp only[d3,beq_eq_false_iff_ne]at hn
  have w1:=vw_of I hK R h1 r1 hn.1.1
  have w2:=vw_of I hK R h2 r2 hn.1.2
  exact⟨w1.eq w2 hn.2 hu,w1.rc w2 hn.2 hu,w1.ne w2 hn.2 hu⟩
theorem eqv_ok (I:Inv X pins σ H sh)(hK:X.K=Γ.K)(R:Rp Γ φ H s):∀(n:Nat) (a b:jL) (x y:V) (u v:Value) (A:aS) (z:Bool),jT s n a b=some z->RV Γ φ H a x->RV Γ φ H b y->RelV x u->RelV y v->Room n A ->
  fT A sh u v z/\Cmp A sh u v z:=by
 intro n
 induction n with
 | zero=>intro a b x y u v A z h h1 h2 r1 r2 hr;unfold jT at h;exact eqAtom_ok I hK R h h1 h2 r1 r2 hr.units0
 | succ n ih =>
  have items:∀ {l m:List jL} {xs ys:List V} {its its':List Value} {A:aS} {e:Nat->Bool},RVL Γ φ H l xs->RVL Γ φ H m ys->Vals xs its->Vals ys its'->Room n A->(∀ j d d',l[j]?=some d->m[j]?=some d'->jT s n d d'=some (e j)) ->
    ∀ j (h1:j<its.toArray.size) (h2:j<its'.toArray.size),fT A sh its.toArray[j] its'.toArray[j] (e j):=by
   intro l m xs ys its its' A e d1 d2 v1 v2 hr he j h1 h2
   have l1:=v1.length
   have l2:=v2.length
   have e1:=d1.length
   have e2:=d2.length
   have h1':j<its.length:=by simpa using h1
   have h2':j<its'.length:=by simpa using h2
   have hj:j<l.length:=by omega
   have hj':j<m.length:=by omega
   obtain⟨x,ex,dx⟩:=d1.get (af hj)
   obtain⟨y,ey,dy⟩:=d2.get (af hj')
   obtain⟨u,eu,ru⟩:=v1.get ex
   obtain⟨w,ew,rw'⟩:=v2.get ey
   have g1:its.toArray[j]=u:=by
    have:=af h1'
    rw[eu]at this
    simpa using(au this).symm
   have g2:its'.toArray[j]=w:=by
    have:=af h2'
    rw[ew]at this
    simpa using(au this).symm
   rw[g1,g2]
   exact(ih _ _ x y u w A (e j) (he j _ _ (af hj) (af hj')) dx dy ru rw' hr).1
  intro a b x y u v A z h h1 h2 r1 r2 hr
  have hz:=h
  unfold jT at h
  split at h
  ·rename_i l m
   obtain⟨p,xs,ex,q1,d1⟩:=id h1.tupE
   obtain⟨q,ys,ey,q2,d2⟩:=id h2.tupE
   subst ex;subst ey
   cases r1;cases r2
   rw[<-hK]at q1 q2
   obtain⟨its,v1,t1,_⟩:=I.tuple q1
   obtain⟨its',v2,t2,_⟩:=I.tuple q2
   obtain⟨e,he,hall⟩:=eqL_at h
   have l1:=v1.length
   have l2:=v2.length
   have e1:=d1.length
   have e2:=d2.length
   have sz:((ah (min its.toArray.size its'.toArray.size)).all e&&its.toArray.size==its'.toArray.size)=z:=by
    rw[<-hall,Bool.and_comm,show its.toArray.size=l.length by simp;omega,show its'.toArray.size=m.length by simp;omega]
   have key:=SeqAt.RcAt.tuples (A:=A) (s:=sh) (e:=e) t1 t2 hr.units0 (items d1 d2 v1 v2 hr.in1 he)
   have kne:=SeqAt.RcNeAt.tuples (A:=A) (s:=sh) (e:=e) t1 t2 hr.units0 (items d1 d2 v1 v2 hr.in1 he)
   rw[sz]at key kne
   refine⟨?_,key,kne⟩
   by_cases hab:p=q
   ·subst hab
    rw[eqv_same I hK R _ _ _ _ _ hz h1 h2]
    exact f6 _
   ·exact hV hab key
  ·rename_i p q
   split at h
   ·rename_i l m hl hm
    obtain⟨xs,e1,d1⟩:=R.addr hl
    obtain⟨ys,e2,d2⟩:=R.addr hm
    have ex:=h1.refE
    have ey:=h2.refE
    subst ex;subst ey
    cases r1;cases r2
    obtain⟨its,v1,t1,_⟩:=I.list (SqL.of e1)
    obtain⟨its',v2,t2,_⟩:=I.list (SqL.of e2)
    have l1:=v1.length
    have l2:=v2.length
    have c1:=d1.length
    have c2:=d2.length
    have fin:Cmp A sh (.ref (φ p)) (.ref (φ q)) z:=by
     split at h
     ·rename_i hlen
      obtain⟨e,he,hall⟩:=eqL_at h
      have sz:(ah its.toArray.size).all e=z:=by
       rw[<-hall,show its.toArray.size=l.length by simp;omega,hlen]
       simp
      have key:=SeqAt.RcAt.lists (A:=A) (s:=sh) (e:=e) t1.isList t2.isList (by simp;omega) hr.units0 (items d1 d2 v1 v2 hr.in1 he)
      have kne:=SeqAt.RcNeAt.lists (A:=A) (s:=sh) (e:=e) t1.isList t2.isList (by simp;omega) hr.units0 (items d1 d2 v1 v2 hr.in1 he)
      rw[sz]at key kne
      exact⟨key,kne⟩
     ·rename_i hlen
      cases h
      have hs:(its.toArray.size != its'.toArray.size)=true:=by simp;omega
      exact⟨SeqAt.RcAt.lists_lengths t1.isList t2.isList hs hr.units0,SeqAt.RcNeAt.lists_lengths t1.isList t2.isList hs hr.units0⟩
    refine⟨?_,fin⟩
    by_cases hab:φ p=φ q
    ·rw[eqv_same I hK R _ _ _ _ _ hz RV.refI (by rw[hab];exact RV.refI),hab]
     exact f6 _
    ·exact hV hab fin.rc
   ·cases h
  ·exact eqAtom_ok I hK R h h1 h2 r1 r2 hr.units0
end
variable {Γ:Gm} {X:Cx}
noncomputable def opOf:la->Operator
 | .add=>.Add|.sub=>.Sub|.mul=>.Mult|.fdiv=>.FloorDiv|.mod=>.Mod|.pow=>.Pow|.shl=>.LShift|.shr=>.RShift|.band=>.BitAnd|.bor=>.BitOr
noncomputable def copOf:kM->CmpOp
 | .eq=>.Eq|.ne=>.NotEq|.lt=>.Lt|.le=>.LtE|.gt=>.Gt|.ge=>.GtE|.isin=>.In|.notin=>.NotIn
noncomputable def rOp (Γ:Gm)(f:jL->jL->jK->jQ jL):R2:=λ x y H Q=>∃ φ s a b d s',Rp Γ φ H s/\RV Γ φ H a x/\RV Γ φ H b y/\a.bnd s.length=true/\b.bnd s.length=true/\f a b s=.ok d s'/\After Γ φ s H d s' Q
theorem qb {d e:jL}{s t:jK}(h:kZ d s=.ok e t):d=e/\s=t:=by
 unfold kZ at h
 cases h
 exact⟨rfl,rfl⟩
theorem qt {o:j6}{e:jL}{s t:jK}(h:j9 o s=.ok e t):e=.ref s.length/\t=s++[o]:=by
 unfold j9 at h
 cases h
 exact⟨rfl,rfl⟩
theorem str_app (a b:List Nat):(⟨a.toArray⟩:Str)++⟨b.toArray⟩=⟨(a++b).toArray⟩:=by
 show Str.append _ _=_
 unfold Str.append
 simp
theorem qy:jU<=aH:=by rw[eU];decide
theorem op_mulB:OpR X (bV .Mult) (rI (λ i j=>DV.mulOk i j=true) λ i j=>.int (i*j)):=opI λ i j _ _ _ _ _ hc q=>mul_int q (by
 unfold DV.mulOk at hc
 simp only[bK,ao,decide_eq_true_eq]at hc
 rcases hc with(h|h)|⟨h1,h2⟩
 ·exact CMul.ok (.inl (by omega))
 ·exact CMul.ok (.inr (by omega))
 ·unfold DV.BIG at h1 h2
  exact IntMulOk.of_le (m:=60000) (n:=60000) (intBits_le_iff.mpr h1) (intBits_le_iff.mpr h2) (by decide))
theorem rep_fold (l:List Nat):∀(n:Nat) (acc:Array Nat),(ar n l.toArray).foldl (·++·) acc=acc++(j1 n l).toArray
 | 0,acc=>by simp[j1]
 | n+1,acc=>by
  rw[bH,cu,rep_fold l n]
  simp[j1,gW]
theorem rep_one (l:List Nat):j1 1 l=l:=by simp[j1]
theorem rep_nil:∀ n,j1 n []=[]
 | 0=>rfl
 | n+1=>by simp[j1,rep_nil n]
theorem rep_len (l:List Nat):∀ n,(j1 n l).length=l.length*n
 | 0=>by simp[j1]
 | n+1=>by simp[j1,rep_len l n,iJ];omega
theorem op_mulS:OpR X (bV .Mult) (λ x y H Q=>∃(l:List Nat) (n:Int),x=.str ⟨l.toArray⟩/\y=.int n/\(0<=n/\n<=1000000/\l.length*n.toNat<=jU)/\Q (.str ⟨(j1 n.toNat l).toArray⟩) H):=by
 intro pins s σ H x y v u Q I rx ry h
 obtain⟨l,n,rfl,rfl,⟨h0,h1,h2⟩,q⟩:=h
 obtain⟨t,rfl⟩:=rx
 obtain⟨t',rfl⟩:=ry
 have hlen:(⟨l.toArray⟩:Str).length=l.length:=by show l.toArray.size=_;simp
 have hL:=qy
 have h64:=line63
 refine SB.mul ⟨?_,λ hn _=>?_,λ hn _=>?_⟩ λ t2 k=>?_
 ·rw[decide_eq_false (by omega),decide_eq_false (by omega)];rfl
 ·rw[hlen]
  have hn1:1<=n:=by omega
  intro hgt
  have h3:(l.length:Int)*n<=1000000:=by
   have:((l.length*n.toNat:Nat):Int)<=(jU:Nat):=Int.ofNat_le.mpr h2
   rw[iM,gK h0]at this
   have e:((jU:Nat):Int)=1000000:=by unfold jU;rfl
   omega
  have h4:(l.length:Int)<=1000000:=by
   have:(l.length:Int)*1<=(l.length:Int)*n:=d4 hn1 (by omega)
   omega
  have h5:(1000000:Int)<=(2^63 - 1) / n:=by
   rw[Int.le_ediv_iff_mul_le (by omega)]
   have:(1000000:Int)*n<=1000000*1000000:=d4 h1 (by omega)
   omega
  omega
 ·rw[hlen]
  unfold jl
  exact decide_eq_false (by omega)
 ·have e:Txt.mul ⟨l.toArray⟩ n=⟨(j1 n.toNat l).toArray⟩:=by
   unfold Txt.mul
   split
   ·have:n.toNat=0:=by omega
    rw[this];rfl
   ·split
    ·rename_i hc
     rw[bK]at hc
     rcases hc with hc|hc
     ·have:n=1:=by simpa using hc
      subst this
      show(⟨l.toArray⟩:Str)=⟨(j1 1 l).toArray⟩
      rw[rep_one]
     ·have:l=[]:=by
       have:=eq_of_beq hc
       rw[hlen]at this
       exact cF.mp this
      subst this
      rw[rep_nil]
    ·show(⟨(ar n.toNat l.toArray).foldl (·++·) #[]⟩:Str)=_
     rw[rep_fold];simp
  rw[e]
  exact⟨.str _,H,I.tok _,⟨_,rfl⟩,q⟩
theorem bndL_repD {n:Nat}{l:List jL}(h:jM n l=true):∀ k,jM n (k8 k l)=true
 | 0=>rfl
 | k+1=>z0 h (bndL_repD h k)
theorem RVL.repD {φ:Nat->Addr}{H:Hp}{l:List jL}{xs:List V}(h:RVL Γ φ H l xs):∀ k,RVL Γ φ H (k8 k l) (repT k xs)
 | 0=>RVL.nil
 | k+1=>h.append (RVL.repD h k)
theorem repT_flat {α:Type}(xs:List α):∀ k,repT k xs=(ar k xs).flatten
 | 0=>rfl
 | k+1=>by rw[bH,cU,<-repT_flat xs k];rfl
theorem op_bin (hK:X.K=Γ.K)(op:la):OpR X (bV (opOf op)) (rOp Γ (DV.binop op)):=by
 intro pins s σ H x y v u Q I rx ry h
 obtain⟨φ,st,a,b,d,st',R,ha,hb,na,nb,hf,q⟩:=h
 cases op with
 | add =>
  cases a with
  | int a =>
   cases b with
   | int b =>
    change(kZ _) st=_ at hf
    obtain⟨rfl,rfl⟩:=qb hf
    have ex:=ha.intE;have ey:=hb.intE;subst ex;subst ey
    exact op_add pins s σ H _ _ v u Q I rx ry ⟨_,_,rfl,rfl,q.here R rfl RV.intI⟩
   | _=>cases hf
  | str a =>
   cases b with
   | str b =>
    change(if _ then _ else _:kE jL) st=_ at hf
    split at hf
    ·rename_i hl
     obtain⟨rfl,rfl⟩:=qb hf
     have ex:=ha.strE;have ey:=hb.strE;subst ex;subst ey
     refine op_add_str pins s σ H _ _ v u Q I rx ry ⟨_,_,rfl,rfl,?_,?_⟩
     ·show a.toArray.size+b.toArray.size<=_
      simp only[av]
      exact am hl qy
     ·rw[str_app];exact q.here R rfl (RV.strI (by rw[aW];exact hl))
    ·cases hf
   | _=>cases hf
  | tup a =>
   cases b with
   | tup b =>
    change(if _ then _ else _:kE jL) st=_ at hf
    split at hf
    ·rename_i hl
     obtain⟨rfl,rfl⟩:=qb hf
     obtain⟨p,xs,rfl,h1,d1⟩:=ha.tupE
     obtain⟨p',ys,rfl,h2,d2⟩:=hb.tupE
     refine op_catK hK pins s σ H _ _ v u Q I rx ry ⟨p,p',xs,ys,rfl,rfl,h1,h2,?_,λ t H' e ht=>?_⟩
     ·rw[d1.length,d2.length];exact am hl qy
     ·obtain⟨g,r'⟩:=R.same e
      unfold jO at na nb
      exact q _ _ _ g (aj _) (by unfold jO;exact z0 na nb) (RV.tupI ht ((RVL.mono g _ _ na d1).append (RVL.mono g _ _ nb d2))) r'
    ·cases hf
   | _=>cases hf
  | ref a =>
   cases b with
   | ref b =>
    change(match st[a]?,st[b]? with|some (DV.O.lst l),some (DV.O.lst m)=>if l.length+m.length<=jU then j9 (.lst (l++m)) st else .bad|_,_=>.bad:jQ jL)=_ at hf
    split at hf
    ·rename_i l m h1 h2
     split at hf
     ·rename_i hl
      obtain⟨rfl,rfl⟩:=qt hf
      obtain⟨xs,e1,d1⟩:=R.addr h1
      obtain⟨ys,e2,d2⟩:=R.addr h2
      have ex:=ha.refE;have ey:=hb.refE;subst ex;subst ey
      have b1:=R.wf _ _ h1
      have b2:=R.wf _ _ h2
      unfold jR at b1 b2
      refine op_cat pins s σ H _ _ v u Q I rx ry ⟨φ a,φ b,xs,ys,rfl,rfl,e1,e2,?_,λ p hp=>?_⟩
      ·rw[d1.length,d2.length];exact am hl qy
      ·exact q.alloc R (d1.append d2) (z0 b1 b2) hp
     ·cases hf
    ·cases hf
   | _=>cases hf
  | _=>cases hf
 | sub =>
  cases a with
  | int a =>
   cases b with
   | int b =>
    change(kZ _) st=_ at hf
    obtain⟨rfl,rfl⟩:=qb hf
    have ex:=ha.intE;have ey:=hb.intE;subst ex;subst ey
    exact op_sub pins s σ H _ _ v u Q I rx ry ⟨_,_,rfl,rfl,q.here R rfl RV.intI⟩
   | _=>cases hf
  | _=>cases hf
 | mul =>
  cases a with
  | int a =>
   cases b with
   | int b =>
    change(if _ then _ else _:kE jL) st=_ at hf
    split at hf
    ·rename_i hc
     obtain⟨rfl,rfl⟩:=qb hf
     have ex:=ha.intE;have ey:=hb.intE;subst ex;subst ey
     exact op_mulB pins s σ H _ _ v u Q I rx ry ⟨_,_,rfl,rfl,hc,q.here R rfl RV.intI⟩
    ·cases hf
   | _=>cases hf
  | str a =>
   cases b with
   | int b =>
    change(if _ then _ else _:kE jL) st=_ at hf
    split at hf
    ·rename_i hc
     obtain⟨rfl,rfl⟩:=qb hf
     have ex:=ha.strE;have ey:=hb.intE;subst ex;subst ey
     exact op_mulS pins s σ H _ _ v u Q I rx ry ⟨_,_,rfl,rfl,hc,q.here R rfl (RV.strI (by rw[rep_len];exact hc.2.2))⟩
    ·cases hf
   | _=>cases hf
  | tup a =>
   cases b with
   | int b =>
    change(if _ then _ else _:kE jL) st=_ at hf
    split at hf
    ·rename_i hc
     obtain⟨rfl,rfl⟩:=qb hf
     obtain⟨p,xs,rfl,h1,d1⟩:=ha.tupE
     have ey:=hb.intE;subst ey
     refine op_mulT hK pins s σ H _ _ v u Q I rx ry ⟨p,xs,_,rfl,rfl,h1,⟨hc.1,hc.2.1,by rw[d1.length];exact hc.2.2⟩,λ t H' e ht=>?_⟩
     obtain⟨g,r'⟩:=R.same e
     unfold jO at na
     exact q _ _ _ g (aj _) (by unfold jO;exact bndL_repD na _) (RV.tupI ht (RVL.repD (RVL.mono g _ _ na d1) _)) r'
    ·cases hf
   | _=>cases hf
  | ref a =>
   cases b with
   | int b =>
    change(match st[a]? with|some (DV.O.lst l)=>if 0<=b/\b<=1000000/\l.length*b.toNat<=jU then j9 (.lst (k8 b.toNat l)) st else .bad|_=>.bad:jQ jL)=_ at hf
    split at hf
    ·rename_i l h1
     split at hf
     ·rename_i hc
      obtain⟨rfl,rfl⟩:=qt hf
      obtain⟨xs,e1,d1⟩:=R.addr h1
      have ex:=ha.refE;have ey:=hb.intE;subst ex;subst ey
      have b1:=R.wf _ _ h1
      unfold jR at b1
      refine op_rep pins s σ H _ _ v u Q I rx ry ⟨φ a,b,xs,rfl,rfl,e1,by omega,by omega,?_,λ p hp=>?_⟩
      ·rw[d1.length];exact am hc.2.2 qy
      ·rw[<-repT_flat];exact q.alloc R (RVL.repD d1 _) (bndL_repD b1 _) hp
     ·cases hf
    ·cases hf
   | _=>cases hf
  | _=>cases hf
 | fdiv =>
  cases a with
  | int a =>
   cases b with
   | int b =>
    change(if _ then _ else _:kE jL) st=_ at hf
    split at hf
    ·rename_i hc
     obtain⟨rfl,rfl⟩:=qb hf
     have ex:=ha.intE;have ey:=hb.intE;subst ex;subst ey
     refine op_fdivL pins s σ H _ _ v u Q I rx ry ⟨_,_,rfl,rfl,⟨hc.1,?_⟩,q.here R rfl RV.intI⟩
     have:=hc.2
     unfold DV.DIVL at this
     simpa using this
    ·cases hf
   | _=>cases hf
  | _=>cases hf
 | mod =>
  cases a with
  | int a =>
   cases b with
   | int b =>
    change(if _ then _ else _:kE jL) st=_ at hf
    split at hf
    ·rename_i hc
     obtain⟨rfl,rfl⟩:=qb hf
     have ex:=ha.intE;have ey:=hb.intE;subst ex;subst ey
     exact op_mod pins s σ H _ _ v u Q I rx ry ⟨_,_,rfl,rfl,hc,q.here R rfl RV.intI⟩
    ·cases hf
   | _=>cases hf
  | _=>cases hf
 | pow =>
  cases a with
  | int a =>
   cases b with
   | int b =>
    change(if _ then _ else _:kE jL) st=_ at hf
    split at hf
    ·rename_i hc
     obtain⟨rfl,rfl⟩:=qb hf
     have ex:=ha.intE;have ey:=hb.intE;subst ex;subst ey
     exact op_pow pins s σ H _ _ v u Q I rx ry ⟨_,_,rfl,rfl,hc,q.here R rfl RV.intI⟩
    ·cases hf
   | _=>cases hf
  | _=>cases hf
 | shl =>
  cases a with
  | int a =>
   cases b with
   | int b =>
    change(if _ then _ else _:kE jL) st=_ at hf
    split at hf
    ·rename_i hc
     obtain⟨rfl,rfl⟩:=qb hf
     have ex:=ha.intE;have ey:=hb.intE;subst ex;subst ey
     exact op_shl pins s σ H _ _ v u Q I rx ry ⟨_,_,rfl,rfl,hc,q.here R rfl RV.intI⟩
    ·cases hf
   | _=>cases hf
  | _=>cases hf
 | shr =>
  cases a with
  | int a =>
   cases b with
   | int b =>
    change(if _ then _ else _:kE jL) st=_ at hf
    split at hf
    ·rename_i hc
     obtain⟨rfl,rfl⟩:=qb hf
     have ex:=ha.intE;have ey:=hb.intE;subst ex;subst ey
     exact op_shr pins s σ H _ _ v u Q I rx ry ⟨_,_,rfl,rfl,hc,q.here R rfl RV.intI⟩
    ·cases hf
   | _=>cases hf
  | _=>cases hf
 | band=>cases hf
 | bor=>cases hf
variable {Γ:Gm} {X:Cx} {pins:List (Addr×Obj)} {σ:St} {H:Hp} {sh:ae} {φ:Nat->Addr} {s:jK}
theorem eqv_kd {n:Nat}{a b:jL}{z:Bool}(h:jT s n a b=some z):j2 s a≠9:=by
 cases n with
 | zero=>unfold jT at h;exact(eqAtom_kd h).1
 | succ n =>
  unfold jT at h
  split at h
  ·simp[j2]
  ·split at h
   ·rename_i h1 _;simp[j2,h1]
   ·cases h
  ·exact(eqAtom_kd h).1
theorem eqv_congr (I:Inv X pins σ H sh)(hK:X.K=Γ.K)(R:Rp Γ φ H s):∀(n:Nat) (a b c:jL) (x:V) (p q:Bool),RV Γ φ H a x->RV Γ φ H b x->jT s n a c=some p->jT s n b c=some q->p=q:=by
 intro n
 induction n with
 | zero =>
  intro a b c x p q h1 h2 e1 e2
  rcases rv_two I hK R h1 h2 (eqv_kd e1) (eqv_kd e2)with e|⟨l,m,_,_,rfl,rfl,_⟩
  ·subst e;rw[e1]at e2;exact au e2
  ·unfold jT at e1 e2
   have:jV s (.tup l) c=jV s (.tup m) c:=by unfold jV;cases c<;>rfl
   rw[this,e2]at e1;exact(au e1).symm
 | succ n ih =>
  have ihL:∀(l m k:List jL) (xs:List V) (p q:Bool),RVL Γ φ H l xs->RVL Γ φ H m xs->j0 (jT s n) l k=some p->j0 (jT s n) m k=some q->p=q:=by
   intro l
   induction l with
   | nil =>
    intro m k xs p q h1 h2 e1 e2
    have:=h1.unnil;subst this
    have hm:m=[]:=by have:=h2.length;exact cF.mp this.symm
    subst hm
    rw[e1]at e2;exact au e2
   | cons a l ihl =>
    intro m k xs p q h1 h2 e1 e2
    obtain⟨x,r,rfl,g1,g2⟩:=h1.uncons
    cases m with
    | nil=>have:=h2.unnil;cases this
    | cons b m =>
     obtain⟨x',r',e,g3,g4⟩:=h2.uncons
     cases e
     cases k with
     | nil=>unfold j0 at e1 e2;rw[<-au e1,<-au e2]
     | cons c k =>
      obtain⟨p1,p2,a1,a2,a3⟩:=eqL_cons e1
      obtain⟨q1,q2,b1,b2,b3⟩:=eqL_cons e2
      rw[a3,b3,ih a b c x p1 q1 g1 g3 a1 b1,ihl m k r p2 q2 g2 g4 a2 b2]
  intro a b c x p q h1 h2 e1 e2
  rcases rv_two I hK R h1 h2 (eqv_kd e1) (eqv_kd e2)with e|⟨l,m,_,xs,rfl,rfl,_,d1,d2⟩
  ·subst e;rw[e1]at e2;exact au e2
  ·cases c with
   | tup k=>unfold jT at e1 e2;exact ihL l m k xs p q d1 d2 e1 e2
   | _ =>
    unfold jT at e1 e2
    simp only at e1 e2
    have e3:jV s (.tup l)=jV s (.tup m):=by funext c;unfold jV;cases c<;>rfl
    rw[e3]at e1
    exact au (e1.symm.trans e2)
theorem inL_at {x:jL}:∀ {l:List jL} {z:Bool},ku s x l=some z->∃ e:Nat->Bool,(∀ j d,l[j]?=some d->jT s jY d x=some (e j))/\(z=true↔∃ j,j<l.length/\e j=true)
 | [],z,h=>by
  unfold ku at h
  cases h
  exact⟨λ _=>true,λ j d h=>by simp at h,by simp⟩
 | y::l,z,h=>by
  unfold ku at h
  cases e1:jT s jY y x with
  | none=>rw[e1]at h;cases h
  | some a =>
   cases e2:ku s x l with
   | none=>rw[e1,e2]at h;cases h
   | some b =>
    rw[e1,e2]at h
    obtain⟨e,h1,h2⟩:=inL_at e2
    refine⟨λ j=>match j with|0=>a|j+1=>e j,λ j d g=>?_,?_⟩
    ·cases j with
     | zero=>simp at g;subst g;exact e1
     | succ j=>exact h1 j d (by simpa using g)
    ·have hz:(a||b)=z:=au h
     rw[<-hz,bK,h2]
     constructor
     ·rintro(q|⟨j,hj,q⟩)
      ·exact⟨0,by simp,q⟩
      ·exact⟨j+1,by simpa using hj,q⟩
     ·rintro⟨j,hj,q⟩
      cases j with
      | zero=>exact .inl q
      | succ j=>exact .inr ⟨j,by simpa using hj,q⟩
theorem in_fun (I:Inv X pins σ H sh)(hK:X.K=Γ.K)(R:Rp Γ φ H s){x:jL}{xv:V}{xu:Value}(hx:RV Γ φ H x xv)(rx:RelV xv xu){l:List jL}{ys:List V}{its:List Value}(hl:RVL Γ φ H l ys)(hv:Vals ys its){z:Bool}(h:ku s x l=some z){A:aS}(hr:Room jY A) :
  ∃ e:Value->Bool,(∀ y,y∈its.toArray->fT A sh y xu (e y))/\its.toArray.any e=z:=by
 obtain⟨e,h1,h2⟩:=inL_at h
 have len:its.length=l.length:=by rw[<-hv.length];exact hl.length
 have at':∀ j u,its[j]?=some u->∃ d y,l[j]?=some d/\ys[j]?=some y/\RV Γ φ H d y/\RelV y u:=λ j u g=>by
  have hj:j<l.length:=by rw[<-len];exact(ac.mp g).1
  obtain⟨y,g1,g2⟩:=hl.get (af hj)
  obtain⟨u',g3,g4⟩:=hv.get g1
  rw[g]at g3;cases g3
  exact⟨_,y,af hj,g1,g2,g4⟩
 classical
 let f:Value->Bool:=λ u=>decide (∃ j,its[j]?=some u/\e j=true)
 have hf:∀ j u,its[j]?=some u->f u=e j:=λ j u g=>by
  obtain⟨d,y,g1,g2,g3,g4⟩:=at' j u g
  cases q:e j with
  | true=>exact decide_eq_true ⟨j,g,q⟩
  | false =>
   refine decide_eq_false λ⟨k,g',q'⟩=>?_
   obtain⟨d',y',k1,k2,k3,k4⟩:=at' k u g'
   have ey:y'=y:=k4.inj g4
   subst ey
   have:=eqv_congr I hK R _ d d' x _ _ _ g3 k3 (h1 j d g1) (h1 k d' k1)
   rw[q,q']at this;cases this
 refine⟨f,λ u hu=>?_,?_⟩
 ·obtain⟨j,hj,g⟩:=cy.mp (by simpa using hu:u∈its)
  have g':its[j]?=some u:=by rw[af hj,g]
  obtain⟨d,y,g1,g2,g3,g4⟩:=at' j u g'
  rw[hf j u g']
  exact(eqv_ok I hK R _ d x y xv u xu A _ (h1 j d g1) g3 hx g4 rx hr).1
 ·have e1:its.toArray.any f=true↔z=true:=by
   rw[h2,List.any_toArray,iB]
   constructor
   ·rintro⟨u,hu,q⟩
    obtain⟨j,hj,g⟩:=cy.mp hu
    have g':its[j]?=some u:=by rw[af hj,g]
    exact⟨j,by omega,by rw[<-hf j u g'];exact q⟩
   ·rintro⟨j,hj,q⟩
    have hj':j<its.length:=by omega
    exact⟨its[j],iG hj',by rw[hf j _ (af hj')];exact q⟩
  cases z<;>cases q:its.toArray.any f
  ·rfl
  ·have:=e1.mp q;cases this
  ·rw[q]at e1;have:=e1.mpr rfl;cases this
  ·rfl
variable {Γ:Gm} {X:Cx}
theorem bind_inv {α β:Type}{r:jQ α}{f:α->jK->jQ β}{b:β}{t:jK}(h:r.bind f=.ok b t):∃ a s,r=.ok a s/\f a s=.ok b t:=DV.R.bind_inv h
theorem inM_ok (hK:X.K=Γ.K)(hr:Room (jY+1) X.A)(neg:Bool){pins:List (Addr×Obj)}{sh:ae}{σ:St}{H:Hp}{x y:V}{v u:Value}{φ:Nat->Addr}{st st':jK}{a b:jL}{z:Bool}
  (I:Inv X pins σ H sh) (rx:RelV x v) (ry:RelV y u) (R:Rp Γ φ H st) (ha:RV Γ φ H a x) (hb:RV Γ φ H b y) (hf:k6 a b st=.ok z st') :
  st'=st/\∀ Q:Value->ae->Prop,(∀ sh',Inv X pins σ H sh'->Q (.bool (if neg then !z else z)) sh')->wpAny (model X.prog X.w) X.A (b7 (if neg then .NotIn else .In) v u) Q X.xe sh:=by
 unfold k6 at hf
 cases b with
 | tup l =>
  simp only at hf
  cases e:ku st a l with
  | none=>rw[e]at hf;cases hf
  | some w =>
   rw[e]at hf
   cases hf
   obtain⟨p,ys,rfl,q,d⟩:=hb.tupE
   cases ry
   rw[<-hK]at q
   obtain⟨its,rv,t,_⟩:=I.tuple q
   obtain⟨f,h1,h2⟩:=in_fun I hK R ha rx d rv e (A:=X.A.in1) hr.in1
   refine⟨rfl,λ Q hq=>?_⟩
   cases neg with
   | false=>exact SeqAt.in_tupleAt f t h1 (by rw[h2];exact hq _ I)
   | true=>exact SeqAt.notIn_tupleAt f t h1 (by rw[h2];exact hq _ I)
 | str y0 =>
  simp only at hf
  split at hf
  case h_2=>cases hf
  rename_i c
  cases hf
  refine⟨rfl,λ Q hq=>?_⟩
  have e1:=ha.strE
  have e2:=hb.strE
  subst e1 e2
  obtain⟨t1,rfl⟩:=rx
  obtain⟨t2,rfl⟩:=ry
  have hf1:=js (⟨y0.toArray⟩:Str) c
  cases neg with
  | false=>exact in_str (by rw[show(⟨[c].toArray⟩:Str)=⟨#[c]⟩from rfl,hf1];simpa using hq _ I)
  | true=>exact notIn_str (by rw[show(⟨[c].toArray⟩:Str)=⟨#[c]⟩from rfl,hf1];simpa using hq _ I)
 | ref r =>
  simp only at hf
  cases hs:st[r]? with
  | none=>rw[hs]at hf;cases hf
  | some o =>
   rw[hs]at hf
   cases o with
   | lst l =>
    simp only at hf
    cases e:ku st a l with
    | none=>rw[e]at hf;cases hf
    | some w =>
     rw[e]at hf
     cases hf
     obtain⟨ys,e1,d⟩:=R.addr hs
     have ey:=hb.refE;subst ey
     cases ry
     obtain⟨its,rv,t,_⟩:=I.list (SqL.of e1)
     obtain⟨f,h1,h2⟩:=in_fun I hK R ha rx d rv e (A:=X.A.in1) hr.in1
     refine⟨rfl,λ Q hq=>?_⟩
     cases neg with
     | false=>exact SeqAt.in_listAt f t.isList h1 (by rw[h2];exact hq _ I)
     | true=>exact SeqAt.notIn_listAt f t.isList h1 (by rw[h2];exact hq _ I)
   | dic l =>
    simp only at hf
    split at hf
    case isFalse=>cases hf
    rename_i hkey
    cases hf
    obtain⟨k,hk⟩:=key_some hkey
    obtain⟨kvs,e1,d⟩:=R.obj r _ hs
    have ey:=hb.refE;subst ey
    cases ry
    have ex:=key_kV hk ha;subst ex
    have ez:(ke a l).isSome=(valV kvs k).isSome:=by
     rcases d.val hk with⟨q1,q2⟩|⟨_,_,q1,q2,_⟩<;>rw[q1,q2]<;>rfl
    refine⟨rfl,λ Q hq=>?_⟩
    rw[ez]at hq
    cases neg with
    | false=>exact d_in (hu_of hr) I (DGet.k e1) rx hq
    | true=>exact d_notIn (hu_of hr) I (DGet.k e1) rx hq
   | ro l=>cases hf
   | ins c l=>cases hf
 | _=>cases hf
theorem ord_inv {op:kM}{a b d:jL}{st st':jK}(ho:op=.lt\/op=.le\/op=.gt\/op=.ge)(h:DV.qd op a b st=.ok d st'):∃ i j,a=.int i/\b=.int j:=by
 rcases ho with rfl|rfl|rfl|rfl <;>
 (cases a with
 | int i =>
  (cases b with
  | int j=>exact⟨i,j,rfl,rfl⟩
  | _=>cases h)
 | _=>cases h)
theorem op_cmp (hK:X.K=Γ.K)(hr:Room (jY+1) X.A)(op:kM):OpR X (b7 (copOf op)) (rOp Γ (DV.qd op)):=by
 intro pins s σ H x y v u Q I rx ry h
 obtain⟨φ,st,a,b,d,st',R,ha,hb,na,nb,hf,q⟩:=h
 cases op with
 | eq =>
  have hf:DV.eqM a b st=.ok d st':=hf
  unfold DV.eqM at hf
  cases e:jT st jY a b with
  | none=>rw[e]at hf;cases hf
  | some z =>
   rw[e]at hf;cases hf
   exact(eqv_ok I hK R _ a b x y v u X.A z e ha hb rx ry (hr.mono (by omega))).2.rc X.prog X.w X.xe _ ⟨.bl z,H,I,rfl,q.here R rfl RV.blI⟩
 | ne =>
  have hf:(match jT st jY a b with|some r=>.ok (.bl (!r)) st|none=>.bad:jQ jL)=.ok d st':=hf
  cases e:jT st jY a b with
  | none=>rw[e]at hf;cases hf
  | some z =>
   rw[e]at hf;cases hf
   exact(eqv_ok I hK R _ a b x y v u X.A z e ha hb rx ry (hr.mono (by omega))).2.ne X.prog X.w X.xe _ ⟨.bl (!z),H,I,rfl,q.here R rfl RV.blI⟩
 | lt =>
  obtain⟨i,j,rfl,rfl⟩:=ord_inv (.inl rfl) hf
  cases hf
  have ex:=ha.intE;have ey:=hb.intE;subst ex;subst ey
  exact op_lt pins s σ H _ _ v u Q I rx ry ⟨_,_,rfl,rfl,q.here R rfl RV.blI⟩
 | le =>
  obtain⟨i,j,rfl,rfl⟩:=ord_inv (.inr (.inl rfl)) hf
  cases hf
  have ex:=ha.intE;have ey:=hb.intE;subst ex;subst ey
  exact op_le pins s σ H _ _ v u Q I rx ry ⟨_,_,rfl,rfl,q.here R rfl RV.blI⟩
 | gt =>
  obtain⟨i,j,rfl,rfl⟩:=ord_inv (.inr (.inr (.inl rfl))) hf
  cases hf
  have ex:=ha.intE;have ey:=hb.intE;subst ex;subst ey
  exact op_gt pins s σ H _ _ v u Q I rx ry ⟨_,_,rfl,rfl,q.here R rfl RV.blI⟩
 | ge =>
  obtain⟨i,j,rfl,rfl⟩:=ord_inv (.inr (.inr (.inr rfl))) hf
  cases hf
  have ex:=ha.intE;have ey:=hb.intE;subst ex;subst ey
  exact op_ge pins s σ H _ _ v u Q I rx ry ⟨_,_,rfl,rfl,q.here R rfl RV.blI⟩
 | isin =>
  have hf:(k6 a b st).bind (λ r s=>.ok (.bl r) s)=.ok d st':=hf
  obtain⟨z,s1,e1,e2⟩:=bind_inv hf
  obtain⟨rfl,w⟩:=inM_ok hK hr false I rx ry R ha hb e1
  cases e2
  exact w _ λ s' I'=>⟨.bl z,H,I',rfl,q.here R rfl RV.blI⟩
 | notin =>
  have hf:(k6 a b st).bind (λ r s=>.ok (.bl (!r)) s)=.ok d st':=hf
  obtain⟨z,s1,e1,e2⟩:=bind_inv hf
  obtain⟨rfl,w⟩:=inM_ok hK hr true I rx ry R ha hb e1
  cases e2
  exact w _ λ s' I'=>⟨.bl (!z),H,I',rfl,q.here R rfl RV.blI⟩
theorem atI_of {φ:Nat->Addr}{H:Hp}{l:List jL}{xs:List V}{i:Int}{d:jL}(h:RVL Γ φ H l xs)(e:((kx l.length i).bind λ j=>l[j]?)=some d):∃ v,atI xs i=some v/\RV Γ φ H d v:=by
 cases hj:kx l.length i with
 | none=>rw[hj]at e;cases e
 | some j =>
  rw[hj]at e
  obtain⟨v,e1,e2⟩:=h.get (show l[j]?=some d from e)
  refine⟨v,?_,e2⟩
  unfold atI
  have:ixN xs.length i=some j:=by rw[h.length];exact hj
  rw[this];exact e1
theorem ixn_mem {l:List jL}{i:Int}{d:jL}(e:((kx l.length i).bind λ j=>l[j]?)=some d):d∈l:=by
 cases hj:kx l.length i with
 | none=>rw[hj]at e;cases e
 | some j=>rw[hj]at e;exact aJ (show l[j]?=some d from e)
theorem ix_ok (hK:X.K=Γ.K)(hu:X.A.units+1<cLine):IxR X (rOp Γ DV.ixM):=by
 intro value slice pins s σ H x y v u Q I rx ry h hs
 obtain⟨φ,st,a,b,d,st',R,ha,hb,na,nb,hf,q⟩:=h
 unfold DV.ixM at hf
 cases a with
 | tup l =>
  cases b with
  | int i =>
   simp only at hf
   split at hf
   ·rename_i d' e
    cases hf
    obtain⟨p,xs,rfl,h1,d1⟩:=ha.tupE
    have ey:=hb.intE;subst ey
    obtain⟨w,e1,e2⟩:=atI_of d1 e
    unfold jO at na
    exact ix_tupK hK value slice pins s σ H _ _ v u Q I rx ry ⟨p,xs,i,w,rfl,rfl,h1,e1,q.here R (bndL_iff.mp na _ (ixn_mem e)) e2⟩ hs
   ·cases hf
  | _=>cases hf
 | str l =>
  cases b with
  | int i =>
   simp only at hf
   split at hf
   ·rename_i c e
    cases hf
    have hl:=ha.strL
    have ex:=ha.strE;have ey:=hb.intE;subst ex;subst ey
    exact ix_str value slice pins s σ H _ _ v u Q I rx ry ⟨⟨l.toArray⟩,i,c,rfl,rfl,by show l.toArray.size<=_;rw[av];exact am hl qy,e,q.here R rfl (RV.strI (by simp;decide))⟩ hs
   ·cases hf
  | _=>cases hf
 | ref r =>
  have ex:=ha.refE;subst ex
  simp only at hf
  cases hsr:st[r]? with
  | none=>rw[hsr]at hf;cases hf
  | some o =>
   rw[hsr]at hf
   cases o with
   | lst l =>
    cases b with
    | int i =>
     simp only at hf
     split at hf
     ·rename_i d' e
      cases hf
      have ey:=hb.intE;subst ey
      obtain⟨xs,e1,d1⟩:=R.addr hsr
      obtain⟨w,e2,e3⟩:=atI_of d1 e
      have wf:=R.wf _ _ hsr
      unfold jR at wf
      exact ix_listK hK value slice pins s σ H _ _ v u Q I rx ry ⟨φ r,xs,i,w,rfl,rfl,SqL.of e1,e2,q.here R (bndL_iff.mp wf _ (ixn_mem e)) e3⟩ hs
     ·cases hf
    | _=>cases hf
   | ro l =>
    cases b with
    | int i =>
     simp only at hf
     split at hf
     ·rename_i d' e
      cases hf
      have ey:=hb.intE;subst ey
      obtain⟨xs,e1,d1⟩:=R.obj _ _ hsr
      obtain⟨w,e2,e3⟩:=atI_of d1 e
      have wf:=R.wf _ _ hsr
      unfold jR at wf
      exact ix_listK hK value slice pins s σ H _ _ v u Q I rx ry ⟨φ r,xs,i,w,rfl,rfl,e1.1,e2,q.here R (bndL_iff.mp wf _ (ixn_mem e)) e3⟩ hs
     ·cases hf
    | _=>cases hf
   | dic l =>
    simp only at hf
    split at hf
    case isFalse=>cases hf
    rename_i hkey
    obtain⟨k,hk⟩:=key_some hkey
    obtain⟨kvs,e1,d1⟩:=R.obj r _ hsr
    have ey:=key_kV hk hb;subst ey
    cases rx
    rcases d1.val hk with⟨q1,_⟩|⟨e,v',q1,q2,q3,q4⟩
    ·rw[q1]at hf;cases hf
    ·rw[q1]at hf
     cases hf
     have wf:=R.wf _ _ hsr
     unfold jR at wf
     rw[ao]at wf
     have g:DGet H (φ r) (kV k) (some v'):=by rw[<-q2];exact DGet.k e1
     exact tail_any (dict_typeIs I g) PySem.F.slot_dict_getitem.lookup (d_getItem hu I g ry λ w' s' I' rw'=>⟨v',H,I',rw',q.here R (bndL_iff.mp wf.2 _ q4) q3⟩) hs
   | ins c l=>cases b<;>cases hf
 | _=>cases b<;>cases hf
theorem sbd_sIx (n d:Nat)(i:Int):HT.sIx n d (some i)=kj n i:=by
 show(if i<0 then(i+(n:Int)).toNat else min i.toNat n)=_
 unfold kj
 by_cases h:i<0
 ·rw[if_pos h,if_neg (by omega)]
 ·rw[if_neg h,if_pos (by omega)]
theorem cutV_L {φ:Nat->Addr}{H:Hp}{l:List jL}{xs:List V}(h:RVL Γ φ H l xs)(lo hi:Option Int):RVL Γ φ H (kg l lo hi) (cutV xs lo hi):=by
 unfold kg cutV
 have e1:HT.sIx xs.length 0 lo=kD l.length lo:=by
  cases lo with
  | none=>rfl
  | some i=>rw[sbd_sIx,h.length];rfl
 have e2:HT.sIx xs.length xs.length hi=kN l.length hi:=by
  cases hi with
  | none=>exact h.length
  | some i=>rw[sbd_sIx,h.length];rfl
 rw[e1,e2]
 exact(h.drop _).take _
theorem cutL_sub {α:Type}{l:List α}{lo hi:Option Int}:∀ d∈kg l lo hi,d∈l:=λ d hd=>List.mem_of_mem_drop (gy hd)
theorem cutL_len {α:Type}(l:List α)(lo hi:Option Int):(kg l lo hi).length<=l.length:=by
 unfold kg
 rw[bR,fy]
 omega
theorem slIdx (lo hi:Option Int)(n:Nat):br lo hi 1 n=(ah (kN n hi - kD n lo)).map (kD n lo+·):=by
 rw[<-sliceRange_one]
 unfold br
 have cl:∀ i:Int,max 0 (min (if i<0 then i+(n:Int)else i) (n:Int))=((kj n i:Nat):Int):=λ i=>by
  unfold kj
  by_cases h:i<0
  ·rw[if_pos h,if_neg (by omega)];omega
  ·rw[if_neg h,if_pos (by omega)];omega
 simp only[show((1:Int) > 0)=True by simp,if_true]
 cases lo<;>cases hi<;>simp only[cl,kD,kN]<;>rfl
theorem fm_range {l:List Nat}:∀(a k:Nat),a+k<=l.length->((ah k).map (a+·)).filterMap (λ x=>l.toArray[x]?)=(l.drop a).take k
 | a,0,_=>by simp
 | a,k+1,h=>by
  rw[cN,b9,List.filterMap_append,fm_range a k (by omega)]
  have hk:a+k<l.length:=by omega
  rw[List.take_add_one,List.getElem?_drop]
  simp[hk]
theorem slice_cut (l:List Nat)(lo hi:Option Int):d8 ⟨l.toArray⟩ lo hi=⟨(kg l lo hi).toArray⟩:=by
 unfold d8
 have hn:(⟨l.toArray⟩:Str).length=l.length:=by show l.toArray.size=_;simp
 rw[hn,slIdx]
 have hb:kN l.length hi<=l.length:=by
  cases hi with
  | none=>exact aj _
  | some i=>show kj l.length i<=_;unfold kj;split<;>omega
 have ha:kD l.length lo<=l.length:=by
  cases lo with
  | none=>exact cX _
  | some i=>show kj l.length i<=_;unfold kj;split<;>omega
 unfold kg
 generalize kN l.length hi=b at *
 generalize kD l.length lo=a at *
 by_cases hc:((1:Int)==1&&((ah (b - a)).map (a+·)).length==l.length)=true
 ·rw[if_pos hc]
  have:b - a=l.length:=by simpa using hc
  have h0:a=0\/l.length=0:=by omega
  rcases h0 with h0|h0
  ·subst h0
   rw[this];simp
  ·have:l=[]:=cF.mp h0
   subst this;simp
 ·rw[if_neg hc]
  by_cases hab:a<=b
  ·have e:=fm_range (l:=l) a (b - a) (by omega)
   show(⟨(gv (λ x=>l.toArray[x]?) _).toArray⟩:Str)=_
   rw[e]
  ·rw[show b - a=0 by omega];simp
noncomputable def rSl (Γ:Gm):V->Option Int->Option Int->Hp->VK->Prop:=λ x lo hi H Q=>∃ φ s a d s',Rp Γ φ H s/\RV Γ φ H a x/\a.bnd s.length=true/\kO a lo hi s=.ok d s'/\After Γ φ s H d s' Q
theorem sl_ok (hK:X.K=Γ.K):SlR X (rSl Γ):=by
 intro pins s σ H x v vl vu lo hi sl Q I rx hs pl pu h
 obtain⟨φ,st,a,d,st',R,ha,na,hf,q⟩:=h
 unfold kO at hf
 cases a with
 | tup l =>
  cases hf
  obtain⟨p,xs,rfl,h1,d1⟩:=ha.tupE
  unfold jO at na
  refine sl_tupK hK pins s σ H _ v vl vu lo hi sl Q I rx hs pl pu ⟨p,xs,rfl,h1,λ t H' e ht=>?_⟩
  obtain⟨g,r'⟩:=R.same e
  exact q _ _ _ g (aj _) (by unfold jO;exact bndL_sub na cutL_sub) (RV.tupI ht (cutV_L (RVL.mono g _ _ na d1) lo hi)) r'
 | str l =>
  cases hf
  have hl:=ha.strL
  have ex:=ha.strE;subst ex
  refine sl_str pins s σ H _ v vl vu lo hi sl Q I rx hs pl pu ⟨_,rfl,by show l.toArray.size<=_;rw[av];exact am hl qy,?_⟩
  rw[slice_cut]
  exact q.here R rfl (RV.strI (am (cutL_len l lo hi) hl))
 | ref r =>
  have ex:=ha.refE;subst ex
  simp only at hf
  cases hsr:st[r]? with
  | none=>rw[hsr]at hf;cases hf
  | some o =>
   rw[hsr]at hf
   cases o with
   | lst l =>
    obtain⟨rfl,rfl⟩:=qt hf
    obtain⟨xs,e1,d1⟩:=R.addr hsr
    have wf:=R.wf _ _ hsr
    unfold jR at wf
    exact sl_listK hK pins s σ H _ v vl vu lo hi sl Q I rx hs pl pu ⟨φ r,xs,rfl,SqL.of e1,λ p hp=>q.alloc R (cutV_L d1 lo hi) (bndL_sub wf cutL_sub) hp⟩
   | _=>cases hf
 | _=>cases hf
variable {Γ:Gm} {X:Cx}
noncomputable def rCl (Γ:Gm)(f:List jL->jK->jQ jL):List V->Hp->VK->Prop:=λ xs H Q=>∃ φ s l d s',Rp Γ φ H s/\RVL Γ φ H l xs/\jM s.length l=true/\f l s=.ok d s'/\After Γ φ s H d s' Q
theorem RVL.one {φ:Nat->Addr}{H:Hp}{d:jL}{xs:List V}(h:RVL Γ φ H [d] xs):∃ x,xs=[x]/\RV Γ φ H d x:=by
 obtain⟨x,r,rfl,h1,h2⟩:=h.uncons
 rw[h2.unnil];exact⟨x,rfl,h1⟩
theorem mx3_max (a b c:Int):mx3 a b c=max (max a b) c:=by unfold mx3 mx;split<;>split<;>omega
noncomputable def biN:kh->Option (String×Nat)
 | .len=>some ("len",1)|.abs=>some ("abs",1)|.min2=>some ("min",2)|.max2=>some ("max",2)|.max3=>some ("max",3)|_=>none
theorem zY:∀ {l:List jL} {is:List Int},kn l=some is->l=is.map DV.D.int
 | [],is,h=>by unfold kn at h;cases h;rfl
 | d::l,is,h=>by
  cases d with
  | int i =>
   have h:(kn l).map (i::·)=some is:=h
   cases e:kn l with
   | none=>rw[e]at h;cases h
   | some m=>rw[e]at h;cases h;rw[zY e];rfl
  | _=>cases h
theorem blsOf_inv:∀ {l:List jL} {is:List Bool},kb l=some is->l=is.map DV.D.bl
 | [],is,h=>by unfold kb at h;cases h;rfl
 | d::l,is,h=>by
  cases d with
  | bl i =>
   have h:(kb l).map (i::·)=some is:=h
   cases e:kb l with
   | none=>rw[e]at h;cases h
   | some m=>rw[e]at h;cases h;rw[blsOf_inv e];rfl
  | _=>cases h
theorem RVL.ints {φ:Nat->Addr}{H:Hp}:∀ {is:List Int} {xs:List V},RVL Γ φ H (is.map DV.D.int) xs->xs=is.map V.int
 | [],_,h=>h.unnil
 | i::is,_,h=>by
  obtain⟨x,r,rfl,h1,h2⟩:=RVL.uncons h
  rw[h1.intE,RVL.ints h2];rfl
theorem RVL.bls {φ:Nat->Addr}{H:Hp}:∀ {is:List Bool} {xs:List V},RVL Γ φ H (is.map DV.D.bl) xs->xs=is.map V.bl
 | [],_,h=>h.unnil
 | i::is,_,h=>by
  obtain⟨x,r,rfl,h1,h2⟩:=RVL.uncons h
  rw[h1.blE,RVL.bls h2];rfl
theorem bi1_inv {f:jL->kE jL}{l:List jL}{s s':jK}{d:jL}(h:k7 f l s=.ok d s'):∃ a,l=[a]/\f a s=.ok d s':=by
 match l,h with
 | [a],h=>exact⟨a,rfl,h⟩
 | [],h=>cases h
 | _::_::_,h=>cases h
theorem bi_ok (hK:X.K=Γ.K)(hc:X.calm=true){b:kh}{nm:String}{k:Nat}(hn:biN b=some (nm,k)):CallR X (.builtin nm) (rCl Γ (k9 b)):=by
 intro pins s σ H xs us Q I r h
 obtain⟨φ,st,l,d,st',R,hl,nl,hf,q⟩:=h
 cases b with
 | len =>
  cases hn
  have hf:k7 DV.lenM l st=.ok d st':=hf
  obtain⟨a,rfl,hg⟩:=bi1_inv hf
  clear hf
  obtain⟨x,rfl,hx⟩:=hl.one
  unfold DV.lenM at hg
  cases a with
  | tup l =>
   cases hg
   obtain⟨p,ys,rfl,h1,d1⟩:=hx.tupE
   refine call_lenK hK pins s σ H _ us Q I r ⟨p,ys,rfl,.inr h1,?_⟩
   rw[d1.length];exact q.here R rfl RV.intI
  | str l =>
   cases hg
   have hL:=hx.strL
   have e:=hx.strE;subst e
   refine call_len_str pins s σ H _ us Q I r ⟨_,rfl,by show l.toArray.size<=_;rw[av];exact am hL qy,?_⟩
   show Q (.int ((l.toArray.size:Nat):Int)) H
   rw[av]
   exact q.here R rfl RV.intI
  | ref n =>
   have e:=hx.refE;subst e
   simp only at hg
   cases hs:st[n]? with
   | none=>rw[hs]at hg;cases hg
   | some o =>
    rw[hs]at hg
    cases o with
    | lst l =>
     cases hg
     obtain⟨ys,e1,d1⟩:=R.addr hs
     refine call_lenK hK pins s σ H _ us Q I r ⟨φ n,ys,rfl,.inl (SqL.of e1),?_⟩
     rw[d1.length];exact q.here R rfl RV.intI
    | ro l =>
     cases hg
     obtain⟨ys,e1,d1⟩:=R.obj _ _ hs
     refine call_lenK hK pins s σ H _ us Q I r ⟨φ n,ys,rfl,.inl e1.1,?_⟩
     rw[d1.length];exact q.here R rfl RV.intI
    | dic l=>cases hg
    | ins c l=>cases hg
  | _=>cases hg
 | abs =>
  cases hn
  have hf:(match kn l with|some [i]=>.ok (.int (if i<0 then -i else i)) st|_=>.bad:jQ jL)=.ok d st':=hf
  split at hf
  ·rename_i i e
   cases hf
   have:=zY e;subst this
   have:=RVL.ints hl;subst this
   exact call_abs pins s σ H _ us Q I r ⟨i,rfl,q.here R rfl RV.intI⟩
  ·cases hf
 | min2 =>
  cases hn
  have hf:(match kn l with|some [a,b]=>.ok (.int (if b<a then b else a)) st|_=>.bad:jQ jL)=.ok d st':=hf
  split at hf
  ·rename_i a b e
   cases hf
   have:=zY e;subst this
   have:=RVL.ints hl;subst this
   exact call_min2 hc pins s σ H _ us Q I r ⟨_,_,rfl,q.here R rfl RV.intI⟩
  ·cases hf
 | max2 =>
  cases hn
  have hf:(match kn l with|some [a,b]=>.ok (.int (if b > a then b else a)) st|_=>.bad:jQ jL)=.ok d st':=hf
  split at hf
  ·rename_i a b e
   cases hf
   have:=zY e;subst this
   have:=RVL.ints hl;subst this
   exact call_max2 hc pins s σ H _ us Q I r ⟨_,_,rfl,q.here R rfl RV.intI⟩
  ·cases hf
 | max3 =>
  cases hn
  have hf:(match kn l with|some [a,b,c]=>.ok (.int (max (max a b) c)) st|_=>.bad:jQ jL)=.ok d st':=hf
  split at hf
  ·rename_i a b c e
   cases hf
   have:=zY e;subst this
   have:=RVL.ints hl;subst this
   refine call_max3 hc pins s σ H _ us Q I r ⟨_,_,_,rfl,?_⟩
   rw[mx3_max]
   exact q.here R rfl RV.intI
  ·cases hf
 | _=>cases hn
theorem int_ok:CallR X (.type "int") (rCl Γ (k9 .int)):=by
 intro pins s σ H xs us Q I r h
 obtain⟨φ,st,l,d,st',R,hl,nl,hf,q⟩:=h
 have hf:(match kb l with|some [b]=>.ok (.int (if b then 1 else 0)) st|_=>.bad:jQ jL)=.ok d st':=hf
 split at hf
 ·rename_i b e
  cases hf
  have:=blsOf_inv e;subst this
  have:=RVL.bls hl;subst this
  exact call_int1 pins s σ H _ us Q I r (.inr ⟨b,rfl,q.here R rfl RV.intI⟩)
 ·cases hf
noncomputable def kName:Nat->String
 | 1 => "int" | 2 => "bool" | 3 => "str" | 4 => "tuple" | _ => "list"
theorem kit_all {K:ab}(k:Nat)(hk:1<=k/\k<=5):ci K (.type "NoneType") (.type (kName k))=some false/\ci K (.type "bool") (.type (kName k))=some (k==1||k==2) /\
  ci K (.type "int") (.type (kName k))=some (k==1)/\ci K (.type "str") (.type (kName k))=some (k==3)/\ci K (.type "tuple") (.type (kName k))=some (k==4)/\ci K (.type "list") (.type (kName k))=some (k==5):=by
 obtain⟨h1,h5⟩:=hk
 rcases(by omega:k=1\/k=2\/k=3\/k=4\/k=5)with h|h|h|h|h<;>subst h<;>refine⟨?_,?_,?_,?_,?_,?_⟩<;>with_unfolding_all rfl
theorem isinst_tup {pins:List (Addr×Obj)}{σ:St}{H:Hp}{s:ae}{A:aS}{E:Value->ae->Prop}{Q:Value->ae->Prop}{c:Value}{b:Bool}{a:Addr}{xs:List V}(I:Inv X pins σ H s)(h1:SqT X.K H a xs)(e:ci X.K (.type "tuple") c=some b)
  (h:∀ tk,Q (.bool b) { s with toks:=tk }):wpAny (model X.prog X.w) A (call (.builtin "isinstance") [.ref a,c]) Q E s:=by
 obtain⟨its,_,⟨o,g1,g2,_⟩,_⟩:=I.tuple h1
 exact bE gY I.kIn ⟨o,g1,g2⟩ e (λ z=>nomatch z) h
theorem isK_ok (hK:X.K=Γ.K){k:Nat}(hk:1<=k/\k<=5):CallR X (.builtin "isinstance") (λ xs H Q=>∃ x,xs=[x,.ty (kName k)]/\rCl Γ (k7 (lb k)) [x] H Q):=by
 intro pins s σ H xs us Q I r h
 obtain⟨x,rfl,φ,st,l,d,st',R,hl,nl,hf,q⟩:=h
 obtain⟨a,rfl,hg⟩:=bi1_inv hf
 clear hf
 obtain⟨u,w',rfl,r1,r2⟩:=vals2 r
 cases r2
 obtain⟨x',e',hx⟩:=hl.one
 cases e'
 obtain⟨k0,k1,k2,k3,k4,k5⟩:=kit_all (K:=X.K) k hk
 unfold lb at hg
 cases a with
 | non=>cases hg;have e:=hx.nonE;subst e;exact qP I r1 .non k0 λ tk=>⟨.bl _,H,I.tok _,rfl,q.here R rfl RV.blI⟩
 | bl b=>cases hg;have e:=hx.blE;subst e;exact qP I r1 (.bl b) k1 λ tk=>⟨.bl _,H,I.tok _,rfl,q.here R rfl RV.blI⟩
 | int b=>cases hg;have e:=hx.intE;subst e;exact qP I r1 (.int b) k2 λ tk=>⟨.bl _,H,I.tok _,rfl,q.here R rfl RV.blI⟩
 | str b=>cases hg;have e:=hx.strE;subst e;exact qP I r1 (.str _) k3 λ tk=>⟨.bl _,H,I.tok _,rfl,q.here R rfl RV.blI⟩
 | tup l =>
  cases hg
  obtain⟨p,ys,rfl,h1,d1⟩:=hx.tupE
  cases r1
  rw[<-hK]at h1
  exact isinst_tup I h1 k4 λ tk=>⟨.bl _,H,I.tok _,rfl,q.here R rfl RV.blI⟩
 | ref n =>
  have e:=hx.refE;subst e
  have hg:(match st[n]? with|some (.lst _)=>.ok (.bl (k==5)) st|_=>.bad:jQ jL)=.ok d st':=hg
  cases hs:st[n]? with
  | none=>rw[hs]at hg;cases hg
  | some o =>
   rw[hs]at hg
   cases o with
   | lst l =>
    cases hg
    obtain⟨ys,e1,d1⟩:=R.addr hs
    exact qP I r1 (.lst e1) k5 λ tk=>⟨.bl _,H,I.tok _,rfl,q.here R rfl RV.blI⟩
   | _=>cases hg
 | _=>cases hg
variable {X:Cx}
theorem vals_bl {bs:List Bool}{its:List Value}(r:Vals (bs.map V.bl) its){i:Nat}{v:Value}(h:its[i]?=some v):∃ z,bs[i]?=some z/\v=Value.bool z:=by
 induction bs generalizing its i with
 | nil=>rw[dF]at r;cases r;simp at h
 | cons b bs ih =>
  rw[aK]at r
  cases r with
  | cons r1 r2 =>
   cases i with
   | zero =>
    cases r1
    have:_=v:=au h
    exact⟨b,rfl,this.symm⟩
   | succ i=>exact ih r2 h
theorem range_all {bs:List Bool}:(ah bs.length).all (λ i=>bs.getD i false)=bs.all id:=by
 rw[ee,aN,aN]
 constructor
 ·intro h b hb
  obtain⟨i,hi,e⟩:=cy.mp hb
  have:=h i (aZ.mpr hi)
  rw[a8,af hi]at this
  rw[<-e];exact this
 ·intro h i hi
  have hi:=aZ.mp hi
  rw[a8,af hi]
  exact h _ (iG hi)
theorem call_allL {K:ab}(hc:X.calm=true)(hK:X.K=K):CallR X (.builtin "all") (λ xs H Q=>∃(a:Addr) (bs:List Bool),xs=[.ref a]/\SqL K H a (bs.map V.bl)/\Q (.bl (bs.all id)) H):=by
 subst hK
 intro pins s σ H xs us Q I r h
 obtain⟨a,bs,rfl,hS,q⟩:=h
 obtain⟨u,rfl,ru⟩:=vals1 r
 cases ru
 obtain⟨its,rv,pl,hz⟩:=I.list hS
 have hl:=rv.length
 rw[aG]at hl
 refine call_all_walk (cS pl.isList ?_)
 have hal:a<s.heap.objs.size:=by obtain⟨o,_,e,_⟩:=pl;exact aA e
 have W:=i3 (prog:=X.prog) (w:=X.w) (A:=X.A.in1) (I.ok.hd hc) s.heap.objs.size a (ay hal) its.toArray
 refine⟨_,_,_,_,_,_,λ i=>bs.getD i false,rfl,W,⟨⟨_,aM _ rfl,rfl,rfl⟩,?_⟩,λ i v s' Q' E' hP hQ=>?_,λ h' tk k=>?_⟩
 ·obtain⟨o,e,r⟩:=pl.isList
  exact⟨o,ag _ e,r⟩
 ·obtain⟨z,e1,e2⟩:=vals_bl rv (i:=i) (v:=v) (by have hP:its.toArray[i]?=some v:=hP;rw[cq]at hP;exact hP)
  subst e2
  refine bB ?_
  have:bs.getD i false=z:=by rw[a8,e1];rfl
  rw[<-this];exact hQ
 ·have es:its.toArray.size=bs.length:=by rw[av];omega
  rw[es,range_all]
  refine⟨.bl (bs.all id),H,I.kept (h':=h') (t':=tk) λ b o q=>k b o ?_ (ag _ q),rfl,q⟩
  intro z
  have z':b=s.heap.objs.size:=by simpa using z
  exact absurd (aA q) (by rw[z'];exact bp _)
noncomputable def sgV (x:List Nat):List V:=x.map λ c=>.str ⟨#[c]⟩
theorem vals_of {vs:List V}{acc:List Value}(hl:vs.length=acc.length)(h:∀(i:Nat) (x:V) (u:Value),vs[i]?=some x->acc[i]?=some u->RelV x u):Vals vs acc:=by
 induction vs generalizing acc with
 | nil=>cases acc with
  | nil=>exact .nil
  | cons _ _=>cases hl
 | cons v vs ih=>cases acc with
  | nil=>cases hl
  | cons a acc=>exact .cons (h 0 v a rfl rfl) (ih (by simpa using hl) λ i x u e1 e2=>h (i+1) x u e1 e2)
theorem vals_signs {x:List Nat}{acc:Array Value}(h:ItemsOf (SignAt ⟨x.toArray⟩) acc x.length):Vals (sgV x) acc.toList:=by
 have hl:(sgV x).length=acc.toList.length:=by unfold sgV;rw[aG];simpa using h.1.symm
 refine vals_of hl λ i v u e1 e2=>?_
 obtain⟨c,t,h1,h2⟩:=h.2 i u (by rw[<-Array.getElem?_toList];exact e2)
 unfold sgV at e1
 rw[aB]at e1
 have h1:x[i]?=some c:=by simpa using h1
 rw[h1]at e1
 cases e1
 exact⟨t,h2⟩
theorem call_tupleS (hc:X.calm=true):CallR X (.type "tuple") (λ xs H Q=>∃ x:List Nat,xs=[.str ⟨x.toArray⟩]/\x.length<=jU/\∀ l,H l=none->Q (.ref l) (upd H l (.tup (sgV x)))):=by
 intro pins s σ H xs us Q I r h
 obtain⟨x,rfl,hl,q⟩:=h
 obtain⟨u,rfl,rx⟩:=vals1 r
 obtain⟨t,rfl⟩:=rx
 have hz:(sgV x).length<=aH:=by unfold sgV;rw[aG];exact am hl qy
 refine call_tuple_str (I.ok.hd hc) _ t (λ h' tk acc kp hi=>?_) (by show x.toArray.size<=_;rw[av];exact am hl qy)
 have hi:ItemsOf (SignAt ⟨x.toArray⟩) acc x.length:=by simpa using hi
 have rv:=vals_signs hi
 have I1:Inv X pins σ H { s with heap:=h',toks:=tk }:=I.kept (t':=tk) kp
 have I2:Inv X pins σ (upd H h'.objs.size (.tup (sgV x))) { s with heap:=h'.push { cls:=.type "tuple",data:=.seq acc },toks:=tk } :=
  I1.laid (t':=tk) (λ b o e=>ag _ e) (aj _) (show ObjOk X.prog X.w _ _ _ (.tup (sgV x))from⟨hz,acc.toList,rv,iy _ _⟩)
 exact⟨.ref h'.objs.size,_,I2,rfl,q _ (I1.hok.fresh (aj _))⟩
theorem call_listS (hc:X.calm=true):CallR X (.type "list") (λ xs H Q=>∃ x:List Nat,xs=[.str ⟨x.toArray⟩]/\x.length<=jU/\∀ l,H l=none->Q (.ref l) (upd H l (.lst (sgV x)))):=by
 intro pins s σ H xs us Q I r h
 obtain⟨x,rfl,hl,q⟩:=h
 obtain⟨u,rfl,rx⟩:=vals1 r
 obtain⟨t,rfl⟩:=rx
 have hz:(sgV x).length<=aH:=by unfold sgV;rw[aG];exact am hl qy
 refine call_list_str (I.ok.hd hc) _ t (λ h' tk acc c' kp e hi=>?_) (by show x.toArray.size<=_;rw[av];exact am hl qy)
 have hi:ItemsOf (SignAt ⟨x.toArray⟩) acc x.length:=by simpa using hi
 have rv:=vals_signs hi
 exact⟨.ref s.heap.objs.size,_,I.laid (t':=tk) kp (aj _) (show ObjOk X.prog X.w _ h' _ (.lst (sgV x))from⟨hz,acc.toList,c',rv,e⟩),rfl,q _ (I.hok.fresh (aj _))⟩
section
variable {Γ:Gm} {φ φ':Nat->Addr} {H H' H1 H2 H3:Hp} {clos:List (Str×Addr)} {s s':jK}
theorem qf (hc:Cells clos H){a:Addr}{u:HO}(e:H a=some u)(hu:∀ o,u≠.frz o (.own a)):isC clos a≠true:=λ z=>by
 obtain⟨o,v,q,_⟩:=hc.at z
 rw[e]at q;cases q;exact hu o rfl
theorem SqT.dropC {K:ab}{a:Addr}{xs:List V}(hc:Cells clos H)(h:SqT K H a xs):SqT K (Drop clos H) a xs:=by
 rcases h with(h|⟨o,h⟩)|h
 ·exact .inl (.inl (by rw[Drop.ne (qf hc h (λ _ z=>by cases z))];exact h))
 ·exact .inl (.inr ⟨o,by rw[Drop.ne (qf hc h (λ _ z=>by cases z))];exact h⟩)
 ·exact .inr h
theorem SqL.dropC {K:ab}{a:Addr}{xs:List V}(hc:Cells clos H)(h:SqL K H a xs):SqL K (Drop clos H) a xs:=by
 rcases h with(h|⟨o,h⟩)|h
 ·exact .inl (.inl (by rw[Drop.ne (qf hc h (λ _ z=>by cases z))];exact h))
 ·exact .inl (.inr ⟨o,by rw[Drop.ne (qf hc h (λ _ z=>by cases z))];exact h⟩)
 ·exact .inr h
theorem SqF.dropC {K:ab}{a:Addr}{xs:List V}(hc:Cells clos H)(h:SqF K H a xs):SqF K (Drop clos H) a xs:=by
 refine⟨SqL.dropC hc h.1,λ H2 k=>?_⟩
 have hk:Kp H (λ b=>if isC clos b=true then H b else H2 b):=λ b o e f=>by
  by_cases z:isC clos b=true
  ·show(if isC clos b=true then H b else H2 b)=_;rw[if_pos z];exact e
  ·show(if isC clos b=true then H b else H2 b)=_
   rw[if_neg z]
   exact k b o (by rw[Drop.ne z];exact e) f
 have q:=h.2 _ hk
 have at_:∀ u,(if isC clos a=true then H a else H2 a)=some u->(∀ o,u≠.frz o (.own a))->H2 a=some u:=λ u e hu=>by
  by_cases z:isC clos a=true
  ·rw[if_pos z]at e
   exact absurd z (qf hc e hu)
  ·rw[if_neg z]at e;exact e
 rcases q with(q|⟨o,q⟩)|q
 ·exact .inl (.inl (at_ _ q (λ _ z=>by cases z)))
 ·exact .inl (.inr ⟨o,at_ _ q (λ _ z=>by cases z)⟩)
 ·exact .inr q
mutual
theorem RV.dropC (hc:Cells clos H):∀(d:jL) (v:V),d.ncl=true->RV Γ φ H d v->RV Γ φ (Drop clos H) d v
 | .non,_,_,h=>by unfold RV at h ⊢;exact h
 | .bl _,_,_,h=>by unfold RV at h ⊢;exact h
 | .int _,_,_,h=>by unfold RV at h ⊢;exact h
 | .str _,_,_,h=>by unfold RV at h ⊢;exact h
 | .tup l,_,n,h=>by
  unfold RV at h ⊢
  unfold lc at n
  obtain⟨a,xs,e,q,r⟩:=h
  exact⟨a,xs,e,SqT.dropC hc q,RVL.dropC hc l xs n r⟩
 | .ref k,_,_,h=>by unfold RV at h ⊢;exact h
 | .fn _,_,_,h=>by unfold RV at h ⊢;exact h
 | .clo id cs,_,n,h=>by unfold lc at n;cases n
theorem RVL.dropC (hc:Cells clos H):∀(l:List jL) (xs:List V),kz l=true->RVL Γ φ H l xs->RVL Γ φ (Drop clos H) l xs
 | [],_,_,h=>by unfold RVL at h ⊢;exact h
 | d::l,_,n,h=>by
  unfold kz at n
  rw[ao]at n
  obtain⟨x,r,e,h1,h2⟩:=h.uncons
  subst e
  exact .cons (RV.dropC hc d x n.1 h1) (RVL.dropC hc l r n.2 h2)
end
theorem RVD.dropC (hc:Cells clos H):∀(l:List (jL×jL)) (kvs:List (Key×V)),kz (l.map (·.2))=true->RVD Γ φ H l kvs->RVD Γ φ (Drop clos H) l kvs
 | [],_,_,h=>h
 | (d,e)::l,_,n,h=>by
  obtain⟨k,v,r,e1,e2,e3,e4⟩:=h
  rw[aK]at n
  unfold kz at n
  rw[ao]at n
  exact⟨k,v,r,e1,e2,RV.dropC hc e v n.1 e3,RVD.dropC hc l r n.2 e4⟩
theorem RO.dropC {a:Addr}{o:j6}(hc:Cells clos H)(h:RO Γ φ H a o)(n:o.ncl=true):RO Γ φ (Drop clos H) a o:=by
 cases o with
 | lst l =>
  obtain⟨xs,e,r⟩:=h
  exact⟨xs,by rw[Drop.ne (qf hc e (λ _ z=>by cases z))];exact e,RVL.dropC hc l xs n r⟩
 | ro l =>
  obtain⟨xs,e,r⟩:=h
  exact⟨xs,SqF.dropC hc e,RVL.dropC hc l xs n r⟩
 | dic l =>
  obtain⟨xs,e,r⟩:=h
  exact⟨xs,by rw[Drop.ne (qf hc e (λ _ z=>by cases z))];exact e,RVD.dropC hc l xs n r⟩
 | ins _ _=>exact h.elim
theorem TabsH.dropC {T:List (Addr×Str)}(hc:Cells clos H)(h:TabsH T H):TabsH T (Drop clos H):=λ y hy=>by
 obtain⟨ps,e,t,c⟩:=h y hy
 refine⟨ps,by rw[Drop.ne (qf hc e (λ _ z=>by cases z))];exact e,t,λ pos cv q=>?_⟩
 obtain⟨c',e1,e2⟩:=c pos cv q
 exact⟨c',e1,by rw[Drop.ne (qf hc e2 (λ _ z=>by unfold qu at z;cases z))];exact e2⟩
theorem Rp.dropC (hc:Cells clos H)(r:Rp Γ φ H s)(n:s.all lf=true):Rp Γ φ (Drop clos H) s :=
 ⟨r.inj,λ i o e=>RO.dropC hc (r.obj i o e) (aN.mp n o (aJ e)),r.wf,TabsH.dropC hc r.tab⟩
theorem Gr.caught {N:List Str}{kd:Str->Option bJ}{σ:St}(ca:Caught clos N kd σ H1 H2)(g:Gr φ s H2 φ' s' H3):Gr φ s H1 φ' s' (Drop clos H3):=by
 have nc:∀ b o,H1 b=some o->isC clos b≠true:=λ b o e z=>by rw[ca.free b z]at e;cases e
 have up:∀ b o,H1 b=some o->H2 b=some o:=λ b o e=>by rw[ca.ne b (nc b o e)];exact e
 refine⟨⟨g.w.map,λ b o e f=>?_⟩,g.le,λ i h1 h2=>?_,g.kd,λ b e=>?_,λ b o e nt no=>?_⟩
 ·rw[Drop.ne (nc b o e)];exact g.w.kp b o (up b o e) f
 ·have:=g.new i h1 h2
  by_cases z:isC clos (φ' i)=true
  ·exact ca.free _ z
  ·rw[<-ca.ne _ z];exact this
 ·cases q:H1 b with
  | none=>exact absurd q e
  | some o =>
   rw[Drop.ne (nc b o q)]
   exact g.st b (by rw[up b o q];simp)
 ·rw[Drop.ne (nc b o e)];exact g.fr b o (up b o e) nt no
theorem putC_same (gone:∀ b,isC clos b=true->H' b=none):Same H' (Put clos H H'):=λ b o e=>by
 rw[Put.ne (λ z=>by rw[gone b z]at e;cases e)];exact e
theorem Gr.put (hc:Cells clos H)(gone:∀ b,isC clos b=true->H' b=none)(hK:∀ b o,Γ.K.lookup b=some o->H b=none)(R':Rp Γ φ' H' s')(g:Gr φ s (Drop clos H) φ' s' H'):Gr φ s H φ' s' (Put clos H H'):=by
 refine⟨⟨g.w.map,λ b o e f=>?_⟩,g.le,λ i h1 h2=>?_,g.kd,λ b e=>?_,λ b o e nt no=>?_⟩
 ·by_cases z:isC clos b=true
  ·rw[Put.cell z];exact e
  ·rw[Put.ne z];exact g.w.kp b o (by rw[Drop.ne z];exact e) f
 ·have hd:=g.new i h1 h2
  by_cases z:isC clos (φ' i)=true
  ·have hg:=gone _ z
   obtain⟨o,eo⟩:∃ o,s'[i]?=some o:=⟨s'[i],af h2⟩
   have hob:=R'.obj i o eo
   cases o with
   | lst l=>obtain⟨xs,e,_⟩:=hob;rw[hg]at e;cases e
   | ro l =>
    obtain⟨xs,e,_⟩:=hob
    rcases e.1 with(e|⟨_,e⟩)|⟨ob,its,n,e,_⟩
    ·rw[hg]at e;cases e
    ·rw[hg]at e;cases e
    ·exact hK _ _ e
   | dic l=>obtain⟨xs,e,_⟩:=hob;rw[hg]at e;cases e
   | ins _ _=>exact hob.elim
  ·rw[Drop.ne z]at hd;exact hd
 ·by_cases z:isC clos b=true
  ·rw[Put.cell z];exact e
  ·rw[Put.ne z];exact g.st b (by rw[Drop.ne z];exact e)
 ·by_cases z:isC clos b=true
  ·rw[Put.cell z];exact e
  ·rw[Put.ne z];exact g.fr b o (by rw[Drop.ne z];exact e) nt no
theorem tLam_of2 {T:List (Addr×Str)}{cells:List (Str×Addr)}{P:Addr}{q:Str}{params:aY}{body:Expr}{scope:Scope}{pos:Pos}{σ:St}{H:Hp}{Q:VK}(hT:TabsH T H)(nd:(T.map (·.1)).Nodup)(hm:(P,q)∈T)
  (go:∀(f:Addr) (H':Hp),SameT H H'->(∀ b,H b≠none->H' b≠none)->TabsH T H'->H f=none->(∃ pm c' ctv,H' f=some (lamO f (bO "<lambda>" q params body scope (clOf cells scope.names []) pm (.ref c') ctv))/\H' c'=some (qu c' q))->Q (.ref f) H') :
  tLam cells P q params body scope pos σ H Q:=by
 obtain⟨ps,hP,ht,hc⟩:=hT _ hm
 refine⟨ps,hP,ht,λ hn c' f pm ctv n1 n2 ne=>?_,λ cv e=>?_⟩
 ·have cP:c'≠P:=λ z=>by rw[z,hP]at n1;cases n1
  have fP:f≠P:=λ z=>by rw[z,hP]at n2;cases n2
  have at':∀ b,b≠P->H b≠none->∀ o1 o2 o3,upd (upd (upd H P o1) c' o2) f o3 b=H b:=λ b z1 z2 o1 o2 o3=>by
   rw[za λ z=>by subst z;exact z2 n2,za λ z=>by subst z;exact z2 n1,za z1]
  refine go f _ (λ b o d e=>?_) (λ b hb=>?_) (λ y hy=>?_) n2 ⟨pm,c',ctv,ze,by rw[za ne,ze]⟩
  ·rw[at' b (λ z=>by subst z;rw[hP]at e;cases e;exact d _ rfl) (by rw[e];simp)];exact e
  ·by_cases z:b=P
   ·subst z;rw[za (bQ fP),za (bQ cP),ze];simp
   ·rw[at' b z hb];exact hb
  ·by_cases z:y.1=P
   ·have ey:y=(P,q):=by
     have:∀(l:List (Addr×Str)),(l.map (·.1)).Nodup->y∈l->(P,q)∈l->y=(P,q):=by
      intro l
      induction l with
      | nil=>intro _ h;simp at h
      | cons a l ih =>
       intro hn h1 h2
       rw[aK,cK]at hn
       rcases aD.mp h1 with e1|h1<;>rcases aD.mp h2 with e2|h2
       ·rw[e1,e2]
       ·exact absurd (by rw[<-e1,z];exact bh (f:=(·.1)) h2) hn.1
       ·exact absurd (by rw[<-e2,<-z];exact bh (f:=(·.1)) h1) hn.1
       ·exact ih hn.2 h1 h2
     exact this T nd hy hm
    subst ey
    refine⟨_,by rw[za (bQ fP),za (bQ cP),ze],?_,λ pos2 cv e=>?_⟩
    ·rw[dg];exact TriplesOk_snoc _ _ _ _ ht
    ·rw[dg]at e
     rcases codeAmong_add _ ht e with e'|e'
     ·obtain⟨c2,e1,e2⟩:=hc pos2 cv e'
      exact⟨c2,e1,by rw[at' c2 (λ z=>by subst z;rw[hP]at e2;unfold qu at e2;cases e2) (by rw[e2];simp)];exact e2⟩
     ·exact⟨c',e',by rw[za ne,ze]⟩
   ·obtain⟨qs,e1,e2,e3⟩:=hT y hy
    refine⟨qs,by rw[at' y.1 z (by rw[e1];simp)];exact e1,e2,λ pos2 cv e=>?_⟩
    obtain⟨c2,e4,e5⟩:=e3 pos2 cv e
    exact⟨c2,e4,by rw[at' c2 (λ z=>by subst z;rw[hP]at e5;unfold qu at e5;cases e5) (by rw[e5];simp)];exact e5⟩
 ·obtain⟨c',e1,e2⟩:=hc pos cv e
  refine⟨c',e1,λ f pm ctv n=>go f _ (.of ((Same.refl H).new n)) (λ b hb=>by
   by_cases z:b=f
   ·subst z;rw[ze];simp
   ·rw[za z];exact hb) (hT.new n) n ⟨pm,c',ctv,ze,?_⟩⟩
  rw[za (zB e2 n)];exact e2
theorem def_ok2 {P:aL}{w:World}{K:ab}{mg:Str->Option Value}{base:Heap}{k:Nat}{f:Addr}{N ps fr:List Str}{name qual:Str}{params:aY}{body:List Stmt}{scope:Scope}{clos:List (Str×Addr)}{cap:List V}{sp:Sp}
  (S:LamScope N ps fr scope) (len:∀ vs H Q E,sp vs H Q E->vs.length=ps.length) (hlc:cap.length=fr.length)
  (hbind:∀(doc pm:Value) (c':Addr) (ctv:Value) (us:List Value),us.length=ps.length->dY (cc name qual params body scope clos .none .none doc pm none (.ref c') ctv) ⟨us,[]⟩=pure (ps.zip us))
  (hbody:∀(A:aS) (outer:List Env) (s:ae) (H:Hp) (cd:Value) (vs:List V) (Q:VK),Room k (A.deeper (cI qual scope s.heap.objs.size f cd (aI (s.heap.objs.size+1) scope.names clos)))->DefIn H f name qual params body scope fr cap clos->(∀ b o,K.lookup b=some o->H b=none)->sp vs H Q E0 ->
   ∃ t,PSs (cxLam P w K mg base N qual scope f cd clos A outer s H) body t/\t { nx:=λ _ H'=>(∀ b,isC clos b=true->H' b=none)->Q .non (Put clos H H'),rt:=λ v H'=>(∀ b,isC clos b=true->H' b=none)->Q v (Put clos H H') } (vs.map some++cap.map some) (Drop clos H)) :
  ClOk P w K mg base (k+1) (λ H=>DefIn H f name qual params body scope fr cap clos) f sp:=by
 refine⟨λ A outer s H us vs Q hr e0 hR r hsp=>?_⟩
 have hl:=len _ _ _ _ hsp
 obtain⟨doc,pm,c',ctv,h1,h2,h3,h4,h5,h6⟩:=id hR
 have lim:s.heap.NoLimit:=e0.mod.nolimit.keeps λ b o e=>(e0.bs b o e).1
 refine ga hr.depth (lamO_get e0.hok h1) rfl S.co S.gen rfl (codeO_get e0.hok h2) ?_
 rw[hbind doc pm c' ctv us (by rw[<-r.length];exact hl)]
 refine aE (enter_clos S.kind (λ y hy=>?_) λ env he s1 x=>?_)
 ·rcases S.par y.1 (dk (show(y.1,y.2)∈ps.zip us from hy)).1 with q|q
  ·exact .inl q
  ·exact .inr ⟨q,z5 q⟩
 ·subst he
  refine⟨lim.keeps x.toInCall.keep,codeAny_func ?_⟩
  obtain⟨t,ht,hq⟩:=hbody A outer s H (.ref c') vs Q (hr.deeper _) hR (λ b o e=>(e0.bs b o (e0.mod.kin b o e)).2) hsp
  have I:=inv_lam S hr.hd e0 hl hlc r h3 h4 h5 h6 x
  refine b8 (ht [] s1 _ _ _ I hq) (λ fl s' hs=>?_) λ e s' hs=>hs.elim
  have fin:∀ {σ':St} {H':Hp} {v:V} {u:Value},Inv (cxLam P w K mg base N qual scope f (.ref c') clos A outer s H) [] σ' H' s'->RelV v u->((∀ b,isC clos b=true->H' b=none)->Q v (Put clos H H'))->CE outer P w H s Q u s':=λ {σ' H' v u} J rv q=>by
   obtain⟨un,ok'⟩:=lam_end e0.hok h3 e0.frf J.base J.hok
   have gone:∀ b,isC clos b=true->H' b=none:=λ b y=>by
    obtain⟨o,v,z,_⟩:=h3.at y
    exact(show Un (frs outer) [] (Drop clos H) H' s.heap s'.heap from J.base).free b o (e0.hok b _ z).1 (Drop.cell y) (by simp)
   exact⟨v,_,J.os,J.bare,un,ok',rv,q gone⟩
  cases fl with
  | ret u =>
   obtain⟨v,σ',H',J,rv,q⟩:=hs
   exact fin J rv q
  | next =>
   obtain⟨σ',H',J,q⟩:=hs
   exact fin (v:=V.non) (u:=Value.none) J rfl q
  | brk =>
   obtain⟨_,_,_,q⟩:=hs
   exact bz q
  | cont =>
   obtain⟨_,_,_,q⟩:=hs
   exact bz q
theorem lam_ok2 {P:aL}{w:World}{K:ab}{mg:Str->Option Value}{base:Heap}{k:Nat}{f:Addr}{N ps fr:List Str}{qual:Str}{params:aY}{body:Expr}{scope:Scope}{clos:List (Str×Addr)}{cap:List V}{sp:Sp}
  (S:LamScope N ps fr scope) (len:∀ vs H Q E,sp vs H Q E->vs.length=ps.length) (hlc:cap.length=fr.length)
  (hbind:∀(pm:Value) (c':Addr) (ctv:Value) (us:List Value),us.length=ps.length->dY (bO "<lambda>" qual params body scope clos pm (.ref c') ctv) ⟨us,[]⟩=pure (ps.zip us))
  (hbody:∀(A:aS) (outer:List Env) (s:ae) (H:Hp) (cd:Value) (vs:List V) (Q:VK),Room k (A.deeper (cI qual scope s.heap.objs.size f cd (aI (s.heap.objs.size+1) scope.names clos)))->LamAt H f qual params body scope fr cap clos->(∀ b o,K.lookup b=some o->H b=none)->sp vs H Q E0 ->
   ∃ t,PE (cxLam P w K mg base N qual scope f cd clos A outer s H) body t/\t (vs.map some++cap.map some) (Drop clos H) λ v H'=>(∀ b,isC clos b=true->H' b=none)->Q v (Put clos H H')) :
  ClOk P w K mg base (k+1) (λ H=>LamAt H f qual params body scope fr cap clos) f sp:=by
 refine⟨λ A outer s H us vs Q hr e0 hR r hsp=>?_⟩
 have hl:=len _ _ _ _ hsp
 obtain⟨pm,c',ctv,h1,h2,h3,h4,h5,h6⟩:=id hR
 have lim:s.heap.NoLimit:=e0.mod.nolimit.keeps λ b o e=>(e0.bs b o e).1
 refine PySem.W.kla_callFunE hr.depth (lamO_get e0.hok h1) rfl S.co S.gen rfl (codeO_get e0.hok h2) ?_
 rw[hbind pm c' ctv us (by rw[<-r.length];exact hl)]
 refine aE (enter_clos S.kind (λ y hy=>?_) λ env he s1 x=>?_)
 ·rcases S.par y.1 (dk (show(y.1,y.2)∈ps.zip us from hy)).1 with q|q
  ·exact .inl q
  ·exact .inr ⟨q,z5 q⟩
 ·subst he
  refine⟨lim.keeps x.toInCall.keep,PySem.W.kla_codeExpr ?_⟩
  obtain⟨t,ht,hq⟩:=hbody A outer s H (.ref c') vs Q (hr.deeper _) hR (λ b o e=>(e0.bs b o (e0.mod.kin b o e)).2) hsp
  have I:=inv_lam S hr.hd e0 hl hlc r h3 h4 h5 h6 x
  refine b8 (ht [] s1 _ _ _ I hq) (λ u s' hs=>?_) λ e s' hs=>hs.elim
  obtain⟨v,H',J,rv,q⟩:=hs
  obtain⟨un,ok'⟩:=lam_end e0.hok h3 e0.frf J.base J.hok
  have gone:∀ b,isC clos b=true->H' b=none:=λ b y=>by
   obtain⟨o,v,z,_⟩:=h3.at y
   exact(show Un (frs outer) [] (Drop clos H) H' s.heap s'.heap from J.base).free b o (e0.hok b _ z).1 (Drop.cell y) (by simp)
  exact⟨v,_,J.os,J.bare,un,ok',rv,q gone⟩
theorem Rp.sameT {φ:Nat->Addr}{H H':Hp}{s:jK}(r:Rp Γ φ H s)(e:SameT H H')(st:∀ b,H b≠none->H' b≠none)(tb:TabsH Γ.T H'):Gr φ s H φ s H'/\Rp Γ φ H' s:=by
 have kp:Kp H H':=λ b o h f=>e b o (λ ps z=>by subst z;cases f) h
 have gw:Gw φ s.length H φ H':=⟨λ _ _=>rfl,kp⟩
 refine⟨⟨gw,aj _,λ i h1 h2=>absurd h2 (by omega),λ i o o' e e'=>by rw[e]at e';cases e';rfl,st,λ b o h nt _=>e b o nt h⟩,r.inj,λ i o eo=>?_,r.wf,tb⟩
 exact(r.obj i o eo).mono gw (r.wf i o eo) λ m u hu=>by
  obtain⟨u',hu',_,nt⟩:=(r.obj i o eo).there m
  rw[hu]at hu';cases hu'
  exact e _ _ nt hu
theorem Cells.kp {H H':Hp}(h:Cells clos H)(k:Kp H H'):Cells clos H':=λ x c e=>by
 obtain⟨o,v,q,d⟩:=h x c e
 exact⟨o,v,k _ _ q rfl,d⟩
noncomputable def PVp (Γ : Gm) (cells : List (Str × Addr)) (N : List Str) (σ : St) (φ : Nat -> Addr) (H : Hp) (d : DV.D) (v : V) : Prop := RV Γ φ H d v \/ ∃ id cs, d = .clo id cs /\ ∃ f J, v = .ref f /\ Γ.lg id J /\ CloRaw H f J (clOf cells J.scope.names []) /\
      cs.length = J.fr.length /\ (∀ x, J.scope.names.lookup x = some .free -> ∃ c, cells.lookup x = some c) /\
      ∃ cap, RVL Γ φ H cs cap /\ ∀(i : Nat) (x : Str) (v : V), J.fr[i]? = some x -> cap[i]? = some v -> J.scope.names.lookup x = some .free /\ ∃ j : Nat, N[j]? = some x /\ σ[j]? = some (some v)
inductive PVL (Γ:Gm)(cells:List (Str×Addr))(N:List Str)(σ:St)(φ:Nat->Addr)(H:Hp):List jL->List V->Prop where
 | nil:PVL Γ cells N σ φ H [] []
 | cons {d v l vs} (a:PVp Γ cells N σ φ H d v) (b:PVL Γ cells N σ φ H l vs):PVL Γ cells N σ φ H (d::l) (v::vs)
theorem PVp.mono {cells:List (Str×Addr)}{N:List Str}{σ:St}{φ φ':Nat->Addr}{s s':jK}{H H':Hp}(g:Gr φ s H φ' s' H'){d:jL}{v:V}(b:d.bnd s.length=true)(h:PVp Γ cells N σ φ H d v):PVp Γ cells N σ φ' H' d v:=by
 rcases h with h|⟨id,cs,rfl,h⟩
 ·exact .inl (RV.mono g _ _ b h)
 ·obtain⟨f,J,e,h1,h2,h4,h5,cap,h6,h7⟩:=h
  unfold jO at b
  exact .inr ⟨id,cs,rfl,f,J,e,h1,h2.kp g.w.kp,h4,h5,cap,RVL.mono g cs cap b h6,h7⟩
theorem PVp.caught {cells:List (Str×Addr)}{N:List Str}{kd:Str->Option bJ}{σ:St}{φ:Nat->Addr}{n:Nat}{H1 H2:Hp}(ca:Caught cells N kd σ H1 H2)(hkd:∀ x c,cells.lookup x=some c->kd x=some .cell\/kd x=some .free){d:jL}{v:V}(b:d.bnd n=true)(h:PVp Γ cells N σ φ H1 d v):RV Γ φ H2 d v:=by
 have gw:Gw φ n H1 φ H2:=⟨λ _ _=>rfl,λ b o e _=>ca.same b o e⟩
 rcases h with h|⟨id,cs,rfl,h⟩
 ·exact RV.monoW gw _ _ b h
 ·obtain⟨f,J,e,h1,h2,h4,h5,cap,h6,h7⟩:=h
  unfold jO at b
  unfold RV
  have hcap:∀(i:Nat) (x:Str) (v:V),J.fr[i]?=some x->cap[i]?=some v->J.scope.names.lookup x=some .free/\(kd x=some .cell\/kd x=some .free)/\∃ j:Nat,N[j]?=some x/\σ[j]?=some (some v):=λ i x v e1 e2=>by
   obtain⟨q1,q2⟩:=h7 i x v e1 e2
   obtain⟨c,q3⟩:=h5 x q1
   exact⟨q1,hkd x c q3,q2⟩
  have hat:CloAt H2 f J cap (clOf cells J.scope.names []):=by
   unfold CloAt
   unfold CloRaw at h2
   cases q:J.nm with
   | none=>rw[q]at h2;exact lamAt_of ca h2 h5 hcap
   | some p=>rw[q]at h2;exact defIn_of ca h2 h5 hcap
  exact⟨f,cap,J,_,e,h1,hat,by rw[h6.length,h4],RVL.monoW gw cs cap b h6⟩
theorem PVL.caught {cells:List (Str×Addr)}{N:List Str}{kd:Str->Option bJ}{σ:St}{φ:Nat->Addr}{n:Nat}{H1 H2:Hp}(ca:Caught cells N kd σ H1 H2)(hkd:∀ x c,cells.lookup x=some c->kd x=some .cell\/kd x=some .free){l:List jL}{vs:List V}(h:PVL Γ cells N σ φ H1 l vs)(b:jM n l=true):RVL Γ φ H2 l vs:=by
 induction h with
 | nil=>exact .nil
 | cons a _ ih =>
  unfold jM at b
  rw[ao]at b
  exact .cons (a.caught ca hkd b.1) (ih b.2)
end
variable {Γ:Gm} {X:Cx}
noncomputable def TEv (Γ:Gm)(m:jN->jK->jQ jL):TE:=λ σ H Q=>∃ φ ρ s d s',RE Γ φ H s.length ρ σ/\Rp Γ φ H s/\m ρ s=.ok d s'/\After Γ φ s H d s' Q
noncomputable def AfterL (Γ:Gm)(φ:Nat->Addr)(s:jK)(H:Hp)(l:List jL)(s':jK)(Q:List V->Hp->Prop):Prop :=
 ∀ vs φ' H',Gr φ s H φ' s' H'->s.length<=s'.length->jM s'.length l=true->RVL Γ φ' H' l vs->Rp Γ φ' H' s'->Q vs H'
noncomputable def TAv (Γ:Gm)(m:jN->jK->jQ (List jL)):TA:=λ σ H Q=>∃ φ ρ s l s',RE Γ φ H s.length ρ σ/\Rp Γ φ H s/\m ρ s=.ok l s'/\AfterL Γ φ s H l s' Q
noncomputable def AfterB (Γ:Gm)(φ:Nat->Addr)(s:jK)(H:Hp)(b:Bool)(s':jK)(Q:Bool->Hp->Prop):Prop :=
 ∀ φ' H',Gr φ s H φ' s' H'->s.length<=s'.length->Rp Γ φ' H' s'->Q b H'
noncomputable def TTv (Γ:Gm)(m:jN->jK->jQ jL):TT:=λ σ H Q=>∃ φ ρ s b s',RE Γ φ H s.length ρ σ/\Rp Γ φ H s/\m ρ s=.ok (.bl b) s'/\AfterB Γ φ s H b s' Q
theorem PE.imp {e:Expr}{t t':TE}(h:PE X e t)(i:∀ σ H Q,t' σ H Q->t σ H Q):PE X e t':=λ pins s σ H Q I q=>h pins s σ H Q I (i σ H Q q)
theorem PT.imp {e:Expr}{t t':TT}(h:PT X e t)(i:∀ σ H Q,t' σ H Q->t σ H Q):PT X e t':=λ pins s σ H Q I q=>h pins s σ H Q I (i σ H Q q)
theorem PA.imp {e:List Expr}{t t':TA}(h:PA X e t)(i:∀ σ H Q,t' σ H Q->t σ H Q):PA X e t':=λ pos pins s σ H Q I q=>h pos pins s σ H Q I (i σ H Q q)
theorem AfterB.trans {φ φ1:Nat->Addr}{s s1 s':jK}{H H1:Hp}{b:Bool}{Q:Bool->Hp->Prop}(h:AfterB Γ φ s H b s' Q)(g:Gr φ s H φ1 s1 H1)(l:s.length<=s1.length):AfterB Γ φ1 s1 H1 b s' Q :=
 λ φ' H' g' l' p=>h φ' H' (g.trans g' l) (am l l') p
theorem tv_var (i:Nat){σ:St}{H:Hp}{Q:VK}(h:TEv Γ (λ ρ s=>DV.getV ρ i s) σ H Q):tVar i σ H Q:=by
 obtain⟨φ,ρ,s,d,s',E,R,hm,q⟩:=h
 simp only[DV.getV]at hm
 split at hm
 ·rename_i d' e
  cases hm
  obtain⟨b,v,e1,e2⟩:=E.val i _ e
  exact⟨v,e1,q.here R b e2⟩
 ·cases hm
theorem tv_cst {c:jL}{v:V}(hb:∀ n,c.bnd n=true)(hv:∀ φ H,RV Γ φ H c v){σ:St}{H:Hp}{Q:VK}(h:TEv Γ (λ ρ s=>.ok c s) σ H Q):tC v σ H Q:=by
 obtain⟨φ,ρ,s,d,s',E,R,hm,q⟩:=h
 cases hm
 exact q.here R (hb _) (hv _ _)
theorem tv_op {m1 m2:jN->jK->jQ jL}{f:jL->jL->jK->jQ jL}{σ:St}{H:Hp}{Q:VK}(h:TEv Γ (λ ρ s=>(m1 ρ s).bind λ x s=>(m2 ρ s).bind λ y s=>f x y s) σ H Q):tOp (rOp Γ f) (TEv Γ m1) (TEv Γ m2) σ H Q:=by
 obtain⟨φ,ρ,s,d,s',E,R,hm,q⟩:=h
 obtain⟨x,s1,e1,hm⟩:=bind_inv hm
 obtain⟨y,s2,e2,hm⟩:=bind_inv hm
 refine⟨φ,ρ,s,x,s1,E,R,e1,λ v1 φ1 H1 g1 l1 b1 r1 R1=>?_⟩
 refine⟨φ1,ρ,s1,y,s2,E.mono g1 l1,R1,e2,λ v2 φ2 H2 g2 l2 b2 r2 R2=>?_⟩
 exact⟨φ2,s2,x,y,d,s',R2,RV.mono g2 x v1 b1 r1,r2,zw l2 x b1,b2,hm,q.trans (g1.trans g2 l1) (am l1 l2)⟩
theorem zS {α:Type}{r:jQ jL}{f:Bool->jK->jQ α}{a:α}{t:jK}(h:jW r f=.ok a t):∃ b s,r=.ok (.bl b) s/\f b s=.ok a t:=by
 unfold jW at h
 obtain⟨d,s,e,h⟩:=bind_inv h
 cases d with
 | bl b=>exact⟨b,s,e,h⟩
 | _=>cases h
theorem tt_val {m:jN->jK->jQ jL}{σ:St}{H:Hp}{Q:Bool->Hp->Prop}(h:TTv Γ m σ H Q):tB (TEv Γ m) σ H Q:=by
 obtain⟨φ,ρ,s,b,s',E,R,hm,q⟩:=h
 refine⟨φ,ρ,s,.bl b,s',E,R,hm,λ v φ' H' g l bb r R'=>?_⟩
 exact⟨b,r.blE,q φ' H' g l R'⟩
theorem tt_test {m:jN->jK->jQ jL}{σ:St}{H:Hp}{Q:Bool->Hp->Prop}(h:TTv Γ m σ H Q):tTest (TEv Γ m) σ H Q:=tt_val h
theorem tt_not {m:jN->jK->jQ jL}{σ:St}{H:Hp}{Q:Bool->Hp->Prop}(h:TTv Γ (λ ρ s=>jW (m ρ s) λ b s=>.ok (.bl (!b)) s) σ H Q):tNot (TTv Γ m) σ H Q:=by
 obtain⟨φ,ρ,s,b,s',E,R,hm,q⟩:=h
 obtain⟨c,s1,e1,hm⟩:=zS hm
 cases hm
 exact⟨φ,ρ,s,c,_,E,R,e1,q⟩
theorem tt_and {m1 m2:jN->jK->jQ jL}{σ:St}{H:Hp}{Q:Bool->Hp->Prop}(h:TTv Γ (λ ρ s=>jW (m1 ρ s) λ c s=>if c then jW (m2 ρ s) λ c s=>.ok (.bl c) s else .ok (.bl false) s) σ H Q):tAnd (TTv Γ m1) (TTv Γ m2) σ H Q:=by
 obtain⟨φ,ρ,s,b,s',E,R,hm,q⟩:=h
 obtain⟨c,s1,e1,hm⟩:=zS hm
 refine⟨φ,ρ,s,c,s1,E,R,e1,λ φ1 H1 g1 l1 R1=>?_⟩
 cases c with
 | true =>
  rw[if_pos rfl]at hm ⊢
  obtain⟨c',s2,e2,hm⟩:=zS hm
  cases hm
  exact⟨φ1,ρ,s1,_,_,E.mono g1 l1,R1,e2,q.trans g1 l1⟩
 | false =>
  rw[if_neg aP]at hm ⊢
  cases hm
  exact q φ1 H1 g1 l1 R1
theorem tt_or {m1 m2:jN->jK->jQ jL}{σ:St}{H:Hp}{Q:Bool->Hp->Prop}(h:TTv Γ (λ ρ s=>jW (m1 ρ s) λ c s=>if c then .ok (.bl true) s else jW (m2 ρ s) λ c s=>.ok (.bl c) s) σ H Q):tOr (TTv Γ m1) (TTv Γ m2) σ H Q:=by
 obtain⟨φ,ρ,s,b,s',E,R,hm,q⟩:=h
 obtain⟨c,s1,e1,hm⟩:=zS hm
 refine⟨φ,ρ,s,c,s1,E,R,e1,λ φ1 H1 g1 l1 R1=>?_⟩
 cases c with
 | true =>
  rw[if_pos rfl]at hm ⊢
  cases hm
  exact q φ1 H1 g1 l1 R1
 | false =>
  rw[if_neg aP]at hm ⊢
  obtain⟨c',s2,e2,hm⟩:=zS hm
  cases hm
  exact⟨φ1,ρ,s1,_,_,E.mono g1 l1,R1,e2,q.trans g1 l1⟩
theorem tv_not {m:jN->jK->jQ jL}{σ:St}{H:Hp}{Q:VK}(h:TEv Γ (λ ρ s=>jW (m ρ s) λ b s=>.ok (.bl (!b)) s) σ H Q):tNotV (TEv Γ m) σ H Q:=by
 obtain⟨φ,ρ,s,d,s',E,R,hm,q⟩:=h
 obtain⟨c,s1,e1,hm⟩:=zS hm
 cases hm
 exact⟨φ,ρ,s,.bl c,_,E,R,e1,λ v φ1 H1 g l b r R1=>⟨c,r.blE,q _ φ1 H1 g l rfl RV.blI R1⟩⟩
theorem tv_and {m1 m2:jN->jK->jQ jL}{σ:St}{H:Hp}{Q:VK}(h:TEv Γ (λ ρ s=>jW (m1 ρ s) λ c s=>if c then jW (m2 ρ s) λ c s=>.ok (.bl c) s else .ok (.bl false) s) σ H Q):tAndV (TEv Γ m1) (TEv Γ m2) σ H Q:=by
 obtain⟨φ,ρ,s,d,s',E,R,hm,q⟩:=h
 obtain⟨c,s1,e1,hm⟩:=zS hm
 refine⟨φ,ρ,s,.bl c,s1,E,R,e1,λ v φ1 H1 g1 l1 b1 r1 R1=>⟨c,r1.blE,?_⟩⟩
 cases c with
 | true =>
  rw[if_pos rfl]at hm ⊢
  obtain⟨c,s2,e2,hm⟩:=zS hm
  cases hm
  exact⟨φ1,ρ,s1,.bl c,_,E.mono g1 l1,R1,e2,q.trans g1 l1⟩
 | false =>
  rw[if_neg aP]at hm ⊢
  cases hm
  exact q _ φ1 H1 g1 l1 rfl RV.blI R1
theorem tv_or {m1 m2:jN->jK->jQ jL}{σ:St}{H:Hp}{Q:VK}(h:TEv Γ (λ ρ s=>jW (m1 ρ s) λ c s=>if c then .ok (.bl true) s else jW (m2 ρ s) λ c s=>.ok (.bl c) s) σ H Q):tOrV (TEv Γ m1) (TEv Γ m2) σ H Q:=by
 obtain⟨φ,ρ,s,d,s',E,R,hm,q⟩:=h
 obtain⟨c,s1,e1,hm⟩:=zS hm
 refine⟨φ,ρ,s,.bl c,s1,E,R,e1,λ v φ1 H1 g1 l1 b1 r1 R1=>⟨c,r1.blE,?_⟩⟩
 cases c with
 | true =>
  rw[if_pos rfl]at hm ⊢
  cases hm
  exact q _ φ1 H1 g1 l1 rfl RV.blI R1
 | false =>
  rw[if_neg aP]at hm ⊢
  obtain⟨c,s2,e2,hm⟩:=zS hm
  cases hm
  exact⟨φ1,ρ,s1,.bl c,_,E.mono g1 l1,R1,e2,q.trans g1 l1⟩
theorem tv_ite {mc m1 m2:jN->jK->jQ jL}{σ:St}{H:Hp}{Q:VK}(h:TEv Γ (λ ρ s=>jW (mc ρ s) λ k s=>if k then m1 ρ s else m2 ρ s) σ H Q):tIf (TTv Γ mc) (TEv Γ m1) (TEv Γ m2) σ H Q:=by
 obtain⟨φ,ρ,s,d,s',E,R,hm,q⟩:=h
 obtain⟨c,s1,e1,hm⟩:=zS hm
 refine⟨φ,ρ,s,c,s1,E,R,e1,λ φ1 H1 g1 l1 R1=>?_⟩
 cases c with
 | true =>
  rw[if_pos rfl]at hm ⊢
  exact⟨φ1,ρ,s1,d,s',E.mono g1 l1,R1,hm,q.trans g1 l1⟩
 | false =>
  rw[if_neg aP]at hm ⊢
  exact⟨φ1,ρ,s1,d,s',E.mono g1 l1,R1,hm,q.trans g1 l1⟩
theorem tv_chain {ma mb mc:jN->jK->jQ jL}{f g:jL->jL->jK->jQ jL}{σ:St}{H:Hp}{Q:VK}(h:TEv Γ (λ ρ s=>(ma ρ s).bind λ x s=>(mb ρ s).bind λ y s=>jW (f x y s) λ k s=>if k then(mc ρ s).bind λ z s=>g y z s else .ok (.bl false) s) σ H Q) :
  tChain (rOp Γ f) (rOp Γ g) (TEv Γ ma) (TEv Γ mb) (TEv Γ mc) σ H Q:=by
 obtain⟨φ,ρ,s,d,s',E,R,hm,q⟩:=h
 obtain⟨x,s1,e1,hm⟩:=bind_inv hm
 obtain⟨y,s2,e2,hm⟩:=bind_inv hm
 obtain⟨c,s3,e3,hm⟩:=zS hm
 refine⟨φ,ρ,s,x,s1,E,R,e1,λ v1 φ1 H1 g1 l1 b1 r1 R1=>?_⟩
 refine⟨φ1,ρ,s1,y,s2,E.mono g1 l1,R1,e2,λ v2 φ2 H2 g2 l2 b2 r2 R2=>?_⟩
 refine⟨φ2,s2,x,y,.bl c,s3,R2,RV.mono g2 x v1 b1 r1,r2,zw l2 x b1,b2,e3,λ v3 φ3 H3 g3 l3 b3 r3 R3=>⟨c,r3.blE,?_⟩⟩
 have G:=(g1.trans g2 l1).trans g3 (am l1 l2)
 have L:=am (am l1 l2) l3
 cases c with
 | true =>
  rw[if_pos rfl]at hm ⊢
  obtain⟨z,s4,e4,hm⟩:=bind_inv hm
  refine⟨φ3,ρ,s3,z,s4,E.mono G L,R3,e4,λ v4 φ4 H4 g4 l4 b4 r4 R4=>?_⟩
  exact⟨φ4,s4,y,z,d,s',R4,RV.mono (g3.trans g4 l3) y v2 b2 r2,r4,zw (am l3 l4) y b2,b4,hm,q.trans (G.trans g4 L) (am L l4)⟩
 | false =>
  rw[if_neg aP]at hm ⊢
  cases hm
  exact q _ φ3 H3 G L rfl RV.blI R3
theorem ta_nil {σ:St}{H:Hp}{Q:List V->Hp->Prop}(h:TAv Γ (λ ρ s=>.ok [] s) σ H Q):tNil σ H Q:=by
 obtain⟨φ,ρ,s,d,s',E,R,hm,q⟩:=h
 cases hm
 exact q [] φ H (Gr.refl _ _ _) (aj _) rfl .nil R
theorem ta_cons {m:jN->jK->jQ jL}{ms:jN->jK->jQ (List jL)}{σ:St}{H:Hp}{Q:List V->Hp->Prop}(h:TAv Γ (λ ρ s=>(m ρ s).bind λ d s=>(ms ρ s).bind λ l s=>.ok (d::l) s) σ H Q):tCons (TEv Γ m) (TAv Γ ms) σ H Q:=by
 obtain⟨φ,ρ,s,l,s',E,R,hm,q⟩:=h
 obtain⟨x,s1,e1,hm⟩:=bind_inv hm
 obtain⟨y,s2,e2,hm⟩:=bind_inv hm
 cases hm
 refine⟨φ,ρ,s,x,s1,E,R,e1,λ v1 φ1 H1 g1 l1 b1 r1 R1=>?_⟩
 refine⟨φ1,ρ,s1,y,_,E.mono g1 l1,R1,e2,λ v2 φ2 H2 g2 l2 b2 r2 R2=>?_⟩
 refine q (v1::v2) φ2 H2 (g1.trans g2 l1) (am l1 l2) ?_ (.cons (RV.mono g2 x v1 b1 r1) r2) R2
 unfold jM
 rw[zw l2 x b1,b2];rfl
theorem tv_call {ms:jN->jK->jQ (List jL)}{f:List jL->jK->jQ jL}{σ:St}{H:Hp}{Q:VK}(h:TEv Γ (λ ρ s=>(ms ρ s).bind λ l s=>f l s) σ H Q):tCB (rCl Γ f) (TAv Γ ms) σ H Q:=by
 obtain⟨φ,ρ,s,d,s',E,R,hm,q⟩:=h
 obtain⟨l,s1,e1,hm⟩:=bind_inv hm
 exact⟨φ,ρ,s,l,s1,E,R,e1,λ vs φ1 H1 g1 l1 b1 r1 R1=>⟨φ1,s1,l,d,s',R1,r1,b1,hm,q.trans g1 l1⟩⟩
theorem tv_sl {m:jN->jK->jQ jL}{ml mh:jN->jK->jQ jL}{σ:St}{H:Hp}{Q:VK} :
  (TEv Γ (λ ρ s=>(m ρ s).bind λ x s=>(ml ρ s).bind λ y s=>match y with|.int i=>kO x (some i) none s|_=>.bad) σ H Q->tSl (rSl Γ) (TEv Γ m) (tPart (TEv Γ ml)) tNoPart σ H Q) /\
  (TEv Γ (λ ρ s=>(m ρ s).bind λ x s=>(mh ρ s).bind λ y s=>match y with|.int i=>kO x none (some i) s|_=>.bad) σ H Q->tSl (rSl Γ) (TEv Γ m) tNoPart (tPart (TEv Γ mh)) σ H Q) /\
  (TEv Γ (λ ρ s=>(m ρ s).bind λ x s=>(ml ρ s).bind λ y s=>match y with|.int i=>(mh ρ s).bind (λ z s=>match z with|.int j=>kO x (some i) (some j) s|_=>.bad)|_=>.bad) σ H Q->tSl (rSl Γ) (TEv Γ m) (tPart (TEv Γ ml)) (tPart (TEv Γ mh)) σ H Q):=by
 refine⟨λ h=>?_,λ h=>?_,λ h=>?_⟩
 ·obtain⟨φ,ρ,s,d,s',E,R,hm,q⟩:=h
  obtain⟨x,s1,e1,hm⟩:=bind_inv hm
  obtain⟨y,s2,e2,hm⟩:=bind_inv hm
  refine⟨φ,ρ,s,x,s1,E,R,e1,λ v1 φ1 H1 g1 l1 b1 r1 R1=>?_⟩
  refine⟨φ1,ρ,s1,y,s2,E.mono g1 l1,R1,e2,λ v2 φ2 H2 g2 l2 b2 r2 R2=>?_⟩
  cases y with
  | int i=>exact⟨i,r2.intE,φ2,s2,x,d,s',R2,RV.mono g2 x v1 b1 r1,zw l2 x b1,hm,q.trans (g1.trans g2 l1) (am l1 l2)⟩
  | _=>cases hm
 ·obtain⟨φ,ρ,s,d,s',E,R,hm,q⟩:=h
  obtain⟨x,s1,e1,hm⟩:=bind_inv hm
  obtain⟨y,s2,e2,hm⟩:=bind_inv hm
  refine⟨φ,ρ,s,x,s1,E,R,e1,λ v1 φ1 H1 g1 l1 b1 r1 R1=>?_⟩
  refine⟨φ1,ρ,s1,y,s2,E.mono g1 l1,R1,e2,λ v2 φ2 H2 g2 l2 b2 r2 R2=>?_⟩
  cases y with
  | int i=>exact⟨i,r2.intE,φ2,s2,x,d,s',R2,RV.mono g2 x v1 b1 r1,zw l2 x b1,hm,q.trans (g1.trans g2 l1) (am l1 l2)⟩
  | _=>cases hm
 ·obtain⟨φ,ρ,s,d,s',E,R,hm,q⟩:=h
  obtain⟨x,s1,e1,hm⟩:=bind_inv hm
  obtain⟨y,s2,e2,hm⟩:=bind_inv hm
  refine⟨φ,ρ,s,x,s1,E,R,e1,λ v1 φ1 H1 g1 l1 b1 r1 R1=>?_⟩
  refine⟨φ1,ρ,s1,y,s2,E.mono g1 l1,R1,e2,λ v2 φ2 H2 g2 l2 b2 r2 R2=>?_⟩
  cases y with
  | int i =>
   obtain⟨z,s3,e3,hm⟩:=bind_inv hm
   refine⟨i,r2.intE,φ2,ρ,s2,z,s3,E.mono (g1.trans g2 l1) (am l1 l2),R2,e3,λ v3 φ3 H3 g3 l3 b3 r3 R3=>?_⟩
   cases z with
   | int j=>exact⟨j,r3.intE,φ3,s3,x,d,s',R3,RV.mono (g2.trans g3 l2) x v1 b1 r1,zw (am l2 l3) x b1,hm,q.trans ((g1.trans g2 l1).trans g3 (am l1 l2)) (am (am l1 l2) l3)⟩
   | _=>cases hm
  | _=>cases hm
variable {Γ:Gm} {X:Cx}
noncomputable def WalkOk (Γ:Gm)(J:It)(φ0:Nat->Addr)(H0:Hp)(s0:jK)(q:kG):Prop :=
 ∀ φ H s,Gr φ0 s0 H0 φ s H->s0.length<=s.length->Rp Γ φ H s->km s0 s q.src=true->∀ i:Nat,
  (i<q.its.length->J.go i H/\∀ x H',J.yld i H x H'->Same H H'/\∀ d,q.its[i]?=some d->RV Γ φ H' d x)/\(q.its.length<=i->J.stop i H)
noncomputable def TIv (Γ:Gm)(m:jN->jK->jQ kG):TI:=λ σ H R=>∃ φ ρ s q s',RE Γ φ H s.length ρ σ/\Rp Γ φ H s/\m ρ s=.ok q s' /\
 ∀ J φ' H',Gr φ s H φ' s' H'->s.length<=s'.length->jM s'.length q.its=true->Rp Γ φ' H' s'->WalkOk Γ J φ' H' s' q->R J H'
theorem PI.imp {tg e:Expr}{t t':TI}(h:PI X tg e t)(i:∀ σ H R,t' σ H R->t σ H R):PI X tg e t':=λ pins s σ H R I q=>h pins s σ H R I (i σ H R q)
theorem PI.or {tg e:Expr}{t t':TI}(h:PI X tg e t)(h':PI X tg e t'):PI X tg e (λ σ H R=>t σ H R\/t' σ H R):=λ pins s σ H R I q=>q.elim (h pins s σ H R I) (h' pins s σ H R I)
theorem walk_tup {φ0:Nat->Addr}{H0:Hp}{s0:jK}{a:Addr}{xs:List V}{l:List jL}(h:SqT Γ.K H0 a xs)(hl:RVL Γ φ0 H0 l xs)(hb:jM s0.length l=true):WalkOk Γ (Itt Γ.K a) φ0 H0 s0 ⟨l,[]⟩:=by
 intro φ H s g _ R _ i
 have h':=g.w.kp.sqT h
 have hl':=RVL.mono g l xs hb hl
 refine⟨λ hlt=>⟨⟨xs,xs[i]'(by rw[hl'.length];exact hlt),h',af _⟩,λ x H' y=>?_⟩,λ hle=>⟨xs,h',by rw[hl'.length];exact hle⟩⟩
 obtain⟨e,y⟩:=y
 subst e
 refine⟨Same.refl _,λ d hd=>?_⟩
 obtain⟨v,e1,e2⟩:=hl'.get hd
 rw[y xs h']at e1;cases e1
 exact e2
theorem walk_ro {φ0:Nat->Addr}{H0:Hp}{s0:jK}{a:Addr}{xs:List V}{l:List jL}(h:SqF Γ.K H0 a xs)(hl:RVL Γ φ0 H0 l xs)(hb:jM s0.length l=true):WalkOk Γ (Itl Γ.K a) φ0 H0 s0 ⟨l,[]⟩:=by
 intro φ H s g _ R _ i
 have h':=h.2 _ g.w.kp
 have hl':=RVL.mono g l xs hb hl
 refine⟨λ hlt=>⟨⟨xs,xs[i]'(by rw[hl'.length];exact hlt),h',af _⟩,λ x H' y=>?_⟩,λ hle=>⟨xs,h',by rw[hl'.length];exact hle⟩⟩
 obtain⟨e,y⟩:=y
 subst e
 refine⟨Same.refl _,λ d hd=>?_⟩
 obtain⟨v,e1,e2⟩:=hl'.get hd
 rw[y xs h']at e1;cases e1
 exact e2
theorem walk_lst {φ0:Nat->Addr}{H0:Hp}{s0:jK}{r:Nat}{l:List jL}(hr:s0[r]?=some (.lst l)):WalkOk Γ (Itl Γ.K (φ0 r)) φ0 H0 s0 ⟨l,[r]⟩:=by
 intro φ H s g _ R ck i
 have hlt0:r<s0.length:=(ac.mp hr).1
 have hs:s[r]?=some (.lst l):=by
  unfold km at ck
  simp only[dU,jw,dW,decide_eq_true_eq]at ck
  rw[ck];exact hr
 obtain⟨xs,e,hl'⟩:=R.addr hs
 rw[g.w.map r hlt0]at e
 have h':SqL Γ.K H (φ0 r) xs:=SqL.of e
 refine⟨λ hlt=>⟨⟨xs,xs[i]'(by rw[hl'.length];exact hlt),h',af _⟩,λ x H' y=>?_⟩,λ hle=>⟨xs,h',by rw[hl'.length];exact hle⟩⟩
 obtain⟨e,y⟩:=y
 subst e
 refine⟨Same.refl _,λ d hd=>?_⟩
 obtain⟨v,e1,e2⟩:=hl'.get hd
 rw[y xs h']at e1;cases e1
 exact e2
theorem walk_str {φ0:Nat->Addr}{H0:Hp}{s0:jK}{l:List Nat}:WalkOk Γ (Its ⟨l.toArray⟩) φ0 H0 s0 ⟨l.map λ c=>.str [c],[]⟩:=by
 intro φ H s g _ R _ i
 have hsz:(⟨l.toArray⟩:Str).cps.size=l.length:=by simp
 refine⟨λ hlt=>?_,λ hle=>?_⟩
 ·simp only[aG]at hlt
  refine⟨show i<(⟨l.toArray⟩:Str).cps.size by rw[hsz];exact hlt,λ x H' y=>?_⟩
  obtain⟨e,c,hc,rfl⟩:=y
  subst e
  refine⟨Same.refl _,λ d hd=>?_⟩
  have hc':l[i]?=some c:=by simpa using hc
  rw[aB,hc']at hd
  cases hd
  exact RV.strI (by simp;decide)
 ·simp only[aG]at hle
  show(⟨l.toArray⟩:Str).cps.size<=i
  rw[hsz];exact hle
theorem walk_rng {φ0:Nat->Addr}{H0:Hp}{s0:jK}{a b:Int}:WalkOk Γ (Itr a (b - a).toNat) φ0 H0 s0 ⟨kR a b,[]⟩:=by
 intro φ H s g _ R _ i
 have hn:(kR a b).length=(b - a).toNat:=by simp[kR]
 refine⟨λ hlt=>⟨show i<(b - a).toNat by rw[<-hn];exact hlt,λ x H' y=>?_⟩,λ hle=>show(b - a).toNat<=i by rw[<-hn];exact hle⟩
 obtain⟨e,rfl⟩:=y
 subst e
 refine⟨Same.refl _,λ d hd=>?_⟩
 simp only[kR]at hd hlt
 rw[aB,bv (by simpa using hlt)]at hd
 cases hd
 exact RV.intI
theorem ti_rng1 {m:jN->jK->jQ jL}{σ:St}{H:Hp}{R:It->Hp->Prop}(h:TIv Γ (λ ρ s=>(m ρ s).bind λ x s=>match x with|.int i=>if -lh<=i/\i<lh then .ok ⟨kR 0 i,[]⟩ s else .bad|_=>.bad) σ H R) :
  iRng1 (tCons (TEv Γ m) tNil) σ H R:=by
 obtain⟨φ,ρ,s,q,s',E,P,hm,k⟩:=h
 obtain⟨x,s1,e1,hm⟩:=bind_inv hm
 refine⟨φ,ρ,s,x,s1,E,P,e1,λ v φ1 H1 g l b r P1=>?_⟩
 cases x with
 | int i =>
  simp only at hm
  split at hm
  ·rename_i hi
   cases hm
   have hw:lh=2^62:=by decide
   rw[hw]at hi
   refine⟨i,by rw[r.intE],hi.1,hi.2,k _ φ1 H1 g l ?_ P1 ?_⟩
   ·refine bndL_iff.mpr λ d hd=>?_
    simp only[kR,ax]at hd
    obtain⟨_,_,rfl⟩:=hd
    rfl
   ·have:=walk_rng (Γ:=Γ) (φ0:=φ1) (H0:=H1) (s0:=s') (a:=0) (b:=i)
    rwa [jx]at this
  ·cases hm
 | _=>cases hm
theorem ti_seq {m:jN->jK->jQ jL}{σ:St}{H:Hp}{R:It->Hp->Prop}(h:TIv Γ (λ ρ s=>(m ρ s).bind λ d s=>DV.seqM d s) σ H R) :
  iTup Γ.K (TEv Γ m) σ H R\/iList Γ.K (TEv Γ m) σ H R\/iStr (TEv Γ m) σ H R:=by
 obtain⟨φ,ρ,s,q,s',E,P,hm,k⟩:=h
 obtain⟨x,s1,e1,hm⟩:=bind_inv hm
 unfold DV.seqM at hm
 cases x with
 | tup l =>
  cases hm
  refine .inl ⟨φ,ρ,s,_,_,E,P,e1,λ v φ1 H1 g l b r P1=>?_⟩
  obtain⟨a,xs,rfl,h1,d1⟩:=r.tupE
  unfold jO at b
  exact⟨a,rfl,⟨xs,h1⟩,k _ φ1 H1 g l b P1 (walk_tup h1 d1 b)⟩
 | str l =>
  cases hm
  refine .inr (.inr ⟨φ,ρ,s,_,_,E,P,e1,λ v φ1 H1 g ll b r P1=>?_⟩)
  refine⟨_,r.strE,k _ φ1 H1 g ll ?_ P1 walk_str⟩
  refine bndL_iff.mpr λ d hd=>?_
  simp only[ax]at hd
  obtain⟨_,_,rfl⟩:=hd
  rfl
 | ref r =>
  simp only at hm
  cases hs:s1[r]? with
  | none=>rw[hs]at hm;cases hm
  | some o =>
   rw[hs]at hm
   cases o with
   | lst l =>
    cases hm
    refine .inr (.inl ⟨φ,ρ,s,_,_,E,P,e1,λ v φ1 H1 g ll b rr P1=>?_⟩)
    have e:=rr.refE;subst e
    obtain⟨xs,e2,d1⟩:=P1.addr hs
    have wf:=P1.wf _ _ hs
    unfold jR at wf
    exact⟨φ1 r,rfl,⟨xs,SqL.of e2⟩,k _ φ1 H1 g ll wf P1 (walk_lst hs)⟩
   | ro l =>
    cases hm
    refine .inr (.inl ⟨φ,ρ,s,_,_,E,P,e1,λ v φ1 H1 g ll b rr P1=>?_⟩)
    have e:=rr.refE;subst e
    obtain⟨xs,e2,d1⟩:=P1.obj _ _ hs
    have wf:=P1.wf _ _ hs
    unfold jR at wf
    exact⟨φ1 r,rfl,⟨xs,e2.1⟩,k _ φ1 H1 g ll wf P1 (walk_ro e2 d1 wf)⟩
   | dic l=>cases hm
   | ins c l=>cases hm
 | _=>cases hm
variable {Γ:Gm} {X:Cx}
noncomputable def gsOf:List Nat->TGs
 | []=>gNil
 | i::is=>gCons (gName i) (gsOf is)
noncomputable def gOf (K:ab):ki->TG
 | .one i=>gName i
 | .tup is=>gTup K is.length (gsOf is)
theorem re_set {φ:Nat->Addr}{H:Hp}{n:Nat}{ρ ρ':jN}{σ:St}{i:Nat}{d:jL}{v:V}(E:RE Γ φ H n ρ σ)(r:RV Γ φ H d v)(b:d.bnd n=true)(h:ko ρ i d=some ρ'):RE Γ φ H n ρ' (σ.set i (some v)):=by
 unfold ko at h
 split at h
 ·rename_i hi
  cases h
  refine⟨by rw[bG,bG];exact E.len,λ j e hj=>?_⟩
  by_cases hij:j=i
  ·subst hij
   rw[aU hi]at hj
   cases hj
   exact⟨b,v,by rw[aU (by rw[<-E.len];exact hi)],r⟩
  ·rw[a7 (bQ hij)]at hj
   obtain⟨h1,w,h2,h3⟩:=E.val j e hj
   exact⟨h1,w,by rw[a7 (bQ hij)];exact h2,h3⟩
 ·cases h
theorem gs_ok {φ:Nat->Addr}{H:Hp}{n:Nat}{Q:St->Hp->Prop}:∀(is:List Nat) (l:List jL) (xs:List V) (ρ ρ':jN) (σ:St),RE Γ φ H n ρ σ->RVL Γ φ H l xs->jM n l=true->kq ρ is l=some ρ'->(∀ σ',RE Γ φ H n ρ' σ'->Q σ' H)->gsOf is xs σ H Q
 | [],[],xs,ρ,ρ',σ,E,r,_,h,k=>by
  cases h
  exact⟨r.unnil,k σ E⟩
 | [],d::l,_,_,_,_,_,_,_,h,_=>by cases h
 | i::is,[],_,_,_,_,_,_,_,h,_=>by cases h
 | i::is,d::l,xs,ρ,ρ',σ,E,r,b,h,k=>by
  have h:(ko ρ i d).bind (λ ρ=>kq ρ is l)=some ρ':=h
  obtain⟨x,r',rfl,h1,h2⟩:=r.uncons
  unfold jM at b
  rw[ao]at b
  cases e:ko ρ i d with
  | none=>rw[e]at h;cases h
  | some ρ1 =>
   rw[e]at h
   exact⟨x,r',rfl,gs_ok is l r' ρ1 ρ' _ (re_set E h1 b.1 e) h2 b.2 h k⟩
theorem setVs_len {l:List jL}:∀ {is:List Nat} {ρ ρ':jN},kq ρ is l=some ρ'->is.length=l.length:=by
 induction l with
 | nil=>intro is ρ ρ' h;cases is with
  | nil=>rfl
  | cons i is=>cases h
 | cons d l ih=>intro is ρ ρ' h;cases is with
  | nil=>cases h
  | cons i is =>
   have h:(ko ρ i d).bind (λ ρ=>kq ρ is l)=some ρ':=h
   cases e:ko ρ i d with
   | none=>rw[e]at h;cases h
   | some ρ1=>rw[e]at h;rw[aR,aR,ih h]
theorem tg_ok {φ:Nat->Addr}{H:Hp}{n:Nat}{Q:St->Hp->Prop}{tg:ki}{d:jL}{v:V}{ρ ρ':jN}{σ:St}(E:RE Γ φ H n ρ σ)(r:RV Γ φ H d v)(b:d.bnd n=true)(h:jX ρ tg d=some ρ')(k:∀ σ',RE Γ φ H n ρ' σ'->Q σ' H):gOf Γ.K tg v σ H Q:=by
 cases tg with
 | one i=>exact k _ (re_set E r b h)
 | tup is =>
  cases d with
  | tup l =>
   have h:kq ρ is l=some ρ':=h
   obtain⟨a,xs,rfl,h1,d1⟩:=r.tupE
   unfold jO at b
   exact⟨a,xs,rfl,h1,by rw[d1.length,setVs_len h],gs_ok is l xs ρ ρ' σ E d1 b h k⟩
  | _=>cases h
noncomputable def Off (φ:Nat->Addr)(s:jK)(b:Addr):Prop:=∀(i:Nat) (ob:j6),s[i]?=some ob->isMut ob=true->φ i≠b
theorem Off.mono {φ φ':Nat->Addr}{s s':jK}{H H':Hp}{b:Addr}{o:HO}(h:Off φ s b)(g:Gr φ s H φ' s' H')(hb:H b=some o):Off φ' s' b:=λ i ob e m z=>by
 by_cases hi:i<s.length
 ·obtain⟨o0,e0⟩:∃ o0,s[i]?=some o0:=⟨s[i],af hi⟩
  exact h i o0 e0 (g.mu i o0 ob e0 e m) (by rw[<-g.w.map i hi];exact z)
 ·have:=g.new i (by omega) (ac.mp e).1
  rw[z,hb]at this;cases this
theorem Off.new {φ:Nat->Addr}{s:jK}{H:Hp}{b:Addr}(r:Rp Γ φ H s)(h:H b=none):Off φ s b:=λ i ob e m z=>by
 obtain⟨u,hu,_⟩:=(r.obj i ob e).there m
 rw[z,h]at hu;cases hu
theorem Rp.foreign {φ:Nat->Addr}{s:jK}{H:Hp}{b:Addr}{ys zs:List V}(r:Rp Γ φ H s)(hb:H b=some (.lst ys))(ho:Off φ s b):Rp Γ φ (upd H b (.lst zs)) s:=by
 have g:Gw φ s.length H φ (upd H b (.lst zs)):=⟨λ _ _=>rfl,(Kp.refl H).put hb rfl⟩
 exact⟨r.inj,λ i o e=>(r.obj i o e).mono g (r.wf i o e) λ m u hu=>by rw[za (ho i o e m)];exact hu,r.wf,r.tab.put hb⟩
theorem Gr.foreign {φ φ':Nat->Addr}{s s':jK}{H H':Hp}{b:Addr}{ys zs:List V}(g:Gr φ s H φ' s' H')(h0:H b=none)(hb:H' b=some (.lst ys)):Gr φ s H φ' s' (upd H' b (.lst zs)):=by
 have ne:∀ c o,H c=some o->c≠b:=λ c o e=>zB e h0
 refine⟨⟨g.w.map,λ c o e f=>?_⟩,g.le,g.new,g.kd,λ c hc=>?_,λ c o e nt no=>?_⟩
 ·rw[za (ne c o e)];exact g.w.kp c o e f
 ·unfold upd;split
  ·simp
  ·exact g.st c hc
 ·rw[za (ne c o e)];exact g.fr c o e nt no
noncomputable def AfterF (Γ:Gm)(φ:Nat->Addr)(s:jK)(H:Hp)(l:List jL)(s':jK)(Q:VK):Prop :=
 ∀ p ys φ' H',Gr φ s H φ' s' H'->s.length<=s'.length->jM s'.length l=true->H' p=some (.lst ys)->H p=none->Off φ' s' p->RVL Γ φ' H' l ys->Rp Γ φ' H' s'->Q (.ref p) H'
noncomputable def TFv (Γ:Gm)(m:jN->jK->jQ (List jL)):TE:=λ σ H Q=>∃ φ ρ s l s',RE Γ φ H s.length ρ σ/\Rp Γ φ H s/\m ρ s=.ok l s'/\AfterF Γ φ s H l s' Q
theorem tf_list {m:jN->jK->jQ (List jL)}{σ:St}{H:Hp}{Q:VK}(h:TEv Γ (λ ρ s=>(m ρ s).bind λ l s=>j9 (.lst l) s) σ H Q):TFv Γ m σ H Q:=by
 obtain⟨φ,ρ,s,d,s',E,R,hm,q⟩:=h
 obtain⟨l,s1,e1,hm⟩:=bind_inv hm
 obtain⟨rfl,rfl⟩:=qt hm
 refine⟨φ,ρ,s,l,s1,E,R,e1,λ p ys φ' H' g hl hb hp h0 ho r R'=>?_⟩
 have gw:Gw φ' s1.length H' (λ i=>if i=s1.length then p else φ' i) H':=⟨λ i hi=>if_neg (ay hi),Kp.refl _⟩
 have key:∀(i:Nat) (o':j6),(s1++[DV.O.lst l])[i]?=some o'->(i<s1.length/\s1[i]?=some o')\/(i=s1.length/\o'=.lst l):=λ i o' e=>by
  rcases e9 i s1.length with h|h|h
  ·rw[aF h]at e;exact .inl ⟨h,e⟩
  ·subst h;simp at e;exact .inr ⟨rfl,e.symm⟩
  ·rw[bN (by simp;omega)]at e;cases e
 have G:Gr φ s H (λ i=>if i=s1.length then p else φ' i) (s1++[.lst l]) H':=by
  refine⟨⟨λ i hi=>by show(if i=s1.length then p else φ' i)=_;rw[if_neg (by omega)];exact g.w.map i hi,g.w.kp⟩,by simp;omega,λ i h1 h2=>?_,λ i o o' e e'=>?_,g.st,g.fr⟩
  ·by_cases hi:i=s1.length
   ·show H (if i=s1.length then p else φ' i)=none
    rw[if_pos hi];exact h0
   ·show H (if i=s1.length then p else φ' i)=none
    rw[if_neg hi];exact g.new i h1 (by simp at h2;omega)
  ·rcases key i o' e' with⟨_,e2⟩|⟨hi,_⟩
   ·exact g.kd i o o' e e2
   ·have:=(ac.mp e).1;omega
 have P:Rp Γ (λ i=>if i=s1.length then p else φ' i) H' (s1++[.lst l]):=by
  refine⟨λ i j oi oj ei ej mi mj e=>?_,λ i o e=>?_,λ i o e=>?_,R'.tab⟩
  ·rcases key i oi ei with⟨hi,ei⟩|⟨hi,_⟩<;>rcases key j oj ej with⟨hj,ej⟩|⟨hj,_⟩
   ·rw[if_neg (ay hi),if_neg (ay hj)]at e
    exact R'.inj i j oi oj ei ej mi mj e
   ·rw[if_neg (ay hi),if_pos hj]at e
    exact absurd e (ho i oi ei mi)
   ·rw[if_neg (ay hj),if_pos hi]at e
    exact absurd e.symm (ho j oj ej mj)
   ·rw[hi,hj]
  ·rcases key i o e with⟨hi,e⟩|⟨hi,rfl⟩
   ·show RO Γ _ _ (if i=s1.length then p else φ' i) o
    rw[if_neg (ay hi)]
    exact(R'.obj i o e).mono gw (R'.wf i o e) λ _ u hu=>hu
   ·show RO Γ _ _ (if i=s1.length then p else φ' i) _
    rw[if_pos hi]
    exact⟨ys,hp,RVL.monoW gw l ys hb r⟩
  ·rw[aW,cR]
   rcases key i o e with⟨_,e⟩|⟨_,rfl⟩
   ·exact qk (cY _) _ (R'.wf i o e)
   ·exact qk (cY _) _ (by unfold jR;exact hb)
 exact q (.ref p) _ H' G (by simp;omega) (by unfold jO;simp) (by unfold RV;simp) P
theorem re_cap {φ:Nat->Addr}{H:Hp}{n:Nat}{ρ:jN}{σ:St}(E:RE Γ φ H n ρ σ)(caps:List (Option Nat)):RE Γ φ H n (kH ρ caps) (srcSt caps σ):=by
 refine⟨by unfold kH srcSt;simp,λ i d e=>?_⟩
 unfold kH at e
 rw[aB]at e
 cases q:caps[i]? with
 | none=>rw[q]at e;cases e
 | some o =>
  rw[q]at e
  cases o with
  | none=>cases e
  | some j =>
   have e':(ρ[j]?).join=some d:=au e
   have ej:ρ[j]?=some (some d):=by
    cases q2:ρ[j]? with
    | none=>rw[q2]at e';cases e'
    | some o2=>rw[q2]at e';exact congrArg some e'
   obtain⟨b,v,h1,h2⟩:=E.val j d ej
   refine⟨b,v,?_,h2⟩
   unfold srcSt
   rw[aB,q]
   show some ((σ[j]?).join)=_
   rw[h1];rfl
theorem tf_comp {mI:jN->jK->jQ kG}{mc me:jN->jK->jQ jL}{tg:ki}{caps:List (Option Nat)}{σ:St}{H:Hp}{Q:VK}
  (h:TFv Γ (λ ρ s=>(mI ρ s).bind λ q s0=>if q.its.length<=jU then kS (λ s=>km s0 s q.src) (λ d ρ s=>match jX ρ tg d with
   | some ρ=>jW (mc ρ s) λ k s=>if k then(me ρ s).bind λ v s=>.ok (some v,ρ) s else .ok (none,ρ) s
   | none=>.bad) q.its (kH ρ caps) s0 else .bad) σ H Q):tComp caps (TIv Γ mI) (gOf Γ.K tg) (TTv Γ mc) (TEv Γ me) σ H Q:=by
 obtain⟨φ,ρ,s,l,s',E,R,hm,k⟩:=h
 obtain⟨q,s0,e1,hm⟩:=bind_inv hm
 split at hm
 case isFalse=>cases hm
 rename_i hlim
 refine⟨φ,ρ,s,q,s0,E,R,e1,λ J φ1 H1 g1 l1 b1 R1 wk D hD=>?_⟩
 have h0:H D=none:=by
  cases e:H D with
  | none=>rfl
  | some o=>exact absurd hD (g1.st D (by rw[e];simp))
 refine⟨λ i m σ' H'=>∃ φ' ρ' t acc ys rest,Gr φ1 s0 H1 φ' t H'/\Rp Γ φ' H' t/\RE Γ φ' H' t.length ρ' σ'/\H' D=some (.lst ys)/\Off φ' t D/\RVL Γ φ' H' acc ys/\jM t.length acc=true/\acc.length<=i/\i<=q.its.length/\m=q.its.length - i /\
  kS (λ s=>km s0 s q.src) (λ d ρ s=>match jX ρ tg d with
   | some ρ=>jW (mc ρ s) λ k s=>if k then(me ρ s).bind λ v s=>.ok (some v,ρ) s else .ok (none,ρ) s
   | none=>.bad) (q.its.drop i) ρ' t=.ok rest s'/\l=acc++rest,⟨q.its.length,?_⟩,?_⟩
 ·obtain⟨g2,R2⟩:=R1.same (H':=upd H1 D (.lst [])) ((Same.refl H1).new hD)
  exact⟨φ1,kH ρ caps,s0,[],[],l,g2,R2,re_cap ((E.mono g1 l1).mono g2 (aj _)) caps,ze,Off.new R1 hD,.nil,rfl,aj _,cX _,by simp,by rw[i7];exact hm,rfl⟩
 ·rintro i m σ' H' ⟨φ',ρ',t,acc,ys,rest,g,R',E',hy,off,ra,ba,hai,hil,rfl,hc,hl⟩
  have hle:=g.le
  rcases jy i q.its.length with hlt|hge
  ·have hd:q.its[i]?=some q.its[i]:=af hlt
   rw[eQ hlt]at hc
   unfold kS at hc
   split at hc
   case isFalse=>cases hc
   rename_i hck
   obtain⟨hgo,hy2⟩:=(wk φ' H' t g hle R' hck i).1 hlt
   refine .inr ⟨hgo,_,λ σ2 H2 n=>⟨q.its.length - (i+1),by omega,n⟩,λ x H2 hyl=>?_⟩
   obtain⟨sm,rv⟩:=hy2 x H2 hyl
   obtain⟨g2,R2⟩:=R'.same sm
   have rd:=rv _ hd
   have bd:(q.its[i]).bnd t.length=true:=zw hle _ (bndL_get b1 hd)
   obtain⟨p,t3,hs,hc⟩:=bind_inv hc
   obtain⟨r2,t4,hr2,hc⟩:=bind_inv hc
   cases hb:jX ρ' tg q.its[i]with
   | none=>rw[hb]at hs;cases hs
   | some ρ3 =>
    rw[hb]at hs
    refine tg_ok (E'.mono g2 (aj _)) rd bd hb λ σ3 E3=>?_
    obtain⟨c,t1,ec,hs⟩:=zS hs
    refine⟨φ',ρ3,t,c,t1,E3,R2,ec,λ φ2 H4 g4 l4 R4=>?_⟩
    have hy4:H2 D=some (.lst ys):=sm _ _ hy
    have hD4:H4 D=some (.lst ys):=g4.fr D _ hy4 (by nofun) off
    have off4:Off φ2 t1 D:=off.mono g4 hy4
    have G4:=(g.trans g2 hle).trans g4 hle
    cases c with
    | true =>
     rw[if_pos rfl]at hs
     refine iteT ?_
     obtain⟨v,t2,ev,hs⟩:=bind_inv hs
     cases hs
     refine⟨φ2,ρ3,t1,v,t3,E3.mono g4 l4,R4,ev,λ w φ3 H5 g5 l5 b5 r5 R5=>?_⟩
     have hD5:H5 D=some (.lst ys):=g5.fr D _ hD4 (by nofun) off4
     have off5:Off φ3 t3 D:=off4.mono g5 hD4
     refine⟨ys,hD5,?_,?_⟩
     ·rw[ra.length]
      have:=qy
      omega
     ·have gw:Gw φ3 t3.length H5 φ3 (upd H5 D (.lst (ys++[w]))):=⟨λ _ _=>rfl,(Kp.refl H5).put hD5 rfl⟩
      have G5:=G4.trans g5 (am hle l4)
      have GG:=g2.trans (g4.trans g5 l4) (aj _)
      have ra5:RVL Γ φ3 H5 acc ys:=RVL.mono GG _ _ ba ra
      have bb:jM t3.length (acc++[v])=true:=z0 (D_bndL_mono GG.le _ ba) (by unfold jM;rw[b5];rfl)
      refine⟨φ3,ρ3,t3,acc++[v],ys++[w],r2,G5.foreign hD hD5,R5.foreign hD5 off5,?_,ze,off5,RVL.monoW gw _ _ bb (ra5.append (.cons r5 .nil)),bb,by simp;omega,hlt,rfl,?_,?_⟩
      ·have E5:=(E3.mono g4 l4).mono g5 l5
       exact⟨E5.len,λ j e hj=>by
        obtain⟨h1,z,h2,h3⟩:=E5.val j e hj
        exact⟨h1,z,h2,RV.monoW gw _ _ h1 h3⟩⟩
      ·cases hc;exact hr2
      ·cases hc;rw[hl];simp
    | false =>
     rw[if_neg aP]at hs
     refine iteF ?_
     cases hs
     have GG:=g2.trans g4 (aj _)
     exact⟨φ2,ρ3,t3,acc,ys,r2,G4,R4,E3.mono g4 l4,hD4,off4,RVL.mono GG _ _ ba ra,D_bndL_mono l4 _ ba,by omega,hlt,rfl,by cases hc;exact hr2,by cases hc;exact hl⟩
  ·have hi:i=q.its.length:=by omega
   rw[fU hge]at hc
   unfold kS at hc
   split at hc
   case isFalse=>cases hc
   rename_i hck
   cases hc
   refine .inl ⟨(wk φ' H' s' g hle R' hck i).2 hge,?_⟩
   rw[bF]at hl
   subst hl
   exact k D ys φ' H' (g1.trans g l1) (am l1 hle) ba hy h0 off ra R'
variable {Γ:Gm} {X:Cx}
noncomputable def EndC (Γ:Gm)(φ:Nat->Addr)(H:Hp)(n:Nat)(D:Ends):kr->Prop
 | .next ρ=>∀ σ,RE Γ φ H n ρ σ->D.nx σ H
 | .ret d=>∀ v,d.bnd n=true->RV Γ φ H d v->D.rt v H
 | .cont ρ=>∀ σ,RE Γ φ H n ρ σ->D.ct σ H
 | .brk ρ=>∀ σ,RE Γ φ H n ρ σ->D.bk σ H
noncomputable def AfterC (Γ:Gm)(φ:Nat->Addr)(s:jK)(H:Hp)(c:kr)(s':jK)(D:Ends):Prop :=
 ∀ φ' H',Gr φ s H φ' s' H'->s.length<=s'.length->Rp Γ φ' H' s'->EndC Γ φ' H' s'.length D c
noncomputable def TSv (Γ:Gm)(m:jN->jK->jQ kr):TS:=λ D σ H=>∃ φ ρ s c s',RE Γ φ H s.length ρ σ/\Rp Γ φ H s/\m ρ s=.ok c s'/\AfterC Γ φ s H c s' D
theorem PS.imp {e:Stmt}{t t':TS}(h:PS X e t)(i:∀ D σ H,t' D σ H->t D σ H):PS X e t':=λ pins s σ H Q I q=>h pins s σ H Q I (i Q σ H q)
theorem PSs.imp {e:List Stmt}{t t':TS}(h:PSs X e t)(i:∀ D σ H,t' D σ H->t D σ H):PSs X e t':=λ pins s σ H Q I q=>h pins s σ H Q I (i Q σ H q)
theorem AfterC.trans {φ φ1:Nat->Addr}{s s1 s':jK}{H H1:Hp}{c:kr}{D:Ends}(h:AfterC Γ φ s H c s' D)(g:Gr φ s H φ1 s1 H1)(l:s.length<=s1.length):AfterC Γ φ1 s1 H1 c s' D :=
 λ φ' H' g' l' p=>h φ' H' (g.trans g' l) (am l l') p
theorem AfterC.here {φ:Nat->Addr}{s:jK}{H:Hp}{c:kr}{D:Ends}(h:AfterC Γ φ s H c s D)(p:Rp Γ φ H s):EndC Γ φ H s.length D c:=h φ H (Gr.refl φ s H) (aj _) p
variable {D:Ends} {σ:St} {H:Hp}
theorem ts_next {m:jN->jK->jQ kr}(hm:∀ ρ s,m ρ s=.ok (.next ρ) s)(h:TSv Γ m D σ H):tNext D σ H:=by
 obtain⟨φ,ρ,s,c,s',E,R,e,q⟩:=h
 rw[hm]at e;cases e
 exact q.here R σ E
theorem ts_ret {m:jN->jK->jQ jL}(h:TSv Γ (λ ρ s=>(m ρ s).bind λ d s=>.ok (.ret d) s) D σ H):tRet (TEv Γ m) D σ H:=by
 obtain⟨φ,ρ,s,c,s',E,R,e,q⟩:=h
 obtain⟨x,s1,e1,e⟩:=bind_inv e
 cases e
 exact⟨φ,ρ,s,x,_,E,R,e1,λ v φ1 H1 g1 l1 b1 r1 R1=>q φ1 H1 g1 l1 R1 v b1 r1⟩
theorem ts_drop {m:jN->jK->jQ jL}(h:TSv Γ (λ ρ s=>(m ρ s).bind λ _ s=>.ok (.next ρ) s) D σ H):tDrop (TEv Γ m) D σ H:=by
 obtain⟨φ,ρ,s,c,s',E,R,e,q⟩:=h
 obtain⟨x,s1,e1,e⟩:=bind_inv e
 cases e
 exact⟨φ,ρ,s,x,_,E,R,e1,λ v φ1 H1 g1 l1 b1 r1 R1=>q φ1 H1 g1 l1 R1 σ (E.mono g1 l1)⟩
theorem ts_asg {m:jN->jK->jQ jL}{tg:ki}(h:TSv Γ (λ ρ s=>(m ρ s).bind λ d s=>match jX ρ tg d with|some ρ=>.ok (.next ρ) s|none=>.bad) D σ H):tAsg (TEv Γ m) (gOf Γ.K tg) D σ H:=by
 obtain⟨φ,ρ,s,c,s',E,R,e,q⟩:=h
 obtain⟨x,s1,e1,e⟩:=bind_inv e
 refine⟨φ,ρ,s,x,s1,E,R,e1,λ v φ1 H1 g1 l1 b1 r1 R1=>?_⟩
 cases hb:jX ρ tg x with
 | none=>rw[hb]at e;cases e
 | some ρ1 =>
  rw[hb]at e
  cases e
  exact tg_ok (E.mono g1 l1) r1 b1 hb λ σ' E'=>q φ1 H1 g1 l1 R1 σ' E'
theorem tf_list1 {m:jN->jK->jQ (List jL)}(h:TSv Γ (λ ρ s=>((m ρ s).bind λ l s=>j9 (.lst l) s).bind λ d s=>match jX ρ tg d with|some ρ=>.ok (.next ρ) s|none=>.bad) D σ H):tAsg (TFv Γ m) (gOf Γ.K tg) D σ H :=
 tf_list (ts_asg h)
noncomputable def rSetV (Γ:Gm):TSet:=λ o i v H Q=>∃ φ s x y d s',Rp Γ φ H s/\RV Γ φ H x o/\RV Γ φ H y i/\RV Γ φ H d v/\x.bnd s.length=true/\y.bnd s.length=true/\d.bnd s.length=true/\DV.setIx x y d s=.ok () s' /\
 ∀ φ' H',Gr φ s H φ' s' H'->s.length<=s'.length->Rp Γ φ' H' s'->Q H'
theorem ts_setIx {me mo mi:jN->jK->jQ jL}(h:TSv Γ (λ ρ s=>(me ρ s).bind λ d s=>(mo ρ s).bind λ x s=>(mi ρ s).bind λ y s=>(DV.setIx x y d s).bind λ _ s=>.ok (.next ρ) s) D σ H) :
  tAsg (TEv Γ me) (gSub (TEv Γ mo) (TEv Γ mi) (rSetV Γ)) D σ H:=by
 obtain⟨φ,ρ,s,c,s',E,R,e,q⟩:=h
 obtain⟨d,s1,e1,e⟩:=bind_inv e
 obtain⟨x,s2,e2,e⟩:=bind_inv e
 obtain⟨y,s3,e3,e⟩:=bind_inv e
 obtain⟨u,s4,e4,e⟩:=bind_inv e
 cases e
 refine⟨φ,ρ,s,d,s1,E,R,e1,λ v1 φ1 H1 g1 l1 b1 r1 R1=>?_⟩
 refine⟨φ1,ρ,s1,x,s2,E.mono g1 l1,R1,e2,λ v2 φ2 H2 g2 l2 b2 r2 R2=>?_⟩
 have G2:=g1.trans g2 l1
 have L2:=am l1 l2
 refine⟨φ2,ρ,s2,y,s3,E.mono G2 L2,R2,e3,λ v3 φ3 H3 g3 l3 b3 r3 R3=>?_⟩
 refine⟨φ3,s3,x,y,d,_,R3,RV.mono g3 x v2 b2 r2,r3,RV.mono (g2.trans g3 l2) d v1 b1 r1,zw l3 x b2,b3,zw (am l2 l3) d b1,e4,λ φ4 H4 g4 l4 R4=>?_⟩
 have G3:=G2.trans g3 L2
 have L3:=am L2 l3
 exact q φ4 H4 (G3.trans g4 L3) (am L3 l4) R4 σ (E.mono (G3.trans g4 L3) (am L3 l4))
theorem set_ok (hu:X.A.units+1<cLine):PSet X (rSetV Γ):=by
 intro pins sh σ H o i v ov iv u Q I ro ri rv h
 obtain⟨φ,s,x,y,d,s',R,rx,ry,rd,bx,by',bd,hm,q⟩:=h
 cases x with
 | ref r =>
  have hm:(match s[r]? with
   | some (.lst l)=>(match y with
    | .int i=>(match kx l.length i with|some j=>DV.R.ok () (s.set r (.lst (l.set j d)))|none=>.bad)
    | _=>.bad)
   | some (.dic l)=>if y.key&&decide (l.length<jU)then .ok () (s.set r (.dic (j4 y d l)))else .bad
   | _=>.bad)=.ok () s':=hm
  cases e:s[r]? with
  | none=>rw[e]at hm;cases hm
  | some ob =>
   rw[e]at hm
   cases ob with
   | lst l =>
    cases y with
    | int k =>
     have hm:(match kx l.length k with|some j=>DV.R.ok () (s.set r (.lst (l.set j d)))|none=>.bad)=.ok () s':=hm
     cases ej:kx l.length k with
     | none=>rw[ej]at hm;cases hm
     | some j =>
      rw[ej]at hm
      cases hm
      obtain⟨xs,h1,h2⟩:=R.addr e
      have hb:jM s.length (l.set j d)=true:=bndL_iff.mpr λ z hz=>by
       rcases db hz with h|h
       ·exact bndL_iff.mp (by have:=R.wf r _ e;unfold jR at this;exact this) z h
       ·subst h;exact bd
      refine set_list pins sh σ H o i v ov iv u Q I ro ri rv ⟨φ r,xs,k,j,rx.refE,ry.intE,h1,?_,?_⟩
      ·rw[h2.length];exact ej
      ·obtain⟨g,R'⟩:=R.set (o:=.lst (l.set j d)) (u:=.lst (xs.set j v)) e rfl hb λ H' g e=>⟨_,e,RVL.monoW g _ _ hb (h2.set j rd)⟩
       exact q _ _ g (by simp) R'
    | _=>cases hm
   | dic l =>
    have hm:(if y.key&&decide (l.length<jU)then DV.R.ok () (s.set r (.dic (j4 y d l)))else .bad)=.ok () s':=hm
    split at hm
    case isFalse=>cases hm
    rename_i hc
    cases hm
    rw[ao]at hc
    obtain⟨k,hk⟩:=key_some hc.1
    have hlt:=of_decide_eq_true hc.2
    obtain⟨kvs,h1,h2⟩:=R.obj r _ e
    have ex:=rx.refE;subst ex
    cases ro
    have ey:=key_kV hk ry;subst ey
    have hb:(DV.O.dic (j4 y d l)).bnd s.length=true:=putD_bnd (R.wf r _ e) by' bd
    have hb2:jM s.length ((j4 y d l).map (·.2))=true:=by
     unfold jR at hb
     rw[ao]at hb
     exact hb.2
    obtain⟨g,R'⟩:=R.set (o:=.dic (j4 y d l)) (u:=.dK (putK kvs k v)) e rfl hb λ H' g e=>⟨_,e,RVD.monoW g _ _ hb2 (h2.put hk rd)⟩
    exact d_setItem hu I (DPut.k h1 (by rw[h2.length];exact aq hlt qy)) ri rv λ s4 I4=>⟨_,I4,q _ _ g (by simp) R'⟩
   | _=>cases hm
 | _=>cases hm
theorem ts_if {mc:jN->jK->jQ jL}{m1 m2:jN->jK->jQ kr}(h:TSv Γ (λ ρ s=>jW (mc ρ s) λ k s=>if k then m1 ρ s else m2 ρ s) D σ H):tIfS (TTv Γ mc) (TSv Γ m1) (TSv Γ m2) D σ H:=by
 obtain⟨φ,ρ,s,d,s',E,R,hm,q⟩:=h
 obtain⟨c,s1,e1,hm⟩:=zS hm
 refine⟨φ,ρ,s,c,s1,E,R,e1,λ φ1 H1 g1 l1 R1=>?_⟩
 cases c with
 | true =>
  rw[if_pos rfl]at hm ⊢
  exact⟨φ1,ρ,s1,d,s',E.mono g1 l1,R1,hm,q.trans g1 l1⟩
 | false =>
  rw[if_neg aP]at hm ⊢
  exact⟨φ1,ρ,s1,d,s',E.mono g1 l1,R1,hm,q.trans g1 l1⟩
theorem ts_seq {m1 m2:jN->jK->jQ kr}(h:TSv Γ (λ ρ s=>(m1 ρ s).bind λ c s=>match c with|.next ρ=>m2 ρ s|c=>.ok c s) D σ H):tSeq (TSv Γ m1) (TSv Γ m2) D σ H:=by
 obtain⟨φ,ρ,s,c,s',E,R,hm,q⟩:=h
 obtain⟨c1,s1,e1,hm⟩:=bind_inv hm
 refine⟨φ,ρ,s,c1,s1,E,R,e1,λ φ1 H1 g1 l1 R1=>?_⟩
 cases c1 with
 | next ρ1=>exact λ σ1 E1=>⟨φ1,ρ1,s1,c,s',E1,R1,hm,q.trans g1 l1⟩
 | ret d=>cases hm;exact q φ1 H1 g1 l1 R1
 | cont ρ=>cases hm;exact q φ1 H1 g1 l1 R1
 | brk ρ=>cases hm;exact q φ1 H1 g1 l1 R1
theorem ts_for {mI : DV.Env -> DV.Sto -> DV.R DV.Sq} {mb : DV.Env -> DV.Sto -> DV.R DV.Ct} {tg : DV.Tg} (h : TSv Γ (λ ρ s => (mI ρ s).bind λ q s0 => DV.forL (λ s => DV.chk s0 s q.src) (λ d ρ s => match DV.bindT ρ tg d with
      | some ρ => mb ρ s
      | none => .bad) q.its ρ s0) D σ H) : tFor (TIv Γ mI) (gOf Γ.K tg) (TSv Γ mb) D σ H := by
  obtain⟨φ, ρ, s, c, s', E, R, hm, k⟩ := h
  obtain⟨q, s0, e1, hm⟩ := bind_inv hm
  refine⟨φ, ρ, s, q, s0, E, R, e1, λ J φ1 H1 g1 l1 b1 R1 wk => ?_⟩
  refine⟨λ i m σ' H' => ∃ φ' ρ' t, Gr φ1 s0 H1 φ' t H' /\ Rp Γ φ' H' t /\ RE Γ φ' H' t.length ρ' σ' /\ i <= q.its.length /\ m = q.its.length - i /\
    kP (λ s => km s0 s q.src) (λ d ρ s => match jX ρ tg d with
      | some ρ => mb ρ s
      | none => .bad) (q.its.drop i) ρ' t = .ok c s', ⟨q.its.length, ?_⟩, ?_⟩
  · exact⟨φ1, ρ, s0, Gr.refl _ _ _, R1, E.mono g1 l1, cX _, by simp, by rw[i7]; exact hm⟩
  · rintro i m σ' H' ⟨φ', ρ', t, g, R', E', hil, rfl, hc⟩
    have hle := g.le
    rcases jy i q.its.length with hlt|hge
    · have hd : q.its[i]? = some q.its[i] := af hlt
      rw[eQ hlt]at hc
      unfold kP at hc
      split at hc
      case isFalse => cases hc
      rename_i hck
      obtain⟨hgo, hy2⟩ := (wk φ' H' t g hle R' hck i).1 hlt
      refine .inr ⟨hgo, _, λ σ2 H2 n => ⟨q.its.length - (i + 1), by omega, n⟩, λ x H2 hyl => ?_⟩
      obtain⟨sm, rv⟩ := hy2 x H2 hyl
      obtain⟨g2, R2⟩ := R'.same sm
      have rd := rv _ hd
      have bd : (q.its[i]).bnd t.length = true := zw hle _ (bndL_get b1 hd)
      obtain⟨c1, t3, hs, hc⟩ := bind_inv hc
      cases hb : jX ρ' tg q.its[i]with
      | none => rw[hb]at hs; cases hs
      | some ρ3 =>
        rw[hb]at hs
        refine tg_ok (E'.mono g2 (aj _)) rd bd hb λ σ3 E3 => ?_
        refine⟨φ', ρ3, t, c1, t3, E3, R2, hs, λ φ2 H4 g4 l4 R4 => ?_⟩
        have G4 := (g.trans g2 hle).trans g4 hle
        have L4 := am hle l4
        have GG := g1.trans G4 l1
        cases c1 with
        | next ρ1 => exact λ σ1 E1 => ⟨φ2, ρ1, t3, G4, R4, E1, hlt, rfl, hc⟩
        | cont ρ1 => exact λ σ1 E1 => ⟨φ2, ρ1, t3, G4, R4, E1, hlt, rfl, hc⟩
        | ret d => cases hc; exact k φ2 H4 GG (am l1 L4) R4
        | brk ρ => cases hc; exact k φ2 H4 GG (am l1 L4) R4
    · rw[fU hge]at hc
      unfold kP at hc
      split at hc
      case isFalse => cases hc
      rename_i hck
      cases hc
      exact .inl ⟨(wk φ' H' s' g hle R' hck i).2 hge, k φ' H' (g1.trans g l1) (am l1 hle) R' σ' E'⟩
structure Ck where
 N:List Str
 sc:Scope
 lk:String->List Nat->Expr->Bool
noncomputable abbrev ck0 (N:List Str)(sc:Scope):Ck:=⟨N,sc,λ _ _ _=>false⟩
noncomputable def Ck.vis (c:Ck)(x:Str):Bool:=match c.sc.names.lookup x with|some .local=>true|some .cell=>true|some .free=>true|_=>false
noncomputable def Ck.loc (c:Ck)(x:Str):Bool:=match c.sc.names.lookup x with|some .local=>true|some .cell=>true|_=>false
noncomputable def Ck.gl (c:Ck)(x:Str):Bool:=(match c.sc.names.lookup x with|some .globalImplicit=>true|_=>false)&&!(x==("__debug__":Str))&&!decide (x=("__name__":Str))
noncomputable def Ck.var (c:Ck)(i:Nat)(x:Str):Bool:=decide (c.N[i]?=some x)&&c.vis x&&!(x==("__debug__":Str))&&!(x==("__classdict__":Str))
noncomputable def shp:Expr->Bool
 | .Starred ..=>false
 | .Set ..=>false
 | .SetComp ..=>false
 | .DictComp ..=>false
 | .GeneratorExp ..=>false
 | .Slice ..=>false
 | .NamedExpr ..=>false
 | _=>true
noncomputable def noComp:Expr->Bool
 | .ListComp ..=>false
 | .SetComp ..=>false
 | .DictComp ..=>false
 | _=>true
noncomputable def noTup:Expr->Bool
 | .Tuple ..=>false
 | _=>true
noncomputable def abOk:Expr->Bool
 | .Call _ [] [] _=>false
 | _=>true
noncomputable def mC:DV.Cn->Const->Bool
 | .non,.none=>true
 | .bl b,.bool c=>b==c
 | .int i,.int j=>decide (i=j)
 | .str x,.str y=>decide (y=⟨x.toArray⟩)&&decide (x.length<=1000)
 | _,_=>false
noncomputable def mTgs (ck:Ck):List Nat->List Expr->Bool
 | [],[]=>true
 | i::is,.Name x _::es=>decide (ck.N[i]?=some x)&&ck.loc x&&mTgs ck is es
 | _,_=>false
noncomputable def mTg (ck:Ck):ki->Expr->Bool
 | .one i,.Name x _=>decide (ck.N[i]?=some x)&&ck.loc x
 | .tup is,.Tuple es _ _=>mTgs ck is es
 | _,_=>false
noncomputable def tgN:Expr->List Str
 | .Name x _=>[x]
 | .Tuple es _ _=>es.filterMap λ e=>match e with|.Name x _=>some x|_=>none
 | _=>[]
noncomputable def ckC (ck:Ck)(tgt:Expr)(caps:List (Option Nat))(scope:Scope):Ck:=⟨tgN tgt++(caps.filterMap id).map λ j=>ck.N.getD j "",scope,λ _ _ _=>false⟩
noncomputable def mComp (ck:Ck)(tg:ki)(tgt iter:Expr)(caps:List (Option Nat))(scope:Scope):Bool :=
 z9 (ckC ck tgt caps scope).N caps scope ck.N ck.sc&&decide ((ckC ck tgt caps scope).N.Nodup)&&mTg (ckC ck tgt caps scope) tg tgt&&shp iter
noncomputable def biT:kh->Option Str
 | .len=>some "len" | .abs=>some "abs" | .min2=>some "min" | .max2=>some "max" | .max3=>some "max" | .int=>some "int" | _=>none
noncomputable def biK:kh->Option (Nat×Str)
 | .isInt=>some (1, "int")|.isBool=>some (2, "bool")|.isStr=>some (3, "str")|.isTup=>some (4, "tuple")|.isList=>some (5, "list")|_=>none
noncomputable def mkT:kT->Option Str
 | .tuple=>some "tuple" | .list=>some "list" | _=>none
noncomputable def mkF:kT->Option Str
 | .all=>some "all" | .min=>some "min" | _=>none
noncomputable def mtT:kU->Option (Str×Nat)
 | .append=>some ("append",1)|_=>none
noncomputable def asLam:kA->Bool
 | .nil=>false
 | .ex _ as=>asLam as
 | .lam _ _ _=>true
 | .fn _ as=>asLam as
noncomputable def biOk (ck:Ck)(b:kh)(x:Str)(xs:List Expr)(m1 m2:Bool):Bool:=match biK b with
 | some p=>(match xs with|[_,.Name y _]=>decide (x=("isinstance":Str))&&ck.gl x&&decide (y=p.2)&&ck.gl y&&m2|_=>false)
 | none=>(match xs with|_::_=>decide (biT b=some x)&&ck.gl x&&m1|[]=>false)
mutual
noncomputable def mE (ck:Ck):kF->Expr->Bool
 | .var i,E=>match E with|.Name x _=>ck.var i x|_=>false
 | .cst c,E=>match E with|.Constant v _ _=>mC c v|_=>false
 | .glob g,E=>match E with|.Name x _=>decide (x=(g:Str))&&ck.gl x|_=>false
 | .bin op a b,E=>match E with|.BinOp l o r _=>decide (o=opOf op)&&mE ck a l&&mE ck b r|_=>false
 | .neg _,_=>false
 | .not a,E=>match E with|.UnaryOp .Not l _=>mE ck a l|_=>false
 | .cmp op a b,E=>match E with|.Compare l [o] [r] _=>decide (o=copOf op)&&mE ck a l&&mE ck b r|_=>false
 | .chain o p a b c,E=>match E with|.Compare l [o1,o2] [m,r] _=>decide (o1=copOf o)&&decide (o2=copOf p)&&mE ck a l&&mE ck b m&&mE ck c r|_=>false
 | .isN a,E=>match E with|.Compare l [.Is] [.Constant .none _ _] _=>mE ck a l|_=>false
 | .notN a,E=>match E with|.Compare l [.IsNot] [.Constant .none _ _] _=>mE ck a l|_=>false
 | .isB _ _,_=>false
 | .notB _ _,_=>false
 | .and a b,E=>match E with
  | .BoolOp .And [l,r] _=>mE ck a l&&mE ck b r
  | .BoolOp .And (l::m::r::es) p=>mE ck a l&&mE ck b (.BoolOp .And (m::r::es) p)
  | _=>false
 | .or a b,E=>match E with
  | .BoolOp .Or [l,r] _=>mE ck a l&&mE ck b r
  | .BoolOp .Or (l::m::r::es) p=>mE ck a l&&mE ck b (.BoolOp .Or (m::r::es) p)
  | _=>false
 | .ite c a b,E=>match E with|.IfExp t l r _=>mE ck c t&&mE ck a l&&mE ck b r|_=>false
 | .tup es,E=>match E with|.Tuple xs _ _=>mEs ck es xs&&decide (xs.length<=1000)|_=>false
 | .lst es,E=>match E with|.List xs _=>mEs ck es xs&&decide (xs.length<=1000)|_=>false
 | .dic ks vs,E=>match E with|.Dict a b _=>(match a,b with|[],[]=>mEs ck ks []&&mEs ck vs []|[some x],[y]=>mEs ck ks [x]&&mEs ck vs [y]|_,_=>false)|_=>false
 | .slL _ _,_=>false
 | .slU a hi,E=>match E with|.Subscript o (.Slice none (some h) none _) _=>mE ck a o&&mE ck hi h|_=>false
 | .slLU _ _ _,_=>false
 | .rev _,_=>false
 | .ix a b,E=>match E with|.Subscript o i _=>mE ck a o&&mE ck b i|_=>false
 | .call f as,E=>match E with|.Call (.Name x _) xs [] _=>decide (x=(f:Str))&&ck.gl x&&mAs ck as xs|_=>false
 | .callC f as,E=>match E with|.Call (.Name x _) (y::ys) [] _=>decide (x=(f:Str))&&ck.gl x&&asLam as&&mAsC ck as (y::ys)|_=>false
 | .callV i es,E=>match E with|.Call (.Name x _) (y::ys) [] _=>ck.var i x&&mEs ck es (y::ys)|_=>false
 | .bi b es,E=>match E with|.Call (.Name x _) xs [] _=>biOk ck b x xs (mEs ck es xs) (mEs ck es (xs.take 1))|_=>false
 | .mk k l,E=>match E with
  | .Call (.Name x _) [a] [] _=>ck.gl x&&shp a&&((decide (mkT k=some x)&&mL ck 2 l a)||(decide (mkF k=some x)&&mL ck 1 l a))
  | .ListComp e gs sc p=>decide (k=.list)&&mL ck 0 l (.ListComp e gs sc p)
  | _=>false
 | .mkD k l d,E=>match E with
  | .Call (.Name x _) [a] [⟨some y,de,_⟩] _=>decide (k=.min)&&decide (x=("min":Str))&&decide (y=("default":Str))&&ck.gl x&&shp a&&mL ck 1 l a&&mE ck d de
  | _=>false
 | .meth m o es,E=>match E with
  | .Call (.Attribute ob x ap) xs [] cp=>decide (mtT m=some (x,xs.length))&&abOk ob&&(ap.endLine==cp.line)&&mE ck o ob&&mEs ck es xs
  | _=>false
 | .ext _ _,_=>false
 | .extS _ _,_=>false
 | .mks _ _,_=>false
 | .mkDs _ _ _,_=>false
 | .join _ _,_=>false
noncomputable def mEs (ck:Ck):j5->List Expr->Bool
 | .nil,xs=>match xs with|[]=>true|_=>false
 | .cons e es,xs=>match xs with|x::xs=>mE ck e x&&shp x&&mEs ck es xs|_=>false
noncomputable def mAs (ck:Ck):kA->List Expr->Bool
 | .nil,xs=>match xs with|[]=>true|_=>false
 | .ex e es,xs=>match xs with|x::xs=>mE ck e x&&shp x&&mAs ck es xs|_=>false
 | .lam _ _ _,_=>false
 | .fn _ _,_=>false
noncomputable def mAsC (ck:Ck):kA->List Expr->Bool
 | .nil,xs=>match xs with|[]=>true|_=>false
 | .ex e es,xs=>match xs with|x::xs=>mE ck e x&&shp x&&mAsC ck es xs|_=>false
 | .lam id caps es,xs=>match xs with|x::xs=>ck.lk id caps x&&shp x&&mAsC ck es xs|_=>false
 | .fn _ _,_=>false
noncomputable def mI (ck:Ck)(tgt:Expr):DV.I->Expr->Bool
 | .rng1 a,E=>match E with|.Call (.Name x _) [l] [] _=>decide (x=("range":Str))&&ck.gl x&&mE ck a l&&shp l|_=>false
 | .rng2 _ _,_=>false
 | .seq e,x=>mE ck e x&&shp x
 | .rng3 _ _ _,_=>false
 | .enum (.seq _),_=>false
 | .zip (.seq _) (.seq _),_=>false
 | .enum _,_=>false
 | .zip _ _,_=>false
 | .items _,_=>false
noncomputable def mL (ck:Ck)(k:Nat):DV.L->Expr->Bool
 | .comp tg it e caps,E=>match E with|.ListComp elt [⟨tgt,iter,[],z⟩] scope _=>decide (z=0)&&mComp ck tg tgt iter caps scope&&mI ck tgt it iter&&mE (ckC ck tgt caps scope) e elt|_=>false
 | .compIf tg it c e caps,E=>match E with|.ListComp elt [⟨tgt,iter,[i],z⟩] scope _=>decide (z=0)&&mComp ck tg tgt iter caps scope&&mI ck tgt it iter&&mE (ckC ck tgt caps scope) c i&&mE (ckC ck tgt caps scope) e elt|_=>false
 | .disp es,E=>match E with|.List xs _=>decide (1<=k)&&mEs ck es xs&&decide (xs.length<=1000)|_=>false
 | .seq e,x=>decide (k=2)&&mE ck e x
end
theorem ff {p:Prop}(h:false=true):p:=Bool.noConfusion h
noncomputable def noAnn:aY->Bool
 | ⟨[], args, none, [], [], none, []⟩ => args.all λ y => y.annotation.isNone
 | _=>false
noncomputable def nst1:List Stmt->Option (Str×aY×Expr×Pos×Scope×Pos×List Stmt)
 | .FunctionDef nm params [.Return (some b) rp] [] none [] scope none nm' pos::xs=>if nm'=nm then some (nm,params,b,rp,scope,pos,xs)else none
 | _=>none
noncomputable def nst2 (nm:Str):List Stmt->Option (Str×Pos×Expr×Pos×Pos×Pos)
 | [.Return (some (.Call (.Name g gp) [a,.Name x p2] [] cp)) rp2]=>if x=nm then some (g,gp,a,p2,cp,rp2)else none
 | _=>none
noncomputable def nstS:li->kW->Option (Nat×String×kF×String×List Nat)
 | .und i,.cons (.ret (.callC g (.ex e (.lam id caps .nil)))) .nil=>some (i,g,e,id,caps)
 | _,_=>none
noncomputable def mNest (ck:Ck)(s:li)(ss:kW)(S:List Stmt):Bool :=
 (nstS s ss).any λ d=>(nst1 S).any λ q=>(nst2 q.1 q.2.2.2.2.2.2).any λ r =>
  decide (ck.N[d.1]?=some q.1)&&ck.loc q.1&&ck.var d.1 q.1&&ck.lk d.2.2.2.1 d.2.2.2.2 (.NamedExpr (.Name q.1 q.2.2.2.1) (.Lambda q.2.1 q.2.2.1 q.2.2.2.2.1 q.2.2.2.2.2.1) q.2.2.2.2.2.1)&&decide (r.1=(d.2.1:Str))&&ck.gl r.1&&mE ck d.2.2.1 r.2.2.1&&shp r.2.2.1&&noAnn q.2.1
mutual
noncomputable def mS (ck:Ck):li->Stmt->Bool
 | .asg tg e,S=>match S with
  | .Assign [t] v _=>mTg ck tg t&&mE ck e v&&(match tg with|.one _=>true|.tup _=>noTup v&&noComp v)
  | _=>false
 | .setIx o i e,S=>match S with|.Assign [.Subscript ob ix _] v _=>mE ck o ob&&mE ck i ix&&mE ck e v&&noComp v&&noTup v|_=>false
 | .aug _ _,_=>false
 | .ex e,S=>match S with|.Expr v _=>mE ck e v&&noComp v|_=>false
 | .ret e,S=>match S with|.Return (some v) _=>mE ck e v|_=>false
 | .retN,_=>false
 | .ite c a b,S=>match S with|.If t l r _=>mE ck c t&&mSs ck a l&&mSs ck b r|_=>false
 | .whl _ _,_=>false
 | .for_ tg it b,S=>match S with|.For tgt iter l [] _=>mTg ck tg tgt&&mI ck tgt it iter&&mSs ck b l|_=>false
 | .pass,_=>false
 | .cont,_=>false
 | .brk,_=>false
 | .raise,_=>true
 | .und _,_=>false
noncomputable def mSs (ck:Ck):kW->List Stmt->Bool
 | .nil,xs=>match xs with|[]=>true|_=>false
 | .cons s ss,xs=>match xs with|x::xs=>mNest ck s ss (x::xs)||(mS ck s x&&mSs ck ss xs)|_=>false
end
theorem mE_shp {ck:Ck}{e:kF}{E:Expr}(h:mE ck e E=true):shp E=true:=by
 cases E<;>first|rfl|(exfalso;cases e<;>exact ff h)
theorem mI_shp {ck:Ck}{tgt:Expr}{e:DV.I}{E:Expr}(h:mI ck tgt e E=true):shp E=true:=by
 cases e with
 | seq e=>have h:(mE ck e E&&shp E)=true:=h;rw[ao]at h;exact h.2
 | enum a=>cases E<;>first|rfl|(exfalso;cases a<;>exact ff h)
 | zip a b=>cases E<;>first|rfl|(exfalso;cases a<;>first|exact ff h|(cases b<;>exact ff h))
 | _=>cases E<;>first|rfl|exact ff h
theorem zm {e:Expr}{es:List Expr}{env:Env}(h:shp e=true):bf (e::es) env=(false,eval e env)::bf es env:=by
 cases e<;>first|rfl|cases h
theorem zN {env:Env}{pos:Pos}:∀ {es:List Expr},(∀ e∈es,shp e=true)->(dB pos (bf es env)).any (·.1)=false/\(dB pos (bf es env)).all (λ x=>!x.1)=true
 | [],_=>⟨rfl,rfl⟩
 | e::es,h=>by
  have h1:=zm (es:=es) (env:=env) (h e (aC ..))
  obtain⟨h2,h3⟩:=zN (env:=env) (pos:=pos) (es:=es) λ x hx=>h x (aw _ hx)
  rw[h1]
  unfold dB at h2 h3 ⊢
  simp only[aK,ft,dU,h2,h3]
  exact⟨rfl,rfl⟩
theorem fold_ok {e:Expr}{env:Env}(h:shp e=true)(x:Value):cT e env x=pure x:=by
 cases e<;>first|rfl|cases h
theorem behind_ok {e:Expr}{op:CmpOp}(h:shp e=true):cA op e=false:=by
 cases e<;>first|rfl|cases h
theorem swap_ok {e:Expr}{t:Option Expr}{l:Nat}{env:Env}(h:noComp e=true):fv e t l env=pure false:=by
 cases e<;>first|rfl|cases h
theorem base_ok {e:Expr}{f:Str}{env:Env}(h:abOk e=true):fi e f env (eval e env)=eval e env:=by
 cases e with
 | Call g a k p =>
  cases g with
  | Name x p' =>
   cases a with
   | nil=>cases k with
    | nil=>cases h
    | cons _ _=>rfl
   | cons _ _=>rfl
  | _=>rfl
 | _=>rfl
theorem stores_ok {tg e:Expr}{env:Env}(h:noTup e=true):swappedStores [tg] e env=pure none:=by
 cases e with
 | Tuple _ _ _=>cases h
 | _=>cases tg<;>rfl
theorem plainIx_ok {e:Expr}(h:shp e=true):PlainIx e:=by
 intro o i
 cases e<;>first|rfl|cases h
noncomputable def spV (Γ:Gm)(c:List jL->jK->jQ jL):Sp:=λ vs H Q _=>rCl Γ c vs H Q
noncomputable def bNames:List Str:=["len", "abs", "min", "max", "int", "isinstance", "bool", "str", "tuple", "list", "range", "sum", "all", "any", "sorted", "zip", "enumerate", "ord"]
noncomputable def spL (Γ:Gm)(c:List jL->List jL->jK->jQ jL)(cap:List V):Sp:=λ vs H Q _=>∃ φ s cs l d s',Rp Γ φ H s/\RVL Γ φ H l vs/\RVL Γ φ H cs cap/\jM s.length l=true/\jM s.length cs=true/\c cs l s=.ok d s'/\After Γ φ s H d s' Q
noncomputable def LamI.own (J:LamI):Str:=match J.nm with|none => "<lambda>" | some p=>p.1
noncomputable def lamText (J:LamI)(params:aY)(body:Expr)(scope:Scope)(pos:Pos):Expr:=match J.nm with
 | none=>.Lambda params body scope pos
 | some p=>.NamedExpr (.Name p.1 p.2) (.Lambda params body scope pos) pos
structure LamHere (Γ:Gm)(X:Cx)(N:List Str)(id:String)(caps:List Nat)(params:aY)(body:Expr)(scope:Scope)(c P:Addr)(J:LamI):Prop where
 code:X.env.code=.ref c
 hd:bP X.base c P
 bm:BM X.mg X.base
 ck:lamCheck scope X.env.scope=true
 df:i4 params X.env=([],[])
 lg:Γ.lg id J
 q:J.qual=X.env.qual++J.own
 p:J.params=params
 b:J.body=body
 s:J.scope=scope
 len:J.fr.length=caps.length
 at_:∀(i j:Nat) (x:Str),caps[i]?=some j->J.fr[i]?=some x->N[j]?=some x
 fr:∀ x∈J.fr,scope.names.lookup x=some .free
 cl:∀ x,scope.names.lookup x=some .free->∃ c,X.env.cells.lookup x=some c
 tab:(P,J.qual)∈Γ.T
 nd:(Γ.T.map (·.1)).Nodup
 fn:∀ x,X.fn x=true
 kd:∀ x c,X.env.cells.lookup x=some c->X.env.kindOf x=some .cell\/X.env.kindOf x=some .free
structure CG (Γ:Gm)(F:j7)(n:Nat)(X:Cx)(ck:Ck):Prop where
 K:X.K=Γ.K
 N:X.N=ck.N
 nd:ck.N.Nodup
 xe:X.xe=λ _ _=>False
 calm:X.calm=true
 deep:jY+1<=n
 room:Room n X.A
 sc:∀ x k,ck.sc.names.lookup x=some k->X.env.scope.names.lookup x=some k\/(k=.free/\X.env.scope.names.lookup x=some .cell)
 fn:∀ x,ck.sc.names.lookup x=some .cell->X.fn x=true
 bi:∀ x∈bNames,X.mg x=none
 call:∀ f:String,(∀ l s,F.call f l s=.bad)\/∃ a fd ps,FnOk X.prog X.w X.K X.mg X.base CX0 n a fd ps (spV Γ (F.call f))/\X.mg (f:Str)=some (.ref a)/\bZ X.K (.ref a)=true/\Binds X.K fd ps []
 con:∀ x d,F.con x=some d->∃ v u,X.mg (x:Str)=some u/\RelV v u/\(∀ m,d.bnd m=true)/\∀ φ H,RV Γ φ H d v
 lam:∀ id caps E,ck.lk id caps E=true->∃ c P params body scope pos J,E=lamText J params body scope pos/\LamHere Γ X ck.N id caps params body scope c P J
 cl:∀(id:String) (J:LamI) (f:Addr) (cap:List V) (clos:List (Str×Addr)),Γ.lg id J->cap.length=J.fr.length->ClOk X.prog X.w X.K X.mg X.base n (λ H=>CloAt H f J cap clos) f (spL Γ (F.lam id) cap)
 fa:∀(f:String) (a:Addr),Γ.fa f=some a->X.mg (f:Str)=some (.ref a)/\∃ oc od fd sl,X.K.lookup a=some ⟨oc,od,.func fd,sl⟩
 fk:DV.FK F
section
variable {Γ:Gm} {F:j7} {n:Nat} {X:Cx} {ck:Ck}
theorem CG.vis (G:CG Γ F n X ck){x:Str}(h:ck.vis x=true):Vis X.env.scope x:=by
 unfold Ck.vis at h
 split at h
 ·rename_i e;rcases G.sc _ _ e with z|⟨z,_⟩
  ·exact .inl z
  ·cases z
 ·rename_i e;rcases G.sc _ _ e with z|⟨z,_⟩
  ·exact .inr (.inl z)
  ·cases z
 ·rename_i e;rcases G.sc _ _ e with z|⟨_,z⟩
  ·exact .inr (.inr z)
  ·exact .inr (.inl z)
 ·cases h
theorem CG.loc (G:CG Γ F n X ck){x:Str}(h:ck.loc x=true):Loc X.env.scope x/\(X.fn x=true\/X.env.scope.names.lookup x=some .local):=by
 unfold Ck.loc at h
 split at h
 ·rename_i e;rcases G.sc _ _ e with z|⟨z,_⟩
  ·exact⟨.inl z,.inr z⟩
  ·cases z
 ·rename_i e;rcases G.sc _ _ e with z|⟨z,_⟩
  ·exact⟨.inr z,.inl (G.fn _ e)⟩
  ·cases z
 ·cases h
theorem CG.gl (G:CG Γ F n X ck){x:Str}(h:ck.gl x=true):Gl X x/\(x==("__debug__":Str))=false/\x ≠ "__name__":=by
 unfold Ck.gl at h
 simp only[ao,fb]at h
 obtain⟨⟨h1,h2⟩,h3⟩:=h
 refine⟨?_,h2,of_decide_eq_false h3⟩
 split at h1
 ·rename_i e;rcases G.sc _ _ e with z|⟨z,_⟩
  ·exact z
  ·cases z
 ·cases h1
theorem cg_tgs (G:CG Γ F n X ck):∀ {is:List Nat} {es:List Expr},mTgs ck is es=true->PGs X es (gsOf is)/\(cg es X.env).length=is.length/\(cg es X.env).findIdx? (·.1)=none
 | [],[],_=>⟨pgs_nil,rfl,rfl⟩
 | [],_::_,h=>by cases h
 | i::is,[],h=>by cases h
 | i::is,e::es,h=>by
  cases e with
  | Name x p =>
   unfold mTgs at h
   simp only[ao,decide_eq_true_eq]at h
   obtain⟨⟨h1,h2⟩,h3⟩:=h
   obtain⟨l1,l2⟩:=G.loc h2
   obtain⟨a,b,c⟩:=cg_tgs G h3
   have hs:cg (.Name x p::es) X.env=(false,fH (.Name x p) X.env)::cg es X.env:=rfl
   refine⟨pgs_cons (pg_name (by rw[G.N];exact G.nd) (by rw[G.N];exact h1) l1 l2) a (by rw[hs];rfl),by rw[hs,aR,aR,b],?_⟩
   rw[hs,List.findIdx?_cons]
   simp[c]
  | _=>cases h
theorem cg_tg (G:CG Γ F n X ck){tg:ki}{e:Expr}(h:mTg ck tg e=true):PG X e (gOf Γ.K tg):=by
 unfold mTg at h
 split at h
 ·simp only[ao,decide_eq_true_eq]at h
  obtain⟨l1,l2⟩:=G.loc h.2
  exact pg_name (by rw[G.N];exact G.nd) (by rw[G.N];exact h.1) l1 l2
 ·obtain⟨a,b,c⟩:=cg_tgs G h
  exact pg_tupK G.K G.calm a b c
 ·cases h
theorem CG.comp (G:CG Γ F n X ck){tg:ki}{tgt iter:Expr}{caps:List (Option Nat)}{scope:Scope}(h:mComp ck tg tgt iter caps scope=true) :
  z9 (ckC ck tgt caps scope).N caps scope X.N X.env.scope=true/\shp iter=true /\
  ∀(C:Addr) (cells:List (Str×Addr)) (s:ae) (H:Hp) (ex:List Addr),CG Γ F n (zQ X (ckC ck tgt caps scope).N scope C cells s H ex) (ckC ck tgt caps scope)/\PG (zQ X (ckC ck tgt caps scope).N scope C cells s H ex) tgt (gOf Γ.K tg):=by
 unfold mComp at h
 simp only[ao,decide_eq_true_eq]at h
 obtain⟨⟨⟨h1,h2⟩,h3⟩,h4⟩:=h
 refine⟨?_,h4,λ C cells s H ex=>?_⟩
 ·rw[G.N]
  unfold z9 at h1 ⊢
  simp only[ao]at h1 ⊢
  obtain⟨⟨⟨⟨⟨a1,a2⟩,a3⟩,a4⟩,a5⟩,a6⟩:=h1
  refine⟨⟨⟨⟨⟨a1,?_⟩,a3⟩,a4⟩,a5⟩,a6⟩
  rw[aN]at a2 ⊢
  intro y hy
  have:=a2 y hy
  rw[bK]at this ⊢
  rcases this with q|q
  ·exact .inl q
  ·right
   rw[bK]at q ⊢
   rcases q with q|q
   ·rcases G.sc _ _ (eq_of_beq q)with z|⟨z,_⟩
    ·left;rw[z];exact beq_self_eq_true _
    ·cases z
   ·rcases G.sc _ _ (eq_of_beq q)with z|⟨_,z⟩
    ·right;rw[z];exact beq_self_eq_true _
    ·left;rw[z];exact beq_self_eq_true _
 ·have G':CG Γ F n (zQ X (ckC ck tgt caps scope).N scope C cells s H ex) (ckC ck tgt caps scope):=by
   refine⟨G.K,rfl,h2,rfl,G.calm,G.deep,G.room,λ x k e=>?_,λ x e=>?_,G.bi,G.call,G.con,λ _ _ _ h=>(by cases h),G.cl,G.fa,G.fk⟩
   ·have q:=qC (env:=X.env) e
    have q':(dS scope X.env).names.lookup x=some (if(k==NameKind.free&&X.env.scope.kind==.function&&X.env.kindOf x==some .cell)then NameKind.cell else k):=q
    show(dS scope X.env).names.lookup x=some k\/_
    rw[q']
    split
    ·rename_i hc
     simp only[ao]at hc
     exact .inr ⟨eq_of_beq hc.1.1,rfl⟩
    ·exact .inl rfl
   ·show(scope.names.lookup x==some .cell)=true
    rw[show scope.names.lookup x=some .cell from e];rfl
  exact⟨G',cg_tg G' h3⟩
end
section
variable {Γ:Gm} {F:j7} {n:Nat} {X:Cx} {ck:Ck} {σ:St} {H:Hp} {Q:VK}
theorem TEv.eq {m m':jN->jK->jQ jL}(e:∀ ρ s,m ρ s=m' ρ s)(q:TEv Γ m σ H Q):TEv Γ m' σ H Q:=by
 have:m=m':=funext λ ρ=>funext λ s=>e ρ s
 subst this;exact q
theorem TTv.eq {m m':jN->jK->jQ jL}{Q:Bool->Hp->Prop}(e:∀ ρ s,m ρ s=m' ρ s)(q:TTv Γ m σ H Q):TTv Γ m' σ H Q:=by
 have:m=m':=funext λ ρ=>funext λ s=>e ρ s
 subst this;exact q
theorem TAv.eq {m m':jN->jK->jQ (List jL)}{Q:List V->Hp->Prop}(e:∀ ρ s,m ρ s=m' ρ s)(q:TAv Γ m σ H Q):TAv Γ m' σ H Q:=by
 have:m=m':=funext λ ρ=>funext λ s=>e ρ s
 subst this;exact q
theorem TFv.eq {m m':jN->jK->jQ (List jL)}(e:∀ ρ s,m ρ s=m' ρ s)(q:TFv Γ m σ H Q):TFv Γ m' σ H Q:=by
 have:m=m':=funext λ ρ=>funext λ s=>e ρ s
 subst this;exact q
theorem TIv.eq {m m':jN->jK->jQ kG}{R:It->Hp->Prop}(e:∀ ρ s,m ρ s=m' ρ s)(q:TIv Γ m σ H R):TIv Γ m' σ H R:=by
 have:m=m':=funext λ ρ=>funext λ s=>e ρ s
 subst this;exact q
theorem TSv.eq {m m':jN->jK->jQ kr}{D:Ends}(e:∀ ρ s,m ρ s=m' ρ s)(q:TSv Γ m D σ H):TSv Γ m' D σ H:=by
 have:m=m':=funext λ ρ=>funext λ s=>e ρ s
 subst this;exact q
noncomputable def EvT (Γ:Gm)(X:Cx)(E:Expr)(m:jN->jK->jQ jL):Prop:=PE X E (TEv Γ m)/\PT X E (TTv Γ m)
theorem EvT.val {E:Expr}{m:jN->jK->jQ jL}(h:PE X E (TEv Γ m))(he:∀ whole,dq E X.env whole=(do let v <- whole;standAt E.pos;ib [v] (truthy v)):=by intro _;rfl):EvT Γ X E m :=
 ⟨h,(pt_val h he).imp λ σ H Q q=>tt_val q⟩
theorem pt_ifExp {c a b:Expr}{pos:Pos}{tA tb tc:TT}(hc:PT X c tA)(ha:PT X a tb)(hb:PT X b tc):PT X (.IfExp c a b pos) (λ σ H Q=>tA σ H λ k H1=>if k=true then tb σ H1 Q else tc σ H1 Q):=by
 intro pins s σ H Q I h
 have e:dq (.IfExp c a b pos) X.env (eval (.IfExp c a b pos) X.env)=(do if <- dq c X.env (eval c X.env)then dq a X.env (eval a X.env)else dq b X.env (eval b X.env)):=by rw[dq]
 rw[e]
 refine ai (thn (hc pins s σ H _ I h) λ k s1 ⟨H1,I1,q1⟩=>?_)
 cases k with
 | true=>exact ha pins s1 σ H1 Q I1 q1
 | false=>exact hb pins s1 σ H1 Q I1 q1
theorem tt_ite {mc m1 m2:jN->jK->jQ jL}{Q:Bool->Hp->Prop}(h:TTv Γ (λ ρ s=>jW (mc ρ s) λ k s=>if k then m1 ρ s else m2 ρ s) σ H Q):TTv Γ mc σ H λ k H1=>if k=true then TTv Γ m1 σ H1 Q else TTv Γ m2 σ H1 Q:=by
 obtain⟨φ,ρ,s,d,s',E,R,hm,q⟩:=h
 obtain⟨c,s1,e1,hm⟩:=zS hm
 refine⟨φ,ρ,s,c,s1,E,R,e1,λ φ1 H1 g1 l1 R1=>?_⟩
 cases c with
 | true =>
  rw[if_pos rfl]at hm ⊢
  exact⟨φ1,ρ,s1,d,s',E.mono g1 l1,R1,hm,q.trans g1 l1⟩
 | false =>
  rw[if_neg aP]at hm ⊢
  exact⟨φ1,ρ,s1,d,s',E.mono g1 l1,R1,hm,q.trans g1 l1⟩
section
variable {a b c:kF} {l r t:Expr} {pos:Pos}
theorem ev_bin' (G:CG Γ F n X ck)(op:la)(ha:EvT Γ X l (jP F a))(hb:EvT Γ X r (jP F b)):EvT Γ X (.BinOp l (opOf op) r pos) (jP F (.bin op a b)) :=
 .val ((pe_op (op_bin G.K op) ha.1 hb.1).imp λ σ H Q q=>tv_op (TEv.eq (λ ρ s=>rfl) q))
theorem ev_not' (ha:EvT Γ X l (jP F a)):EvT Γ X (.UnaryOp .Not l pos) (jP F (.not a)) :=
 ⟨(pe_not ha.1).imp λ σ H Q q=>tv_not (TEv.eq (λ ρ s=>rfl) q),(pt_not ha.2).imp λ σ H Q q=>tt_not (TTv.eq (λ ρ s=>rfl) q)⟩
theorem ev_cmp' (G:CG Γ F n X ck)(op:kM)(hs:shp r=true)(ha:EvT Γ X l (jP F a))(hb:EvT Γ X r (jP F b)):EvT Γ X (.Compare l [copOf op] [r] pos) (jP F (.cmp op a b)):=by
 have ho:=op_cmp (Γ:=Γ) G.K (G.room.mono G.deep) op
 refine⟨(pe_cmpR ho ha.1 hb.1 (behind_ok hs)).imp λ σ H Q q=>tv_op (TEv.eq (λ ρ s=>rfl) q),(pt_cmpR ho ha.1 hb.1 (behind_ok hs)).imp λ σ H Q q=>?_⟩
 have q:=tt_test q
 exact tv_op (TEv.eq (λ ρ s=>rfl) q)
theorem ev_chain' (G:CG Γ F n X ck)(o p:kM)(h2:shp t=true)(ha:EvT Γ X l (jP F a))(hb:EvT Γ X r (jP F b))(hc:EvT Γ X t (jP F c)):EvT Γ X (.Compare l [copOf o,copOf p] [r,t] pos) (jP F (.chain o p a b c)):=by
 have ho:=op_cmp (Γ:=Γ) G.K (G.room.mono G.deep) o
 have hp:=op_cmp (Γ:=Γ) G.K (G.room.mono G.deep) p
 have hm:jr [copOf o,copOf p] [r,t]=false:=by
  show cA (copOf p) t=false
  exact behind_ok h2
 refine⟨(pe_chain ho hp ha.1 hb.1 hc.1 hm).imp λ σ H Q q=>tv_chain (TEv.eq (λ ρ s=>rfl) q),(pt_chain ho hp ha.1 hb.1 hc.1 hm).imp λ σ H Q q=>?_⟩
 have q:=tt_test q
 exact tv_chain (TEv.eq (λ ρ s=>rfl) q)
theorem RV.nonIff {φ:Nat->Addr}{x:jL}{v:V}(r:RV Γ φ H x v):decide (v=.non)=decide (x=.non):=by
 cases x with
 | non=>rw[r.nonE];rfl
 | bl b=>rw[r.blE];rfl
 | int i=>rw[r.intE];rfl
 | str z=>rw[r.strE];rfl
 | tup l=>obtain⟨a,xs,rfl,_⟩:=r.tupE;rfl
 | ref k=>rw[r.refE];rfl
 | fn f=>unfold RV at r;obtain⟨a,_,rfl⟩:=r;rfl
 | clo f cs=>unfold RV at r;obtain⟨f,_,_,_,rfl,_⟩:=r;rfl
theorem ev_isN' {j pos'}(ha:EvT Γ X l (jP F a)):EvT Γ X (.Compare l [.Is] [.Constant .none j pos'] pos) (jP F (.isN a)):=by
 have key:∀ σ H Q,TEv Γ (jP F (.isN a)) σ H Q->tIsN (TEv Γ (jP F a)) σ H Q:=λ σ H Q q=>by
  obtain⟨φ,ρ,s,d,s',E,R,hm,k⟩:=q
  obtain⟨x,s1,e1,hm⟩:=bind_inv hm
  cases hm
  refine⟨φ,ρ,s,x,_,E,R,e1,λ v φ1 H1 g1 l1 b1 r1 R1=>?_⟩
  show Q (.bl (decide (v=.non))) H1
  rw[r1.nonIff]
  exact k _ φ1 H1 g1 l1 rfl RV.blI R1
 exact⟨(pe_cmp (pc_isN ha.1)).imp key,(pt_cmp (pc_isN ha.1)).imp λ σ H Q q=>key _ _ _ (tt_val q)⟩
theorem ev_notN' {j pos'}(ha:EvT Γ X l (jP F a)):EvT Γ X (.Compare l [.IsNot] [.Constant .none j pos'] pos) (jP F (.notN a)):=by
 have key:∀ σ H Q,TEv Γ (jP F (.notN a)) σ H Q->tNotN (TEv Γ (jP F a)) σ H Q:=λ σ H Q q=>by
  obtain⟨φ,ρ,s,d,s',E,R,hm,k⟩:=q
  obtain⟨x,s1,e1,hm⟩:=bind_inv hm
  cases hm
  refine⟨φ,ρ,s,x,_,E,R,e1,λ v φ1 H1 g1 l1 b1 r1 R1=>?_⟩
  show Q (.bl (!decide (v=.non))) H1
  rw[r1.nonIff]
  exact k _ φ1 H1 g1 l1 rfl RV.blI R1
 exact⟨(pe_cmp (pc_notN ha.1)).imp key,(pt_cmp (pc_notN ha.1)).imp λ σ H Q q=>key _ _ _ (tt_val q)⟩
theorem bool_pw {op:BoolOp}{es:List Expr}{t:TT}(h:PT X (.BoolOp op es pos) t):PW X (.BoolOp op es pos) t:=by
 intro wh pins s σ H Q I q
 have:=h pins s σ H Q I q
 have e:∀ w,dq (.BoolOp op es pos) X.env w=allTrue op es X.env:=λ w=>by rw[dq]
 rw[e]at this ⊢
 exact this
theorem ev_and2 (ha:EvT Γ X l (jP F a))(hb:EvT Γ X r (jP F b)):EvT Γ X (.BoolOp .And [l,r] pos) (jP F (.and a b)) :=
 ⟨(pe_and ha.1 (pe_one hb.1)).imp λ σ H Q q=>tv_and (TEv.eq (λ ρ s=>rfl) q),(pw_and ha.2 (pw_and1 hb.2)).pt.imp λ σ H Q q=>tt_and (TTv.eq (λ ρ s=>rfl) q)⟩
theorem ev_and3 {es:List Expr}(ha:EvT Γ X l (jP F a))(hb:EvT Γ X (.BoolOp .And (r::es) pos) (jP F b)):EvT Γ X (.BoolOp .And (l::r::es) pos) (jP F (.and a b)) :=
 ⟨(pe_and ha.1 hb.1).imp λ σ H Q q=>tv_and (TEv.eq (λ ρ s=>rfl) q),(pw_and ha.2 (bool_pw hb.2)).pt.imp λ σ H Q q=>tt_and (TTv.eq (λ ρ s=>rfl) q)⟩
theorem ev_or2 (ha:EvT Γ X l (jP F a))(hb:EvT Γ X r (jP F b)):EvT Γ X (.BoolOp .Or [l,r] pos) (jP F (.or a b)) :=
 ⟨(pe_or ha.1 (pe_one hb.1)).imp λ σ H Q q=>tv_or (TEv.eq (λ ρ s=>rfl) q),(pw_or ha.2 (pw_or1 hb.2)).pt.imp λ σ H Q q=>tt_or (TTv.eq (λ ρ s=>rfl) q)⟩
theorem ev_or3 {es:List Expr}(ha:EvT Γ X l (jP F a))(hb:EvT Γ X (.BoolOp .Or (r::es) pos) (jP F b)):EvT Γ X (.BoolOp .Or (l::r::es) pos) (jP F (.or a b)) :=
 ⟨(pe_or ha.1 hb.1).imp λ σ H Q q=>tv_or (TEv.eq (λ ρ s=>rfl) q),(pw_or ha.2 (bool_pw hb.2)).pt.imp λ σ H Q q=>tt_or (TTv.eq (λ ρ s=>rfl) q)⟩
theorem ev_ite' (hc:EvT Γ X t (jP F c))(ha:EvT Γ X l (jP F a))(hb:EvT Γ X r (jP F b)):EvT Γ X (.IfExp t l r pos) (jP F (.ite c a b)) :=
 ⟨(pe_ifExp hc.2 ha.1 hb.1).imp λ σ H Q q=>tv_ite (TEv.eq (λ ρ s=>rfl) q),(pt_ifExp hc.2 ha.2 hb.2).imp λ σ H Q q=>tt_ite (TTv.eq (λ ρ s=>rfl) q)⟩
theorem ev_ix' (G:CG Γ F n X ck)(hs:shp r=true)(ha:EvT Γ X l (jP F a))(hb:EvT Γ X r (jP F b)):EvT Γ X (.Subscript l r pos) (jP F (.ix a b)) :=
 .val ((pe_ix (ix_ok G.K (hu_of G.room)) ha.1 hb.1 (plainIx_ok hs)).imp λ σ H Q q=>tv_op (TEv.eq (λ ρ s=>rfl) q))
theorem ev_slU' {p2:Pos}(G:CG Γ F n X ck)(ha:EvT Γ X l (jP F a))(hb:EvT Γ X r (jP F b)):EvT Γ X (.Subscript l (.Slice none (some r) none p2) pos) (jP F (.slU a b)) :=
 .val ((pe_slice (sl_ok G.K) ha.1 po_none (po_some hb.1)).imp λ σ H Q q=>(tv_sl (ml:=jP F b)).2.1 (TEv.eq (λ ρ s=>rfl) q))
end
end
section
variable {Γ:Gm} {F:j7} {n:Nat} {X:Cx} {ck:Ck} {σ:St} {H:Hp} {Q:VK}
theorem evs_len:∀ {es:j5} {ρ:jN} {s s':jK} {l:List jL} {xs:List Expr} {ck:Ck},j8 F es ρ s=.ok l s'->mEs ck es xs=true->l.length=xs.length
 | .nil,ρ,s,s',l,xs,ck,h,m=>by
  cases h
  cases xs with
  | nil=>rfl
  | cons _ _=>rw[mEs]at m<;>first|cases m|(intros;simp_all)
 | .cons e es,ρ,s,s',l,xs,ck,h,m=>by
  obtain⟨d,s1,e1,h⟩:=bind_inv h
  obtain⟨r,s2,e2,h⟩:=bind_inv h
  cases h
  cases xs with
  | nil=>rw[mEs]at m<;>first|cases m|(intros;simp_all)
  | cons x xs =>
   rw[mEs,ao]at m
   rw[aR,aR,evs_len e2 m.2]
theorem mEs_shp:∀ {es:j5} {xs:List Expr},mEs ck es xs=true->∀ x∈xs,shp x=true
 | .nil,[],_,x,hx=>by cases hx
 | .nil,_::_,m,_,_=>by rw[mEs]at m<;>first|cases m|(intros;simp_all)
 | .cons e es,[],m,x,hx=>by cases hx
 | .cons e es,y::xs,m,x,hx=>by
  rw[mEs,ao,ao]at m
  rcases aD.mp hx with h|h
  ·rw[h];exact m.1.2
  ·exact mEs_shp m.2 x h
theorem mAs_shp:∀ {es:kA} {xs:List Expr},mAs ck es xs=true->∀ x∈xs,shp x=true
 | .nil,[],_,x,hx=>by cases hx
 | .nil,_::_,m,_,_=>by rw[mAs]at m<;>first|cases m|(intros;simp_all)
 | .ex e es,[],m,x,hx=>by cases hx
 | .lam _ _ _,_,m,_,_=>by rw[mAs]at m<;>first|cases m|(intros;simp_all)
 | .fn _ _,_,m,_,_=>by rw[mAs]at m<;>first|cases m|(intros;simp_all)
 | .ex e es,y::xs,m,x,hx=>by
  rw[mAs,ao,ao]at m
  rcases aD.mp hx with h|h
  ·rw[h];exact m.1.2
  ·exact mAs_shp m.2 x h
theorem pa_cons' {e:kF}{x:Expr}{xs:List Expr}{ms:jN->jK->jQ (List jL)}(hs:shp x=true)(h1:PE X x (TEv Γ (jP F e)))(h2:PA X xs (TAv Γ ms)) :
  PA X (x::xs) (TAv Γ (λ ρ s=>(jP F e ρ s).bind λ d s=>(ms ρ s).bind λ l s=>.ok (d::l) s)) :=
 (qc h1 h2 (zm hs)).imp λ σ H Q q=>ta_cons q
theorem le1000 {k:Nat}(h:k<=1000):k<=aH:=by rw[eU];omega
theorem pe_tup' {es:j5}{xs:List Expr}{k:Nat}{pos:Pos}(m:mEs ck es xs=true)(hz:xs.length<=1000)(h:PA X xs (TAv Γ (j8 F es))):EvT Γ X (.Tuple xs k pos) (jP F (.tup es)) :=
 .val ((pe_tup h).imp λ σ H Q q=>tv_tup' hz m q)
where
 tv_tup' {es:j5} {xs:List Expr} {σ:St} {H:Hp} {Q:VK} (hz:xs.length<=1000) (m:mEs ck es xs=true) (q:TEv Γ (jP F (.tup es)) σ H Q):tTup (TAv Γ (j8 F es)) σ H Q:=by
  obtain⟨φ,ρ,s,d,s',E,R,hm,q⟩:=q
  obtain⟨l,s1,e1,hm⟩:=bind_inv hm
  cases hm
  refine⟨φ,ρ,s,l,_,E,R,e1,λ vs φ1 H1 g1 l1 b1 r1 R1=>⟨by rw[r1.length,evs_len e1 m];exact le1000 hz,λ p hp=>?_⟩⟩
  exact(q.trans g1 l1).tup R1 r1 b1 hp
theorem pe_lst' {es:j5}{xs:List Expr}{pos:Pos}(m:mEs ck es xs=true)(hz:xs.length<=1000)(h:PA X xs (TAv Γ (j8 F es))):EvT Γ X (.List xs pos) (jP F (.lst es)):=by
 refine .val ((pe_lst h).imp λ σ H Q q=>?_)
 obtain⟨φ,ρ,s,d,s',E,R,hm,q⟩:=q
 obtain⟨l,s1,e1,hm⟩:=bind_inv hm
 obtain⟨rfl,rfl⟩:=qt hm
 refine⟨φ,ρ,s,l,_,E,R,e1,λ vs φ1 H1 g1 l1 b1 r1 R1=>⟨by rw[r1.length,evs_len e1 m];exact le1000 hz,λ p hp=>?_⟩⟩
 exact(q.trans g1 l1).alloc R1 r1 b1 hp
theorem pe_call' {f:String}{as:kA}{xs:List Expr}{p pos:Pos}(G:CG Γ F n X ck)(hg:ck.gl (f:Str)=true)(m:mAs ck as xs=true)(h:PA X xs (TAv Γ (kt F as))):EvT Γ X (.Call (.Name (f:Str) p) xs [] pos) (jP F (.call f as)):=by
 refine .val ?_
 obtain⟨g1,g2,g3⟩:=G.gl hg
 rcases G.call f with hbad|⟨a,fd,ps,hF,hmg,hk,hb⟩
 ·intro pins s σ H Q I q
  obtain⟨φ,ρ,s,d,s',E,R,hm,q⟩:=q
  obtain⟨l,s1,e1,hm⟩:=bind_inv hm
  rw[hbad]at hm
  cases hm
 have key:∀ σ H Q,TEv Γ (jP F (.call f as)) σ H Q->tCall (spV Γ (F.call f)) [] E0 (TAv Γ (kt F as)) σ H Q:=λ σ H Q q=>by
  have:=tv_call (TEv.eq (m':=λ ρ s=>(kt F as ρ s).bind λ l s=>F.call f l s) (λ ρ s=>rfl) q)
  unfold tCB at this
  unfold tCall spV
  simpa only[bF]using this
 cases xs with
 | nil =>
  have h0:PE X (.Call (.Name (f:Str) p) [] [] pos) (tCall (spV Γ (F.call f)) [] E0 tNil):=pe_call0 hF G.room g1 hmg hk hb .nil pass0 g2
  cases as with
  | nil =>
   refine h0.imp λ σ H Q q=>?_
   have q1:=key σ H Q q
   unfold tCall at q1 ⊢
   exact ta_nil (TAv.eq (λ ρ s=>rfl) q1)
  | _=>rw[mAs]at m<;>first|cases m|(intros;simp_all)
 | cons x xs =>
  have hs:=mAs_shp m
  exact(pe_call hF G.room g1 hmg hk hb .nil pass0 h g2 (zm (hs x (aC ..))) (zN λ e he=>hs e (aw _ he)).1).imp key
noncomputable def BiC (Γ:Gm)(X:Cx)(b:kh)(x:Str):Prop:=(∃ id,a9 x=some (.builtin id)/\CallR X (.builtin id) (rCl Γ (k9 b)))\/∃ T,a9 x=some (.type T)/\CallR X (.type T) (rCl Γ (k9 b))
theorem biT_ok (G:CG Γ F n X ck){b:kh}{x:Str}(h:biT b=some x):x∈bNames/\BiC Γ X b x:=by
 cases b<;>first|cases h|skip
 ·exact⟨by decide,.inl ⟨_,b_len,bi_ok G.K G.calm (k:=1) rfl⟩⟩
 ·exact⟨by decide,.inl ⟨_,b_abs,bi_ok G.K G.calm (k:=1) rfl⟩⟩
 ·exact⟨by decide,.inr ⟨_,b_int,int_ok⟩⟩
 ·exact⟨by decide,.inl ⟨_,b_min,bi_ok G.K G.calm (k:=2) rfl⟩⟩
 ·exact⟨by decide,.inl ⟨_,b_max,bi_ok G.K G.calm (k:=2) rfl⟩⟩
 ·exact⟨by decide,.inl ⟨_,b_max,bi_ok G.K G.calm (k:=3) rfl⟩⟩
theorem pe_bi' {b:kh}{es:j5}{x:Str}{y:Expr}{xs:List Expr}{p pos:Pos}(G:CG Γ F n X ck)(hb:biT b=some x)(hg:ck.gl x=true)(m:mEs ck es (y::xs)=true)(h:PA X (y::xs) (TAv Γ (j8 F es))) :
  EvT Γ X (.Call (.Name x p) (y::xs) [] pos) (jP F (.bi b es)):=by
 refine .val ?_
 obtain⟨g1,g2,g3⟩:=G.gl hg
 obtain⟨hm,hc⟩:=biT_ok G hb
 have hs:=mEs_shp m
 have s1:=zm (es:=xs) (env:=X.env) (hs y (aC ..))
 have s2:=(zN (env:=X.env) (pos:=pos) λ e he=>hs e (aw _ he)).1
 rcases hc with⟨id,h1,h2⟩|⟨T,h1,h2⟩
 ·exact(pe_callB h2 g1 (G.bi _ hm) h1 h g3 g2 s1 s2).imp λ σ H Q q=>tv_call (TEv.eq (λ ρ s=>rfl) q)
 ·exact(pe_callTy h2 g1 (G.bi _ hm) h1 h g3 g2 s1 s2).imp λ σ H Q q=>tv_call (TEv.eq (λ ρ s=>rfl) q)
theorem biK_ok {b:kh}{k:Nat}{t:Str}(h:biK b=some (k,t)):(1<=k/\k<=5)/\t∈bNames/\a9 t=some (.type (kName k))/\k9 b=k7 (lb k):=by
 cases b<;>cases h
 ·exact⟨by omega,by decide,b_int,rfl⟩
 ·exact⟨by omega,by decide,b_bool,rfl⟩
 ·exact⟨by omega,by decide,b_str,rfl⟩
 ·exact⟨by omega,by decide,b_tuple,rfl⟩
 ·exact⟨by omega,by decide,b_list,rfl⟩
noncomputable def PEs (Γ:Gm)(F:j7)(X:Cx):j5->List Expr->Prop
 | .nil,[]=>True
 | .cons e es,x::xs=>(shp x=true/\EvT Γ X x (jP F e))/\PEs Γ F X es xs
 | _,_=>False
theorem pes_pa:∀ {es:j5} {xs:List Expr},PEs Γ F X es xs->PA X xs (TAv Γ (j8 F es))
 | .nil,[],_=>pa_nil.imp λ σ H Q q=>ta_nil (TAv.eq (λ ρ s=>rfl) q)
 | .nil,_::_,h=>h.elim
 | .cons _ _,[],h=>h.elim
 | .cons e es,x::xs,h=>(pa_cons' h.1.1 h.1.2.1 (pes_pa h.2)).imp λ σ H Q q=>TAv.eq (λ ρ s=>rfl) q
theorem pe_isi' {b:kh}{es:j5}{k:Nat}{t:Str}{a:Expr}{p py pos:Pos}(G:CG Γ F n X ck)(hb:biK b=some (k,t))(hg:ck.gl "isinstance"=true)(hg2:ck.gl t=true)(h:PEs Γ F X es [a]) :
  EvT Γ X (.Call (.Name "isinstance" p) [a,.Name t py] [] pos) (jP F (.bi b es)):=by
 refine .val ?_
 obtain⟨g1,g2,g3⟩:=G.gl hg
 obtain⟨t1,t2,t3⟩:=G.gl hg2
 obtain⟨hk,hm,hv,hbi⟩:=biK_ok hb
 have pty:PE X (.Name t py) (tC (.ty (kName k))):=pe_bltn t1 (G.bi _ hm) hv rfl t3 t2
 cases es with
 | nil=>exact h.elim
 | cons e es =>
  cases es with
  | cons _ _=>exact h.2.elim
  | nil =>
   obtain⟨⟨hs,ha,_⟩,_⟩:=h
   have hA:PA X [a,.Name t py] (tCons (TEv Γ (jP F e)) (tCons (tC (.ty (kName k))) tNil)):=qc ha (qc pty pa_nil (zm rfl)) (zm hs)
   refine(pe_callB (isK_ok G.K hk) g1 (G.bi _ (by decide)) b_isinstance hA g3 g2 (zm hs) (zN λ e he=>by rw[bj.mp he];rfl).1).imp λ σ H Q q=>?_
   obtain⟨φ,ρ,s,d,s',E,R,hm,q⟩:=q
   obtain⟨l,s1,e1,hm⟩:=bind_inv hm
   obtain⟨x,s2,e2,e1⟩:=bind_inv e1
   obtain⟨l2,s3,e3,e1⟩:=bind_inv e1
   cases e3
   cases e1
   rw[hbi]at hm
   refine⟨φ,ρ,s,x,_,E,R,e2,λ v φ1 H1 g1 l1 b1 r1 R1=>?_⟩
   exact⟨v,rfl,φ1,_,[x],d,s',R1,.cons r1 .nil,by unfold jM;rw[b1];rfl,hm,q.trans g1 l1⟩
end
section
variable {Γ:Gm} {F:j7} {n:Nat} {X:Cx} {ck:Ck} {σ:St} {H:Hp}
noncomputable def TAp (Γ:Gm)(cells:List (Str×Addr))(N:List Str)(m:jN->jK->jQ (List jL)):TA:=λ σ H Q=>∃ φ ρ s l s',RE Γ φ H s.length ρ σ/\Rp Γ φ H s/\m ρ s=.ok l s' /\
 ∀ vs φ' H',Gr φ s H φ' s' H'->s.length<=s'.length->jM s'.length l=true->PVL Γ cells N σ φ' H' l vs->Rp Γ φ' H' s'->Q vs H'
theorem TAp.eq {cells:List (Str×Addr)}{N:List Str}{m m':jN->jK->jQ (List jL)}{Q:List V->Hp->Prop}(e:∀ ρ s,m ρ s=m' ρ s)(q:TAp Γ cells N m σ H Q):TAp Γ cells N m' σ H Q:=by
 obtain⟨φ,ρ,s,l,s',E,R,hm,q⟩:=q
 exact⟨φ,ρ,s,l,s',E,R,by rw[<-e];exact hm,q⟩
theorem tap_nil {cells:List (Str×Addr)}{N:List Str}{Q:List V->Hp->Prop}(h:TAp Γ cells N (λ ρ s=>.ok [] s) σ H Q):tNil σ H Q:=by
 obtain⟨φ,ρ,s,l,s',E,R,hm,q⟩:=h
 cases hm
 exact q [] φ H (Gr.refl _ _ _) (aj _) rfl .nil R
theorem tap_ex {cells:List (Str×Addr)}{N:List Str}{m:jN->jK->jQ jL}{ms:jN->jK->jQ (List jL)}{Q:List V->Hp->Prop}(h:TAp Γ cells N (λ ρ s=>(m ρ s).bind λ d s=>(ms ρ s).bind λ l s=>.ok (d::l) s) σ H Q):tCons (TEv Γ m) (TAp Γ cells N ms) σ H Q:=by
 obtain⟨φ,ρ,s,l,s',E,R,hm,q⟩:=h
 obtain⟨x,s1,e1,hm⟩:=bind_inv hm
 obtain⟨y,s2,e2,hm⟩:=bind_inv hm
 cases hm
 refine⟨φ,ρ,s,x,s1,E,R,e1,λ v φ1 H1 g1 l1 b1 r1 R1=>?_⟩
 refine⟨φ1,ρ,s1,y,s',E.mono g1 l1,R1,e2,λ vs φ2 H2 g2 l2 b2 r2 R2=>?_⟩
 exact q (v::vs) φ2 H2 (g1.trans g2 l1) (am l1 l2) (by unfold jM;rw[zw l2 x b1,b2];rfl) (.cons (PVp.mono g2 b1 (.inl r1)) r2) R2
theorem getVs_get {ρ:jN}:∀ {is:List Nat} {cs:List jL},jZ ρ is=some cs->cs.length=is.length/\∀(i j:Nat),is[i]?=some j->∃ d,cs[i]?=some d/\ρ[j]?=some (some d)
 | [],cs,h=>by cases h;exact⟨rfl,λ i j e=>by cases e⟩
 | k::is,cs,h=>by
  unfold jZ at h
  cases e:ρ[k]? with
  | none=>rw[e]at h;cases h
  | some o =>
   cases o with
   | none=>rw[e]at h;cases h
   | some d =>
    cases e2:jZ ρ is with
    | none=>rw[e,e2]at h;cases h
    | some l =>
     rw[e,e2]at h
     cases h
     obtain⟨h1,h2⟩:=getVs_get e2
     refine⟨by rw[aR,aR,h1],λ i j ei=>?_⟩
     cases i with
     | zero=>cases ei;exact⟨d,rfl,e⟩
     | succ i=>exact h2 i j ei
theorem cap_of {φ:Nat->Addr}{s:jK}{ρ:jN}(E:RE Γ φ H s.length ρ σ):∀ {is:List Nat} {cs:List jL},jZ ρ is=some cs->∃ cap,RVL Γ φ H cs cap/\jM s.length cs=true/\∀(i j:Nat) (v:V),is[i]?=some j->cap[i]?=some v->σ[j]?=some (some v)
 | [],cs,h=>by cases h;exact⟨[],.nil,rfl,λ i j v e=>by cases e⟩
 | k::is,cs,h=>by
  unfold jZ at h
  cases e:ρ[k]? with
  | none=>rw[e]at h;cases h
  | some o =>
   cases o with
   | none=>rw[e]at h;cases h
   | some d =>
    cases e2:jZ ρ is with
    | none=>rw[e,e2]at h;cases h
    | some l =>
     rw[e,e2]at h
     cases h
     obtain⟨cap,h1,h2,h3⟩:=cap_of E e2
     obtain⟨hb,v,hσ,hv⟩:=E.val k d e
     refine⟨v::cap,.cons hv h1,by unfold jM;rw[hb,h2];rfl,λ i j w ei ec=>?_⟩
     cases i with
     | zero=>cases ei;cases ec;exact hσ
     | succ i=>exact h3 i j w ei ec
theorem pa_lam {id:String}{caps:List Nat}{params:aY}{body:Expr}{scope:Scope}{pos:Pos}{c P:Addr}{J:LamI}{xs:List Expr}{ms:jN->jK->jQ (List jL)}(L:LamHere Γ X X.N id caps params body scope c P J)(hnm:J.nm=none)(h2:PA X xs (TAp Γ X.env.cells X.N ms)) :
  PA X (.Lambda params body scope pos::xs) (TAp Γ X.env.cells X.N (λ ρ s=>match jZ ρ caps with|some cs=>(ms ρ s).bind λ l s=>.ok (.clo id cs::l) s|none=>.bad)):=by
 refine(qc (pe_lambda L.code L.hd L.bm L.ck L.df) h2).imp λ σ H Q q=>?_
 obtain⟨φ,ρ,s,l,s',E,R,hm,q⟩:=q
 have hm:(match jZ ρ caps with|some cs=>(ms ρ s).bind λ l s=>DV.R.ok (DV.D.clo id cs::l) s|none=>DV.R.bad)=.ok l s':=hm
 cases eg:jZ ρ caps with
 | none=>rw[eg]at hm;cases hm
 | some cs =>
  rw[eg]at hm
  obtain⟨y,s2,e2,hm⟩:=bind_inv hm
  cases hm
  obtain⟨cap,hcap,hcb,hσ⟩:=cap_of E eg
  have hlen:=(getVs_get eg).1
  have hq:J.qual=X.env.qual ++ "<lambda>":=by rw[L.q];unfold LamI.own;rw[hnm]
  rw[<-hq]
  refine tLam_of2 R.tab L.nd L.tab λ f H' e st tb hf ho=>?_
  obtain⟨g1,R1⟩:=R.sameT e st tb
  refine⟨φ,ρ,s,y,s',E.mono g1 (aj _),R1,e2,λ vs φ2 H2 g2 l2 b2 r2 R2=>?_⟩
  refine q (.ref f::vs) φ2 H2 (g1.trans g2 (aj _)) l2 (by unfold jM jO;rw[D_bndL_mono l2 cs hcb,b2];rfl) (.cons ?_ r2) R2
  have p1:PVp Γ X.env.cells X.N σ φ H' (.clo id cs) (.ref f):=by
   refine .inr ⟨id,cs,rfl,f,J,rfl,L.lg,by unfold CloRaw;rw[hnm];dsimp only;rw[L.p,L.b,L.s];exact ho,by rw[hlen,L.len],by rw[L.s];exact L.cl,cap,RVL.mono g1 cs cap hcb hcap,λ i x v e1 e3=>?_⟩
   have hi:i<caps.length:=by rw[<-L.len];exact(ac.mp e1).1
   have hj:caps[i]?=some caps[i]:=af hi
   exact⟨by rw[L.s];exact L.fr x (aJ e1),caps[i],L.at_ i _ x hj e1,hσ i _ v hj e3⟩
  exact p1.mono g2 (by unfold jO;exact hcb)
theorem pe_callC' {f:String}{ms:jN->jK->jQ (List jL)}{e:Expr}{es:List Expr}{p pos:Pos}(G:CG Γ F n X ck)(hg:ck.gl (f:Str)=true)(hfn:∀ x,X.fn x=true)(hkd:∀ x c,X.env.cells.lookup x=some c->X.env.kindOf x=some .cell\/X.env.kindOf x=some .free)
  (hs:∀ y∈e::es,shp y=true) (h:PA X (e::es) (TAp Γ X.env.cells X.N ms)) :
  PE X (.Call (.Name (f:Str) p) (e::es) [] pos) (TEv Γ (λ ρ s=>(ms ρ s).bind λ l s=>(F.call f l s).bind λ d s'=>if(d.ncl&&s'.all lf)=true then .ok d s' else .bad)):=by
 obtain⟨g1,g2,g3⟩:=G.gl hg
 rcases G.call f with hb|⟨a,fd,ps,hF,hmg,hk,hB⟩
 ·intro pins s σ H Q I q
  obtain⟨φ,ρ,s,d,s',E,R,hm,q⟩:=q
  obtain⟨l,s1,e1,hm⟩:=bind_inv hm
  rw[hb]at hm;cases hm
 ·refine(pe_callC hF G.room g1 hmg hk hB hfn h g2 (zm (hs e (aC ..))) (zN λ y hy=>hs y (aw _ hy)).1).imp λ σ H Q q=>?_
  obtain⟨φ,ρ,s,d,s',E,R,hm,q⟩:=q
  obtain⟨l,s1,e1,hm⟩:=bind_inv hm
  obtain⟨d2,s2,e2,hm⟩:=bind_inv hm
  split at hm
  case isFalse=>cases hm
  rename_i hn
  cases hm
  rw[ao]at hn
  refine⟨φ,ρ,s,l,s1,E,R,e1,λ vs φ1 H1 gg l1 b1 r1 R1=>λ H2 ca=>?_⟩
  obtain⟨gs,R2⟩:=R1.same ca.same
  refine⟨φ1,s1,l,d,s',R2,r1.caught ca hkd b1,b1,e2,λ v φ' H3 g' l' b' r' R'=>?_⟩
  have hc:Cells X.env.cells H3:=ca.cells.kp g'.w.kp
  exact q v φ' (Drop X.env.cells H3) (gg.trans (Gr.caught ca g') l1) (am l1 l') b' (RV.dropC hc d v hn.1 r') (R'.dropC hc hn.2)
theorem pe_callV' {i:Nat}{x:Str}{es:j5}{e:Expr}{xs:List Expr}{p pos:Pos}(G:CG Γ F n X ck)(hv:ck.var i x=true)(hs:∀ y∈e::xs,shp y=true)(h:PA X (e::xs) (TAv Γ (j8 F es)))(hvar:PE X (.Name x p) (tVar i)) :
  PE X (.Call (.Name x p) (e::xs) [] pos) (TEv Γ (jP F (.callV i es))):=by
 refine(pe_callV rfl rfl rfl rfl rfl G.room hvar h (zm (hs e (aC ..))) (zN λ y hy=>hs y (aw _ hy)).1).imp λ σ H Q q=>?_
 obtain⟨φ,ρ,s,d,s',E,R,hm,q⟩:=q
 have hm:((j8 F es ρ s).bind λ l s=>match ρ[i]? with
  | some (some (.fn f))=>F.call f l s
  | some (some (.clo id cs))=>F.lam id cs l s
  | _=>.bad)=.ok d s':=hm
 obtain⟨l,s1,e1,hm⟩:=bind_inv hm
 cases eρ:ρ[i]? with
 | none=>rw[eρ]at hm;cases hm
 | some o =>
  cases o with
  | none=>rw[eρ]at hm;cases hm
  | some v0 =>
   obtain⟨hb,v,hσ,rv⟩:=E.val i v0 eρ
   cases v0 with
   | fn f =>
    rw[eρ]at hm
    have hm:F.call f l s1=.ok d s':=hm
    unfold RV at rv
    obtain⟨a,ha,e2⟩:=rv
    subst e2
    obtain⟨h1,h2⟩:=G.fa f a ha
    rcases G.call f with hb|⟨a',fd,ps,hF,hmg,hk,hB⟩
    ·rw[hb]at hm;cases hm
    ·rw[h1]at hmg
     cases hmg
     refine⟨a,hσ,.inr h2,φ,ρ,s,l,s1,E,R,e1,λ vs φ1 H1 g1 l1 b1 r1 R1=>?_⟩
     exact⟨.inr h2,_,_,ClOk.ofFn hF hB,trivial,φ1,s1,l,d,s',R1,r1,b1,hm,q.trans g1 l1⟩
   | clo id cs =>
    rw[eρ]at hm
    have hm:F.lam id cs l s1=.ok d s':=hm
    unfold RV at rv
    unfold jO at hb
    obtain⟨f,cap,J,clos,e2,hlg,hat,hcl,hcs⟩:=rv
    subst e2
    have fin:∀ H',CloAt H' f J cap clos->FnIn X.K H' f:=λ H' h'=>h'.fn
    refine⟨f,hσ,fin H hat,φ,ρ,s,l,s1,E,R,e1,λ vs φ1 H1 g1 l1 b1 r1 R1=>?_⟩
    have hat1:=hat.kp g1.w.kp
    exact⟨fin H1 hat1,_,_,G.cl id J f cap clos hlg hcl,hat1,φ1,s1,cs,l,d,s',R1,r1,RVL.mono g1 cs cap hb hcs,b1,D_bndL_mono l1 cs hb,hm,q.trans g1 l1⟩
   | _=>rw[eρ]at hm;cases hm
end
section
variable {Γ:Gm} {F:j7} {n:Nat} {X:Cx} {ck:Ck} {σ:St} {H:Hp} {Q:VK}
noncomputable def SeqV (K:ab)(H:Hp)(v:V)(ys:List V):Prop:=(∃ a,v=.ref a/\(SqL K H a ys\/SqT K H a ys))\/∃ x:List Nat,v=.str ⟨x.toArray⟩/\x.length<=jU/\ys=sgV x
noncomputable def TLv (Γ:Gm)(m:jN->jK->jQ (List jL)):TE:=λ σ H Q=>∃ φ ρ s l s',RE Γ φ H s.length ρ σ/\Rp Γ φ H s/\m ρ s=.ok l s' /\
 ∀ v ys φ' H',Gr φ s H φ' s' H'->s.length<=s'.length->jM s'.length l=true->SeqV Γ.K H' v ys->RVL Γ φ' H' l ys->Rp Γ φ' H' s'->Q v H'
theorem tl_fresh {m:jN->jK->jQ (List jL)}(h:TLv Γ m σ H Q):TFv Γ m σ H Q:=by
 obtain⟨φ,ρ,s,l,s',E,R,hm,q⟩:=h
 exact⟨φ,ρ,s,l,s',E,R,hm,λ p ys φ' H' g hl hb hp h0 ho r R'=>q (.ref p) ys φ' H' g hl hb (.inl ⟨p,rfl,.inl (SqL.of hp)⟩) r R'⟩
theorem rvl_signs {φ:Nat->Addr}:∀ x:List Nat,RVL Γ φ H (x.map λ c=>.str [c]) (sgV x)
 | []=>.nil
 | c::x=>.cons (RV.strI (by unfold jU;simp)) (rvl_signs x)
theorem bndL_signs {k:Nat}:∀ x:List Nat,jM k (x.map λ c=>.str [c])=true
 | []=>rfl
 | c::x=>by rw[aK];unfold jM;rw[bndL_signs x];rfl
theorem tl_seq {m:jN->jK->jQ jL}(h:TLv Γ (λ ρ s=>(m ρ s).bind λ d s=>DV.lstM d s) σ H Q):TEv Γ m σ H Q:=by
 obtain⟨φ,ρ,s,l,s',E,R,hm,q⟩:=h
 obtain⟨d,s1,e1,hm⟩:=bind_inv hm
 refine⟨φ,ρ,s,d,s1,E,R,e1,λ v φ1 H1 g1 l1 b1 r1 R1=>?_⟩
 cases d with
 | tup l' =>
  cases hm
  obtain⟨a,xs,rfl,h1,h2⟩:=r1.tupE
  unfold jO at b1
  exact q _ xs φ1 H1 g1 l1 b1 (.inl ⟨a,rfl,.inr h1⟩) h2 R1
 | str x =>
  cases hm
  exact q v (sgV x) φ1 H1 g1 l1 (bndL_signs x) (.inr ⟨x,r1.strE,r1.strL,rfl⟩) (rvl_signs x) R1
 | ref k =>
  have hm:(match s1[k]? with
   | some (.lst l)=>DV.R.ok l s1
   | some (.ro l)=>.ok l s1
   | _=>.bad)=.ok l s':=hm
  rw[r1.refE]
  cases e:s1[k]? with
  | none=>rw[e]at hm;cases hm
  | some ob =>
   rw[e]at hm
   cases ob with
   | lst l' =>
    cases hm
    obtain⟨xs,h1,h2⟩:=R1.addr e
    have:=R1.wf k _ e
    unfold jR at this
    exact q _ xs φ1 H1 g1 l1 this (.inl ⟨_,rfl,.inl (SqL.of h1)⟩) h2 R1
   | ro l' =>
    cases hm
    obtain⟨xs,h1,h2⟩:=R1.obj k _ e
    have:=R1.wf k _ e
    unfold jR at this
    exact q _ xs φ1 H1 g1 l1 this (.inl ⟨_,rfl,.inl h1.1⟩) h2 R1
   | _=>cases hm
 | _=>cases hm
theorem TLv.eq {m m':jN->jK->jQ (List jL)}(e:∀ ρ s,m ρ s=m' ρ s)(q:TLv Γ m σ H Q):TLv Γ m' σ H Q:=by
 have:m=m':=funext λ ρ=>funext λ s=>e ρ s
 subst this;exact q
theorem pe_mkTuple {m:jN->jK->jQ (List jL)}{a:Expr}{p pos:Pos}(G:CG Γ F n X ck)(hg:ck.gl "tuple"=true)(hs:shp a=true)(h:PE X a (TLv Γ m)) :
  PE X (.Call (.Name "tuple" p) [a] [] pos) (TEv Γ (λ ρ s=>(m ρ s).bind λ l s=>kI .tuple l s)):=by
 obtain⟨g1,g2,g3⟩:=G.gl hg
 refine(pe_callTy ((call_tupleK G.K).or (call_tupleS G.calm)) g1 (G.bi _ (by decide)) b_tuple (qc h pa_nil (zm hs)) g3 g2 (zm hs) rfl).imp λ σ H Q q=>?_
 obtain⟨φ,ρ,s,d,s',E,R,hm,q⟩:=q
 obtain⟨l,s1,e1,hm⟩:=bind_inv hm
 cases hm
 refine⟨φ,ρ,s,l,_,E,R,e1,λ v ys φ1 H1 g1 l1 b1 hq r1 R1=>?_⟩
 rcases hq with⟨a,rfl,hq|hq⟩|⟨x,rfl,hx,rfl⟩
 ·exact .inl ⟨a,ys,rfl,.inl ⟨hq,λ p hp=>(q.trans g1 l1).tup R1 r1 b1 hp⟩⟩
 ·exact .inl ⟨a,ys,rfl,.inr ⟨hq,q _ φ1 H1 g1 l1 (by unfold jO;exact b1) (RV.tupI hq r1) R1⟩⟩
 ·exact .inr ⟨x,rfl,hx,λ p hp=>(q.trans g1 l1).tup R1 r1 b1 hp⟩
theorem pe_mkList {m:jN->jK->jQ (List jL)}{a:Expr}{p pos:Pos}(G:CG Γ F n X ck)(hg:ck.gl "list"=true)(hs:shp a=true)(h:PE X a (TLv Γ m)) :
  PE X (.Call (.Name "list" p) [a] [] pos) (TEv Γ (λ ρ s=>(m ρ s).bind λ l s=>kI .list l s)):=by
 obtain⟨g1,g2,g3⟩:=G.gl hg
 refine(pe_callTy ((call_listK G.K).or (call_listS G.calm)) g1 (G.bi _ (by decide)) b_list (qc h pa_nil (zm hs)) g3 g2 (zm hs) rfl).imp λ σ H Q q=>?_
 obtain⟨φ,ρ,s,d,s',E,R,hm,q⟩:=q
 obtain⟨l,s1,e1,hm⟩:=bind_inv hm
 obtain⟨rfl,rfl⟩:=qt hm
 refine⟨φ,ρ,s,l,_,E,R,e1,λ v ys φ1 H1 g1 l1 b1 hq r1 R1=>?_⟩
 rcases hq with⟨a,rfl,hq⟩|⟨x,rfl,hx,rfl⟩
 ·exact .inl ⟨a,ys,rfl,hq,λ p hp=>(q.trans g1 l1).alloc R1 r1 b1 hp⟩
 ·exact .inr ⟨x,rfl,hx,λ p hp=>(q.trans g1 l1).alloc R1 r1 b1 hp⟩
theorem pe_mk' {m:jN->jK->jQ (List jL)}{k:kT}{x:Str}{a:Expr}{p pos:Pos}(G:CG Γ F n X ck)(hk:mkT k=some x)(hg:ck.gl x=true)(hs:shp a=true)(h:PE X a (TLv Γ m)) :
  PE X (.Call (.Name x p) [a] [] pos) (TEv Γ (λ ρ s=>(m ρ s).bind λ l s=>kI k l s)):=by
 cases k<;>cases hk
 ·exact pe_mkTuple G hg hs h
 ·exact pe_mkList G hg hs h
noncomputable def FrC (Γ:Gm)(X:Cx)(x:Str)(k:kT):Prop:=∃ id r,a9 x=some (.builtin id)/\x∈bNames/\CallR X (.builtin id) r/\∀ φ H s l ys p d s' Q,Rp Γ φ H s->RVL Γ φ H l ys->H p=some (.lst ys)->kI k l s=.ok d s'->After Γ φ s H d s' Q->r [.ref p] H Q
theorem fold_min:∀(l:List Int) (a:Int),(l.foldl min a=a\/l.foldl min a∈l)/\l.foldl min a<=a/\∀ y∈l,l.foldl min a<=y
 | [],a=>⟨.inl rfl,cx _,λ y hy=>by cases hy⟩
 | b::l,a=>by
  obtain⟨h1,h2,h3⟩:=fold_min l (min a b)
  rw[cu]
  refine⟨?_,by omega,λ y hy=>?_⟩
  ·rcases h1 with h|h
   ·rw[h]
    rcases jz a b with z|z
    ·left;omega
    ·right;rw[show min a b=b by omega];exact aC ..
   ·exact .inr (aw _ h)
  ·rcases aD.mp hy with z|z
   ·rw[z];omega
   ·exact h3 y z
theorem minI_min {l:List Int}{m:Int}(h:kB l=some m):m∈l/\∀ y∈l,m<=y:=by
 cases l with
 | nil=>cases h
 | cons a l =>
  cases h
  obtain⟨h1,h2,h3⟩:=fold_min l a
  refine⟨?_,λ y hy=>?_⟩
  ·rcases h1 with h|h
   ·rw[h];exact aC ..
   ·exact aw _ h
  ·rcases aD.mp hy with z|z
   ·rw[z];exact h2
   ·exact h3 y z
theorem frc_all (G:CG Γ F n X ck){k:kT}{x:Str}(hk:mkF k=some x):FrC Γ X x k:=by
 cases k<;>cases hk
 ·refine⟨_,_,b_all,by decide,call_allL G.calm G.K,λ φ H s l ys p d s' Q R r hp hm q=>?_⟩
  unfold kI at hm
  dsimp only at hm
  cases e:kb l with
  | none=>rw[e]at hm;cases hm
  | some bs =>
   rw[e]at hm
   cases hm
   have:=blsOf_inv e
   subst this
   exact⟨p,bs,rfl,SqL.of (by rw[<-r.bls];exact hp),q.here R rfl RV.blI⟩
 ·refine⟨_,_,b_min,by decide,call_minL G.calm G.K,λ φ H s l ys p d s' Q R r hp hm q=>?_⟩
  unfold kI at hm
  dsimp only at hm
  cases e:kn l with
  | none=>rw[e]at hm;cases hm
  | some is =>
   rw[e]at hm
   have hm:(match kB is with|some m=>DV.R.ok (DV.D.int m) s|none=>.bad)=.ok d s':=hm
   cases e2:kB is with
   | none=>rw[e2]at hm;cases hm
   | some mm =>
    rw[e2]at hm
    cases hm
    have:=zY e
    subst this
    refine⟨p,is,rfl,SqL.of (by rw[<-r.ints];exact hp),(λ(z:is=[])=>by rw[z]at e2;cases e2),λ m hm hmin=>?_⟩
    obtain⟨a,b⟩:=minI_min e2
    have:m=mm:=iO (hmin mm a) (b m hm)
    rw[this]
    exact q.here R rfl RV.intI
theorem pe_mkF {m:jN->jK->jQ (List jL)}{k:kT}{x:Str}{a:Expr}{p pos:Pos}(G:CG Γ F n X ck)(hk:mkF k=some x)(hg:ck.gl x=true)(hs:shp a=true)(h:PE X a (TFv Γ m)) :
  PE X (.Call (.Name x p) [a] [] pos) (TEv Γ (λ ρ s=>(m ρ s).bind λ l s=>kI k l s)):=by
 obtain⟨g1,g2,g3⟩:=G.gl hg
 obtain⟨id,r,hb,hx,hc,hr⟩:=frc_all (Γ:=Γ) G hk
 refine(pe_callB hc g1 (G.bi _ hx) hb (qc h pa_nil (zm hs)) g3 g2 (zm hs) rfl).imp λ σ H Q q=>?_
 obtain⟨φ,ρ,s,d,s',E,R,hm,q⟩:=q
 obtain⟨l,s1,e1,hm⟩:=bind_inv hm
 exact⟨φ,ρ,s,l,_,E,R,e1,λ p ys φ1 H1 g1 l1 b1 hp h0 ho r1 R1=>hr φ1 H1 s1 l ys p d s' Q R1 r1 hp hm (q.trans g1 l1)⟩
theorem pe_mkD {md:jN->jK->jQ (jL)}{ml:jN->jK->jQ (List jL)}{a de:Expr}{p pos kp:Pos}(G:CG Γ F n X ck)(hg:ck.gl "min"=true)(hs:shp a=true)(h:PE X a (TFv Γ ml))(hd:PE X de (TEv Γ md)) :
  PE X (.Call (.Name "min" p) [a] [⟨some "default",de,kp⟩] pos) (TEv Γ (λ ρ s=>(ml ρ s).bind λ l s=>(md ρ s).bind λ d s=>DV.mkD .min l d s)):=by
 obtain⟨g1,g2,g3⟩:=G.gl hg
 refine(pe_minD rfl G.calm g1 (G.bi _ (by decide)) h hd (zm hs)).imp λ σ H Q q=>?_
 obtain⟨φ,ρ,s,d,s',E,R,hm,q⟩:=q
 obtain⟨l,s1,e1,hm⟩:=bind_inv hm
 obtain⟨d0,s2,e2,hm⟩:=bind_inv hm
 refine⟨φ,ρ,s,l,s1,E,R,e1,λ p ys φ1 H1 g1 l1 b1 hp h0 ho r1 R1=>?_⟩
 refine⟨φ1,ρ,s1,d0,s2,E.mono g1 l1,R1,e2,λ v φ2 H2 g2 l2 b2 r2 R2=>?_⟩
 have hp2:H2 p=some (.lst ys):=g2.fr p _ hp (by nofun) (λ i ob e mu=>ho i ob e mu)
 unfold DV.mkD at hm
 dsimp only at hm
 cases e:kn l with
 | none=>rw[e]at hm;cases hm
 | some is =>
  rw[e]at hm
  have hm2:(match kB is with|some m=>DV.R.ok (DV.D.int m) s2|none=>DV.R.ok d0 s2)=.ok d s':=hm
  have:=zY e
  subst this
  have hq:=q.trans (g1.trans g2 l1) (am l1 l2)
  refine⟨p,is,rfl,SqL.of (by rw[<-r1.ints];exact hp2),λ z=>?_,λ m hm' hmin=>?_⟩
  ·subst z
   cases hm2
   exact hq.here R2 b2 r2
  ·clear e2
   cases e2:kB is with
   | none =>
    cases is with
    | nil=>cases hm'
    | cons _ _=>cases e2
   | some mm =>
    rw[e2]at hm2
    cases hm2
    obtain⟨x,y⟩:=minI_min e2
    have:m=mm:=iO (hmin mm x) (y m hm')
    rw[this]
    exact hq.here R2 rfl RV.intI
theorem lst_then {φ φ':Nat->Addr}{s s':jK}{H':Hp}{r:Nat}{l:List jL}(R:Rp Γ φ H s)(g:Gr φ s H φ' s' H')(hb:r<s.length)(e:s'[r]?=some (.lst l)):tyV Γ.K "list" (.ref (φ r)) H:=by
 obtain⟨o0,e0⟩:∃ o0,s[r]?=some o0:=⟨s[r],af hb⟩
 have hm:=g.mu r o0 _ e0 e rfl
 have ho:=R.obj r o0 e0
 cases o0 with
 | lst l0 =>
  obtain⟨xs,h1,_⟩:=ho
  exact .inl ⟨rfl,xs,SqL.of h1⟩
 | ro _=>cases hm
 | dic _=>have:=g.kd r _ _ e0 e;cases this
 | ins _ _=>exact ho.elim
noncomputable def mtR (Γ:Gm)(m:kU):V->List V->Hp->VK->Prop:=λ x vs H Q=>∃ φ s a l d s',Rp Γ φ H s/\RV Γ φ H a x/\RVL Γ φ H l vs/\a.bnd s.length=true/\jM s.length l=true/\kQ m a l s=.ok d s'/\After Γ φ s H d s' Q
theorem LIM_lt:jU<aH:=by rw[eU];decide
theorem meth_lst {m:kU}{x:Str}{k:Nat}(hm:mtT m=some (x,k)){a:jL}{l:List jL}{s s':jK}{d:jL}(h:kQ m a l s=.ok d s'):∃ r l0,a=.ref r/\s[r]?=some (.lst l0):=by
 have go:∀ {r:Nat} {f:List jL->jQ jL},(match s[r]? with|some (.lst l)=>f l|_=>.bad)=.ok d s'->∃ l0,s[r]?=some (.lst l0):=λ {r f} h=>by
  cases e:s[r]? with
  | none=>rw[e]at h;cases h
  | some ob =>
   cases ob with
   | lst l0=>exact⟨l0,rfl⟩
   | _=>rw[e]at h;cases h
 unfold kQ at h
 split at h
 ·obtain⟨l0,e⟩:=go h;exact⟨_,l0,rfl,e⟩
 ·obtain⟨l0,e⟩:=go h;exact⟨_,l0,rfl,e⟩
 ·obtain⟨l0,e⟩:=go h;exact⟨_,l0,rfl,e⟩
 ·obtain⟨l0,e⟩:=go h;exact⟨_,l0,rfl,e⟩
 ·obtain⟨l0,e⟩:=go h;exact⟨_,l0,rfl,e⟩
 ·cases h
theorem m_append:MtR X "list.append" (mtR Γ .append):=by
 intro pins sh σ H x vs v us Q I rx rv h
 obtain⟨φ,s,a,l,d,s',R,ra,rl,ba,bl,hm,q⟩:=h
 obtain⟨r,l0,rfl,e⟩:=meth_lst (m:=.append) rfl hm
 cases l with
 | nil=>cases hm
 | cons y t =>
  cases t with
  | cons _ _=>cases hm
  | nil =>
   simp only[kQ,e]at hm
   split at hm
   case isFalse=>cases hm
   rename_i hlt
   cases hm
   obtain⟨z,rfl,rz⟩:=rl.one
   obtain⟨xs,h1,h2⟩:=R.addr e
   have hb0:jM s.length l0=true:=by have:=R.wf r _ e;unfold jR at this;exact this
   refine mt_append pins sh σ H x [z] v us Q I rx rv ⟨φ r,xs,z,ra.refE,rfl,h1,by rw[h2.length];have:=LIM_lt;omega,?_⟩
   exact q.put R e (h2.append (.cons rz .nil)) (z0 hb0 bl) rfl RV.nonI
structure MtOk (Γ:Gm)(X:Cx)(m:kU)(x:Str):Prop where
 ex:∃ id,PySem.Slot "list" x id/\typeOf (.builtin id)=pure (.type "method_descriptor")/\MtR X id (mtR Γ m)
theorem mt_all (hK:X.K=Γ.K)(hroom:Room (jY+1) X.A){m:kU}{x:Str}{k:Nat}(h:mtT m=some (x,k)):MtOk Γ X m x:=by
 cases m<;>cases h
 ·exact⟨_,gb,PySem.F.type_list_append,m_append⟩
theorem pe_meth' {m:kU}{o:kF}{es:j5}{ob:Expr}{xs:List Expr}{x:Str}{ap cp:Pos}(G:CG Γ F n X ck)(hm:mtT m=some (x,xs.length))(hab:abOk ob=true)(hl:(ap.endLine==cp.line)=true)(ho:PE X ob (TEv Γ (jP F o)))
  (hmE:mEs ck es xs=true) (h:PEs Γ F X es xs):EvT Γ X (.Call (.Attribute ob x ap) xs [] cp) (jP F (.meth m o es)):=by
 refine .val ?_
 obtain⟨id,slot,hty,hr⟩:=(mt_all (Γ:=Γ) (X:=X) G.K (G.room.mono G.deep) hm).ex
 have hs:=mEs_shp hmE
 have key:∀ σ H Q,TEv Γ (jP F (.meth m o es)) σ H Q->tBM Γ.K "list" (mtR Γ m) (TEv Γ (jP F o)) (TAv Γ (j8 F es)) σ H Q:=λ σ H Q q=>by
  obtain⟨φ,ρ,s,d,s',E,R,hmm,q⟩:=q
  obtain⟨a,s1,e1,hmm⟩:=bind_inv hmm
  obtain⟨l,s2,e2,hmm⟩:=bind_inv hmm
  refine⟨φ,ρ,s,a,s1,E,R,e1,λ v φ1 H1 g1 l1 b1 r1 R1=>?_⟩
  obtain⟨r,l0,rfl,er⟩:=meth_lst hm hmm
  rw[r1.refE]
  have hk:∀ φ2 H2,Gr φ1 s1 H1 φ2 s2 H2->tyV Γ.K "list" (.ref (φ1 r)) H1:=λ φ2 H2 g2=>lst_then R1 g2 (by unfold jO at b1;exact of_decide_eq_true b1) er
  have goal2:TAv Γ (j8 F es) σ H1 λ xs H2=>mtR Γ m (.ref (φ1 r)) xs H2 Q:=by
   refine⟨φ1,ρ,s1,l,s2,E.mono g1 l1,R1,e2,λ vs φ2 H2 g2 l2 b2 r2 R2=>?_⟩
   refine⟨φ2,s2,.ref r,l,d,s',R2,?_,r2,zw l2 _ b1,b2,hmm,q.trans (g1.trans g2 l1) (am l1 l2)⟩
   have:=RV.mono g2 _ _ b1 r1
   rw[r1.refE]at this
   exact this
  refine⟨?_,goal2⟩
  have hlt:r<s1.length:=by unfold jO at b1;exact of_decide_eq_true b1
  obtain⟨o0,e0⟩:∃ o0,s1[r]?=some o0:=⟨s1[r],af hlt⟩
  have hob:=R1.obj r o0 e0
  cases o0 with
  | lst l0 =>
   obtain⟨xs,h1,_⟩:=hob
   exact .inl ⟨rfl,xs,SqL.of h1⟩
  | ro l0 =>
   obtain⟨xs,h1,_⟩:=hob
   exact .inl ⟨rfl,xs,h1.1⟩
  | dic _ =>
   obtain⟨o',eo,ek⟩:=DV.evs_kr G.fk es ρ s1 _ _ e2 r _ e0
   rw[er]at eo;cases eo;cases ek
  | ins _ _=>exact hob.elim
 cases xs with
 | nil =>
  have p0:PE X (.Call (.Attribute ob x ap) [] [] cp) (tBM0 X.K "list" (mtR Γ m) (TEv Γ (jP F o))):=pe_bm0 fC slot hty hr ho (base_ok hab) hl
  rw[G.K]at p0
  refine p0.imp λ σ H Q q=>?_
  cases es with
  | cons _ _=>exact h.elim
  | nil =>
   obtain⟨φ,ρ,s,d,s',E,R,hmm,k⟩:=key σ H Q q
   refine⟨φ,ρ,s,d,s',E,R,hmm,λ v φ1 H1 g1 l1 b1 r1 R1=>?_⟩
   obtain⟨h1,h2⟩:=k v φ1 H1 g1 l1 b1 r1 R1
   exact⟨h1,ta_nil (TAv.eq (λ ρ s=>rfl) h2)⟩
 | cons y ys =>
  refine(pe_bmK G.K fC slot hty hr ho (pes_pa h) (base_ok hab) ?_ hl (zm (hs y (aC ..))) (zN λ e he=>hs e (aw _ he)).1).imp key
  rw[(zN hs).2]
  have:(y::ys).length<=1:=by
   unfold mtT at hm
   split at hm<;>first|(have:=au hm;have:=congrArg Prod.snd this;simp at this;simp;omega)|cases hm
  simp only[dX,dm,jA]
  show(true&&decide ((y::ys).length+0+0<30))=true
  rw[dX]
  exact decide_eq_true (by omega)
end
section
variable {Γ:Gm} {F:j7} {n:Nat} {X:Cx} {ck:Ck} {σ:St} {H:Hp} {Q:VK}
theorem PIf.imp {e:List Expr}{t t':TT}(h:PIf X e t)(i:∀ σ H Q,t' σ H Q->t σ H Q):PIf X e t':=λ pins s σ H Q I q=>h pins s σ H Q I (i σ H Q q)
structure CompF (Γ:Gm)(X:Cx)(m:jN->jK->jQ (List jL))(E:Expr):Prop where
 ex:∃ elt tgt iter ifs scope pos N' caps wi g tc te,E=.ListComp elt [⟨tgt,iter,ifs,0⟩] scope pos/\z9 N' caps scope X.N X.env.scope=true/\PI X tgt iter wi /\
  (∀(C:Addr) (cells:List (Str×Addr)) (s:ae) (H:Hp) (ex:List Addr),PG (zQ X N' scope C cells s H ex) tgt g/\PIf (zQ X N' scope C cells s H ex) ifs tc/\PE (zQ X N' scope C cells s H ex) elt te) /\
  (∀ x,cT iter X.env x=pure x)/\∀ σ H Q,TFv Γ m σ H Q->tComp caps wi g tc te σ H Q
theorem CompF.pe {m:jN->jK->jQ (List jL)}{E:Expr}(h:CompF Γ X m E)(hc:X.calm=true):PE X E (TFv Γ m):=by
 obtain⟨elt,tgt,iter,ifs,scope,pos,N',caps,wi,g,tc,te,rfl,h1,h2,h3,h4,h5⟩:=h.ex
 exact(pe_comp N' caps h1 h2 hc h3 h4).imp h5
theorem comp_if {tg:ki}{mI:jN->jK->jQ kG}{mc me:jN->jK->jQ jL}{caps:List (Option Nat)}{elt tgt iter i:Expr}{scope:Scope}{pos:Pos}(G:CG Γ F n X ck)(hm:mComp ck tg tgt iter caps scope=true)
  (hi:PI X tgt iter (TIv Γ mI)) (hc:∀ C cells s H ex,PT (zQ X (ckC ck tgt caps scope).N scope C cells s H ex) i (TTv Γ mc)) (he:∀ C cells s H ex,PE (zQ X (ckC ck tgt caps scope).N scope C cells s H ex) elt (TEv Γ me)) :
  CompF Γ X (λ ρ s=>(mI ρ s).bind λ q s0=>if q.its.length<=jU then kS (λ s=>km s0 s q.src) (λ d ρ s=>match jX ρ tg d with
   | some ρ=>jW (mc ρ s) λ k s=>if k then(me ρ s).bind λ v s=>.ok (some v,ρ) s else .ok (none,ρ) s
   | none=>.bad) q.its (kH ρ caps) s0 else .bad) (.ListComp elt [⟨tgt,iter,[i],0⟩] scope pos):=by
 obtain⟨c1,c2,c3⟩:=G.comp hm
 exact⟨elt,tgt,iter,[i],scope,pos,_,caps,_,_,_,_,rfl,c1,hi,λ C cells s H ex=>⟨(c3 C cells s H ex).2,pif_one (hc C cells s H ex),he C cells s H ex⟩,fold_ok c2,λ σ H Q q=>tf_comp q⟩
theorem comp_all {tg:ki}{mI:jN->jK->jQ kG}{me:jN->jK->jQ jL}{caps:List (Option Nat)}{elt tgt iter:Expr}{scope:Scope}{pos:Pos}(G:CG Γ F n X ck)(hm:mComp ck tg tgt iter caps scope=true)
  (hi:PI X tgt iter (TIv Γ mI)) (he:∀ C cells s H ex,PE (zQ X (ckC ck tgt caps scope).N scope C cells s H ex) elt (TEv Γ me)) :
  CompF Γ X (λ ρ s=>(mI ρ s).bind λ q s0=>if q.its.length<=jU then kS (λ s=>km s0 s q.src) (λ d ρ s=>match jX ρ tg d with
   | some ρ=>(me ρ s).bind λ v s=>.ok (some v,ρ) s
   | none=>.bad) q.its (kH ρ caps) s0 else .bad) (.ListComp elt [⟨tgt,iter,[],0⟩] scope pos):=by
 obtain⟨c1,c2,c3⟩:=G.comp hm
 refine⟨elt,tgt,iter,[],scope,pos,_,caps,_,_,TTv Γ (λ ρ s=>.ok (.bl true) s),_,rfl,c1,hi,λ C cells s H ex=>⟨(c3 C cells s H ex).2,pif_nil.imp λ σ H Q q=>?_,he C cells s H ex⟩,fold_ok c2,λ σ H Q q=>tf_comp (TFv.eq (λ ρ s=>?_) q)⟩
 ·obtain⟨φ,ρ,s,b,s',E,R,hm,q⟩:=q
  cases hm
  exact q φ H (Gr.refl _ _ _) (aj _) R
 ·congr 1
theorem pi_seq' {tg:Expr}{e:kF}{E:Expr}(G:CG Γ F n X ck)(h:PE X E (TEv Γ (jP F e))):PI X tg E (TIv Γ (lj F (.seq e))):=by
 refine(PI.or (pi_tupK G.K h) (PI.or (pi_listK G.K h) (pi_str h))).imp λ σ H R q=>ti_seq (TIv.eq (λ ρ s=>rfl) q)
theorem pi_rng1' {tg:Expr}{a:kF}{l:Expr}{p pos:Pos}(G:CG Γ F n X ck)(hg:ck.gl "range"=true)(hs:shp l=true)(h:PE X l (TEv Γ (jP F a))):PI X tg (.Call (.Name "range" p) [l] [] pos) (TIv Γ (lj F (.rng1 a))) :=
 (pi_range1 (G.gl hg).1 (G.bi _ (by decide)) (qc h pa_nil (zm hs)) (zm hs)).imp λ σ H R q=>ti_rng1 (TIv.eq (λ ρ s=>rfl) q)
theorem td_new (h:TEv Γ (λ ρ s=>j9 (.dic []) s) σ H Q):tDNewK σ H Q:=by
 obtain⟨φ,ρ,s,d,s',E,R,hm,q⟩:=h
 obtain⟨rfl,rfl⟩:=qt hm
 intro p hp
 obtain⟨g,R'⟩:=R.new (o:=.dic []) (u:=.dK []) hp rfl λ φ' H' g e=>⟨[],e,rfl⟩
 exact q (.ref p) _ _ g (by simp) (by unfold jO;simp) (by unfold RV;simp) R'
theorem td_one {mk mv:jN->jK->jQ jL}(h:TEv Γ (λ ρ s=>(mk ρ (s++[.dic []])).bind λ kd s1=>(mv ρ s1).bind λ vd s2=>if kd.key=true/\s2[s.length]?=some (.dic [])then .ok (.ref s.length) (s2.set s.length (.dic [(kd,vd)]))else .bad) σ H Q):tDisp [(TEv Γ mk,TEv Γ mv)] σ H Q:=by
 obtain⟨φ,ρ,s,d,s',E,R,hm,q⟩:=h
 obtain⟨kd,s1,e1,hm⟩:=bind_inv hm
 obtain⟨vd,s2,e2,hm⟩:=bind_inv hm
 split at hm
 case isFalse=>cases hm
 rename_i hc
 cases hm
 intro p hp
 obtain⟨g0,R0⟩:=R.new (o:=.dic []) (u:=.dK []) hp rfl λ φ' H' g e=>⟨[],e,rfl⟩
 have l0:s.length<=(s++[DV.O.dic []]).length:=by simp
 refine⟨_,ρ,s++[DV.O.dic []],kd,s1,E.mono g0 l0,R0,e1,λ v1 φ1 H1 g1 l1 b1 r1 R1=>?_⟩
 refine⟨φ1,ρ,s1,vd,s2,(E.mono g0 l0).mono g1 l1,R1,e2,λ v2 φ2 H2 g2 l2 b2 r2 R2=>?_⟩
 have hp2:φ2 s.length=p:=by
  rw[g2.w.map s.length (aq (by simp) l1),g1.w.map s.length (by simp)];simp
 obtain⟨k,hk⟩:=key_some hc.1
 have ek:=key_kV hk (RV.mono g2 kd v1 b1 r1)
 obtain⟨kvs,z1,z2⟩:=R2.obj s.length _ hc.2
 have z2:kvs=[]:=z2
 subst z2
 rw[hp2]at z1
 refine⟨z1,[(k,v2)],by rw[ek];rfl,by simp,?_⟩
 have hb:(DV.O.dic [(kd,vd)]).bnd s2.length=true:=by
  unfold jR
  simp only[aK,dF,jM,dW,ao]
  exact⟨zw l2 _ b1,b2⟩
 obtain⟨g3,R3⟩:=R2.set (o:=.dic [(kd,vd)]) (u:=.dK [(k,v2)]) hc.2 rfl hb λ H' g e=>⟨_,e,k,v2,[],rfl,hk,RV.monoW g _ _ b2 r2,rfl⟩
 rw[hp2]at g3 R3
 have L:s.length<=s2.length:=am l0 (am l1 l2)
 have lt:s.length<s2.length:=aq (by simp) (am l1 l2)
 exact q (.ref p) _ _ (((g0.trans g1 l0).trans g2 (am l0 l1)).trans g3 L) (by rw[bG];exact L) (by unfold jO;rw[bG];exact decide_eq_true lt) (by unfold RV;rw[hp2]) R3
end
section
variable {Γ:Gm} {F:j7} {n:Nat}
theorem cst_ok {X:Cx}{c:DV.Cn}{v:Const}{k:Nat}{pos:Pos}(h:mC c v=true):EvT Γ X (.Constant v k pos) (jP F (.cst c)):=by
 refine .val ?_
 unfold mC at h
 split at h
 ·exact pe_non.imp λ σ H Q q=>tv_cst (c:=.non) (λ _=>rfl) (λ _ _=>RV.nonI) (TEv.eq (λ ρ s=>rfl) q)
 ·rename_i b c
  have e:=eq_of_beq h
  subst e
  exact pe_bl.imp λ σ H Q q=>tv_cst (c:=.bl b) (λ _=>rfl) (λ _ _=>RV.blI) (TEv.eq (λ ρ s=>rfl) q)
 ·rename_i i j
  have e:=of_decide_eq_true h
  subst e
  exact pe_int.imp λ σ H Q q=>tv_cst (c:=.int i) (λ _=>rfl) (λ _ _=>RV.intI) (TEv.eq (λ ρ s=>rfl) q)
 ·rename_i x y
  rw[ao]at h
  have e:=of_decide_eq_true h.1
  have e2:=of_decide_eq_true h.2
  subst e
  exact pe_str.imp λ σ H Q q=>tv_cst (c:=.str x) (λ _=>rfl) (λ _ _=>RV.strI (by unfold jU;omega)) (TEv.eq (λ ρ s=>rfl) q)
 ·cases h
theorem disp_ok {X:Cx}{ck:Ck}{es:j5}{xs:List Expr}{pos:Pos}(m:mEs ck es xs=true)(hz:xs.length<=1000)(h:PA X xs (TAv Γ (j8 F es))):PE X (.List xs pos) (TFv Γ (DV.evL F (.disp es))):=by
 refine(pe_lst h).imp λ σ H Q q=>?_
 obtain⟨φ,ρ,s,l,s',E,R,hm,q⟩:=q
 refine⟨φ,ρ,s,l,s',E,R,hm,λ vs φ1 H1 g1 l1 b1 r1 R1=>⟨by rw[r1.length,evs_len hm m];exact le1000 hz,λ p hp=>?_⟩⟩
 obtain⟨g2,R2⟩:=R1.same (H':=upd H1 p (.lst vs)) ((Same.refl H1).new hp)
 refine q p vs φ1 _ (g1.trans g2 l1) l1 b1 ze ?_ (Off.new R1 hp) (RVL.mono g2 _ _ b1 r1) R2
 cases e:H p with
 | none=>rfl
 | some o=>exact absurd hp (g1.st p (by rw[e];simp))
theorem CompF.eq {X:Cx}{m m':jN->jK->jQ (List jL)}{E:Expr}(c:CompF Γ X m E)(e:∀ ρ s,m' ρ s=m ρ s):CompF Γ X m' E:=by
 have:m'=m:=funext λ ρ=>funext λ s=>e ρ s
 subst this;exact c
theorem zx {a b:Bool}(h:(a&&b)=true):a=true/\b=true:=by rw[ao]at h;exact h
theorem glob_ok {X:Cx}{ck:Ck}{g:String}{p:Pos}(G:CG Γ F n X ck)(h:ck.gl (g:Str)=true):EvT Γ X (.Name (g:Str) p) (jP F (.glob g)):=by
 refine .val ?_
 obtain⟨g1,g2,g3⟩:=G.gl h
 cases e:F.con g with
 | none =>
  intro pins s σ H Q I q
  obtain⟨φ,ρ,s,d,s',E,R,hm,q⟩:=q
  have hm:(match F.con g with|some d=>DV.R.ok d s|none=>.bad)=.ok d s':=hm
  rw[e]at hm
  cases hm
 | some d =>
  obtain⟨v,u,h1,h2,h3,h4⟩:=G.con g d e
  exact(pe_glob g1 h1 h2 g2).imp λ σ H Q q=>tv_cst (c:=d) h3 h4 (TEv.eq (λ ρ s=>by show(match F.con g with|some d=>DV.R.ok d s|none=>.bad)=DV.R.ok d s;rw[e]) q)
theorem var_ok {X:Cx}{ck:Ck}{i:Nat}{x:Str}{p:Pos}(G:CG Γ F n X ck)(h:ck.var i x=true):EvT Γ X (.Name x p) (jP F (.var i)):=by
 refine .val ?_
 unfold Ck.var at h
 obtain⟨h,h4⟩:=zx h
 obtain⟨h,h3⟩:=zx h
 obtain⟨h1,h2⟩:=zx h
 have e1:(x==("__debug__":Str))=false:=by simpa using h3
 have e2:(x==("__classdict__":Str))=false:=by simpa using h4
 exact(pe_var (by rw[G.N];exact of_decide_eq_true h1) (G.vis h2) e1 e2).imp λ σ H Q q=>tv_var i (TEv.eq (λ ρ s=>rfl) q)
theorem var_pe {X:Cx}{ck:Ck}{i:Nat}{x:Str}{p:Pos}(G:CG Γ F n X ck)(h:ck.var i x=true):PE X (.Name x p) (tVar i):=by
 unfold Ck.var at h
 obtain⟨h,h4⟩:=zx h
 obtain⟨h,h3⟩:=zx h
 obtain⟨h1,h2⟩:=zx h
 exact pe_var (by rw[G.N];exact of_decide_eq_true h1) (G.vis h2) (by simpa using h3) (by simpa using h4)
theorem mAsC_shp {ck:Ck}:∀ {es:kA} {xs:List Expr},mAsC ck es xs=true->∀ x∈xs,shp x=true
 | .nil,[],_,x,hx=>by cases hx
 | .nil,_::_,h,_,_=>ff h
 | .ex e es,[],h,_,_=>ff h
 | .ex e es,y::ys,h,x,hx=>by
  obtain⟨h,h3⟩:=zx h
  obtain⟨h1,h2⟩:=zx h
  rcases aD.mp hx with rfl|hx
  ·exact h2
  ·exact mAsC_shp h3 x hx
 | .lam _ _ es,[],h,_,_=>ff h
 | .lam _ _ es,y::ys,h,x,hx=>by
  obtain⟨h,h3⟩:=zx h
  obtain⟨h1,h2⟩:=zx h
  rcases aD.mp hx with rfl|hx
  ·exact h2
  ·exact mAsC_shp h3 x hx
 | .fn _ _,_,h,_,_=>ff h
theorem mAsC_lam {ck:Ck}:∀ {es:kA} {xs:List Expr},mAsC ck es xs=true->asLam es=true->∃ id caps E,ck.lk id caps E=true
 | .nil,_,_,h=>by cases h
 | .ex e es,[],h,_=>ff h
 | .ex e es,y::ys,h,hl=>by
  obtain⟨h,h3⟩:=zx h
  exact mAsC_lam h3 hl
 | .lam id caps es,[],h,_=>ff h
 | .lam id caps es,y::ys,h,_=>by
  obtain⟨h,h3⟩:=zx h
  obtain⟨h1,h2⟩:=zx h
  exact⟨id,caps,y,h1⟩
 | .fn _ _,_,h,_=>ff h
theorem bad_ok {X:Cx}{E:Expr}{m:jN->jK->jQ jL}(h:∀ ρ s,m ρ s=.bad):EvT Γ X E m:=by
 refine⟨λ pins s σ H Q I q=>?_,λ pins s σ H Q I q=>?_⟩
 ·obtain⟨φ,ρ,s,d,s',E,R,hm,q⟩:=q
  rw[h]at hm;cases hm
 ·obtain⟨φ,ρ,s,d,s',E,R,hm,q⟩:=q
  rw[h]at hm;cases hm
inductive LK (Γ:Gm)(X:Cx)(m:jN->jK->jQ (List jL))(E:Expr)(k:Nat):Prop where
 | c (h:CompF Γ X m E):LK Γ X m E k
 | f (hk:1<=k) (h:PE X E (TFv Γ m)):LK Γ X m E k
 | s (hk:k=2) (h:PE X E (TLv Γ m)):LK Γ X m E k
theorem lc_of {X:Cx}{m:jN->jK->jQ (List jL)}{E:Expr}(h:LK Γ X m E 0):CompF Γ X m E:=by
 cases h with
 | c h=>exact h
 | f hk h=>omega
 | s hk h=>omega
theorem lf_of {X:Cx}{ck:Ck}{m:jN->jK->jQ (List jL)}{E:Expr}(G:CG Γ F n X ck)(h:LK Γ X m E 1):PE X E (TFv Γ m):=by
 cases h with
 | c h=>exact h.pe G.calm
 | f hk h=>exact h
 | s hk h=>omega
theorem l2_of {X:Cx}{ck:Ck}{m:jN->jK->jQ (List jL)}{E:Expr}(G:CG Γ F n X ck)(h:LK Γ X m E 2):PE X E (TLv Γ m):=by
 cases h with
 | c h=>exact(h.pe G.calm).imp λ σ H Q q=>tl_fresh q
 | f hk h=>exact h.imp λ σ H Q q=>tl_fresh q
 | s hk h=>exact h
theorem biOk_inv {ck:Ck}{b:kh}{x:Str}{xs:List Expr}{es:j5}(h:biOk ck b x xs (mEs ck es xs) (mEs ck es (xs.take 1))=true) :
  (∃ k t a y py,biK b=some (k,t)/\xs=[a,.Name y py]/\x=("isinstance":Str)/\y=t/\ck.gl x=true/\ck.gl y=true/\mEs ck es [a]=true)\/∃ a ys,xs=a::ys/\biT b=some x/\ck.gl x=true/\mEs ck es (a::ys)=true:=by
 unfold biOk at h
 cases hk:biK b with
 | none =>
  rw[hk]at h
  cases xs with
  | nil=>exact ff h
  | cons a ys =>
   obtain⟨h,h3⟩:=zx h
   obtain⟨h1,h2⟩:=zx h
   exact .inr ⟨a,ys,rfl,of_decide_eq_true h1,h2,h3⟩
 | some p =>
  rw[hk]at h
  cases xs with
  | nil=>exact ff h
  | cons a ys=>cases ys with
   | nil=>exact ff h
   | cons b ys=>cases b with
    | Name y py=>cases ys with
     | nil =>
      obtain⟨h,h5⟩:=zx h
      obtain⟨h,h4⟩:=zx h
      obtain⟨h,h3⟩:=zx h
      obtain⟨h1,h2⟩:=zx h
      exact .inl ⟨p.1,p.2,a,y,py,rfl,rfl,of_decide_eq_true h1,of_decide_eq_true h3,h2,h4,h5⟩
     | cons _ _=>exact ff h
    | _=>exact ff h
mutual
theorem sE:∀(e:kF) (E:Expr) (X:Cx) (ck:Ck),CG Γ F n X ck->mE ck e E=true->EvT Γ X E (jP F e)
 | .var i,E,X,ck,G,h=>by
  cases E with
  | Name x p =>
   exact var_ok G h
  | _=>exact ff h
 | .cst c,E,X,ck,G,h=>by
  cases E with
  | Constant v k p =>
   exact cst_ok h
  | _=>exact ff h
 | .glob g,E,X,ck,G,h=>by
  cases E with
  | Name x p =>
   obtain⟨h1,h2⟩:=zx h
   have e:=of_decide_eq_true h1
   subst e
   exact glob_ok G h2
  | _=>exact ff h
 | .bin op a b,E,X,ck,G,h=>by
  cases E with
  | BinOp l o r pE =>
   obtain⟨h,h3⟩:=zx h
   obtain⟨h1,h2⟩:=zx h
   have e:=of_decide_eq_true h1
   subst e
   exact ev_bin' G op (sE a _ X ck G h2) (sE b _ X ck G h3)
  | _=>exact ff h
 | .neg _,E,X,ck,G,h=>ff h
 | .not a,E,X,ck,G,h=>by
  cases E with
  | UnaryOp o l p =>
   cases o with
   | Not =>
    exact ev_not' (sE a _ X ck G h)
   | _=>exact ff h
  | _=>exact ff h
 | .cmp op a b,E,X,ck,G,h=>by
  cases E with
  | Compare l os rs pE =>
   cases os with
   | cons o os_0 =>
    cases os_0 with
    | nil =>
     cases rs with
     | cons r rs_0 =>
      cases rs_0 with
      | nil =>
       obtain⟨h,h3⟩:=zx h
       obtain⟨h1,h2⟩:=zx h
       have e:=of_decide_eq_true h1
       subst e
       exact ev_cmp' G op (mE_shp h3) (sE a _ X ck G h2) (sE b _ X ck G h3)
      | _=>exact ff h
     | _=>exact ff h
    | _=>exact ff h
   | _=>exact ff h
  | _=>exact ff h
 | .chain o p a b c,E,X,ck,G,h=>by
  cases E with
  | Compare l os rs pE =>
   cases os with
   | cons o1 os_0 =>
    cases os_0 with
    | cons o2 os_1 =>
     cases os_1 with
     | nil =>
      cases rs with
      | cons m rs_0 =>
       cases rs_0 with
       | cons r rs_1 =>
        cases rs_1 with
        | nil =>
         obtain⟨h,h5⟩:=zx h
         obtain⟨h,h4⟩:=zx h
         obtain⟨h,h3⟩:=zx h
         obtain⟨h1,h2⟩:=zx h
         have e:=of_decide_eq_true h1
         have e':=of_decide_eq_true h2
         subst e
         subst e'
         exact ev_chain' G o p (mE_shp h5) (sE a _ X ck G h3) (sE b _ X ck G h4) (sE c _ X ck G h5)
        | _=>exact ff h
       | _=>exact ff h
      | _=>exact ff h
     | _=>exact ff h
    | _=>exact ff h
   | _=>exact ff h
  | _=>exact ff h
 | .isN a,E,X,ck,G,h=>by
  cases E with
  | Compare l os rs pE =>
   cases os with
   | cons o os1 =>
    cases o with
    | Is =>
     cases os1 with
     | nil =>
      cases rs with
      | cons r rs1 =>
       cases r with
       | Constant v k p1 =>
        cases v with
        | none =>
         cases rs1 with
         | nil =>
          exact ev_isN' (sE a _ X ck G h)
         | _=>exact ff h
        | _=>exact ff h
       | _=>exact ff h
      | _=>exact ff h
     | _=>exact ff h
    | _=>exact ff h
   | _=>exact ff h
  | _=>exact ff h
 | .notN a,E,X,ck,G,h=>by
  cases E with
  | Compare l os rs pE =>
   cases os with
   | cons o os1 =>
    cases o with
    | IsNot =>
     cases os1 with
     | nil =>
      cases rs with
      | cons r rs1 =>
       cases r with
       | Constant v k p1 =>
        cases v with
        | none =>
         cases rs1 with
         | nil =>
          exact ev_notN' (sE a _ X ck G h)
         | _=>exact ff h
        | _=>exact ff h
       | _=>exact ff h
      | _=>exact ff h
     | _=>exact ff h
    | _=>exact ff h
   | _=>exact ff h
  | _=>exact ff h
 | .isB _ _,E,X,ck,G,h=>ff h
 | .notB _ _,E,X,ck,G,h=>ff h
 | .and a b,E,X,ck,G,h=>by
  cases E with
  | BoolOp op vs p=>cases op with
   | And =>
    cases vs with
    | nil=>exact ff h
    | cons l vs=>cases vs with
     | nil=>exact ff h
     | cons r vs=>cases vs with
      | nil =>
       obtain⟨h1,h2⟩:=zx h
       exact ev_and2 (sE a _ X ck G h1) (sE b _ X ck G h2)
      | cons r2 vs =>
       obtain⟨h1,h2⟩:=zx h
       exact ev_and3 (sE a _ X ck G h1) (sE b _ X ck G h2)
   | _=>exact ff h
  | _=>exact ff h
 | .or a b,E,X,ck,G,h=>by
  cases E with
  | BoolOp op vs p=>cases op with
   | Or =>
    cases vs with
    | nil=>exact ff h
    | cons l vs=>cases vs with
     | nil=>exact ff h
     | cons r vs=>cases vs with
      | nil =>
       obtain⟨h1,h2⟩:=zx h
       exact ev_or2 (sE a _ X ck G h1) (sE b _ X ck G h2)
      | cons r2 vs =>
       obtain⟨h1,h2⟩:=zx h
       exact ev_or3 (sE a _ X ck G h1) (sE b _ X ck G h2)
   | _=>exact ff h
  | _=>exact ff h
 | .ite c a b,E,X,ck,G,h=>by
  cases E with
  | IfExp tE l r pE =>
   obtain⟨h,h3⟩:=zx h
   obtain⟨h1,h2⟩:=zx h
   exact ev_ite' (sE c _ X ck G h1) (sE a _ X ck G h2) (sE b _ X ck G h3)
  | _=>exact ff h
 | .tup es,E,X,ck,G,h=>by
  cases E with
  | Tuple xs k p =>
   obtain⟨h1,h2⟩:=zx h
   exact pe_tup' h1 (of_decide_eq_true h2) (pes_pa (sEs es _ X ck G h1))
  | _=>exact ff h
 | .lst es,E,X,ck,G,h=>by
  cases E with
  | List xs p =>
   obtain⟨h1,h2⟩:=zx h
   exact pe_lst' h1 (of_decide_eq_true h2) (pes_pa (sEs es _ X ck G h1))
  | _=>exact ff h
 | .dic .nil .nil,E,X,ck,G,h=>by
  cases E with
  | Dict a b p=>cases a with
   | nil=>cases b with
    | nil=>exact .val (pe_dnewK.imp λ σ H Q q=>td_new (TEv.eq (λ ρ s=>rfl) q))
    | _=>exact ff h
   | cons x a=>cases x with
    | none=>exact ff h
    | some x=>cases a with
     | nil=>cases b with
      | nil=>exact ff h
      | cons y b=>cases b with
       | nil=>exact ff h
       | _=>exact ff h
     | _=>exact ff h
  | _=>exact ff h
 | .dic (.cons k .nil) (.cons v .nil),E,X,ck,G,h=>by
  cases E with
  | Dict a b p=>cases a with
   | nil=>cases b with
    | nil=>exact ff h
    | _=>exact ff h
   | cons x a=>cases x with
    | none=>exact ff h
    | some x=>cases a with
     | nil=>cases b with
      | nil=>exact ff h
      | cons y b=>cases b with
       | nil =>
        obtain⟨h1,h2⟩:=zx h
        obtain⟨h1,_⟩:=zx h1
        obtain⟨h1,_⟩:=zx h1
        obtain⟨h2,_⟩:=zx h2
        obtain⟨h2,_⟩:=zx h2
        exact .val ((pe_disp (pps_cons (sE k _ X ck G h1).1 (sE v _ X ck G h2).1 pps_nil) rfl rfl (by nofun) (by show 1<=15;decide)).imp λ σ H Q q=>td_one (TEv.eq (λ ρ s=>rfl) q))
       | _=>exact ff h
     | _=>exact ff h
  | _=>exact ff h
 | .dic .nil (.cons _ _),E,X,ck,G,h=>bad_ok λ _ _=>rfl
 | .dic (.cons _ .nil) .nil,E,X,ck,G,h=>bad_ok λ _ _=>rfl
 | .dic (.cons _ .nil) (.cons _ (.cons _ _)),E,X,ck,G,h=>bad_ok λ _ _=>rfl
 | .dic (.cons _ (.cons _ _)) _,E,X,ck,G,h=>bad_ok λ _ _=>rfl
 | .ix a b,E,X,ck,G,h=>by
  cases E with
  | Subscript o i p =>
   obtain⟨h1,h2⟩:=zx h
   exact ev_ix' G (mE_shp h2) (sE a _ X ck G h1) (sE b _ X ck G h2)
  | _=>exact ff h
 | .slL _ _,E,X,ck,G,h=>ff h
 | .slU a hi,E,X,ck,G,h=>by
  cases E with
  | Subscript o i p =>
   cases i with
   | Slice lo hi st p2 =>
    cases lo with
    | none =>
     cases hi with
     | some l =>
      cases st with
      | none =>
       obtain⟨h1,h2⟩:=zx h
       exact ev_slU' G (sE a _ X ck G h1) (sE hi _ X ck G h2)
      | _=>exact ff h
     | _=>exact ff h
    | _=>exact ff h
   | _=>exact ff h
  | _=>exact ff h
 | .slLU _ _ _,E,X,ck,G,h=>ff h
 | .rev _,E,X,ck,G,h=>ff h
 | .call f as,E,X,ck,G,h=>by
  cases E with
  | Call fE xs kw p =>
   cases fE with
   | Name x pN =>
    cases kw with
    | nil =>
     obtain⟨h,h3⟩:=zx h
     obtain⟨h1,h2⟩:=zx h
     have e:=of_decide_eq_true h1
     subst e
     exact pe_call' G h2 h3 (sAs as _ X ck G h3)
    | _=>exact ff h
   | _=>exact ff h
  | _=>exact ff h
 | .callC f as,E,X,ck,G,h=>by
  cases E with
  | Call fE xs kw p =>
   cases fE with
   | Name x pN =>
    cases xs with
    | cons y ys =>
     cases kw with
     | nil =>
      obtain⟨h,h3⟩:=zx h
      obtain⟨h,h4⟩:=zx h
      obtain⟨h1,h2⟩:=zx h
      have e:=of_decide_eq_true h1
      subst e
      obtain⟨id,caps,E',hlk⟩:=mAsC_lam h3 h4
      obtain⟨_,_,_,_,_,_,_,_,L⟩:=G.lam id caps E' hlk
      exact .val ((pe_callC' G h2 L.fn L.kd (mAsC_shp h3) (sAsC as _ X ck G h3)).imp λ σ H Q q=>TEv.eq (λ ρ s=>rfl) q)
     | _=>exact ff h
    | _=>exact ff h
   | _=>exact ff h
  | _=>exact ff h
 | .callV i es,E,X,ck,G,h=>by
  cases E with
  | Call fE xs kw p =>
   cases fE with
   | Name x pN =>
    cases xs with
    | cons y ys =>
     cases kw with
     | nil =>
      obtain⟨h1,h2⟩:=zx h
      exact .val (pe_callV' G h1 (mEs_shp h2) (pes_pa (sEs es _ X ck G h2)) (var_pe G h1))
     | _=>exact ff h
    | _=>exact ff h
   | _=>exact ff h
  | _=>exact ff h
 | .bi b es,E,X,ck,G,h=>by
  cases E with
  | Call fE xs kw p =>
   cases fE with
   | Name x pN =>
    cases kw with
    | nil =>
     have h:biOk ck b x xs (mEs ck es xs) (mEs ck es (xs.take 1))=true:=h
     rcases biOk_inv h with⟨k,t,a,y,py,hk,rfl,rfl,rfl,h2,h4,h5⟩|⟨a,ys,rfl,h1,h2,h3⟩
     ·exact pe_isi' G hk h2 h4 (sEs es _ X ck G h5)
     ·exact pe_bi' G h1 h2 h3 (pes_pa (sEs es _ X ck G h3))
    | _=>exact ff h
   | _=>exact ff h
  | _=>exact ff h
 | .mk k l,E,X,ck,G,h=>by
  cases E with
  | ListComp e gs sc p =>
   obtain⟨h1,h2⟩:=zx h
   have e:=of_decide_eq_true h1
   subst e
   exact .val (((lc_of (sL l _ X ck G 0 h2)).pe G.calm).imp λ σ H Q q=>tf_list (TEv.eq (λ ρ s=>rfl) q))
  | Call fE xs kw p =>
   cases fE with
   | Name x pN =>
    cases xs with
    | cons a xs_0 =>
     cases xs_0 with
     | nil =>
      cases kw with
      | nil =>
       obtain⟨h,h4⟩:=zx h
       obtain⟨h2,h3⟩:=zx h
       rw[bK]at h4
       rcases h4 with h4|h4
       ·obtain⟨h5,h6⟩:=zx h4
        exact .val ((pe_mk' G (of_decide_eq_true h5) h2 h3 (l2_of G (sL l _ X ck G 2 h6))).imp λ σ H Q q=>TEv.eq (λ ρ s=>rfl) q)
       ·obtain⟨h5,h6⟩:=zx h4
        exact .val ((pe_mkF G (of_decide_eq_true h5) h2 h3 (lf_of G (sL l _ X ck G 1 h6))).imp λ σ H Q q=>TEv.eq (λ ρ s=>rfl) q)
      | _=>exact ff h
     | _=>exact ff h
    | _=>exact ff h
   | _=>exact ff h
  | _=>exact ff h
 | .mks _ _,E,X,ck,G,h=>ff h
 | .mkDs _ _ _,E,X,ck,G,h=>ff h
 | .mkD k l d,E,X,ck,G,h=>by
  cases E with
  | Call fE xs kw p =>
   cases fE with
   | Name x pN =>
    cases xs with
    | cons a xs_0 =>
     cases xs_0 with
     | nil =>
      cases kw with
      | cons kk kw1 =>
       cases kk with
       | mk ky de kp =>
        cases ky with
        | some y =>
         cases kw1 with
         | nil =>
          obtain⟨h,h7⟩:=zx h
          obtain⟨h,h6⟩:=zx h
          obtain⟨h,h5⟩:=zx h
          obtain⟨h,h4⟩:=zx h
          obtain⟨h,h3⟩:=zx h
          obtain⟨h1,h2⟩:=zx h
          have e:=of_decide_eq_true h1
          have e2:=of_decide_eq_true h2
          have e3:=of_decide_eq_true h3
          subst e e2 e3
          exact .val ((pe_mkD G h4 h5 (lf_of G (sL l _ X ck G 1 h6)) (sE d _ X ck G h7).1).imp λ σ H Q q=>TEv.eq (λ ρ s=>rfl) q)
         | _=>exact ff h
        | _=>exact ff h
      | _=>exact ff h
     | _=>exact ff h
    | _=>exact ff h
   | _=>exact ff h
  | _=>exact ff h
 | .meth m o es,E,X,ck,G,h=>by
  cases E with
  | Call fE xs kw p =>
   cases fE with
   | Attribute ob x ap =>
    cases kw with
    | nil =>
     obtain⟨h,h5⟩:=zx h
     obtain⟨h,h4⟩:=zx h
     obtain⟨h,h3⟩:=zx h
     obtain⟨h1,h2⟩:=zx h
     exact pe_meth' G (of_decide_eq_true h1) h2 h3 (sE o _ X ck G h4).1 h5 (sEs es _ X ck G h5)
    | _=>exact ff h
   | _=>exact ff h
  | _=>exact ff h
 | .ext _ _,E,X,ck,G,h=>ff h
 | .extS _ _,E,X,ck,G,h=>ff h
 | .join _ _,E,X,ck,G,h=>ff h
theorem sEs:∀(es:j5) (xs:List Expr) (X:Cx) (ck:Ck),CG Γ F n X ck->mEs ck es xs=true->PEs Γ F X es xs
 | .nil,xs,X,ck,G,h=>by
  cases xs with
  | nil =>
   exact trivial
  | _=>exact ff h
 | .cons e es,xs,X,ck,G,h=>by
  cases xs with
  | cons x xs =>
   obtain⟨h,h3⟩:=zx h
   obtain⟨h1,h2⟩:=zx h
   exact⟨⟨h2,sE e _ X ck G h1⟩,sEs es _ X ck G h3⟩
  | _=>exact ff h
theorem sAs:∀(es:kA) (xs:List Expr) (X:Cx) (ck:Ck),CG Γ F n X ck->mAs ck es xs=true->PA X xs (TAv Γ (kt F es))
 | .nil,xs,X,ck,G,h=>by
  cases xs with
  | nil =>
   exact pa_nil.imp λ σ H Q q=>ta_nil (TAv.eq (λ ρ s=>rfl) q)
  | _=>exact ff h
 | .ex e es,xs,X,ck,G,h=>by
  cases xs with
  | cons x xs =>
   obtain⟨h,h3⟩:=zx h
   obtain⟨h1,h2⟩:=zx h
   exact(pa_cons' h2 (sE e _ X ck G h1).1 (sAs es _ X ck G h3)).imp λ σ H Q q=>TAv.eq (λ ρ s=>rfl) q
  | _=>exact ff h
 | .lam _ _ _,xs,X,ck,G,h=>ff h
 | .fn _ _,xs,X,ck,G,h=>ff h
theorem sAsC:∀(es:kA) (xs:List Expr) (X:Cx) (ck:Ck),CG Γ F n X ck->mAsC ck es xs=true->PA X xs (TAp Γ X.env.cells X.N (kt F es))
 | .nil,xs,X,ck,G,h=>by
  cases xs with
  | nil =>
   exact pa_nil.imp λ σ H Q q=>tap_nil (TAp.eq (λ ρ s=>rfl) q)
  | _=>exact ff h
 | .ex e es,xs,X,ck,G,h=>by
  cases xs with
  | cons x xs =>
   obtain⟨h,h3⟩:=zx h
   obtain⟨h1,h2⟩:=zx h
   exact(qc (sE e _ X ck G h1).1 (sAsC es _ X ck G h3) (zm h2)).imp λ σ H Q q=>tap_ex (TAp.eq (λ ρ s=>rfl) q)
  | _=>exact ff h
 | .lam id caps es,xs,X,ck,G,h=>by
  cases xs with
  | cons x xs =>
   obtain⟨h,h3⟩:=zx h
   obtain⟨h1,h2⟩:=zx h
   obtain⟨c,P,params,body,scope,pos,J,e,L⟩:=G.lam id caps _ h1
   have hnm:J.nm=none:=by
    cases q:J.nm with
    | none=>rfl
    | some p=>unfold lamText at e;rw[q]at e;rw[e]at h2;cases h2
   unfold lamText at e
   rw[hnm]at e
   dsimp only at e
   subst e
   rw[<-G.N]at L
   exact(pa_lam L hnm (sAsC es _ X ck G h3)).imp λ σ H Q q=>TAp.eq (λ ρ s=>rfl) q
  | _=>exact ff h
 | .fn _ _,xs,X,ck,G,h=>ff h
theorem sI:∀(i:DV.I) (E tg:Expr) (X:Cx) (ck:Ck),CG Γ F n X ck->mI ck tg i E=true->PI X tg E (TIv Γ (lj F i))
 | .seq e,E,tg,X,ck,G,h=>by
  obtain⟨h1,h2⟩:=zx h
  exact pi_seq' G (sE e _ X ck G h1).1
 | .rng1 a,E,tg,X,ck,G,h=>by
  cases E with
  | Call fE xs kw p =>
   cases fE with
   | Name x pN =>
    cases xs with
    | cons l xs_0 =>
     cases xs_0 with
     | nil =>
      cases kw with
      | nil =>
       obtain⟨h,h4⟩:=zx h
       obtain⟨h,h3⟩:=zx h
       obtain⟨h1,h2⟩:=zx h
       have e:=of_decide_eq_true h1
       subst e
       exact pi_rng1' G h2 h4 (sE a _ X ck G h3).1
      | _=>exact ff h
     | _=>exact ff h
    | _=>exact ff h
   | _=>exact ff h
  | _=>exact ff h
 | .rng2 _ _,E,tg,X,ck,G,h=>ff h
 | .rng3 _ _ _,E,tg,X,ck,G,h=>ff h
 | .enum (.seq _),E,tg,X,ck,G,h=>ff h
 | .enum (.rng1 _),E,tg,X,ck,G,h=>ff h
 | .enum (.rng2 _ _),E,tg,X,ck,G,h=>ff h
 | .enum (.rng3 _ _ _),E,tg,X,ck,G,h=>ff h
 | .enum (.enum _),E,tg,X,ck,G,h=>ff h
 | .enum (.zip _ _),E,tg,X,ck,G,h=>ff h
 | .enum (.items _),E,tg,X,ck,G,h=>ff h
 | .zip (.seq _) (.seq _),E,tg,X,ck,G,h=>ff h
 | .zip (.seq _) (.rng1 _),E,tg,X,ck,G,h=>ff h
 | .zip (.seq _) (.rng2 _ _),E,tg,X,ck,G,h=>ff h
 | .zip (.seq _) (.rng3 _ _ _),E,tg,X,ck,G,h=>ff h
 | .zip (.seq _) (.enum _),E,tg,X,ck,G,h=>ff h
 | .zip (.seq _) (.zip _ _),E,tg,X,ck,G,h=>ff h
 | .zip (.seq _) (.items _),E,tg,X,ck,G,h=>ff h
 | .zip (.rng1 _) _,E,tg,X,ck,G,h=>ff h
 | .zip (.rng2 _ _) _,E,tg,X,ck,G,h=>ff h
 | .zip (.rng3 _ _ _) _,E,tg,X,ck,G,h=>ff h
 | .zip (.enum _) _,E,tg,X,ck,G,h=>ff h
 | .zip (.zip _ _) _,E,tg,X,ck,G,h=>ff h
 | .zip (.items _) _,E,tg,X,ck,G,h=>ff h
 | .items _,E,tg,X,ck,G,h=>ff h
theorem sL:∀(l:DV.L) (E:Expr) (X:Cx) (ck:Ck),CG Γ F n X ck->∀ k,mL ck k l E=true->LK Γ X (DV.evL F l) E k
 | .comp tg it e caps,E,X,ck,G,k,h=>by
  cases E with
  | ListComp elt gs scope p =>
   cases gs with
   | cons g gs1 =>
    cases g with
    | mk tgt iter ifs z =>
     cases ifs with
     | nil =>
      cases gs1 with
      | nil =>
       obtain⟨h,h3⟩:=zx h
       obtain⟨h,h2⟩:=zx h
       obtain⟨h0,h1⟩:=zx h
       have e0:=of_decide_eq_true h0
       subst e0
       have c:=comp_all (pos:=p) G h1 (sI it _ _ X ck G h2) λ C cells s H ex=>(sE e _ _ _ ((G.comp h1).2.2 C cells s H ex).1 h3).1
       exact .c (c.eq λ ρ s=>rfl)
      | _=>exact ff h
     | _=>exact ff h
   | _=>exact ff h
  | _=>exact ff h
 | .compIf tg it i e caps,E,X,ck,G,k,h=>by
  cases E with
  | ListComp elt gs scope p =>
   cases gs with
   | cons g gs1 =>
    cases g with
    | mk tgt iter ifs z =>
     cases ifs with
     | cons i1 ifs1 =>
      cases ifs1 with
      | nil =>
       cases gs1 with
       | nil =>
        obtain⟨h,h4⟩:=zx h
        obtain⟨h,h3⟩:=zx h
        obtain⟨h,h2⟩:=zx h
        obtain⟨h0,h1⟩:=zx h
        have e0:=of_decide_eq_true h0
        subst e0
        have c:=comp_if (pos:=p) G h1 (sI it _ _ X ck G h2) (λ C cells s H ex=>(sE i _ _ _ ((G.comp h1).2.2 C cells s H ex).1 h3).2) λ C cells s H ex=>(sE e _ _ _ ((G.comp h1).2.2 C cells s H ex).1 h4).1
        exact .c (c.eq λ ρ s=>rfl)
       | _=>exact ff h
      | _=>exact ff h
     | _=>exact ff h
   | _=>exact ff h
  | _=>exact ff h
 | .disp es,E,X,ck,G,k,h=>by
  cases E with
  | List xs p =>
   obtain⟨h,h2⟩:=zx h
   obtain⟨h0,h1⟩:=zx h
   exact .f (of_decide_eq_true h0) (disp_ok h1 (of_decide_eq_true h2) (pes_pa (sEs es _ X ck G h1)))
  | _=>exact ff h
 | .seq e,E,X,ck,G,k,h=>by
  obtain⟨h0,h1⟩:=zx h
  exact .s (of_decide_eq_true h0) ((sE e _ X ck G h1).1.imp λ σ H Q q=>tl_seq (TLv.eq (λ ρ s=>rfl) q))
end
end
section
variable {Γ:Gm} {F:j7} {n:Nat}
theorem asg_comp {X:Cx}{ck:Ck}{m:jN->jK->jQ (List jL)}{E:Expr}{x:Str}{i:Nat}{px pos:Pos}(G:CG Γ F n X ck)(c:CompF Γ X m E)(hi:ck.N[i]?=some x)(hl:ck.loc x=true) :
  PS X (.Assign [.Name x px] E pos) (tAsg (TFv Γ m) (gName i)):=by
 obtain⟨elt,tgt,iter,ifs,scope,p2,N',caps,wi,g,tc,te,rfl,h1,h2,h3,h4,h5⟩:=c.ex
 obtain⟨l1,l2⟩:=G.loc hl
 have nd:X.N.Nodup:=by rw[G.N];exact G.nd
 have hi':X.N[i]?=some x:=by rw[G.N];exact hi
 generalize hb:((X.env.blockKind==.function&&X.env.kindOf x==some .local&&px.line==(Expr.ListComp elt [⟨tgt,iter,ifs,0⟩] scope p2).pos.line&&!(scope.names.any λ(n,k)=>n==x&&(k==.local||k==.cell))))=b
 have hsw:fv (.ListComp elt [⟨tgt,iter,ifs,0⟩] scope p2) (some (.Name x px)) pos.line X.env=pure b:=by rw[<-hb];rfl
 have imp:∀ D σ H,tAsg (TFv Γ m) (gName i) D σ H->tAsg (tComp caps wi g tc te) (gName i) D σ H:=λ D σ H q=>h5 _ _ _ q
 cases b with
 | true =>
  have hloc:X.env.scope.names.lookup x=some .local:=by
   simp only[ao]at hb
   exact eq_of_beq hb.1.1.2
  exact(ps_setComp N' caps nd hi' hloc h1 h2 G.calm h3 h4 hsw).imp imp
 | false=>exact(ps_set nd hi' l1 (pe_comp N' caps h1 h2 G.calm h3 h4) hsw l2).imp imp
theorem asg1_ok {X:Cx}{ck:Ck}{e:kF}{v:Expr}{x:Str}{i:Nat}{px pos:Pos}(G:CG Γ F n X ck)(hi:ck.N[i]?=some x)(hl:ck.loc x=true)(h:mE ck e v=true) :
  PS X (.Assign [.Name x px] v pos) (TSv Γ (DV.ex F (.asg (.one i) e))):=by
 obtain⟨l1,l2⟩:=G.loc hl
 have nd:X.N.Nodup:=by rw[G.N];exact G.nd
 have hi':X.N[i]?=some x:=by rw[G.N];exact hi
 by_cases hc:noComp v=true
 ·exact(ps_set nd hi' l1 (sE e v X ck G h).1 (swap_ok hc) l2).imp λ D σ H q=>ts_asg (tg:=.one i) (TSv.eq (λ ρ s=>rfl) q)
 ·have hs:=mE_shp h
  cases v with
  | ListComp elt gs sc p =>
   cases e with
   | mk k l =>
    obtain⟨h1,h2⟩:=zx h
    have e:=of_decide_eq_true h1
    subst e
    exact(asg_comp G (lc_of (sL l _ X ck G 0 h2)) hi hl).imp λ D σ H q=>tf_list1 (tg:=.one i) (TSv.eq (λ ρ s=>rfl) q)
   | _=>exact ff h
  | SetComp _ _ _ _=>cases hs
  | DictComp _ _ _ _ _=>cases hs
  | _=>exact absurd rfl hc
theorem tDef_of2 {T:List (Addr×Str)}{cells:List (Str×Addr)}{P:Addr}{q:Str}{name:Str}{params:aY}{body:List Stmt}{scope:Scope}{pos:Pos}{ix:Nat}{D0:Ends}{σ:St}{H:Hp}(hT:TabsH T H)(nd:(T.map (·.1)).Nodup)(hm:(P,q)∈T)
  (go:∀(f:Addr) (H':Hp),SameT H H'->(∀ b,H b≠none->H' b≠none)->TabsH T H'->H f=none->(∃ doc pm c' ctv,H' f=some (lamO f (cc name q params body scope (clOf cells scope.names []) .none .none doc pm none (.ref c') ctv))/\H' c'=some (qu c' q))->D0.nx (σ.set ix (some (.ref f))) H') :
  tDef cells P name q params body scope pos ix D0 σ H:=by
 obtain⟨ps,hP,ht,hc⟩:=hT _ hm
 refine⟨ps,hP,ht,λ hn c' f doc pm ctv n1 n2 ne=>?_,λ cv e=>?_⟩
 ·have cP:c'≠P:=λ z=>by rw[z,hP]at n1;cases n1
  have fP:f≠P:=λ z=>by rw[z,hP]at n2;cases n2
  have at':∀ b,b≠P->H b≠none->∀ o1 o2 o3,upd (upd (upd H P o1) c' o2) f o3 b=H b:=λ b z1 z2 o1 o2 o3=>by
   rw[za λ z=>by subst z;exact z2 n2,za λ z=>by subst z;exact z2 n1,za z1]
  refine go f _ (λ b o d e=>?_) (λ b hb=>?_) (λ y hy=>?_) n2 ⟨doc,pm,c',ctv,ze,by rw[za ne,ze]⟩
  ·rw[at' b (λ z=>by subst z;rw[hP]at e;cases e;exact d _ rfl) (by rw[e];simp)];exact e
  ·by_cases z:b=P
   ·subst z;rw[za (bQ fP),za (bQ cP),ze];simp
   ·rw[at' b z hb];exact hb
  ·by_cases z:y.1=P
   ·have ey:y=(P,q):=by
     have:∀(l:List (Addr×Str)),(l.map (·.1)).Nodup->y∈l->(P,q)∈l->y=(P,q):=by
      intro l
      induction l with
      | nil=>intro _ h;simp at h
      | cons a l ih =>
       intro hn h1 h2
       rw[aK,cK]at hn
       rcases aD.mp h1 with e1|h1<;>rcases aD.mp h2 with e2|h2
       ·rw[e1,e2]
       ·exact absurd (by rw[<-e1,z];exact bh (f:=(·.1)) h2) hn.1
       ·exact absurd (by rw[<-e2,<-z];exact bh (f:=(·.1)) h1) hn.1
       ·exact ih hn.2 h1 h2
     exact this T nd hy hm
    subst ey
    refine⟨_,by rw[za (bQ fP),za (bQ cP),ze],?_,λ pos2 cv e=>?_⟩
    ·rw[dg];exact TriplesOk_snoc _ _ _ _ ht
    ·rw[dg]at e
     rcases codeAmong_add _ ht e with e'|e'
     ·obtain⟨c2,e1,e2⟩:=hc pos2 cv e'
      exact⟨c2,e1,by rw[at' c2 (λ z=>by subst z;rw[hP]at e2;unfold qu at e2;cases e2) (by rw[e2];simp)];exact e2⟩
     ·exact⟨c',e',by rw[za ne,ze]⟩
   ·obtain⟨qs,e1,e2,e3⟩:=hT y hy
    refine⟨qs,by rw[at' y.1 z (by rw[e1];simp)];exact e1,e2,λ pos2 cv e=>?_⟩
    obtain⟨c2,e4,e5⟩:=e3 pos2 cv e
    exact⟨c2,e4,by rw[at' c2 (λ z=>by subst z;rw[hP]at e5;unfold qu at e5;cases e5) (by rw[e5];simp)];exact e5⟩
 ·obtain⟨c',e1,e2⟩:=hc pos cv e
  refine⟨c',e1,λ f doc pm ctv n=>go f _ (.of ((Same.refl H).new n)) (λ b hb=>by
   by_cases z:b=f
   ·subst z;rw[ze];simp
   ·rw[za z];exact hb) (hT.new n) n ⟨doc,pm,c',ctv,ze,?_⟩⟩
  rw[za (zB e2 n)];exact e2
theorem ann_nil (env : Env) : ∀ l : List Arg, (l.all λ y => y.annotation.isNone) = true -> gR l env = []
 | [], _ => by unfold gR; rfl
 | ⟨x,some a,p⟩::l,h=>by simp at h
 | ⟨x,none,p⟩::l,h=>by
  unfold gR
  exact ann_nil env l (by simpa using h)
theorem noAnn_ok {params:aY}(h:noAnn params=true)(env:Env):params.defaults=[]/\params.kw_defaults=[]/\annTrees params none env=[]:=by
 unfold noAnn at h
 split at h
 ·refine⟨rfl,rfl,?_⟩
  unfold annTrees
  simp only[Option.toList,bF]
  rw[ann_nil env _ h];rfl
 ·cases h
theorem any_inv {α:Type}{o:Option α}{f:α->Bool}(h:o.any f=true):∃ a,o=some a/\f a=true:=by
 cases o with
 | none=>exact ff h
 | some a=>exact⟨a,rfl,h⟩
theorem nstS_inv {s:li}{ss:kW}{d:Nat×String×kF×String×List Nat}(h:nstS s ss=some d):s=.und d.1/\ss=.cons (.ret (.callC d.2.1 (.ex d.2.2.1 (.lam d.2.2.2.1 d.2.2.2.2 .nil)))) .nil:=by
 unfold nstS at h
 split at h
 ·cases h;exact⟨rfl,rfl⟩
 ·cases h
theorem nst1_inv {S:List Stmt}{q:Str×aY×Expr×Pos×Scope×Pos×List Stmt}(h:nst1 S=some q):S=.FunctionDef q.1 q.2.1 [.Return (some q.2.2.1) q.2.2.2.1] [] none [] q.2.2.2.2.1 none q.1 q.2.2.2.2.2.1::q.2.2.2.2.2.2:=by
 have fo:∀ {p:Prop},(none:Option (Str×aY×Expr×Pos×Scope×Pos×List Stmt))=some q->p:=λ h=>nomatch h
 cases S with
 | cons x xs =>
  cases x with
  | FunctionDef nm params body dl ret tp scope ts nm2 pos =>
   cases body with
   | cons b1 bs =>
    cases b1 with
    | Return v rp =>
     cases v with
     | some b =>
      cases bs with
      | nil =>
       cases dl with
       | nil =>
        cases ret with
        | none =>
         cases tp with
         | nil =>
          cases ts with
          | none =>
           have h:(if nm2=nm then some (nm,params,b,rp,scope,pos,xs)else none)=some q:=h
           by_cases e:nm2=nm
           ·rw[if_pos e]at h;cases h;rw[e]
           ·rw[if_neg e]at h;exact fo h
          | _=>exact fo h
         | _=>exact fo h
        | _=>exact fo h
       | _=>exact fo h
      | _=>exact fo h
     | _=>exact fo h
    | _=>exact fo h
   | _=>exact fo h
  | _=>exact fo h
 | _=>exact fo h
theorem nst2_inv {nm:Str}{S:List Stmt}{r:Str×Pos×Expr×Pos×Pos×Pos}(h:nst2 nm S=some r):S=[.Return (some (.Call (.Name r.1 r.2.1) [r.2.2.1,.Name nm r.2.2.2.1] [] r.2.2.2.2.1)) r.2.2.2.2.2]:=by
 have fo:∀ {p:Prop},(none:Option (Str×Pos×Expr×Pos×Pos×Pos))=some r->p:=λ h=>nomatch h
 cases S with
 | cons x xs =>
  cases x with
  | Return v rp2 =>
   cases v with
   | some e =>
    cases e with
    | Call f as kw cp =>
     cases f with
     | Name g gp =>
      cases as with
      | cons a as1 =>
       cases as1 with
       | cons y as2 =>
        cases y with
        | Name x p2 =>
         cases as2 with
         | nil =>
          cases kw with
          | nil =>
           cases xs with
           | nil =>
            have h:(if x=nm then some (g,gp,a,p2,cp,rp2)else none)=some r:=h
            by_cases e:x=nm
            ·rw[if_pos e]at h;cases h;rw[e]
            ·rw[if_neg e]at h;exact fo h
           | _=>exact fo h
          | _=>exact fo h
         | _=>exact fo h
        | _=>exact fo h
       | _=>exact fo h
      | _=>exact fo h
     | _=>exact fo h
    | _=>exact fo h
   | _=>exact fo h
  | _=>exact fo h
 | _=>exact fo h
theorem s_nest {X:Cx}{ck:Ck}{s:li}{ss:kW}{S:List Stmt}(G:CG Γ F n X ck)(hM:mNest ck s ss S=true):PSs X S (TSv Γ (ln F (.cons s ss))):=by
 obtain⟨⟨i,g,e,id,caps⟩,e1,hA⟩:=any_inv hM
 clear hM
 obtain⟨⟨nm',params,b,rp,scope,pos,xs⟩,e2,hB⟩:=any_inv hA
 clear hA
 obtain⟨⟨g',gp,a,p2,cp,rp2⟩,e3,h⟩:=any_inv hB
 clear hB
 obtain⟨rfl,rfl⟩:=nstS_inv e1
 have e3:=nst2_inv e3
 have e2:=nst1_inv e2
 dsimp only at e2 e3 h ⊢
 subst e3
 subst e2
 clear e1
 obtain⟨h,h11⟩:=zx h
 obtain⟨h,h10⟩:=zx h
 obtain⟨h,h9⟩:=zx h
 obtain⟨h,h8⟩:=zx h
 obtain⟨h,h7⟩:=zx h
 obtain⟨h,h6⟩:=zx h
 obtain⟨h,h5⟩:=zx h
 obtain⟨h0,h2⟩:=zx h
 have h7:=of_decide_eq_true h7
 subst h7
 have h1:=of_decide_eq_true h0
 clear h0
 obtain⟨c,P,params',body',scope',pos',J,eE,L⟩:=G.lam id caps _ h6
 obtain⟨pn,hnm⟩:∃ pn,J.nm=some pn:=by
  cases q:J.nm with
  | none=>unfold lamText at eE;rw[q]at eE;cases eE
  | some p=>exact⟨p,rfl⟩
 obtain⟨pa,pb⟩:=pn
 unfold lamText at eE
 rw[hnm]at eE
 dsimp only at eE
 cases eE
 rw[<-G.N]at L h1
 obtain⟨l1,l2⟩:=G.loc h2
 obtain⟨a1,a2,a3⟩:=noAnn_ok h11 X.env
 have hkd:X.env.kindOf nm'=some .local\/X.env.kindOf nm'=some .cell:=l1
 have hq:i5 X.env nm' nm'=J.qual:=by
  rw[L.q]
  unfold LamI.own i5
  rw[hnm]
  rcases hkd with z|z<;>rw[z]<;>rfl
 have p1:=ps_def (X:=X) (c:=c) (P:=P) (body:=[.Return (some b) rp]) (scope:=scope) (pos:=pos) (by rw[G.N];exact G.nd) h1 l1 L.code L.hd L.bm L.ck hq a1 a2 a3 l2
 have p2':PE X (.Name nm' p2) (tVar i):=var_pe G h5
 obtain⟨g1,g2,g3⟩:=G.gl h8
 rcases G.call g with hb|⟨fa,fd,ps,hF,hmg,hk,hB⟩
 ·intro pins sh σ H D I q
  obtain⟨φ,ρ,s,c,s',E,R,hm,q⟩:=q
  obtain⟨c1,s1,e1,hm⟩:=bind_inv hm
  have e1:(match kJ ρ i with|some ρ=>DV.R.ok (DV.Ct.next ρ) s|none=>.bad)=.ok c1 s1:=e1
  split at e1
  case h_2=>cases e1
  cases e1
  obtain⟨c1,s1,e1,hm⟩:=bind_inv hm
  obtain⟨d1,s2,e1,hm2⟩:=bind_inv e1
  obtain⟨l,s3,e1,hm2⟩:=bind_inv e1
  obtain⟨d,s4,e4,hm2⟩:=bind_inv hm2
  rw[hb]at e4;cases e4
 have hE:=(sE e _ X ck G h9).1
 have hA:PA X [a,.Name nm' p2] (tCons (TEv Γ (jP F e)) (tCons (tVar i) tNil)):=qc hE (qc p2' pa_nil (zm rfl)) (zm h10)
 have p3:=pe_callC (p:=gp) (pos:=cp) hF G.room g1 hmg hk hB L.fn hA g2 (zm h10) (zN (es:=[.Name nm' p2]) λ z hz=>by rw[bj.mp hz];rfl).1
 refine(pss_cons p1 (pss_cons (ps_ret p3) pss_nil)).imp λ D σ H q=>?_
 obtain⟨φ,ρ,s,c0,s',E,R,hm,q⟩:=q
 obtain⟨c1,s1,e1,hm⟩:=bind_inv hm
 have e1:(match kJ ρ i with|some ρ=>DV.R.ok (DV.Ct.next ρ) s|none=>.bad)=.ok c1 s1:=e1
 unfold kJ at e1
 by_cases hil:i < ρ.length
 case neg=>rw[if_neg hil]at e1;cases e1
 rw[if_pos hil]at e1
 cases e1
 obtain⟨c1,s1,e1,hm⟩:=bind_inv hm
 obtain⟨d1,s2,e1,hm2⟩:=bind_inv e1
 cases hm2
 cases hm
 obtain⟨l,s3,e1,hm2⟩:=bind_inv e1
 obtain⟨d2,s4,e4,hm2⟩:=bind_inv hm2
 split at hm2
 case isFalse=>cases hm2
 rename_i hn
 cases hm2
 rw[ao]at hn
 obtain⟨x1,s5,e5,e1⟩:=bind_inv e1
 obtain⟨y1,s6,e6,e1⟩:=bind_inv e1
 cases e1
 have e6:(match jZ (ρ.set i none) caps with|some cs=>(kt F .nil (ρ.set i none) s5).bind λ l s=>DV.R.ok (DV.D.clo id cs::l) s|none=>DV.R.bad)=.ok y1 s3:=e6
 cases eg:jZ (ρ.set i none) caps with
 | none=>rw[eg]at e6;cases e6
 | some cs =>
  rw[eg]at e6
  cases e6
  refine tDef_of2 R.tab L.nd L.tab λ f H' eS st tb hf ho=>?_
  obtain⟨g1',R1⟩:=R.sameT eS st tb
  have E1:RE Γ φ H' s.length (ρ.set i none) (σ.set i (some (.ref f))):=by
   have E0:=E.mono g1' (aj _)
   refine⟨by rw[bG,bG];exact E0.len,λ j d ej=>?_⟩
   by_cases z:i=j
   ·subst z
    rw[aU hil]at ej;cases ej
   ·rw[a7 z]at ej
    obtain⟨q1,v,q2,q3⟩:=E0.val j d ej
    exact⟨q1,v,by rw[a7 z];exact q2,q3⟩
  obtain⟨cap,hcap,hcb,hσ⟩:=cap_of E1 eg
  have hlen:=(getVs_get eg).1
  have raw:CloRaw H' f J (clOf X.env.cells J.scope.names []):=by
   unfold CloRaw;rw[hnm];dsimp only;rw[L.p,L.b,L.s];exact ho
  refine⟨φ,ρ.set i none,s,x1,_,E1,R1,e5,λ v1 φ1 H1 g1 l1 b1 r1 R1'=>?_⟩
  have hi2:i < σ.length:=by rw[<-E.len];exact hil
  refine⟨.ref f,by rw[aU hi2],?_⟩
  intro H2 ca
  obtain⟨gs,R2⟩:=R1'.same ca.same
  have hcb1:=D_bndL_mono l1 cs hcb
  have bl0:∀ m,x1.bnd m=true->jM m cs=true->jM m [x1,.clo id cs]=true:=λ m z1 z2=>by
   simp only[jM,z1,dX,dW]
   unfold jO;exact z2
  have bl:=bl0 _ b1 hcb1
  have pv:PVL Γ X.env.cells X.N (σ.set i (some (.ref f))) φ1 H1 [x1,.clo id cs] [v1,.ref f]:=by
   refine .cons (.inl r1) (.cons (.inr ⟨id,cs,rfl,f,J,rfl,L.lg,raw.kp g1.w.kp,by rw[hlen,L.len],by rw[L.s];exact L.cl,cap,RVL.mono g1 cs cap hcb hcap,λ i x v e1 e3=>?_⟩) .nil)
   have hi:i<caps.length:=by rw[<-L.len];exact(ac.mp e1).1
   have hj:caps[i]?=some caps[i]:=af hi
   exact⟨by rw[L.s];exact L.fr x (aJ e1),caps[i],L.at_ i _ x hj e1,hσ i _ v hj e3⟩
  refine⟨φ1,_,[x1,.clo id cs],_,_,R2,pv.caught ca L.kd bl,bl,e4,λ v φ' H3 g' l' b' r' R'=>?_⟩
  have hc:Cells X.env.cells H3:=ca.cells.kp g'.w.kp
  exact q φ' (Drop X.env.cells H3) ((g1'.trans g1 (aj _)).trans (Gr.caught ca g') l1) (am l1 l') (R'.dropC hc hn.2) v b' (RV.dropC hc _ v hn.1 r')
mutual
theorem sS:∀(st:li) (S:Stmt) (X:Cx) (ck:Ck),CG Γ F n X ck->mS ck st S=true->PS X S (TSv Γ (DV.ex F st))
 | .asg tg e,S,X,ck,G,h=>by
  cases S with
  | Assign ts v p =>
   cases ts with
   | cons t ts1 =>
    cases ts1 with
    | nil =>
     obtain⟨h,h3⟩:=zx h
     obtain⟨h1,h2⟩:=zx h
     cases tg with
     | one i =>
      have h:=h1
      cases t with
      | Name x px =>
       obtain⟨a1,a2⟩:=zx h
       exact asg1_ok G (of_decide_eq_true a1) a2 h2
      | _=>exact ff h
     | tup is =>
      obtain⟨a1,a2⟩:=zx h3
      refine(ps_asg (sE e _ X ck G h2).1 (cg_tg G h1) (swap_ok a2) (stores_ok a1) ?_).imp λ D σ H q=>ts_asg (TSv.eq (λ ρ s=>rfl) q)
      have h:=h1
      cases t with
      | Tuple _ _ _=>rfl
      | _=>exact ff h
    | _=>exact ff h
   | _=>exact ff h
  | _=>exact ff h
 | .setIx o i e,S,X,ck,G,h=>by
  cases S with
  | Assign ts v p2 =>
   cases ts with
   | cons tt ts1 =>
    cases tt with
    | Subscript ob ix p1 =>
     cases ts1 with
     | nil =>
      obtain⟨h,h5⟩:=zx h
      obtain⟨h,h4⟩:=zx h
      obtain⟨h,h3⟩:=zx h
      obtain⟨h1,h2⟩:=zx h
      have hsh:=mE_shp h2
      refine(ps_asg (sE e _ X ck G h3).1 (pg_sub (sE o _ X ck G h1).1 (sE i _ X ck G h2).1 (set_ok (hu_of G.room)) ?_) (show fv v (some (.Subscript ob ix p1)) p2.line X.env=pure false from swap_ok h4) (stores_ok h5) ?_).imp λ D σ H q=>ts_setIx (TSv.eq (λ ρ s=>rfl) q)
      ·intro w
       cases ix<;>first|rfl|cases hsh
      ·rfl
     | _=>exact ff h
    | _=>exact ff h
   | _=>exact ff h
  | _=>exact ff h
 | .aug _ _,S,X,ck,G,h=>ff h
 | .ex e,S,X,ck,G,h=>by
  cases S with
  | Expr v p =>
   obtain⟨h1,h2⟩:=zx h
   exact(ps_expr (sE e _ X ck G h1).1 (swap_ok h2)).imp λ D σ H q=>ts_drop (TSv.eq (λ ρ s=>rfl) q)
  | _=>exact ff h
 | .ret e,S,X,ck,G,h=>by
  cases S with
  | Return vo p =>
   cases vo with
   | some v =>
    exact(ps_ret (sE e _ X ck G h).1).imp λ D σ H q=>ts_ret (TSv.eq (λ ρ s=>rfl) q)
   | _=>exact ff h
  | _=>exact ff h
 | .retN,S,X,ck,G,h=>ff h
 | .ite c a b,S,X,ck,G,h=>by
  cases S with
  | If t l r p =>
   obtain⟨h,h3⟩:=zx h
   obtain⟨h1,h2⟩:=zx h
   exact(ps_if (sE c _ X ck G h1).2 (sSs a _ X ck G h2) (sSs b _ X ck G h3)).imp λ D σ H q=>ts_if (TSv.eq (λ ρ s=>rfl) q)
  | _=>exact ff h
 | .whl _ _,S,X,ck,G,h=>ff h
 | .for_ tg it b,S,X,ck,G,h=>by
  cases S with
  | For tgt iter l o p =>
   cases o with
   | nil =>
    obtain⟨h,h3⟩:=zx h
    obtain⟨h1,h2⟩:=zx h
    exact(ps_for (by rw[G.xe];exact PassesOwn.never) G.calm (sI it _ _ X ck G h2) (cg_tg G h1) (sSs b _ X ck G h3) (fold_ok (mI_shp h2))).imp λ D σ H q=>ts_for (TSv.eq (λ ρ s=>rfl) q)
   | _=>exact ff h
  | _=>exact ff h
 | .pass,S,X,ck,G,h=>ff h
 | .cont,S,X,ck,G,h=>ff h
 | .brk,S,X,ck,G,h=>ff h
 | .und _,S,X,ck,G,h=>ff h
 | .raise,S,X,ck,G,h=>ps_never.imp λ D σ H q=>by
  obtain⟨φ,ρ,s,c,s',E,R,hm,q⟩:=q
  cases hm
theorem sSs:∀(st:kW) (S:List Stmt) (X:Cx) (ck:Ck),CG Γ F n X ck->mSs ck st S=true->PSs X S (TSv Γ (ln F st))
 | .nil,S,X,ck,G,h=>by
  cases S with
  | nil =>
   exact pss_nil.imp λ D σ H q=>ts_next (m:=ln F .nil) (λ ρ s=>rfl) q
  | _=>exact ff h
 | .cons s ss,S,X,ck,G,h=>by
  cases S with
  | cons x xs =>
   rcases(bK _ _).mp h with h|h
   ·exact s_nest G h
   obtain⟨h1,h2⟩:=zx h
   exact(pss_cons (sS s _ X ck G h1) (sSs ss _ X ck G h2)).imp λ D σ H q=>ts_seq (TSv.eq (λ ρ s=>rfl) q)
  | _=>exact ff h
end
end
section
variable {Γ:Gm}
theorem old_bnd {φ φ1:Nat->Addr}{H H1:Hp}{s s1:jK}(R:Rp Γ φ H s)(g:Gr φ s H φ1 s1 H1)(ho:kX s s1=true){i:Nat}{o:j6}(hi:i<s.length)(e:s1[i]?=some o):o.bnd s.length=true:=by
 unfold kX at ho
 have:=aN.mp ho i (aZ.mpr hi)
 rw[e,bK]at this
 rcases this with h|h
 ·exact R.wf i o (of_decide_eq_true h).symm
 ·exact h
theorem qL {s1:jK}{k i:Nat}{o:j6}(e:(s1.take k)[i]?=some o):i<k/\s1[i]?=some o:=by
 rw[hU]at e
 split at e
 ·exact⟨‹_›,e⟩
 ·cases e
theorem canon_take {φ φ1:Nat->Addr}{H H1:Hp}{s s1:jK}(R:Rp Γ φ H s)(g:Gr φ s H φ1 s1 H1)(R1:Rp Γ φ1 H1 s1)(ho:kX s s1=true):Gr φ s H φ1 (s1.take s.length) H1/\Rp Γ φ1 H1 (s1.take s.length):=by
 have hl:(s1.take s.length).length=s.length:=by rw[bR];have:=g.le;omega
 refine⟨⟨g.w,by rw[hl];exact aj _,λ i h1 h2=>by rw[hl]at h2;omega,λ i o o' e e'=>g.kd i o o' e (qL e').2,g.st,g.fr⟩,λ i j o o' e e' m m' z=>R1.inj i j o o' (qL e).2 (qL e').2 m m' z,λ i o e=>R1.obj i o (qL e).2,λ i o e=>?_,R1.tab⟩
 rw[hl]
 exact old_bnd R g ho (qL e).1 (qL e).2
theorem canon_ok {φ φ1:Nat->Addr}{H H1:Hp}{s s1 s':jK}{v0 d:jL}{v:V}(R:Rp Γ φ H s)(g:Gr φ s H φ1 s1 H1)(R1:Rp Γ φ1 H1 s1)(hb:v0.bnd s1.length=true)(r:RV Γ φ1 H1 v0 v)(h:DV.zJ s v0 s1=.ok d s') :
  ∃ φ',Gr φ s H φ' s' H1/\s.length<=s'.length/\d.bnd s'.length=true/\RV Γ φ' H1 d v/\Rp Γ φ' H1 s':=by
 have all:d=v0->s'=s1->∃ φ',Gr φ s H φ' s' H1/\s.length<=s'.length/\d.bnd s'.length=true/\RV Γ φ' H1 d v/\Rp Γ φ' H1 s':=λ e1 e2=>by
  subst e1;subst e2
  exact⟨φ1,g,g.le,hb,r,R1⟩
 unfold DV.zJ at h
 split at h
 case isFalse=>cases h;exact all rfl rfl
 rename_i ho
 obtain⟨gt,Rt⟩:=canon_take R g R1 ho
 have hl:(s1.take s.length).length=s.length:=by rw[bR];have:=g.le;omega
 have tk:d=v0->s'=s1.take s.length->v0.bnd s.length=true->∃ φ',Gr φ s H φ' s' H1/\s.length<=s'.length/\d.bnd s'.length=true/\RV Γ φ' H1 d v/\Rp Γ φ' H1 s':=λ e1 e2 b=>by
  subst e1;subst e2
  exact⟨φ1,gt,by rw[hl];exact aj _,by rw[hl];exact b,r,Rt⟩
 split at h
 ·rename_i k
  split at h
  ·cases h
   exact tk rfl rfl (by unfold jO;exact decide_eq_true ‹_›)
  ·rename_i hk
   split at h
   ·rename_i o eo
    split at h
    ·rename_i hob
     cases h
     have gw:Gw φ1 s.length H1 (λ i=>if i=s.length then φ1 k else φ1 i) H1:=⟨λ i hi=>if_neg (ay hi),Kp.refl _⟩
     have key:∀(i:Nat) (o':j6),(s1.take s.length++[o])[i]?=some o'->(i<s.length/\s1[i]?=some o')\/(i=s.length/\o'=o):=λ i o' e=>by
      rcases e9 i s.length with h|h|h
      ·rw[aF (by rw[hl];exact h)]at e;exact .inl (qL e)
      ·subst h
       rw[ak (by rw[hl];exact aj _),hl,jB]at e
       exact .inr ⟨rfl,(au e).symm⟩
      ·rw[bN (by rw[aW,hl];simp;omega)]at e;cases e
     have hlen:(s1.take s.length++[o]).length=s.length+1:=by rw[aW,hl];rfl
     refine⟨λ i=>if i=s.length then φ1 k else φ1 i,⟨⟨λ i hi=>?_,g.w.kp⟩,by rw[hlen];omega,λ i h1 h2=>?_,λ i oo o' e e'=>?_,g.st,g.fr⟩,by rw[hlen];omega,by unfold jO;rw[hlen];exact decide_eq_true (iD _),?_,⟨λ i j oi oj ei0 ej0 mi mj e=>?_,λ i o' e=>?_,λ i o' e=>?_,R1.tab⟩⟩
     ·show(if i=s.length then φ1 k else φ1 i)=φ i
      rw[if_neg (ay hi)];exact g.w.map i hi
     ·rw[hlen]at h2
      show H (if i=s.length then φ1 k else φ1 i)=none
      rw[if_pos (by omega)]
      exact g.new k (by omega) (ac.mp eo).1
     ·rcases key i o' e' with⟨_,e2⟩|⟨hi,_⟩
      ·exact g.kd i oo o' e e2
      ·have:=(ac.mp e).1;omega
     ·rw[r.refE]
      unfold RV
      show V.ref (φ1 k)=V.ref (if s.length=s.length then φ1 k else φ1 s.length)
      rw[if_pos rfl]
     ·rcases key i oi ei0 with⟨hi,ei⟩|⟨hi,zi⟩<;>rcases key j oj ej0 with⟨hj,ej⟩|⟨hj,zj⟩
      ·rw[if_neg (ay hi),if_neg (ay hj)]at e
       exact R1.inj i j oi oj ei ej mi mj e
      ·rw[if_neg (ay hi),if_pos hj]at e
       subst zj
       have:=R1.inj i k oi _ ei eo mi mj e
       omega
      ·rw[if_neg (ay hj),if_pos hi]at e
       subst zi
       have:=R1.inj k j _ oj eo ej mi mj e
       omega
      ·rw[hi,hj]
     ·rcases key i o' e with⟨hi,e⟩|⟨hi,rfl⟩
      ·show RO Γ _ _ (if i=s.length then φ1 k else φ1 i) o'
       rw[if_neg (ay hi)]
       exact(R1.obj i o' e).mono gw (old_bnd R g ho hi e) λ _ u hu=>hu
      ·show RO Γ _ _ (if i=s.length then φ1 k else φ1 i) o'
       rw[if_pos hi]
       exact(R1.obj k _ eo).mono gw hob λ _ u hu=>hu
     ·rw[hlen]
      rcases key i o' e with⟨hi,e⟩|⟨_,rfl⟩
      ·exact qk (cY _) _ (old_bnd R g ho hi e)
      ·exact qk (cY _) _ hob
    ·cases h;exact all rfl rfl
   ·cases h
 ·split at h
  ·cases h;exact tk rfl rfl ‹_›
  ·cases h;exact all rfl rfl
structure LamGood (J:LamI)(L:kK):Prop where
 sc:LamScope (J.ps++J.fr) J.ps J.fr J.scope
 ps:J.ps.length=L.ps
 fr:J.fr.length=L.cs
 m:mE (ck0 (J.ps++J.fr) J.scope) L.body J.body=true
 bind:∀(clos:List (Str×Addr)) (doc pm:Value) (c':Addr) (ctv:Value) (us:List Value),us.length=J.ps.length->dY (bO "<lambda>" J.qual J.params J.body J.scope clos pm (.ref c') ctv) ⟨us,[]⟩=pure (J.ps.zip us) /\
  ∀(nm:Str) (rp:Pos),dY (cc nm J.qual J.params [.Return (some J.body) rp] J.scope clos .none .none doc pm none (.ref c') ctv) ⟨us,[]⟩=pure (J.ps.zip us)
structure LkAt (Γ:Gm)(cds:List (Addr×Addr))(f:Str)(sc:Scope)(N:List Str)(fd:bI)(id:String)(caps:List Nat)(params:aY)(body:Expr)(scope:Scope)(c P:Addr)(J:LamI):Prop where
 code:fd.code=.ref c
 cd:(c,P)∈cds
 ck:lamCheck scope sc=true
 fre:∀ x,scope.names.lookup x=some .free->sc.names.lookup x=some .cell
 cel:∀ y∈sc.names,y.2=.cell->sc.names.lookup y.1=some .cell
 df:∀ env,i4 params env=([],[])
 lg:Γ.lg id J
 q:J.qual=f ++ ".<locals>."++J.own
 p:J.params=params
 b:J.body=body
 s:J.scope=scope
 len:J.fr.length=caps.length
 at_:∀(i j:Nat) (x:Str),caps[i]?=some j->J.fr[i]?=some x->N[j]?=some x
 fr:∀ x∈J.fr,scope.names.lookup x=some .free
 tab:(P,J.qual)∈Γ.T
noncomputable def LkOk (Γ:Gm)(cds:List (Addr×Addr))(f:Str)(sc:Scope)(N:List Str)(fd:bI)(lk:String->List Nat->Expr->Bool):Prop :=
 ∀ id caps E,lk id caps E=true->∃ c P params body scope pos J,E=lamText J params body scope pos/\LkAt Γ cds f sc N fd id caps params body scope c P J
noncomputable def Good (Γ:Gm)(cds:List (Addr×Addr))(mg:Str->Option Value)(f:String)(d:kL):Prop:=∃ st N ps a fd lk,DefAt Γ.K mg (f:Str) st ps a fd/\FnScope N ps (defScope st)/\ps.length=d.ps/\N.length=d.ps+d.vs/\mSs ⟨N,defScope st,lk⟩ d.body (zU st)=true/\LkOk Γ cds (f:Str) (defScope st) N fd lk
structure PrOk (Γ:Gm)(cds:List (Addr×Addr))(P:j3)(mg:Str->Option Value):Prop where
 df:∀ f d,P.df f=some d->Good Γ cds mg f d
 con:∀ x d,P.con x=some d->∃ v u,mg (x:Str)=some u/\RelV v u/\(∀ m,d.bnd m=true)/\∀ φ H,RV Γ φ H d v
 bi:∀ x∈bNames,mg x=none
 fa:∀(f:String) (a:Addr),Γ.fa f=some a->mg (f:Str)=some (.ref a)/\∃ oc od fd sl,Γ.K.lookup a=some ⟨oc,od,.func fd,sl⟩
 lg:∀ id J,Γ.lg id J->∃ L,P.lm id=some L/\LamGood J L
 nd:(Γ.T.map (·.1)).Nodup
noncomputable def CallOk (Γ : Gm) (prog : Program) (w : World) (mg : Str -> Option Value) (base : Heap) (F : DV.Fns) (n : Nat) : Prop := (∀ f : String, (∀ l s, F.call f l s = .bad) \/
      ∃ a fd ps, FnOk prog w Γ.K mg base CX0 n a fd ps (spV Γ (F.call f)) /\ mg (f : Str) = some (.ref a) /\ bZ Γ.K (.ref a) = true /\ Binds Γ.K fd ps []) /\
  ∀(id : String) (J : LamI) (f : Addr) (cap : List V) (clos : List (Str × Addr)), Γ.lg id J -> cap.length = J.fr.length -> ClOk prog w Γ.K mg base n (λ H => CloAt H f J cap clos) f (spL Γ (F.lam id) cap)
theorem re_start {φ:Nat->Addr}{H:Hp}{n k:Nat}{N:List Str}{l:List jL}{vs:List V}(r:RVL Γ φ H l vs)(b:jM n l=true)(hN:N.length=l.length+k):RE Γ φ H n (l.map some++ar k none) (start N vs):=by
 have hl:=r.length
 refine⟨?_,λ i d e=>?_⟩
 ·unfold start;simp[hl,hN]
 ·by_cases hi:i<l.length
  ·rw[aF (by simpa using hi),aB]at e
   have e':l[i]?=some d:=by
    rw[af hi]at e ⊢
    exact au e
   obtain⟨v,e1,e2⟩:=r.get e'
   refine⟨bndL_get b e',v,?_,e2⟩
   unfold start
   rw[aF (by rw[aG,hl];exact hi),aB,e1];rfl
  ·rw[ak (by simpa using iA hi)]at e
   rw[fw]at e
   split at e<;>cases e
theorem fn_ok {cds:List (Addr×Addr)}{P:j3}{prog:aL}{w:World}{mg:Str->Option Value}{base:Heap}(hP:PrOk Γ cds P mg)(hb:∀ y∈cds,bP base y.1 y.2/\BM mg base)(n:Nat)(hcall:CallOk Γ prog w mg base (jS P n) (n+31))
  {f:String} {d:kL} (e:P.df f=some d) {st:Stmt} {N ps:List Str} {a:Addr} {fd:bI} {lk:String->List Nat->Expr->Bool} (hD:DefAt Γ.K mg (f:Str) st ps a fd) (hS:FnScope N ps (defScope st)) (h1:ps.length=d.ps) (h2:N.length=d.ps+d.vs) (hm:mSs ⟨N,defScope st,lk⟩ d.body (zU st)=true) (hL:LkOk Γ cds (f:Str) (defScope st) N fd lk) :
  FnOk prog w Γ.K mg base CX0 (n+1+31) a fd ps (spV Γ ((jS P (n+1)).call f)):=by
 have hlen:∀ vs H Q E,spV Γ ((jS P (n+1)).call f) vs H Q E->vs.length=ps.length:=λ vs H Q E q=>by
  obtain⟨φ,s,l,d',s',R,r,b,hc,k⟩:=q
  simp only[jS,e]at hc
  split at hc
  ·rw[r.length,h1];assumption
  ·cases hc
 have body:∀(cdv:Value),(∀ id caps E,lk id caps E=true->fd.code=cdv)->∀(A:aS) (outer:List Env) (sh:ae) (H:Hp) (vs:List V) (Q:VK) (E:XK),Room (n+31) (A.deeper (fe (f:Str) (defScope st) sh.heap.objs.size a cdv))->spV Γ ((jS P (n+1)).call f) vs H Q E ->
   ∃ t,PSs (cxOf CX0 prog w Γ.K mg base N (f:Str) (defScope st) a cdv A outer sh H E).nox (zU st) t/\t { nx:=λ _ H'=>Q .non H',rt:=Q } (start N vs) H:=by
  intro cdv hcd A outer sh H vs Q E hr q
  have G:CG Γ (jS P n) (n+31) (cxOf CX0 prog w Γ.K mg base N (f:Str) (defScope st) a cdv A outer sh H E).nox ⟨N,defScope st,lk⟩:=by
   refine⟨rfl,rfl,hS.nd,rfl,rfl,?_,hr,λ x k e=>.inl e,λ _ _=>rfl,hP.bi,hcall.1,?_,λ id caps E' hlk=>?_,hcall.2,hP.fa,kY P n⟩
   ·show jY+1<=n+31
    unfold jY;omega
   ·have:(jS P n).con=P.con:=by cases n<;>rfl
    rw[this];exact hP.con
   ·obtain⟨c,Pa,params,body,scope,pos,J,eE,L⟩:=hL id caps E' hlk
    obtain⟨hb1,hb2⟩:=hb _ L.cd
    refine⟨c,Pa,params,body,scope,pos,J,eE,⟨?_,hb1,hb2,L.ck,L.df _,L.lg,L.q,L.p,L.b,L.s,L.len,L.at_,L.fr,λ x hx=>?_,L.tab,hP.nd,λ _=>rfl,λ x c hx=>?_⟩⟩
    ·show cdv=.ref c
     rw[<-hcd id caps E' hlk];exact L.code
    ·exact z5 (L.fre x hx)
    ·rcases zI (az hx)with z|z
     ·exact .inl (L.cel (x,.cell) z rfl)
     ·exact absurd z (by simp)
  refine⟨_,sSs d.body (zU st) _ ⟨N,defScope st,lk⟩ G hm,?_⟩
  obtain⟨φ,s,l,d',s',R,r,b,hc,k⟩:=q
  simp only[jS,e]at hc
  split at hc
  case isFalse=>cases hc
  rename_i hlen
  obtain⟨c,s1,e1,hc⟩:=bind_inv hc
  refine⟨φ,l.map some++ar d.vs none,s,c,s1,re_start r b (by rw[h2,hlen]),R,e1,λ φ1 H1 g1 l1 R1=>?_⟩
  cases c with
  | ret v0 =>
   intro v hb rv
   obtain⟨φ',g',l',b',r',R'⟩:=canon_ok R g1 R1 hb rv hc
   exact k v φ' H1 g' l' b' r' R'
  | next ρ =>
   intro σ' _
   obtain⟨φ',g',l',b',r',R'⟩:=canon_ok (v0:=.non) R g1 R1 rfl RV.nonI hc
   exact k .non φ' H1 g' l' b' r' R'
  | cont ρ=>cases hc
  | brk ρ=>cases hc
 by_cases hl:∃ id caps E,lk id caps E=true
 ·obtain⟨id,caps,E,hlk⟩:=hl
  obtain⟨c,Pa,params,body',scope,pos,J,eE,L⟩:=hL id caps E hlk
  exact hD.fn.okC L.code hS hlen (body _ λ _ _ _ _=>L.code)
 ·exact hD.fn.ok hS hlen (λ cdv=>body cdv λ id caps E h=>absurd ⟨id,caps,E,h⟩ hl)
theorem lamN_ok {cds:List (Addr×Addr)}{P:j3}{prog:aL}{w:World}{mg:Str->Option Value}{base:Heap}(hP:PrOk Γ cds P mg)(n:Nat)(hcall:CallOk Γ prog w mg base (jS P n) (n+31))
  (id:String) (J:LamI) (f:Addr) (cap:List V) (clos:List (Str×Addr)) (hlg:Γ.lg id J) (hcap:cap.length=J.fr.length) :
  ClOk prog w Γ.K mg base (n+1+31) (λ H=>CloAt H f J cap clos) f (spL Γ ((jS P (n+1)).lam id) cap):=by
 obtain⟨L,eL,LG⟩:=hP.lg id J hlg
 have hlen:∀ vs H Q E,spL Γ ((jS P (n+1)).lam id) cap vs H Q E->vs.length=J.ps.length:=λ vs H Q E q=>by
  obtain⟨φ,s,cs,l,d,s',R,r,rc,b,bc,hc,k⟩:=q
  simp only[jS,eL]at hc
  split at hc
  ·rename_i hh;rw[r.length,LG.ps];exact hh.1
  ·cases hc
 have main:∀(A:aS) (outer:List Env) (sh:ae) (H:Hp) (cd:Value) (vs:List V) (Q:VK),Room (n+31) (A.deeper (cI J.qual J.scope sh.heap.objs.size f cd (aI (sh.heap.objs.size+1) J.scope.names clos)))->Cells clos H->(∀ b o,Γ.K.lookup b=some o->H b=none)->spL Γ ((jS P (n+1)).lam id) cap vs H Q E0 ->
   ∃ t,PE (cxLam prog w Γ.K mg base (J.ps++J.fr) J.qual J.scope f cd clos A outer sh H) J.body t/\t (vs.map some++cap.map some) (Drop clos H) λ v H'=>(∀ b,isC clos b=true->H' b=none)->Q v (Put clos H H'):=by
  intro A outer sh H cd vs Q hr hcells hK q
  have G:CG Γ (jS P n) (n+31) (cxLam prog w Γ.K mg base (J.ps++J.fr) J.qual J.scope f cd clos A outer sh H) (ck0 (J.ps++J.fr) J.scope):=by
   refine⟨rfl,rfl,LG.sc.nd,rfl,rfl,?_,hr,λ x k e=>.inl e,λ x e=>?_,hP.bi,hcall.1,?_,λ _ _ _ h=>(by cases h),hcall.2,hP.fa,kY P n⟩
   ·show jY+1<=n+31
    unfold jY;omega
   ·show(J.scope.names.lookup x==some .cell)=true
    rw[show J.scope.names.lookup x=some .cell from e];rfl
   ·have:(jS P n).con=P.con:=by cases n<;>rfl
    rw[this];exact hP.con
  refine⟨_,(sE L.body J.body _ (ck0 (J.ps++J.fr) J.scope) G LG.m).1,?_⟩
  obtain⟨φ,s,cs,l,d,s',R,r,rc,b,bc,hc,k⟩:=q
  simp only[jS,eL]at hc
  split at hc
  case isFalse=>cases hc
  rename_i hh
  obtain⟨h1,h2,h3⟩:=hh
  rw[ao,ao]at h3
  obtain⟨⟨hn1,hn2⟩,hn3⟩:=h3
  obtain⟨v0,s1,e1,hc⟩:=bind_inv hc
  have RD:Rp Γ φ (Drop clos H) s:=R.dropC hcells hn3
  have rall:RVL Γ φ (Drop clos H) (l++cs) (vs++cap):=(RVL.dropC hcells l vs hn1 r).append (RVL.dropC hcells cs cap hn2 rc)
  refine⟨φ,l.map some++cs.map some,s,v0,s1,⟨by simp[r.length,rc.length],λ i x ei=>?_⟩,RD,e1,λ v φ1 H1 g1 l1 b1 r1 R1 gone=>?_⟩
  ·rw[<-b9,aB]at ei
   have ei':(l++cs)[i]?=some x:=by
    cases q:(l++cs)[i]? with
    | none=>rw[q]at ei;cases ei
    | some y=>rw[q]at ei;cases ei;rfl
   obtain⟨u,e3,e4⟩:=rall.get ei'
   refine⟨bndL_get (z0 b bc) ei',u,?_,e4⟩
   rw[<-b9,aB,e3];rfl
  ·obtain⟨φ',g',l',b',r',R'⟩:=canon_ok RD g1 R1 b1 r1 hc
   have gp:=Gr.put hcells gone hK R' g'
   obtain⟨gs,Rs⟩:=R'.same (putC_same (H:=H) gone)
   exact k v φ' _ gp l' b' (RV.mono gs d v b' r') Rs
 unfold CloAt
 cases q:J.nm with
 | none=>exact lam_ok2 LG.sc hlen hcap (λ pm c' ctv us hus=>(LG.bind clos .none pm c' ctv us hus).1) (λ A outer sh H cd vs Q hr hat hK q=>by
   obtain⟨pm,c',ctv,_,_,hcells,_⟩:=hat
   exact main A outer sh H cd vs Q hr hcells hK q)
 | some p=>exact def_ok2 LG.sc hlen hcap (λ doc pm c' ctv us hus=>(LG.bind clos doc pm c' ctv us hus).2 _ _) (λ A outer sh H cd vs Q hr hat hK q=>by
   obtain⟨doc,pm,c',ctv,_,_,hcells,_⟩:=hat
   obtain⟨t,h1,h2⟩:=main A outer sh H cd vs Q hr hcells hK q
   exact⟨_,pss_cons (ps_ret h1) pss_nil,h2⟩)
theorem call_ok {cds:List (Addr×Addr)}{P:j3}{prog:aL}{w:World}{mg:Str->Option Value}{base:Heap}(hP:PrOk Γ cds P mg)(hb:∀ y∈cds,bP base y.1 y.2/\BM mg base):∀ n:Nat,CallOk Γ prog w mg base (jS P n) (n+31)
 | 0=>⟨λ f=>.inl λ l s=>rfl,λ id J f cap clos _ _=>⟨λ A outer s H us vs Q _ _ _ _ q=>by
   obtain⟨φ,s,cs,l,d,s',R,r,rc,b,bc,hc,k⟩:=q
   cases hc⟩⟩
 | n+1=>by
  have ih:CallOk Γ prog w mg base (jS P n) (n+31):=call_ok hP hb n
  refine⟨λ f=>?_,λ id J f cap clos h1 h2=>lamN_ok hP n ih id J f cap clos h1 h2⟩
  cases e:P.df f with
  | none=>exact .inl λ l s=>by simp only[jS,e]
  | some d =>
   obtain⟨st,N,ps,a,fd,lk,hD,hS,h1,h2,hm,hL⟩:=hP.df f d e
   exact .inr ⟨a,fd,ps,fn_ok hP hb n ih e hD hS h1 h2 hm hL,hD.mg,hD.fn.kp,hD.bi⟩
noncomputable def spT (Γ:Gm):Sp:=λ vs H Q _=>∃(a:Addr) (ns:List Int),vs=[.ref a]/\SqF Γ.K H a (ns.map V.int)/\ns.length<=63/\TabsH Γ.T H/\∀ H',Q (.bl true) H'
theorem rvl_ints {φ:Nat->Addr}{H:Hp}:∀ ns:List Int,RVL Γ φ H (ns.map DV.D.int) (ns.map V.int)
 | []=>.nil
 | n::ns=>.cons RV.intI (rvl_ints ns)
theorem bndL_ints {m:Nat}:∀ ns:List Int,jM m (ns.map DV.D.int)=true
 | []=>rfl
 | n::ns=>by rw[aK];unfold jM;rw[bndL_ints ns];rfl
theorem spT_of {P:j3}{k:Nat}(h:∀ ns:List Int,ns.length<=63->∃ s',(jS P k).call "law" [.ref 0] [.ro (ns.map DV.D.int)]=.ok (.bl true) s')(vs:List V)(H:Hp)(Q:VK)(E:XK)(q:spT Γ vs H Q E):spV Γ ((jS P k).call "law") vs H Q E:=by
 obtain⟨a,ns,rfl,hS,hl,hT,hQ⟩:=q
 obtain⟨s',hs⟩:=h ns hl
 refine⟨λ _=>a,[.ro (ns.map DV.D.int)],[.ref 0],.bl true,s',⟨λ i j o o' e e' m m' _=>?_,λ i o e=>?_,λ i o e=>?_,hT⟩,.cons RV.refI .nil,?_,hs,λ v φ' H' g l b r R=>?_⟩
 ·cases i with
  | zero=>cases e;cases m
  | succ i=>cases e
 ·cases i with
  | zero=>cases e;exact⟨_,hS,rvl_ints ns⟩
  | succ i=>cases e
 ·cases i with
  | zero=>cases e;unfold jR;exact bndL_ints ns
  | succ i=>cases e
 ·unfold jM jO jM;rfl
 ·rw[r.blE];exact hQ H'
theorem good_tbl {cds:List (Addr×Addr)}{mg:Str->Option Value}:∀ {tbl:List (String×kL)},(∀ p∈tbl,Good Γ cds mg p.1 p.2)->∀ f d,tbl.lookup f=some d->Good Γ cds mg f d
 | [],_,f,d,h=>by cases h
 | (g,e)::tbl,H,f,d,h=>by
  rw[aX]at h
  cases q:f==g with
  | true =>
   rw[q]at h
   cases h
   rw[eq_of_beq q]
   exact H (g,_) (aC ..)
  | false =>
   rw[q]at h
   exact good_tbl (λ p hp=>H p (aw _ hp)) f d h
noncomputable def GoodC (Γ:Gm)(mg:Str->Option Value)(x:String)(d:jL):Prop:=∃ v u,mg (x:Str)=some u/\RelV v u/\(∀ m,d.bnd m=true)/\∀ φ H,RV Γ φ H d v
theorem con_tbl {mg:Str->Option Value}:∀ {tbl:List (String×jL)},(∀ p∈tbl,GoodC Γ mg p.1 p.2)->∀ f d,tbl.lookup f=some d->GoodC Γ mg f d
 | [],_,f,d,h=>by cases h
 | (g,e)::tbl,H,f,d,h=>by
  rw[aX]at h
  cases q:f==g with
  | true =>
   rw[q]at h
   cases h
   rw[eq_of_beq q]
   exact H (g,_) (aC ..)
  | false =>
   rw[q]at h
   exact con_tbl (λ p hp=>H p (aw _ hp)) f d h
theorem con_int {mg:Str->Option Value}{x:String}{i:Int}{t:Tok}(h:mg (x:Str)=some (.int i t)):GoodC Γ mg x (.int i):=⟨.int i,_,h,⟨t,rfl⟩,λ _=>rfl,λ _ _=>RV.intI⟩
inductive ConV (Γ:Gm):jL->Value->Prop where
 | int (i:Int) (t:Tok):ConV Γ (.int i) (.int i t)
 | str (x:List Nat) (t:Tok) (h:x.length<=1000):ConV Γ (.str x) (.str ⟨x.toArray⟩ t)
inductive ConL (Γ:Gm):List jL->List Value->Prop where
 | nil:ConL Γ [] []
 | cons {d v l vs} (a:ConV Γ d v) (b:ConL Γ l vs):ConL Γ (d::l) (v::vs)
theorem con_tup {mg:Str->Option Value}{x:String}{a:Addr}{o:Obj}{its:List Value}{n:Nat}{l:List jL}(h:mg (x:Str)=some (.ref a))(hk:Γ.K.lookup a=some o)(hc:o.cls=.type "tuple")(hd:o.data=.seq its.toArray n)(hz:its.length<=1000)
  (hl:ConL Γ l its):GoodC Γ mg x (.tup l):=by
 have key:∃ xs,Vals xs its/\(∀ m,jM m l=true)/\∀ φ H,RVL Γ φ H l xs:=by
  clear hd hz
  induction hl with
  | nil=>exact⟨[],.nil,λ _=>rfl,λ _ _=>.nil⟩
  | cons a b ih =>
   obtain⟨xs,h1,h2,h3⟩:=ih
   cases a with
   | int i t=>exact⟨.int i::xs,.cons ⟨t,rfl⟩ h1,λ m=>by unfold jM;rw[h2];rfl,λ φ H=>.cons RV.intI (h3 φ H)⟩
   | str x t h=>exact⟨.str ⟨x.toArray⟩::xs,.cons ⟨t,rfl⟩ h1,λ m=>by unfold jM;rw[h2];rfl,λ φ H=>.cons (RV.strI (by unfold jU;omega)) (h3 φ H)⟩
 obtain⟨xs,h1,h2,h3⟩:=key
 refine⟨.ref a,_,h,rfl,λ m=>by unfold jO;exact h2 m,λ φ H=>RV.tupI (.inr ⟨o,its.toArray,n,hk,hc,hd,?_,h1⟩) (h3 φ H)⟩
 rw[av];exact le1000 hz
end
theorem law_callT2 {P:aL}{w:World}{K:ab}{mg mb:Str->Option Value}{k:Nat}{fa a:Addr}{fd:bI}{x:Str}{sp:Sp}{s₁:ae}{vs:List Value}{ns:List Int}{tabs:List (Addr×Addr)}
  (KX:K.In s₁.heap) (hns:s₁.heap.Ns aV mg) (hb:s₁.heap.Ns fG mb) (hbb:∀ x:Str,x ≠ "__name__"->mb x=a9 x) (hlim:s₁.heap.NoLimit) (hg:s₁.gens=#[]) (hBM:BM mg s₁.heap) (hT:i8 tabs s₁.heap) (hnt:i9 K=true)
  (ha:s₁.heap.get? a=some { cls:=.type "list",data:=.seq vs.toArray }) (hi:iU vs ns) (hl:ns.length<=aH) (hr:Room k gC)
  (F:∀ base:Heap,K.In base->base.Ns aV mg->BM mg base->(∀ q∈tabs,bP base q.1 q.2)->FnOk P w K mg base CX0 k fa fd [x] sp) (hbind:∀(s:ae) (u:Value),iR s fd ⟨[u],[]⟩ [(x,u)])
  (hsp:∀ H:Hp,(∀ q∈tabs,H q.2=some (.tbl #[]))->SqL K H a (ns.map V.int)->(∀ u,H a=some u->(∃ o xs,u=.frz o (.lst xs))\/∃ ps,u=.tbl ps)->sp [.ref a] H (λ v _=>v=.bl true) E0) :
  eV (model P w) gC (.call (.ref fa) ⟨[.ref a],[]⟩) (λ r s'=>r=.ok (.ret (.bool true))/\OldK s₁.heap s'.heap/\s'.os=s₁.os/\eT s'.gens) s₁:=by
 have rv:=vals_ints hi
 have lenV:=hi.length
 have tabO:∀ b,b∈tabs.map (·.2)->s₁.heap.get? b=some (dJ #[]):=λ b h=>by
  obtain⟨q,hq,rfl⟩:=ax.mp h
  exact(hT q hq).2
 have core:∀ H:Hp,(∀ b u,H b=some u->(b=a/\∃ o xs,u=.frz o (.lst xs))\/(b∈tabs.map (·.2)/\u=.tbl #[]))->(∀ q∈tabs,H q.2=some (.tbl #[]))->SqL K H a (ns.map V.int)->HOk P w H s₁.heap->(H a≠none->K.lookup a=none) ->
   eV (model P w) gC (.call (.ref fa) ⟨[.ref a],[]⟩) (λ r s'=>r=.ok (.ret (.bool true))/\OldK s₁.heap s'.heap/\s'.os=s₁.os/\eT s'.gens) s₁:=by
  intro H hO hTb hS hok hK
  have un:∀ b o,s₁.heap.get? b=some o->o.cls≠.type "list"->(∀ vs,o.data≠.fields vs)->H b=none:=λ b o e n1 n2=>by
   cases q:H b with
   | none=>rfl
   | some u =>
    rcases hO b u q with⟨z,_⟩|⟨z,_⟩
    ·rw[z,ha]at e;cases e;exact absurd rfl n1
    ·rw[tabO b z]at e;cases e;exact absurd rfl (n2 #[])
  have nsK:∀ {b:Addr} {m:Str->Option Value},s₁.heap.Ns b m->(hidT s₁.heap H).Ns b m:=λ {b m} ⟨o,es,ep,e,d,r⟩=>by
   refine⟨o,es,ep,hidT_get e ?_,d,r⟩
   cases q:H b with
   | none=>rfl
   | some u =>
    rcases hO b u q with⟨z,_⟩|⟨z,_⟩
    ·rw[z,ha]at e;cases e;cases d
    ·rw[tabO b z]at e;cases e;cases d
  have hKb:K.In (hidT s₁.heap H):=λ b o e=>hidT_get (KX b o e) (by
   cases q:H b with
   | none=>rfl
   | some u =>
    rcases hO b u q with⟨z,_⟩|⟨z,_⟩
    ·subst z
     rw[hK (by rw[q];simp)]at e;cases e
    ·have e2:=KX b o e
     rw[tabO b z]at e2
     have h2:=aN.mp hnt (b,o) (PySem.W.mem_of_lookupK e)
     have e3:o=dJ #[]:=(au e2).symm
     subst e3
     exact absurd (show false=true from h2) aP)
  have hM:Mod K mg (hidT s₁.heap H):=⟨hKb,nsK hns,⟨mb,nsK hb,hbb⟩,let⟨mc,h1,h2⟩:=hlim;⟨mc,nsK h1,h2⟩⟩
  have hB2:BM mg (hidT s₁.heap H):=by
   obtain⟨bm,ob,b1,b2,b3,b4,b5,b6⟩:=hBM
   exact⟨bm,ob,b1,b2,hidT_get b3 (un bm ob b3 (by rw[b4];nofun) (by rw[b6];nofun)),b4,b5,b6⟩
  have hC2:∀ q∈tabs,bP (hidT s₁.heap H) q.1 q.2:=λ q hq=>by
   obtain⟨o,vs',file,tf,flags,tg,inF,text,tt,e1,r1,r2⟩:=(hT q hq).1
   refine⟨o,vs',file,tf,flags,tg,inF,text,tt,hidT_get e1 ?_,r1,r2⟩
   cases q2:H q.1 with
   | none=>rfl
   | some u =>
    rcases hO _ u q2 with⟨z,_⟩|⟨z,_⟩
    ·rw[z,ha]at e1;cases e1;exact absurd r1 (by simp)
    ·rw[tabO _ z]at e1;cases e1;exact absurd r1 (by simp)
  have e0:Env0 P w K mg (hidT s₁.heap H) gC [] s₁ H:=⟨rfl,hM,λ b o e=>of_hidT e,Nat.le_of_eq (hidT_size _ _),trivial,λ b hb=>absurd (show b∈([]:List Addr)from hb) (by simp),hok,.of_eq hg⟩
  refine eA ((F _ hKb (nsK hns) hB2 hC2).run gC [] s₁ H ⟨[.ref a],[]⟩ [.ref a] [.ref a] _ _ hr e0 (hbind s₁ (.ref a)) (.cons rfl .nil) (hsp H hTb hS (λ u e=>(hO a u e).elim (λ z=>.inl z.2) (λ z=>.inr ⟨_,z.2⟩)))) λ r s' h=>?_
  cases r with
  | error e=>exact bz h
  | ok fl =>
   cases fl with
   | next=>exact bz h
   | brk=>exact bz h
   | cont=>exact bz h
   | ret u =>
    obtain⟨v,H',os,bare,un',hok',r',q⟩:=h
    have q':v=.bl true:=q
    subst q'
    obtain rfl:u=Value.bool true:=r'
    have key:∀ b o,s₁.heap.get? b=some o->asItWas s₁.heap s'.heap b o/\∃ o',s'.heap.get? b=some o':=λ b o e=>by
     cases q:H b with
     | none =>
      have z:=un'.keep b o e q (by intro z;exact absurd (show b∈([]:List Addr)from z) (by simp)) (by simp)
      exact⟨.inl z,o,z⟩
     | some u =>
      rcases hO b u q with⟨_,ob,xs,z⟩|⟨z,z2⟩
      ·subst z
       have z2:=un'.frzs b ob _ q
       obtain⟨e1,_⟩:=hok b _ q
       obtain⟨e2,_⟩:=hok' b _ z2
       rw[e]at e1;cases e1
       exact⟨.inl e2,_,e2⟩
      ·subst z2
       obtain⟨more,z3⟩:=un'.tbls b _ q
       have g:s'.heap.get? b=some { cls:=.none,data:=.fields (#[]++more) }:=hok' b _ z3
       have e1:=tabO b z
       rw[e]at e1;cases e1
       obtain⟨p,hp,ep⟩:=ax.mp z
       refine⟨.inr (.inl ⟨?_,rfl,#[],more,rfl,g⟩),_,g⟩
       have t:=((hT p hp).1.tab (hT p hp).2).isCodeTable
       rw[ep]at t
       exact t
    exact⟨rfl,⟨λ b o e=>(key b o e).1,λ b o e=>(key b o e).2⟩,os,bare⟩
 have tbl:∀ b,b∈tabs.map (·.2)->b≠a:=λ b h z=>by
  have e:=tabO b h
  rw[z,ha]at e;cases e
 cases hk:K.lookup a with
 | some o =>
  have e:=KX a o hk
  rw[ha]at e
  cases e
  refine core (λ b=>if b∈tabs.map (·.2)then some (.tbl #[])else none) (λ b u z=>?_) (λ q hq=>if_pos (bh hq)) (.inr ⟨_,vs.toArray,_,hk,rfl,rfl,rfl,by rw[av,lenV];exact hl,by simpa using rv⟩) (λ b u z=>?_) λ z=>?_
  ·by_cases hb:b∈tabs.map (·.2)
   ·have z':=(if_pos hb).symm.trans z
    cases z'
    exact .inr ⟨hb,rfl⟩
   ·have z':=(if_neg hb).symm.trans z
    cases z'
  ·by_cases hb:b∈tabs.map (·.2)
   ·have z':=(if_pos hb).symm.trans z
    cases z'
    exact tabO b hb
   ·have z':=(if_neg hb).symm.trans z
    cases z'
  ·exact absurd (if_neg λ y=>tbl a y rfl) z
 | none =>
  refine core (λ b=>if b=a then some (.frz { cls:=.type "list",data:=.seq vs.toArray } (.lst (ns.map V.int)))else if b∈tabs.map (·.2)then some (.tbl #[])else none) (λ b u z=>?_) (λ q hq=>?_) (.inl (.inr ⟨{ cls:=.type "list",data:=.seq vs.toArray },if_pos rfl⟩)) (λ b u z=>?_) λ _=>hk
  ·by_cases hb:b=a
   ·have z':=(if_pos hb).symm.trans z
    cases z'
    exact .inl ⟨hb,_,_,rfl⟩
   ·have z':=(if_neg hb).symm.trans z
    by_cases hc:b∈tabs.map (·.2)
    ·rw[if_pos hc]at z';cases z';exact .inr ⟨hc,rfl⟩
    ·rw[if_neg hc]at z';cases z'
  ·have hm:q.2∈tabs.map (·.2):=bh hq
   show(if _ then _ else if _ then _ else _)=_
   rw[if_neg (tbl _ hm),if_pos hm]
  ·by_cases hb:b=a
   ·have z':=(if_pos hb).symm.trans z
    cases z'
    subst hb
    exact⟨ha,by rw[aG];exact hl,vs,_,rv,ha⟩
   ·have z':=(if_neg hb).symm.trans z
    by_cases hc:b∈tabs.map (·.2)
    ·rw[if_pos hc]at z';cases z';exact tabO b hc
    ·rw[if_neg hc]at z';cases z'
theorem walk_ofT2 {ts:List Addr}{l:f7}{n k:Nat}{q:aL}{loose:List Str}{XP:(Str->Option Value)->Heap->Prop}{YP:World->Heap->Prop}{d:DefRec}{K:Params->ab}{sp:ab->Sp}{x:Str}(names:List Str)
  (hn:l.most=some n) (hn2:n<=aH) (hdf:d.params.defaults=[]) (hr:Room k gC)
  (hY:∀(w:World) (h:Heap),YP w h->(K w.params).In h/\∀ P∈ts,h.get? P=some (dJ #[])) (hrec:∀ w:World,tabsIn (K w.params) names ts=true) (hnt:∀ w:World,i9 (K w.params)=true)
  (F:∀(w:World) (mg:Str->Option Value) (fa:Addr) (h:Heap),(K w.params).In h->h.Ns aV mg->mg d.name=some (.ref fa) ->
   ∃ fd:bI,(∀(s:ae) (u:Value),iR s fd ⟨[u],[]⟩ [(x,u)]) /\
    ∀ base:Heap,(K w.params).In base->base.Ns aV mg->BM mg base->Codes (K w.params) names base->FnOk l.prog w (K w.params) mg base CX0 k fa fd [x] (sp (K w.params)))
  (hsp:∀(K:ab) (H:Hp) (a:Addr) (ns:List Int),ns.length<=n->Blank K names H->SqL K H a (ns.map V.int)->(∀ u,H a=some u->(∃ o xs,u=.frz o (.lst xs))\/∃ ps,u=.tbl ps)->sp K [.ref a] H (λ v _=>v=.bl true) E0) :
  jp q loose XP YP l.row.toRowW d [] (λ f vs=>i0 f vs):=by
 refine Att.attach_call hn hdf λ w s₀ s₁ mg mb fa o pm cd doc a vs ns G Y ho hd hcd hmg hobj hints hlen hg=>?_
 obtain⟨KX,tsX⟩:=hY w _ Y
 obtain⟨fd,hb,hF⟩:=F w mg fa _ KX G.T.g hmg
 have hT:i8 ((tabsOf (K w.params) names).map (·.2)) s₁.heap:=λ p hp=>by
  obtain⟨y,hy,rfl⟩:=ax.mp hp
  obtain⟨h1,h2⟩:=mem_tabsOf.mp hy
  have z:=aN.mp (hrec w) y.1 h1
  rw[h2]at z
  have z':(iC (K w.params) y.2.1 y.2.2&&ts.contains y.2.2)=true:=z
  rw[ao]at z'
  exact⟨PySem.W.codeHd_of_K KX z'.1,tsX _ (by simpa using z'.2)⟩
 have hm:∀ x∈names,∀ c P,be (K w.params) x=some (c,P)->(c,P)∈(tabsOf (K w.params) names).map (·.2):=λ x hx c P e=>ax.mpr ⟨(x,c,P),mem_tabsOf.mpr ⟨hx,e⟩,rfl⟩
 refine law_callT2 (tabs:=(tabsOf (K w.params) names).map (·.2)) KX G.T.g G.T.b G.T.builtins G.T.nolimit hg ?_ hT (hnt w) hobj hints (am hlen hn2) hr (λ base k1 k2 k3 k4=>hF base k1 k2 k3 λ x hx c P e=>k4 _ (hm x hx c P e)) hb λ H hO hS hF=>hsp (K w.params) H a ns hlen (λ x hx c P e=>hO _ (hm x hx c P e)) hS hF
 obtain⟨bm,ob,h1,h2,h3,h4,h5,h6⟩:=G.T.bmain
 exact⟨bm,ob,h1,h2,h3,h4,h5,h6⟩
noncomputable def spB (names:List Str)(K:ab):Sp:=λ vs H Q _=>∃(a:Addr) (ns:List Int),vs=[.ref a]/\SqF K H a (ns.map V.int)/\ns.length<=63/\Blank K names H/\∀ H',Q (.bl true) H'
theorem spB_mk {names:List Str}{K:ab}{H:Hp}{a:Addr}{ns:List Int}(hl:ns.length<=63)(hB:Blank K names H)(hS:SqL K H a (ns.map V.int))(hF:∀ u,H a=some u->(∃ o xs,u=.frz o (.lst xs))\/∃ ps,u=.tbl ps):spB names K [.ref a] H (λ v _=>v=.bl true) E0:=by
 refine⟨a,ns,rfl,⟨hS,λ H' k=>?_⟩,hl,hB,λ _=>rfl⟩
 rcases hS with(h|⟨o,h⟩)|h
 ·rcases hF _ h with⟨_,_,z⟩|⟨_,z⟩<;>cases z
 ·exact .inl (.inr ⟨o,k _ _ h rfl⟩)
 ·exact .inr h
noncomputable def lgOf (P:j3):String->LamI->Prop:=λ id J=>∃ L,P.lm id=some L/\LamGood J L
noncomputable def sfx (x:Str):Str:=if x = "letter_table" then "least_fee" else "<lambda>"
noncomputable def tabsT (names:List Str)(K:ab):List (Addr×Str):=names.map λ x=>(((be K x).getD (0,0)).2,x ++ ".<locals>."++sfx x)
noncomputable def cdsT (names:List Str)(K:ab):List (Addr×Addr):=names.map λ x=>(be K x).getD (0,0)
noncomputable def faOf (K:ab)(f:String):Option Addr:=match cb K aV (f:Str)with
 | some (some (.ref a))=>(match K.lookup a with
  | some ⟨_,_,.func _,_⟩=>some a
  | _=>none)
 | _=>none
theorem faOf_inv {K:ab}{f:String}{a:Addr}(h:faOf K f=some a):cb K aV (f:Str)=some (some (.ref a))/\∃ oc od fd sl,K.lookup a=some ⟨oc,od,.func fd,sl⟩:=by
 unfold faOf at h
 split at h
 ·rename_i a' e
  split at h
  ·rename_i oc od fd sl e2
   cases h
   exact⟨e,_,_,_,_,e2⟩
  ·cases h
 ·cases h
noncomputable abbrev gmOf (names:List Str)(P:j3)(K:ab):Gm:=⟨K,faOf K,lgOf P,tabsT names K⟩
theorem fa_ok {names:List Str}{P:j3}{K:ab}{h:Heap}{mg:Str->Option Value}(X:K.In h)(G:h.Ns aV mg):∀(f:String) (a:Addr),(gmOf names P K).fa f=some a->mg (f:Str)=some (.ref a)/\∃ oc od fd sl,(gmOf names P K).K.lookup a=some ⟨oc,od,.func fd,sl⟩:=λ f a e=>⟨bT X G (faOf_inv e).1,(faOf_inv e).2⟩
theorem spT_of_B {names:List Str}{P:j3}{K:ab}(ht:∀ x∈names,(be K x).isSome=true){vs:List V}{H:Hp}{Q:VK}{E:XK}(q:spB names K vs H Q E):spT (gmOf names P K) vs H Q E:=by
 obtain⟨a,ns,e,hS,hl,hB,hQ⟩:=q
 refine⟨a,ns,e,hS,hl,TabsH.init λ p hp=>?_,hQ⟩
 simp only[tabsT,c9]at hp
 obtain⟨x,hx,rfl⟩:=ax.mp hp
 exact hB x hx _ _ (tab_some (ht x hx))
theorem cds_ok {names:List Str}{K:ab}{mg:Str->Option Value}{base:Heap}(ht:∀ x∈names,(be K x).isSome=true)(bm:BM mg base)(hc:Codes K names base):∀ y∈cdsT names K,bP base y.1 y.2/\BM mg base:=λ y hy=>by
 obtain⟨x,hx,rfl⟩:=ax.mp hy
 exact⟨hc x hx _ _ (tab_some (ht x hx)),bm⟩
noncomputable def lamArgs:aY->Option (List Str)
 | ⟨[],args,none,[],[],none,[]⟩=>some (args.map (·.arg))
 | _=>none
theorem lamArgs_inv {p:aY}{ps:List Str}(h:lamArgs p=some ps):∃ args,p=⟨[],args,none,[],[],none,[]⟩/\args.map (·.arg)=ps:=by
 unfold lamArgs at h
 split at h
 ·exact⟨_,rfl,au h⟩
 ·cases h
noncomputable def BindG (ps:List Str):Prop:=∀ params,lamArgs params=some ps->∀(qual:Str) (body:Expr) (scope:Scope) (clos:List (Str×Addr)) (doc pm:Value) (c':Addr) (ctv:Value) (us:List Value),us.length=ps.length->dY (bO "<lambda>" qual params body scope clos pm (.ref c') ctv) ⟨us,[]⟩=pure (ps.zip us) /\
 ∀(nm:Str) (rp:Pos),dY (cc nm qual params [.Return (some body) rp] scope clos .none .none doc pm none (.ref c') ctv) ⟨us,[]⟩=pure (ps.zip us)
noncomputable def lamScB (ps fr:List Str)(sc:Scope):Bool:=decide (sc.kind=.function)&&!sc.isCoroutine&&!sc.isGenerator&&decide ((ps++fr).Nodup)&&(ps.all λ x=>decide (sc.names.lookup x=some .local)||decide (sc.names.lookup x=some .cell))&&(fr.all λ x=>decide (sc.names.lookup x=some .free))&&(sc.names.all λ y=>!decide (y.2=.cell)||decide (sc.names.lookup y.1=some .cell))
theorem lamScB_ok {ps fr:List Str}{sc:Scope}(h:lamScB ps fr sc=true):LamScope (ps++fr) ps fr sc:=by
 unfold lamScB at h
 simp only[ao,decide_eq_true_eq,fb,aN,bK]at h
 obtain⟨⟨⟨⟨⟨⟨h1,h2⟩,h3⟩,h4⟩,h5⟩,h6⟩,h7⟩:=h
 exact⟨h1,h2,h3,h4,rfl,h5,h6,λ y hy e=>by
  rcases h7 y hy with z|z
  ·rw[e]at z;simp at z
  ·exact z⟩
noncomputable def freeB (scope sc:Scope):Bool:=scope.names.all λ y=>!decide (scope.names.lookup y.1=some .free)||decide (sc.names.lookup y.1=some .cell)
theorem freeB_ok {scope sc:Scope}(h:freeB scope sc=true):∀ x,scope.names.lookup x=some .free->sc.names.lookup x=some .cell:=λ x hx=>by
 have:=aN.mp h (x,.free) (az hx)
 simp only[bK,fb,decide_eq_false_iff_not,decide_eq_true_eq]at this
 rcases this with z|z
 ·exact absurd hx z
 ·exact z
noncomputable def lkB (sc:Scope)(N:List Str)(caps:List Nat)(params:aY)(body:Expr)(scope:Scope)(t:kK×List Str×List Str):Bool :=
 decide (lamArgs params=some t.2.1)&&decide (caps.map (λ j=>N[j]?)=t.2.2.map some)&&lamCheck scope sc&&freeB scope sc&&lamScB t.2.1 t.2.2 scope&&decide (t.2.1.length=t.1.ps)&&decide (t.2.2.length=t.1.cs)&&mE (ck0 (t.2.1++t.2.2) scope) t.1.body body
noncomputable def lkG (f:Str)(sc:Scope)(N:List Str)(tab:List (String×kK×List Str×List Str))(id:String)(caps:List Nat)(E:Expr):Bool:=match tab.lookup id,E with
 | some t,.Lambda params body scope _=>decide (sfx f = "<lambda>")&&lkB sc N caps params body scope t
 | some t,.NamedExpr (.Name nm _) (.Lambda params body scope p1) p2=>decide (sfx f=nm)&&decide (p1=p2)&&lkB sc N caps params body scope t
 | _,_=>false
theorem lkOk_of {names:List Str}{P:j3}{K:ab}{f:Str}{sc:Scope}{N:List Str}{fd:bI}{tab:List (String×kK×List Str×List Str)}(hf:f∈names)(hcode:fd.code=.ref ((be K f).getD (0,0)).1)(hcel:∀ y∈sc.names,y.2=.cell->sc.names.lookup y.1=some .cell)
  (htab:∀ id t,tab.lookup id=some t->P.lm id=some t.1/\BindG t.2.1):LkOk (gmOf names P K) (cdsT names K) f sc N fd (lkG f sc N tab):=by
 intro id caps E h
 have core:∀(t:kK×List Str×List Str) (params:aY) (body:Expr) (scope:Scope) (nm:Option (Str×Pos)),tab.lookup id=some t->lkB sc N caps params body scope t=true->(match nm with|none => "<lambda>" | some p=>p.1)=sfx f ->
   LkAt (gmOf names P K) (cdsT names K) f sc N fd id caps params body scope ((be K f).getD (0,0)).1 ((be K f).getD (0,0)).2 ⟨f ++ ".<locals>."++sfx f,params,body,scope,t.2.1,t.2.2,nm⟩:=λ t params body scope nm e h hs=>by
  obtain⟨L,ps,fr⟩:=t
  unfold lkB at h
  simp only[ao,decide_eq_true_eq]at h
  obtain⟨⟨⟨⟨⟨⟨⟨h1,h2⟩,h3⟩,h4⟩,h5⟩,h6⟩,h7⟩,h8⟩:=h
  obtain⟨hL,hB⟩:=htab id _ e
  obtain⟨args,rfl,hargs⟩:=lamArgs_inv h1
  have hlen:fr.length=caps.length:=by have:=congrArg gk h2;simpa using this.symm
  have S:=lamScB_ok h5
  refine⟨hcode,ax.mpr ⟨f,hf,rfl⟩,h3,freeB_ok h4,hcel,λ env=>rfl,⟨L,hL,⟨S,h6,h7,h8,λ clos doc pm c' ctv us hus=>hB _ h1 _ _ _ _ _ _ _ _ _ hus⟩⟩,?_,rfl,rfl,rfl,hlen,λ i j x e1 e2=>?_,S.frs,ax.mpr ⟨f,hf,rfl⟩⟩
  ·show f ++ ".<locals>."++sfx f=f ++ ".<locals>."++LamI.own _
   unfold LamI.own
   rw[<-hs]<;>rfl
  ·have e3:(caps.map (λ j=>N[j]?))[i]?=some (N[j]?):=by rw[aB,e1];rfl
   rw[h2,aB,e2]at e3
   exact(au e3).symm
 unfold lkG at h
 split at h
 case h_3=>cases h
 ·rename_i t params body scope pos e
  rw[ao]at h
  exact⟨_,_,params,body,scope,pos,_,rfl,core t params body scope none e h.2 (of_decide_eq_true h.1).symm⟩
 ·rename_i t nm rp params body scope p1 p2 e
  rw[ao,ao]at h
  have ep:=of_decide_eq_true h.1.2
  subst ep
  exact⟨_,_,params,body,scope,p1,_,rfl,core t params body scope (some (nm,rp)) e h.2 (of_decide_eq_true h.1.1).symm⟩
theorem lkOk_no {names:List Str}{P:j3}{K:ab}{f:Str}{sc:Scope}{N:List Str}{fd:bI}:LkOk (gmOf names P K) (cdsT names K) f sc N fd (λ _ _ _=>false):=λ _ _ _ h=>by cases h
theorem lg_ok {names:List Str}{P:j3}{K:ab}:∀ id J,(gmOf names P K).lg id J->∃ L,P.lm id=some L/\LamGood J L:=λ _ _ h=>h
theorem lt_of {P:j3}{tab:List (String×kK×List Str×List Str)}(h:∀ p∈tab,P.lm p.1=some p.2.1/\BindG p.2.2.1):∀ id t,tab.lookup id=some t->P.lm id=some t.1/\BindG t.2.1:=by
 induction tab with
 | nil=>intro id t e;cases e
 | cons y l ih =>
  intro id t e
  rw[aX]at e
  cases q:id==y.1 with
  | true =>
   rw[q]at e
   cases e
   rw[eq_of_beq q]
   exact h y (aC ..)
  | false =>
   rw[q]at e
   exact ih (λ p hp=>h p (aw _ hp)) id t e
noncomputable def DfIn (K:ab)(n:Str)(st:Stmt):Prop:=∃(f:Addr) (od an:Option Addr) (sl:Array (Option Value)) (oc kV dc pm cd ct:Value),cb K aV n=some (some (.ref f)) /\
 K.lookup f=some ⟨oc,od,.func (cH n n (defArgs st) (zU st) (defScope st) .none kV dc pm an cd ct),sl⟩/\eJ K cd n=true/\bZ K (.ref f)=true
noncomputable def BdOk (n:Str)(st:Stmt)(ps:List Str):Prop:=∀(kV doc pm:Value) (an:Option Addr) (cdv ct:Value) (us:List Value),us.length=ps.length->dY (cH n n (defArgs st) (zU st) (defScope st) .none kV doc pm an cdv ct) ⟨us,[]⟩=pure (ps.zip us)
theorem bd0 {Q:List Value->Prop}(h:Q [])(us:List Value)(hl:us.length=0):Q us:=by
 cases us with
 | nil=>exact h
 | cons _ _=>cases hl
theorem bdS {k:Nat}{Q:List Value->Prop}(h:∀ a us,us.length=k->Q (a::us))(us:List Value)(hl:us.length=k+1):Q us:=by
 cases us with
 | nil=>cases hl
 | cons a us=>exact h a us (Nat.succ.inj hl)
theorem bd1 {Q:List Value->Prop}(h:∀ a,Q [a]):∀ us:List Value,us.length=1->Q us:=bdS λ a=>bd0 (h a)
theorem bd2 {Q:List Value->Prop}(h:∀ a b,Q [a,b]):∀ us:List Value,us.length=2->Q us:=bdS λ a=>bd1 (h a)
theorem bd3 {Q:List Value->Prop}(h:∀ a b c,Q [a,b,c]):∀ us:List Value,us.length=3->Q us:=bdS λ a=>bd2 (h a)
theorem bd4 {Q:List Value->Prop}(h:∀ a b c d,Q [a,b,c,d]):∀ us:List Value,us.length=4->Q us:=bdS λ a=>bd3 (h a)
noncomputable def DT (names:List Str)(P:j3)(n:String)(d:kL)(st:Stmt):Prop:=∃ N ps,FnScope N ps (defScope st)/\ps.length=d.ps/\N.length=d.ps+d.vs/\BdOk n st ps/\(mSs ⟨N,defScope st,λ _ _ _=>false⟩ d.body (zU st)=true \/
 ((n:Str)∈names/\∃ tab,mSs ⟨N,defScope st,lkG n (defScope st) N tab⟩ d.body (zU st)=true/\(∀ y∈(defScope st).names,y.2=.cell->(defScope st).names.lookup y.1=some .cell)/\∀ p∈tab,P.lm p.1=some p.2.1/\BindG p.2.2.1))
theorem good_of {names:List Str}{P:j3}{K:ab}{h:Heap}{mg:Str->Option Value}{n:String}{d:kL}{st:Stmt}(X:K.In h)(G:h.Ns aV mg)(hT:∀ x∈names,(be K x).isSome=true)(hD:DfIn K n st)(hd:DT names P n d st):Good (gmOf names P K) (cdsT names K) mg n d:=by
 obtain⟨f,od,an,sl,oc,kV,dc,pm,cd,ct,a,l,c,k⟩:=hD
 obtain⟨N,ps,h1,h2,h3,h4,h5⟩:=hd
 have F:=fun_mk (st:=st) l c k
 have D:DefAt K mg n st ps f _:=⟨F,bT X G a,F.binds h4⟩
 rcases h5 with h5|⟨hn,tab,h5,h6,h7⟩
 ·exact⟨_,_,_,_,_,_,D,h1,h2,h3,h5,lkOk_no⟩
 ·exact⟨_,_,_,_,_,_,D,h1,h2,h3,h5,lkOk_of hn (PySem.W.law_code X G (tab_some (hT _ hn)) (bT X G a) (X _ _ l) rfl) h6 (lt_of h7)⟩
theorem head_of {l:f7}{q:aL}{loose:List Str}{H:PySem.W.Hook}{N:Nat}{d:DefRec}{kwd:List (Str×Expr)}
  (left:PySem.W.LeftO l.row.prog q loose (λ s=>PySem.W.xlAt q [] s&&PySem.W.recOk (PySem.W.RowW.records (jC l.row)) s) H.obs H.val N)
  (hdef:PySem.W.defOf q l.row.name=some (d,kwd)) (hp:l.row.prog.theDef l.row.name=some (d.params,d.body,d.scope)) (hk:PySem.W.kwWritten? d.params.kwonlyargs d.params.kw_defaults=some kwd) (hwr:(!l.row.writes||l.row.records.isEmpty)=true)
  (k1:l.row.wellSaid=true) (ok:(PySem.W.chainsOk q&&PySem.W.opensWell l.row.prog&&(PySem.W.frees l.row.toRowW&&l.row.within.isEmpty))=true) (hb:l.row.prog.bare) (hw:l.row.toRowW.promised)
  (call:jp q loose (PySem.W.XL q []) H.says l.row.toRowW d kwd λ f vs=>i0 f vs):l.row.Holds :=
 PySem.W.holds_open left H.of H.keeps (λ s e=>PySem.W.xl_of s (gz.mp e).1) PySem.W.XL.keeps hdef hp hk (λ s e=>PySem.W.recFacts_of (gz.mp e).2) hwr k1 ok hb hw call
end L2
end
noncomputable section
namespace DV
noncomputable def d_is_whole:Df:=⟨"is_whole",3,0,(.cons (.ret (.and (.bi .isInt (.cons (.var 0) .nil)) (.and (.not (.bi .isBool (.cons (.var 0) .nil))) (.chain .le .le (.var 1) (.var 0) (.var 2))))) .nil)⟩
noncomputable def d_is_tuple_of:Df:=⟨"is_tuple_of",2,0,(.cons (.ret (.and (.bi .isTup (.cons (.var 0) .nil)) (.cmp .eq (.bi .len (.cons (.var 0) .nil)) (.var 1)))) .nil)⟩
noncomputable def d_is_letter:Df:=⟨"is_letter",2,0,(.cons (.ret (.cmp .isin (.var 0) (.slU (.glob "LETTERS") (.var 1)))) .nil)⟩
noncomputable def w_bag:Df:=⟨"_law_bag",2,3,(.cons (.asg (.one 2) (.cst (.int 0))) (.cons (.ite (.cmp .lt (.var 1) (.bi .len (.cons (.var 0) .nil))) (.cons (.asg (.one 2) (.bi .abs (.cons (.ix (.var 0) (.var 1)) .nil))) .nil) .nil) (.cons (.asg (.one 3) (.bin .add (.bin .mul (.cst (.int 7919)) (.var 1)) (.cst (.int 17)))) (.cons (.for_ (.one 4) (.rng1 (.bi .min2 (.cons (.bi .len (.cons (.var 0) .nil)) (.cons (.cst (.int 60)) .nil)))) (.cons (.asg (.one 3) (.bin .mod (.bin .add (.bin .add (.bin .mul (.var 3) (.cst (.int 48271))) (.bin .mod (.ix (.var 0) (.var 4)) (.cst (.int 2147483647)))) (.var 4)) (.cst (.int 2147483629)))) .nil)) (.cons (.ite (.cmp .lt (.var 2) (.bin .pow (.cst (.int 10)) (.cst (.int 18)))) (.cons (.asg (.one 2) (.cst (.int 0))) .nil) .nil) (.cons (.ret (.lst (.cons (.var 2) (.cons (.var 3) .nil)))) .nil))))))⟩
noncomputable def w_take:Df:=⟨"_law_take",2,3,(.cons (.ite (.cmp .gt (.ix (.var 0) (.cst (.int 0))) (.cst (.int 0))) (.cons (.asg (.one 2) (.bin .mod (.ix (.var 0) (.cst (.int 0))) (.var 1))) (.cons (.setIx (.var 0) (.cst (.int 0)) (.bin .fdiv (.ix (.var 0) (.cst (.int 0))) (.var 1))) (.cons (.ret (.var 2)) .nil))) .nil) (.cons (.asg (.one 3) (.cst (.int 0))) (.cons (.asg (.one 4) (.cst (.int 1))) (.cons (.whl (.cmp .lt (.var 4) (.var 1)) (.cons (.setIx (.var 0) (.cst (.int 1)) (.bin .mod (.bin .add (.bin .mul (.ix (.var 0) (.cst (.int 1))) (.cst (.int 48271))) (.cst (.int 7919))) (.cst (.int 2147483647)))) (.cons (.asg (.one 3) (.bin .add (.bin .mul (.var 3) (.cst (.int 1073741789))) (.bin .mod (.bin .mul (.bin .fdiv (.ix (.var 0) (.cst (.int 1))) (.cst (.int 8))) (.cst (.int 69621))) (.cst (.int 1073741789))))) (.cons (.asg (.one 4) (.bin .mul (.var 4) (.cst (.int 1073741789)))) .nil)))) (.cons (.ret (.bin .mod (.var 3) (.var 1))) .nil)))))⟩
noncomputable def w_rooms:Df:=⟨"_law_rooms",2,1,(.cons (.asg (.one 2) (.call "_law_take" (.ex (.var 0) (.ex (.bin .shl (.cst (.int 1)) (.var 1)) .nil)))) (.cons (.ret (.mk .tuple (.compIf (.one 0) (.rng1 (.var 1)) (.cmp .eq (.bin .mod (.bin .fdiv (.var 1) (.bin .shl (.cst (.int 1)) (.var 0))) (.cst (.int 2))) (.cst (.int 1))) (.var 0) [none,some 2]))) .nil))⟩
noncomputable def w_machine:Df:=⟨"_law_machine",1,5,(.cons (.asg (.one 1) (.bin .add (.cst (.int 1)) (.call "_law_take" (.ex (.var 0) (.ex (.cst (.int 3)) .nil))))) (.cons (.asg (.one 2) (.bin .add (.cst (.int 1)) (.call "_law_take" (.ex (.var 0) (.ex (.cst (.int 5)) .nil))))) (.cons (.asg (.one 3) (.call "_law_take" (.ex (.var 0) (.ex (.cst (.int 13)) .nil)))) (.cons (.ite (.cmp .eq (.call "_law_take" (.ex (.var 0) (.ex (.cst (.int 8)) .nil))) (.cst (.int 7))) (.cons (.asg (.one 3) (.call "_law_take" (.ex (.var 0) (.ex (.cst (.int 76)) .nil)))) .nil) .nil) (.cons (.asg (.one 4) (.lst .nil)) (.cons (.for_ (.one 5) (.rng1 (.var 3)) (.cons (.ex (.meth .append (.var 4) (.cons (.tup (.cons (.call "_law_take" (.ex (.var 0) (.ex (.var 2) .nil))) (.cons (.ix (.cst (.str [97,98,99])) (.call "_law_take" (.ex (.var 0) (.ex (.var 1) .nil)))) (.cons (.call "_law_take" (.ex (.var 0) (.ex (.var 2) .nil))) (.cons (.call "_law_take" (.ex (.var 0) (.ex (.cst (.int 4)) .nil))) .nil))))) .nil))) .nil)) (.cons (.ret (.tup (.cons (.var 1) (.cons (.var 2) (.cons (.call "_law_rooms" (.ex (.var 0) (.ex (.var 2) .nil))) (.cons (.call "_law_rooms" (.ex (.var 0) (.ex (.var 2) .nil))) (.cons (.mk .tuple (.seq (.var 4))) .nil))))))) .nil)))))))⟩
noncomputable def d_letters_of:Df:=⟨"letters_of",1,0,(.cons (.ret (.slU (.glob "LETTERS") (.ix (.var 0) (.cst (.int 0))))) .nil)⟩
noncomputable def w_word:Df:=⟨"_law_word",3,2,(.cons (.asg (.one 3) (.cst (.str []))) (.cons (.for_ (.one 4) (.rng1 (.call "_law_take" (.ex (.var 0) (.ex (.bin .add (.var 2) (.cst (.int 1))) .nil)))) (.cons (.asg (.one 3) (.bin .add (.var 3) (.ix (.cst (.str [97,98,99])) (.call "_law_take" (.ex (.var 0) (.ex (.var 1) .nil)))))) .nil)) (.cons (.ret (.var 3)) .nil)))⟩
noncomputable def d_rooms_of:Df:=⟨"rooms_of",1,0,(.cons (.ret (.ix (.var 0) (.cst (.int 1)))) .nil)⟩
noncomputable def ji:Df:=⟨"begins_of",1,0,(.cons (.ret (.ix (.var 0) (.cst (.int 2)))) .nil)⟩
noncomputable def d_ends_of:Df:=⟨"ends_of",1,0,(.cons (.ret (.ix (.var 0) (.cst (.int 3)))) .nil)⟩
noncomputable def d_doors_of:Df:=⟨"doors_of",1,0,(.cons (.ret (.ix (.var 0) (.cst (.int 4)))) .nil)⟩
noncomputable def d_grid:Df:=⟨"grid",2,2,(.cons (.asg (.one 2) (.lst .nil)) (.cons (.for_ (.one 3) (.rng1 (.var 0)) (.cons (.ex (.meth .append (.var 2) (.cons (.mk .tuple (.comp (.one 0) (.rng1 (.var 0)) (.callV 1 (.cons (.var 2) (.cons (.var 0) .nil))) [none,some 1,some 3])) .nil))) .nil)) (.cons (.ret (.mk .tuple (.seq (.var 2)))) .nil)))⟩
noncomputable def d_least:Df:=⟨"least",1,0,(.cons (.ret (.mkD .min (.compIf (.one 0) (.seq (.var 0)) (.notN (.var 0)) (.var 0) [none]) (.cst .non))) .nil)⟩
noncomputable def d_added:Df:=⟨"added",2,0,(.cons (.ite (.or (.isN (.var 0)) (.isN (.var 1))) (.cons (.ret (.cst .non)) .nil) .nil) (.cons (.ret (.bin .add (.var 0) (.var 1))) .nil))⟩
noncomputable def d_plain:Df:=⟨"plain",1,0,(.cons (.ret (.callC "grid" (.ex (.var 0) (.lam "plain.0" [] .nil)))) .nil)⟩
noncomputable def d_plain_l0:Lm:=⟨"plain.0",2,0,(.ite (.cmp .eq (.var 0) (.var 1)) (.cst (.int 0)) (.cst .non))⟩
noncomputable def d_product:Df:=⟨"product",2,1,(.cons (.asg (.one 2) (.bi .len (.cons (.var 0) .nil))) (.cons (.ret (.callC "grid" (.ex (.var 2) (.lam "product.0" [2,0,1] .nil)))) .nil))⟩
noncomputable def d_product_l0:Lm:=⟨"product.0",2,3,(.call "least" (.ex (.mk .list (.comp (.one 0) (.rng1 (.var 2)) (.call "added" (.ex (.ix (.ix (.var 1) (.var 2)) (.var 0)) (.ex (.ix (.ix (.var 3) (.var 0)) (.var 4)) .nil))) [none,some 3,some 0,some 4,some 1])) .nil))⟩
noncomputable def w_same_2:Df:=⟨"_law_same",2,2,(.cons (.ite (.or (.not (.bi .isTup (.cons (.var 0) .nil))) (.cmp .ne (.bi .len (.cons (.var 0) .nil)) (.bi .len (.cons (.var 1) .nil)))) (.cons (.ret (.cst (.bl false))) .nil) .nil) (.cons (.for_ (.one 2) (.rng1 (.bi .len (.cons (.var 1) .nil))) (.cons (.ite (.or (.not (.bi .isTup (.cons (.ix (.var 0) (.var 2)) .nil))) (.cmp .ne (.bi .len (.cons (.ix (.var 0) (.var 2)) .nil)) (.bi .len (.cons (.var 1) .nil)))) (.cons (.ret (.cst (.bl false))) .nil) .nil) (.cons (.for_ (.one 3) (.seq (.ix (.var 0) (.var 2))) (.cons (.ite (.and (.notN (.var 3)) (.or (.not (.bi .isInt (.cons (.var 3) .nil))) (.bi .isBool (.cons (.var 3) .nil)))) (.cons (.ret (.cst (.bl false))) .nil) .nil) .nil)) .nil))) (.cons (.ret (.cmp .eq (.var 0) (.var 1))) .nil)))⟩
noncomputable def d_raised:Df:=⟨"raised",4,3,(.cons (.asg (.one 4) (.var 2)) (.cons (.asg (.one 5) (.var 0)) (.cons (.asg (.one 6) (.var 1)) (.cons (.whl (.cmp .gt (.var 6) (.cst (.int 0))) (.cons (.ite (.cmp .eq (.bin .mod (.var 6) (.cst (.int 2))) (.cst (.int 1))) (.cons (.asg (.one 4) (.callV 3 (.cons (.var 4) (.cons (.var 5) .nil)))) .nil) .nil) (.cons (.asg (.one 6) (.bin .fdiv (.var 6) (.cst (.int 2)))) (.cons (.ite (.cmp .gt (.var 6) (.cst (.int 0))) (.cons (.asg (.one 5) (.callV 3 (.cons (.var 5) (.cons (.var 5) .nil)))) .nil) .nil) .nil)))) (.cons (.ret (.var 4)) .nil)))))⟩
noncomputable def d_letter_table:Df:=⟨"letter_table",2,1,(.cons (.und 2) (.cons (.ret (.callC "grid" (.ex (.call "rooms_of" (.ex (.var 0) .nil)) (.lam "letter_table.least_fee" [0,1] .nil)))) .nil))⟩
noncomputable def d_letter_table_l0:Lm:=⟨"letter_table.least_fee",2,2,(.call "least" (.ex (.mk .list (.compIf (.tup [0,1,2,3]) (.seq (.call "doors_of" (.ex (.var 2) .nil))) (.cmp .eq (.tup (.cons (.var 0) (.cons (.var 1) (.cons (.var 2) .nil)))) (.tup (.cons (.var 4) (.cons (.var 5) (.cons (.var 6) .nil))))) (.var 3) [none,none,none,none,some 0,some 3,some 1])) .nil))⟩
noncomputable def d_word_table:Df:=⟨"word_table",2,3,(.cons (.asg (.one 2) (.dic .nil .nil)) (.cons (.asg (.one 3) (.call "plain" (.ex (.call "rooms_of" (.ex (.var 0) .nil)) .nil))) (.cons (.for_ (.one 4) (.seq (.var 1)) (.cons (.ite (.cmp .notin (.var 4) (.var 2)) (.cons (.setIx (.var 2) (.var 4) (.call "letter_table" (.ex (.var 0) (.ex (.var 4) .nil)))) .nil) .nil) (.cons (.asg (.one 3) (.call "product" (.ex (.var 3) (.ex (.ix (.var 2) (.var 4)) .nil)))) .nil))) (.cons (.ret (.var 3)) .nil))))⟩
noncomputable def w_from_room:Df:=⟨"_law_from_room",3,7,(.cons (.asg (.one 3) (.mk .list (.comp (.one 0) (.rng1 (.ix (.var 0) (.cst (.int 1)))) (.cst .non) [none]))) (.cons (.setIx (.var 3) (.var 2) (.cst (.int 0))) (.cons (.for_ (.one 4) (.seq (.var 1)) (.cons (.asg (.one 5) (.mk .list (.comp (.one 0) (.seq (.var 3)) (.cst .non) [none]))) (.cons (.for_ (.tup [6,7,8,9]) (.seq (.ix (.var 0) (.cst (.int 4)))) (.cons (.ite (.and (.cmp .eq (.var 7) (.var 4)) (.notN (.ix (.var 3) (.var 6)))) (.cons (.ite (.or (.isN (.ix (.var 5) (.var 8))) (.cmp .lt (.bin .add (.ix (.var 3) (.var 6)) (.var 9)) (.ix (.var 5) (.var 8)))) (.cons (.setIx (.var 5) (.var 8) (.bin .add (.ix (.var 3) (.var 6)) (.var 9))) .nil) .nil) .nil) .nil) .nil)) (.cons (.asg (.one 3) (.var 5)) .nil)))) (.cons (.ret (.mk .tuple (.seq (.var 3)))) .nil))))⟩
noncomputable def w_law_k10:Df:=⟨"law",1,7,(.cons (.for_ (.one 1) (.rng1 (.bin .add (.bi .min2 (.cons (.bi .len (.cons (.var 0) .nil)) (.cons (.cst (.int 3)) .nil))) (.cst (.int 1)))) (.cons (.asg (.one 2) (.call "_law_bag" (.ex (.var 0) (.ex (.var 1) .nil)))) (.cons (.asg (.one 3) (.call "_law_machine" (.ex (.var 2) .nil))) (.cons (.asg (.one 4) (.call "_law_word" (.ex (.var 2) (.ex (.ix (.var 3) (.cst (.int 0))) (.ex (.ix (.lst (.cons (.cst (.int 10)) (.cons (.cst (.int 10)) (.cons (.cst (.int 10)) (.cons (.ix (.lst (.cons (.cst (.int 30)) (.cons (.cst (.int 200)) .nil))) (.bi .int (.cons (.cmp .eq (.var 1) (.cst (.int 0))) .nil))) .nil))))) (.call "_law_take" (.ex (.var 2) (.ex (.cst (.int 4)) .nil)))) .nil))))) (.cons (.asg (.one 5) (.lst (.cons (.var 4) (.cons (.cst (.str [])) (.cons (.rev (.var 4)) (.cons (.var 4) .nil)))))) (.cons (.ite (.cmp .gt (.bi .len (.cons (.var 4) .nil)) (.cst (.int 60))) (.cons (.asg (.one 5) (.lst (.cons (.var 4) .nil))) .nil) .nil) (.cons (.for_ (.one 6) (.seq (.var 5)) (.cons (.asg (.one 7) (.mk .tuple (.comp (.one 0) (.rng1 (.ix (.var 3) (.cst (.int 1)))) (.call "_law_from_room" (.ex (.var 1) (.ex (.var 2) (.ex (.var 0) .nil)))) [none,some 3,some 6]))) (.cons (.ite (.not (.call "_law_same" (.ex (.call "word_table" (.ex (.var 3) (.ex (.var 6) .nil))) (.ex (.var 7) .nil)))) (.cons (.ret (.cst (.bl false))) .nil) .nil) .nil))) .nil))))))) (.cons (.ret (.cst (.bl true))) .nil))⟩
noncomputable def zP:Df:=⟨"at_begins_and_ends",2,2,(.cons (.asg (.one 2) (.lst .nil)) (.cons (.for_ (.one 3) (.seq (.call "begins_of" (.ex (.var 0) .nil))) (.cons (.ex (.ext (.var 2) (.comp (.one 0) (.seq (.call "ends_of" (.ex (.var 0) .nil))) (.ix (.ix (.var 1) (.var 2)) (.var 0)) [none,some 1,some 3]))) .nil)) (.cons (.ret (.var 2)) .nil)))⟩
noncomputable def d_price:Df:=⟨"price",2,0,(.cons (.ret (.call "least" (.ex (.call "at_begins_and_ends" (.ex (.var 0) (.ex (.call "word_table" (.ex (.var 0) (.ex (.var 1) .nil))) .nil))) .nil))) .nil)⟩
noncomputable def d_sign_of:Df:=⟨"sign_of",1,0,(.cons (.ite (.isN (.var 0)) (.cons (.ret (.glob "NONE")) .nil) .nil) (.cons (.ret (.ite (.cmp .eq (.var 0) (.cst (.int 0))) (.glob "FREE") (.glob "SOME"))) .nil))⟩
noncomputable def d_reading:Df:=⟨"reading",1,0,(.cons (.ret (.callC "grid" (.ex (.bi .len (.cons (.var 0) .nil)) (.lam "reading.0" [0] .nil)))) .nil)⟩
noncomputable def d_reading_l0:Lm:=⟨"reading.0",2,1,(.call "sign_of" (.ex (.ix (.ix (.var 2) (.var 0)) (.var 1)) .nil))⟩
noncomputable def d_plain_signs:Df:=⟨"plain_signs",1,0,(.cons (.ret (.callC "grid" (.ex (.var 0) (.lam "plain_signs.0" [] .nil)))) .nil)⟩
noncomputable def qO:Lm:=⟨"plain_signs.0",2,0,(.ite (.cmp .eq (.var 0) (.var 1)) (.glob "FREE") (.glob "NONE"))⟩
noncomputable def w_box:Df:=⟨"_law_box",2,4,(.cons (.asg (.one 2) (.cst (.int 0))) (.cons (.ite (.cmp .lt (.var 1) (.bi .len (.cons (.var 0) .nil))) (.cons (.asg (.one 2) (.bi .abs (.cons (.ix (.var 0) (.var 1)) .nil))) .nil) .nil) (.cons (.ite (.cmp .ge (.var 2) (.bin .pow (.cst (.int 10)) (.cst (.int 18)))) (.cons (.ret (.lst (.cons (.var 2) .nil))) .nil) .nil) (.cons (.asg (.one 3) (.cst (.int 0))) (.cons (.for_ (.one 4) (.rng1 (.cst (.int 128))) (.cons (.asg (.one 5) (.bin .mod (.bin .mul (.bin .add (.bin .add (.bin .add (.bin .mod (.var 2) (.cst (.int 2147483647))) (.bin .mul (.cst (.int 7919)) (.var 1))) (.bin .mul (.cst (.int 104729)) (.var 4))) (.cst (.int 97))) (.cst (.int 48271))) (.cst (.int 2147483647)))) (.cons (.asg (.one 3) (.bin .add (.bin .mul (.var 3) (.cst (.int 2147483647))) (.bin .mod (.bin .add (.bin .add (.bin .mul (.var 5) (.var 5)) (.bin .mul (.cst (.int 31)) (.var 4))) (.bin .fdiv (.var 2) (.cst (.int 2147483647)))) (.cst (.int 2147483647))))) .nil))) (.cons (.ret (.lst (.cons (.var 3) .nil))) .nil))))))⟩
noncomputable def w_draw:Df:=⟨"_law_draw",2,1,(.cons (.asg (.one 2) (.bin .mod (.ix (.var 0) (.cst (.int 0))) (.var 1))) (.cons (.setIx (.var 0) (.cst (.int 0)) (.bin .fdiv (.ix (.var 0) (.cst (.int 0))) (.var 1))) (.cons (.ret (.var 2)) .nil)))⟩
noncomputable def w_form:Df:=⟨"_law_form",2,2,(.cons (.ite (.or (.not (.bi .isTup (.cons (.var 0) .nil))) (.cmp .ne (.bi .len (.cons (.var 0) .nil)) (.var 1))) (.cons (.ret (.cst (.bl false))) .nil) .nil) (.cons (.for_ (.one 2) (.seq (.var 0)) (.cons (.ite (.or (.not (.bi .isTup (.cons (.var 2) .nil))) (.cmp .ne (.bi .len (.cons (.var 2) .nil)) (.var 1))) (.cons (.ret (.cst (.bl false))) .nil) .nil) (.cons (.for_ (.one 3) (.seq (.var 2)) (.cons (.ite (.or (.not (.bi .isInt (.cons (.var 3) .nil))) (.bi .isBool (.cons (.var 3) .nil))) (.cons (.ret (.cst (.bl false))) .nil) .nil) .nil)) .nil))) (.cons (.ret (.cst (.bl true))) .nil)))⟩
noncomputable def d_sign_product:Df:=⟨"sign_product",2,1,(.cons (.asg (.one 2) (.bi .len (.cons (.var 0) .nil))) (.cons (.ret (.callC "grid" (.ex (.var 2) (.lam "sign_product.0" [2,0,1] .nil)))) .nil))⟩
noncomputable def d_sign_product_l0:Lm:=⟨"sign_product.0",2,3,(.mk .min (.comp (.one 0) (.rng1 (.var 2)) (.bi .max2 (.cons (.ix (.ix (.var 1) (.var 2)) (.var 0)) (.cons (.ix (.ix (.var 3) (.var 0)) (.var 4)) .nil))) [none,some 3,some 0,some 4,some 1]))⟩
noncomputable def w_signs:Df:=⟨"_law_signs",2,6,(.cons (.asg (.one 2) (.call "_law_draw" (.ex (.var 0) (.ex (.cst (.int 4)) .nil)))) (.cons (.asg (.one 3) (.lst .nil)) (.cons (.for_ (.one 4) (.rng1 (.var 1)) (.cons (.asg (.one 5) (.lst .nil)) (.cons (.for_ (.one 6) (.rng1 (.var 1)) (.cons (.asg (.one 7) (.call "_law_draw" (.ex (.var 0) (.ex (.cst (.int 4)) .nil)))) (.cons (.ite (.or (.and (.cmp .eq (.var 2) (.cst (.int 1))) (.cmp .gt (.call "_law_draw" (.ex (.var 0) (.ex (.cst (.int 3)) .nil))) (.cst (.int 0)))) (.and (.cmp .eq (.var 2) (.cst (.int 2))) (.cmp .gt (.var 4) (.var 6)))) (.cons (.asg (.one 7) (.cst (.int 3))) .nil) .nil) (.cons (.ite (.and (.cmp .eq (.var 2) (.cst (.int 3))) (.and (.cmp .ne (.var 6) (.bin .mod (.bin .add (.var 4) (.cst (.int 1))) (.var 1))) (.cmp .gt (.call "_law_draw" (.ex (.var 0) (.ex (.cst (.int 4)) .nil))) (.cst (.int 0))))) (.cons (.asg (.one 7) (.cst (.int 3))) .nil) .nil) (.cons (.ex (.meth .append (.var 5) (.cons (.var 7) .nil))) .nil))))) (.cons (.ex (.meth .append (.var 3) (.cons (.mk .tuple (.seq (.var 5))) .nil))) .nil)))) (.cons (.ret (.mk .tuple (.seq (.var 3)))) .nil))))⟩
noncomputable def w_product_2:Df:=⟨"_law_product",2,4,(.cons (.asg (.one 2) (.lst .nil)) (.cons (.for_ (.one 3) (.seq (.var 0)) (.cons (.asg (.one 4) (.mk .list (.comp (.one 0) (.seq (.var 3)) (.cst (.int 3)) [none]))) (.cons (.for_ (.one 5) (.rng1 (.bi .len (.cons (.var 3) .nil))) (.cons (.ite (.cmp .lt (.ix (.var 3) (.var 5)) (.cst (.int 3))) (.cons (.asg (.one 4) (.mk .list (.comp (.one 0) (.rng1 (.bi .len (.cons (.var 3) .nil))) (.bi .min2 (.cons (.ix (.var 1) (.var 0)) (.cons (.bi .max2 (.cons (.ix (.var 2) (.var 3)) (.cons (.ix (.ix (.var 4) (.var 3)) (.var 0)) .nil))) .nil))) [none,some 4,some 3,some 5,some 1]))) .nil) .nil) .nil)) (.cons (.ex (.meth .append (.var 2) (.cons (.mk .tuple (.seq (.var 4))) .nil))) .nil)))) (.cons (.ret (.mk .tuple (.seq (.var 2)))) .nil)))⟩
noncomputable def d_sign_power:Df:=⟨"sign_power",2,0,(.cons (.ret (.call "raised" (.ex (.var 0) (.ex (.var 1) (.ex (.call "plain_signs" (.ex (.bi .len (.cons (.var 0) .nil)) .nil)) (.ex (.glob "sign_product") .nil)))))) .nil)⟩
noncomputable def w_unit:Df:=⟨"_law_unit",1,0,(.cons (.ret (.mk .tuple (.comp (.one 0) (.rng1 (.var 0)) (.mk .tuple (.comp (.one 0) (.rng1 (.var 1)) (.bin .mul (.cst (.int 3)) (.bi .int (.cons (.cmp .ne (.var 1) (.var 0)) .nil))) [none,some 0])) [none,some 0]))) .nil)⟩
noncomputable def w_round:Df:=⟨"_law_round",1,2,(.cons (.asg (.one 1) (.lst (.cons (.call "_law_unit" (.ex (.bi .len (.cons (.var 0) .nil)) .nil)) .nil))) (.cons (.whl (.cst (.bl true)) (.cons (.asg (.one 2) (.call "_law_product" (.ex (.ix (.var 1) (.neg (.cst (.int 1)))) (.ex (.var 0) .nil)))) (.cons (.ite (.cmp .isin (.var 2) (.var 1)) (.cons (.ret (.tup (.cons (.var 1) (.cons (.meth .index (.var 1) (.cons (.var 2) .nil)) .nil)))) .nil) .nil) (.cons (.ex (.meth .append (.var 1) (.cons (.var 2) .nil))) .nil)))) .nil))⟩
noncomputable def w_due_2:Df:=⟨"_law_due",3,0,(.cons (.ite (.cmp .lt (.var 2) (.bi .len (.cons (.var 0) .nil))) (.cons (.ret (.ix (.var 0) (.var 2))) .nil) .nil) (.cons (.ret (.ix (.var 0) (.bin .add (.var 1) (.bin .mod (.bin .sub (.var 2) (.var 1)) (.bin .sub (.bi .len (.cons (.var 0) .nil)) (.var 1)))))) .nil))⟩
noncomputable def w_law_k22:Df:=⟨"law",1,9,(.cons (.for_ (.one 1) (.rng1 (.bin .add (.bi .min2 (.cons (.cst (.int 8)) (.cons (.bi .len (.cons (.var 0) .nil)) .nil))) (.cst (.int 1)))) (.cons (.asg (.one 2) (.call "_law_box" (.ex (.var 0) (.ex (.var 1) .nil)))) (.cons (.asg (.one 3) (.bin .add (.cst (.int 1)) (.call "_law_draw" (.ex (.var 2) (.ex (.cst (.int 5)) .nil))))) (.cons (.asg (.one 4) (.call "_law_signs" (.ex (.var 2) (.ex (.var 3) .nil)))) (.cons (.asg (.tup [5,6]) (.call "_law_round" (.ex (.var 4) .nil))) (.cons (.asg (.one 7) (.bin .mul (.call "_law_draw" (.ex (.var 2) (.ex (.bin .pow (.cst (.int 10)) (.cst (.int 30))) .nil))) (.bin .pow (.cst (.int 10)) (.cst (.int 29))))) (.cons (.ite (.cmp .gt (.var 1) (.cst (.int 0))) (.cons (.asg (.one 7) (.cst (.int 0))) .nil) .nil) (.cons (.for_ (.one 8) (.seq (.lst (.cons (.cst (.int 0)) (.cons (.cst (.int 1)) (.cons (.bin .add (.cst (.int 2)) (.call "_law_draw" (.ex (.var 2) (.ex (.cst (.int 30)) .nil)))) (.cons (.call "_law_draw" (.ex (.var 2) (.ex (.cst (.int 1000)) .nil))) (.cons (.bin .add (.var 7) (.call "_law_draw" (.ex (.var 2) (.ex (.cst (.int 1000)) .nil)))) .nil))))))) (.cons (.asg (.one 9) (.call "sign_power" (.ex (.var 4) (.ex (.var 8) .nil)))) (.cons (.ite (.or (.not (.call "_law_form" (.ex (.var 9) (.ex (.var 3) .nil)))) (.cmp .ne (.var 9) (.call "_law_due" (.ex (.var 5) (.ex (.var 6) (.ex (.var 8) .nil)))))) (.cons (.ret (.cst (.bl false))) .nil) .nil) (.cons (.ite (.cmp .ne (.call "sign_product" (.ex (.var 9) (.ex (.call "sign_power" (.ex (.var 4) (.ex (.cst (.int 7)) .nil))) .nil))) (.call "_law_due" (.ex (.var 5) (.ex (.var 6) (.ex (.bin .add (.var 8) (.cst (.int 7))) .nil))))) (.cons (.ret (.cst (.bl false))) .nil) .nil) .nil)))) .nil)))))))) (.cons (.ret (.cst (.bl true))) .nil))⟩
noncomputable def d_is_steady:Df:=⟨"is_steady",1,0,(.cons (.ret (.cmp .eq (.call "sign_product" (.ex (.var 0) (.ex (.var 0) .nil))) (.var 0))) .nil)⟩
noncomputable def d_round_of:Df:=⟨"round_of",1,0,(.cons (.ite (.or (.cmp .eq (.var 0) (.glob "FREE")) (.cmp .eq (.var 0) (.glob "NONE"))) (.cons (.ret (.var 0)) .nil) .nil) (.cons (.ret (.glob "UNBOUND")) .nil))⟩
noncomputable def d_sharpened:Df:=⟨"sharpened",1,2,(.cons (.ite (.not (.call "is_steady" (.ex (.var 0) .nil))) (.cons .raise .nil) .nil) (.cons (.asg (.one 1) (.bi .len (.cons (.var 0) .nil))) (.cons (.asg (.one 2) (.mk .list (.comp (.one 0) (.rng1 (.var 1)) (.call "round_of" (.ex (.ix (.ix (.var 1) (.var 0)) (.var 0)) .nil)) [none,some 0]))) (.cons (.ret (.callC "grid" (.ex (.var 1) (.lam "sharpened.0" [1,0,2] .nil)))) .nil))))⟩
noncomputable def d_sharpened_l0:Lm:=⟨"sharpened.0",2,3,(.mk .min (.comp (.one 0) (.rng1 (.var 2)) (.bi .max3 (.cons (.ix (.ix (.var 1) (.var 2)) (.var 0)) (.cons (.ix (.var 3) (.var 0)) (.cons (.ix (.ix (.var 1) (.var 0)) (.var 4)) .nil)))) [none,some 3,some 0,some 4,some 1]))⟩
noncomputable def jc:Df:=⟨"steady_power",1,2,(.cons (.asg (.one 1) (.cst (.int 1))) (.cons (.asg (.one 2) (.var 0)) (.cons (.whl (.not (.call "is_steady" (.ex (.var 2) .nil))) (.cons (.aug 1 (.cst (.int 1))) (.cons (.asg (.one 2) (.call "sign_product" (.ex (.var 2) (.ex (.var 0) .nil)))) .nil))) (.cons (.ret (.tup (.cons (.var 1) (.cons (.var 2) .nil)))) .nil))))⟩
noncomputable def w_goes_with:Df:=⟨"_law_goes_with",2,4,(.cons (.for_ (.tup [2,3]) (.zip (.seq (.var 0)) (.seq (.var 1))) (.cons (.for_ (.tup [4,5]) (.zip (.seq (.var 2)) (.seq (.var 3))) (.cons (.ite (.or (.cmp .lt (.var 5) (.var 4)) (.or (.cmp .ne (.cmp .eq (.var 5) (.cst (.int 0))) (.cmp .eq (.var 4) (.cst (.int 0)))) (.cmp .ne (.cmp .eq (.var 5) (.cst (.int 3))) (.cmp .eq (.var 4) (.cst (.int 3)))))) (.cons (.ret (.cst (.bl false))) .nil) .nil) .nil)) .nil)) (.cons (.ret (.cmp .eq (.bi .len (.cons (.var 0) .nil)) (.bi .len (.cons (.var 1) .nil)))) .nil))⟩
noncomputable def w_right:Df:=⟨"_law_right",1,3,(.cons (.asg (.tup [1,2]) (.call "steady_power" (.ex (.var 0) .nil))) (.cons (.asg (.one 3) (.call "sharpened" (.ex (.var 2) .nil))) (.cons (.ite (.or (.notB (.call "is_steady" (.ex (.var 3) .nil)) true) (.cmp .ne (.call "sharpened" (.ex (.var 3) .nil)) (.var 3))) (.cons (.ret (.cst (.bl false))) .nil) .nil) (.cons (.ite (.or (.cmp .ne (.call "sign_product" (.ex (.var 3) (.ex (.var 2) .nil))) (.var 3)) (.cmp .ne (.call "sign_product" (.ex (.var 2) (.ex (.var 3) .nil))) (.var 3))) (.cons (.ret (.cst (.bl false))) .nil) .nil) (.cons (.ret (.call "_law_goes_with" (.ex (.var 2) (.ex (.var 3) .nil)))) .nil)))))⟩
noncomputable def w_law_k25:Df:=⟨"law",1,7,(.cons (.for_ (.one 1) (.rng1 (.bin .add (.bi .min2 (.cons (.cst (.int 12)) (.cons (.bi .len (.cons (.var 0) .nil)) .nil))) (.cst (.int 1)))) (.cons (.asg (.one 2) (.call "_law_box" (.ex (.var 0) (.ex (.var 1) .nil)))) (.cons (.asg (.one 3) (.bin .add (.cst (.int 1)) (.call "_law_draw" (.ex (.var 2) (.ex (.cst (.int 5)) .nil))))) (.cons (.asg (.one 4) (.call "_law_signs" (.ex (.var 2) (.ex (.var 3) .nil)))) (.cons (.asg (.one 5) (.call "_law_signs" (.ex (.var 2) (.ex (.var 3) .nil)))) (.cons (.asg (.one 6) (.call "sign_product" (.ex (.call "sharpened" (.ex (.ix (.call "steady_power" (.ex (.var 4) .nil)) (.cst (.int 1))) .nil)) (.ex (.var 5) .nil)))) (.cons (.for_ (.one 7) (.seq (.lst (.cons (.var 4) (.cons (.call "sign_product" (.ex (.var 4) (.ex (.var 5) .nil))) (.cons (.call "sign_product" (.ex (.var 5) (.ex (.var 4) .nil))) (.cons (.var 6) .nil)))))) (.cons (.ite (.not (.call "_law_right" (.ex (.var 7) .nil))) (.cons (.ret (.cst (.bl false))) .nil) .nil) .nil)) .nil))))))) (.cons (.ret (.cst (.bl true))) .nil))⟩
noncomputable def d_word_signs:Df:=⟨"word_signs",2,0,(.cons (.ret (.call "reading" (.ex (.call "word_table" (.ex (.var 0) (.ex (.var 1) .nil))) .nil))) .nil)⟩
noncomputable def d_end_sign:Df:=⟨"end_sign",2,0,(.cons (.ret (.mkDs .min (.call "at_begins_and_ends" (.ex (.var 0) (.ex (.var 1) .nil))) (.glob "NONE"))) .nil)⟩
noncomputable def w_machine_3:Df:=⟨"_law_machine",1,12,(.cons (.asg (.one 1) (.bin .add (.cst (.int 1)) (.call "_law_draw" (.ex (.var 0) (.ex (.cst (.int 3)) .nil))))) (.cons (.asg (.one 2) (.bin .add (.cst (.int 1)) (.call "_law_draw" (.ex (.var 0) (.ex (.cst (.int 5)) .nil))))) (.cons (.asg (.one 3) (.call "_law_draw" (.ex (.var 0) (.ex (.bin .add (.bin .mul (.cst (.int 3)) (.var 2)) (.cst (.int 2))) .nil)))) (.cons (.ite (.cmp .eq (.call "_law_draw" (.ex (.var 0) (.ex (.cst (.int 8)) .nil))) (.cst (.int 5))) (.cons (.asg (.one 3) (.call "_law_draw" (.ex (.var 0) (.ex (.cst (.int 76)) .nil)))) .nil) .nil) (.cons (.asg (.one 4) (.ix (.lst (.cons (.cst (.int 2)) (.cons (.cst (.int 2)) (.cons (.cst (.int 4)) (.cons (.cst (.int 1)) .nil))))) (.call "_law_draw" (.ex (.var 0) (.ex (.cst (.int 4)) .nil))))) (.cons (.asg (.one 5) (.lst .nil)) (.cons (.for_ (.one 6) (.rng1 (.var 3)) (.cons (.asg (.one 7) (.call "_law_draw" (.ex (.var 0) (.ex (.var 2) .nil)))) (.cons (.asg (.one 8) (.call "_law_draw" (.ex (.var 0) (.ex (.var 2) .nil)))) (.cons (.asg (.one 9) (.ix (.cst (.str [97,98,99])) (.call "_law_draw" (.ex (.var 0) (.ex (.var 1) .nil))))) (.cons (.ex (.meth .append (.var 5) (.cons (.tup (.cons (.var 7) (.cons (.var 9) (.cons (.var 8) (.cons (.call "_law_draw" (.ex (.var 0) (.ex (.var 4) .nil))) .nil))))) .nil))) .nil))))) (.cons (.asg (.one 10) (.call "_law_draw" (.ex (.var 0) (.ex (.bin .shl (.cst (.int 1)) (.var 2)) .nil)))) (.cons (.asg (.one 11) (.mk .tuple (.compIf (.one 0) (.rng1 (.var 2)) (.cmp .eq (.bin .mod (.bin .shr (.var 1) (.var 0)) (.cst (.int 2))) (.cst (.int 1))) (.var 0) [none,some 10]))) (.cons (.asg (.one 10) (.call "_law_draw" (.ex (.var 0) (.ex (.bin .shl (.cst (.int 1)) (.var 2)) .nil)))) (.cons (.asg (.one 12) (.mk .tuple (.compIf (.one 0) (.rng1 (.var 2)) (.cmp .eq (.bin .mod (.bin .shr (.var 1) (.var 0)) (.cst (.int 2))) (.cst (.int 1))) (.var 0) [none,some 10]))) (.cons (.ret (.tup (.cons (.var 1) (.cons (.var 2) (.cons (.var 11) (.cons (.var 12) (.cons (.mk .tuple (.seq (.var 5))) .nil))))))) .nil))))))))))))⟩
noncomputable def w_letter_signs:Df:=⟨"_law_letter_signs",2,6,(.cons (.asg (.one 2) (.ix (.var 0) (.cst (.int 1)))) (.cons (.asg (.one 3) (.mk .list (.comp (.one 0) (.rng1 (.var 2)) (.mk .list (.comp (.one 0) (.rng1 (.var 1)) (.cst (.int 3)) [none])) [none,some 2]))) (.cons (.for_ (.tup [4,5,6,7]) (.seq (.ix (.var 0) (.cst (.int 4)))) (.cons (.ite (.cmp .eq (.var 5) (.var 1)) (.cons (.setIx (.ix (.var 3) (.var 4)) (.var 6) (.bi .min2 (.cons (.ix (.ix (.var 3) (.var 4)) (.var 6)) (.cons (.bi .int (.cons (.cmp .gt (.var 7) (.cst (.int 0))) .nil)) .nil)))) .nil) .nil) .nil)) (.cons (.ret (.mk .tuple (.comp (.one 0) (.seq (.var 3)) (.mk .tuple (.seq (.var 0))) [none]))) .nil))))⟩
noncomputable def w_law_k26:Df:=⟨"law",1,11,(.cons (.for_ (.one 1) (.rng1 (.bin .add (.bi .min2 (.cons (.cst (.int 3)) (.cons (.bi .len (.cons (.var 0) .nil)) .nil))) (.cst (.int 1)))) (.cons (.asg (.one 2) (.call "_law_box" (.ex (.var 0) (.ex (.var 1) .nil)))) (.cons (.asg (.one 3) (.call "_law_machine" (.ex (.var 2) .nil))) (.cons (.asg (.one 4) (.call "_law_draw" (.ex (.var 2) (.ex (.cst (.int 61)) .nil)))) (.cons (.ite (.and (.cmp .eq (.call "_law_draw" (.ex (.var 2) (.ex (.cst (.int 8)) .nil))) (.cst (.int 3))) (.cmp .eq (.var 1) (.cst (.int 0)))) (.cons (.asg (.one 4) (.call "_law_draw" (.ex (.var 2) (.ex (.cst (.int 201)) .nil)))) .nil) .nil) (.cons (.asg (.one 5) (.cst (.str []))) (.cons (.asg (.one 6) (.call "_law_unit" (.ex (.ix (.var 3) (.cst (.int 1))) .nil))) (.cons (.asg (.one 7) (.mk .list (.comp (.one 0) (.seq (.slU (.cst (.str [97,98,99])) (.ix (.var 3) (.cst (.int 0))))) (.call "_law_letter_signs" (.ex (.var 1) (.ex (.var 0) .nil))) [none,some 3]))) (.cons (.for_ (.one 8) (.rng1 (.var 4)) (.cons (.asg (.one 9) (.call "_law_draw" (.ex (.var 2) (.ex (.ix (.var 3) (.cst (.int 0))) .nil)))) (.cons (.asg (.one 5) (.bin .add (.var 5) (.ix (.cst (.str [97,98,99])) (.var 9)))) (.cons (.asg (.one 6) (.call "_law_product" (.ex (.var 6) (.ex (.ix (.var 7) (.var 9)) .nil)))) .nil)))) (.cons (.asg (.one 10) (.call "word_signs" (.ex (.var 3) (.ex (.var 5) .nil)))) (.cons (.ite (.or (.not (.call "_law_form" (.ex (.var 10) (.ex (.ix (.var 3) (.cst (.int 1))) .nil)))) (.or (.cmp .ne (.var 10) (.var 6)) (.cmp .ne (.call "reading" (.ex (.call "word_table" (.ex (.var 3) (.ex (.var 5) .nil))) .nil)) (.var 6)))) (.cons (.ret (.cst (.bl false))) .nil) .nil) (.cons (.asg (.one 11) (.call "_law_draw" (.ex (.var 2) (.ex (.bin .add (.var 4) (.cst (.int 1))) .nil)))) (.cons (.ite (.cmp .ne (.call "sign_product" (.ex (.call "word_signs" (.ex (.var 3) (.ex (.slU (.var 5) (.var 11)) .nil))) (.ex (.call "word_signs" (.ex (.var 3) (.ex (.slL (.var 5) (.var 11)) .nil))) .nil))) (.var 6)) (.cons (.ret (.cst (.bl false))) .nil) .nil) (.cons (.ite (.cmp .ne (.call "end_sign" (.ex (.var 3) (.ex (.var 10) .nil))) (.call "sign_of" (.ex (.call "price" (.ex (.var 3) (.ex (.var 5) .nil))) .nil))) (.cons (.ret (.cst (.bl false))) .nil) .nil) .nil)))))))))))))) (.cons (.ret (.cst (.bl true))) .nil))⟩
noncomputable def d_is_ahead:Df:=⟨"is_ahead",2,0,(.cons (.ret (.call "is_whole" (.ex (.var 0) (.ex (.cst (.int 0)) (.ex (.bin .sub (.var 1) (.cst (.int 1))) .nil))))) .nil)⟩
noncomputable def d_is_letter_step:Df:=⟨"is_letter_step",2,0,(.cons (.ret (.and (.call "is_tuple_of" (.ex (.var 0) (.ex (.cst (.int 2)) .nil))) (.and (.cmp .eq (.ix (.var 0) (.cst (.int 0))) (.cst (.str [108,101,116,116,101,114]))) (.call "is_letter" (.ex (.ix (.var 0) (.cst (.int 1))) (.ex (.var 1) .nil)))))) .nil)⟩
noncomputable def d_is_pair_step:Df:=⟨"is_pair_step",2,0,(.cons (.ret (.and (.call "is_tuple_of" (.ex (.var 0) (.ex (.cst (.int 3)) .nil))) (.and (.cmp .eq (.ix (.var 0) (.cst (.int 0))) (.cst (.str [112,97,105,114]))) (.and (.call "is_ahead" (.ex (.ix (.var 0) (.cst (.int 1))) (.ex (.var 1) .nil))) (.call "is_ahead" (.ex (.ix (.var 0) (.cst (.int 2))) (.ex (.var 1) .nil))))))) .nil)⟩
noncomputable def d_is_sharp_step:Df:=⟨"is_sharp_step",2,0,(.cons (.ret (.and (.call "is_tuple_of" (.ex (.var 0) (.ex (.cst (.int 2)) .nil))) (.and (.cmp .eq (.ix (.var 0) (.cst (.int 0))) (.cst (.str [115,104,97,114,112]))) (.call "is_ahead" (.ex (.ix (.var 0) (.cst (.int 1))) (.ex (.var 1) .nil)))))) .nil)⟩
noncomputable def d_signs_made:Df:=⟨"signs_made",2,2,(.cons (.ite (.or (.not (.bi .isTup (.cons (.var 1) .nil))) (.not (.chain .le .le (.cst (.int 1)) (.bi .len (.cons (.var 1) .nil)) (.glob "MOST_STEPS")))) (.cons .raise .nil) .nil) (.cons (.asg (.one 2) (.lst .nil)) (.cons (.for_ (.one 3) (.seq (.var 1)) (.cons (.ex (.meth .append (.var 2) (.cons (.call "signs_of_step" (.ex (.var 0) (.ex (.var 3) (.ex (.var 2) .nil)))) .nil))) .nil)) (.cons (.ret (.var 2)) .nil))))⟩
noncomputable def d_signs_of_step:Df:=⟨"signs_of_step",3,1,(.cons (.asg (.one 3) (.bi .len (.cons (.var 2) .nil))) (.cons (.ite (.call "is_letter_step" (.ex (.var 1) (.ex (.bi .len (.cons (.call "letters_of" (.ex (.var 0) .nil)) .nil)) .nil))) (.cons (.ret (.call "word_signs" (.ex (.var 0) (.ex (.ix (.var 1) (.cst (.int 1))) .nil)))) .nil) .nil) (.cons (.ite (.call "is_pair_step" (.ex (.var 1) (.ex (.var 3) .nil))) (.cons (.ret (.call "sign_product" (.ex (.ix (.var 2) (.ix (.var 1) (.cst (.int 1)))) (.ex (.ix (.var 2) (.ix (.var 1) (.cst (.int 2)))) .nil)))) .nil) .nil) (.cons (.ite (.and (.call "is_sharp_step" (.ex (.var 1) (.ex (.var 3) .nil))) (.call "is_steady" (.ex (.ix (.var 2) (.ix (.var 1) (.cst (.int 1)))) .nil))) (.cons (.ret (.call "sharpened" (.ex (.ix (.var 2) (.ix (.var 1) (.cst (.int 1)))) .nil))) .nil) .nil) (.cons .raise .nil)))))⟩
noncomputable def w_sharp_2:Df:=⟨"_law_sharp",1,8,(.cons (.asg (.one 1) (.bi .len (.cons (.var 0) .nil))) (.cons (.asg (.one 2) (.lst .nil)) (.cons (.for_ (.one 3) (.rng1 (.var 1)) (.cons (.asg (.one 4) (.lst .nil)) (.cons (.for_ (.one 5) (.rng1 (.var 1)) (.cons (.asg (.one 6) (.cst (.int 3))) (.cons (.for_ (.one 7) (.rng1 (.var 1)) (.cons (.asg (.one 8) (.ix (.ix (.var 0) (.var 7)) (.var 7))) (.cons (.ite (.cmp .eq (.var 8) (.cst (.int 1))) (.cons (.asg (.one 8) (.cst (.int 2))) .nil) .nil) (.cons (.asg (.one 6) (.bi .min2 (.cons (.var 6) (.cons (.bi .max3 (.cons (.ix (.ix (.var 0) (.var 3)) (.var 7)) (.cons (.var 8) (.cons (.ix (.ix (.var 0) (.var 7)) (.var 5)) .nil)))) .nil)))) .nil)))) (.cons (.ex (.meth .append (.var 4) (.cons (.var 6) .nil))) .nil)))) (.cons (.ex (.meth .append (.var 2) (.cons (.mk .tuple (.seq (.var 4))) .nil))) .nil)))) (.cons (.ret (.mk .tuple (.seq (.var 2)))) .nil))))⟩
noncomputable def w_makings:Df:=⟨"_law_makings",4,8,(.cons (.asg (.one 4) (.lst .nil)) (.cons (.asg (.one 5) (.lst .nil)) (.cons (.asg (.one 6) (.lst .nil)) (.cons (.for_ (.one 7) (.rng1 (.bin .add (.cst (.int 1)) (.call "_law_draw" (.ex (.var 0) (.ex (.var 2) .nil))))) (.cons (.asg (.one 8) (.call "_law_draw" (.ex (.var 0) (.ex (.cst (.int 6)) .nil)))) (.cons (.asg (.one 9) (.call "_law_draw" (.ex (.var 0) (.ex (.bin .add (.var 7) (.cst (.int 1))) .nil)))) (.cons (.asg (.one 10) (.call "_law_draw" (.ex (.var 0) (.ex (.bin .add (.var 7) (.cst (.int 1))) .nil)))) (.cons (.ite (.and (.cmp .lt (.var 8) (.cst (.int 4))) (.and (.cmp .gt (.var 3) (.cst (.int 0))) (.and (.cmp .ne (.var 6) (.lst .nil)) (.cmp .gt (.var 8) (.cst (.int 0)))))) (.cons (.asg (.one 9) (.ix (.var 6) (.bin .mod (.var 10) (.bi .len (.cons (.var 6) .nil))))) (.cons (.ex (.meth .append (.var 4) (.cons (.tup (.cons (.cst (.str [115,104,97,114,112])) (.cons (.var 9) .nil))) .nil))) (.cons (.ex (.meth .append (.var 5) (.cons (.call "_law_sharp" (.ex (.ix (.var 5) (.var 9)) .nil)) .nil))) (.cons (.asg (.one 3) (.bin .sub (.var 3) (.cst (.int 1)))) .nil)))) (.cons (.ite (.and (.cmp .gt (.var 7) (.cst (.int 0))) (.cmp .lt (.var 8) (.cst (.int 5)))) (.cons (.asg (.one 9) (.bi .min2 (.cons (.var 9) (.cons (.bin .sub (.var 7) (.cst (.int 1))) .nil)))) (.cons (.asg (.one 10) (.ite (.cmp .gt (.var 8) (.cst (.int 1))) (.bi .min2 (.cons (.var 10) (.cons (.bin .sub (.var 7) (.cst (.int 1))) .nil))) (.var 9))) (.cons (.ex (.meth .append (.var 4) (.cons (.tup (.cons (.cst (.str [112,97,105,114])) (.cons (.var 9) (.cons (.var 10) .nil)))) .nil))) (.cons (.ex (.meth .append (.var 5) (.cons (.call "_law_product" (.ex (.ix (.var 5) (.var 9)) (.ex (.ix (.var 5) (.var 10)) .nil))) .nil))) .nil)))) (.cons (.asg (.one 11) (.ix (.cst (.str [97,98,99])) (.bin .mod (.var 9) (.ix (.var 1) (.cst (.int 0)))))) (.cons (.ex (.meth .append (.var 4) (.cons (.tup (.cons (.cst (.str [108,101,116,116,101,114])) (.cons (.var 11) .nil))) .nil))) (.cons (.ex (.meth .append (.var 5) (.cons (.call "_law_letter_signs" (.ex (.var 1) (.ex (.var 11) .nil))) .nil))) .nil)))) .nil)) (.cons (.ite (.cmp .eq (.call "_law_product" (.ex (.ix (.var 5) (.var 7)) (.ex (.ix (.var 5) (.var 7)) .nil))) (.ix (.var 5) (.var 7))) (.cons (.ex (.meth .append (.var 6) (.cons (.var 7) .nil))) .nil) .nil) .nil)))))) (.cons (.ret (.tup (.cons (.mk .tuple (.seq (.var 4))) (.cons (.var 5) .nil)))) .nil)))))⟩
noncomputable def w_law_k29:Df:=⟨"law",1,6,(.cons (.for_ (.one 1) (.rng1 (.bin .add (.bi .min2 (.cons (.cst (.int 6)) (.cons (.bi .len (.cons (.var 0) .nil)) .nil))) (.cst (.int 1)))) (.cons (.asg (.one 2) (.call "_law_box" (.ex (.var 0) (.ex (.var 1) .nil)))) (.cons (.asg (.one 3) (.call "_law_machine" (.ex (.var 2) .nil))) (.cons (.asg (.tup [4,5]) (.call "_law_makings" (.ex (.var 2) (.ex (.var 3) (.ex (.cst (.int 20)) (.ex (.cst (.int 6)) .nil)))))) (.cons (.asg (.one 6) (.call "signs_made" (.ex (.var 3) (.ex (.var 4) .nil)))) (.cons (.ite (.or (.not (.bi .isList (.cons (.var 6) .nil))) (.cmp .ne (.var 6) (.var 5))) (.cons (.ret (.cst (.bl false))) .nil) .nil) (.cons (.ite (.not (.mk .all (.comp (.one 0) (.seq (.var 6)) (.call "_law_form" (.ex (.var 0) (.ex (.ix (.var 1) (.cst (.int 1))) .nil))) [none,some 3]))) (.cons (.ret (.cst (.bl false))) .nil) .nil) (.cons (.ex (.meth .append (.var 6) (.cons (.ix (.var 6) (.cst (.int 0))) .nil))) (.cons (.setIx (.var 6) (.cst (.int 0)) (.cst .non)) (.cons (.ite (.cmp .ne (.call "signs_made" (.ex (.var 3) (.ex (.var 4) .nil))) (.var 5)) (.cons (.ret (.cst (.bl false))) .nil) .nil) .nil)))))))))) (.cons (.ret (.cst (.bl true))) .nil))⟩
noncomputable def w_on:Df:=⟨"_law_on",3,5,(.cons (.asg (.one 3) (.mk .list (.comp (.one 0) (.seq (.var 2)) (.cst .non) [none]))) (.cons (.for_ (.tup [4,5,6,7]) (.seq (.ix (.var 0) (.cst (.int 4)))) (.cons (.ite (.and (.cmp .eq (.var 5) (.var 1)) (.notN (.ix (.var 2) (.var 4)))) (.cons (.ite (.or (.isN (.ix (.var 3) (.var 6))) (.cmp .lt (.bin .add (.ix (.var 2) (.var 4)) (.var 7)) (.ix (.var 3) (.var 6)))) (.cons (.setIx (.var 3) (.var 6) (.bin .add (.ix (.var 2) (.var 4)) (.var 7))) .nil) .nil) .nil) .nil) .nil)) (.cons (.ret (.var 3)) .nil)))⟩
class Has (P:Pr)(d:Df):Prop where
 eq:P.df d.name=some d
class HasL (P:Pr)(d:Lm):Prop where
 eq:P.lm d.id=some d
class HasC (P:Pr)(x:String)(v:D):Prop where
 eq:P.con x=some v
noncomputable def fin (s:Sto)(c:Ct)(s':Sto):R D:=match c with
 | .ret v=>zJ s v s'
 | .next _=>zJ s .non s'
 | _=>.bad
@[simp] theorem qv (s:Sto) (v:D) (s':Sto):fin s (.ret v) s'=zJ s v s':=rfl
@[simp] theorem fin_next (s:Sto) (ρ:Env) (s':Sto):fin s (.next ρ) s'=zJ s .non s':=rfl
theorem zb {P:Pr}(d:Df)[h:Has P d]{n:Nat}{l:List D}{s:Sto}(hl:l.length=d.ps) :
  (callN P (n+1)).call d.name l s=(exs (callN P n) d.body (l.map some++ar d.vs none) s).bind (fin s):=by
 simp only[callN,h.eq,hl,if_true]
 rfl
theorem lam_def {P:Pr}(d:Lm)[h:HasL P d]{n:Nat}{cs l:List D}{s:Sto}(hl:l.length=d.ps)(hc:cs.length=d.cs)(hn:(D.nclL l&&D.nclL cs&&s.all O.ncl)=true) :
  (callN P (n+1)).lam d.id cs l s=(ev (callN P n) d.body (l.map some++cs.map some) s).bind (zJ s):=by
 simp only[callN,h.eq,hl,hc,hn,and_self,if_true]
theorem con_def {P:Pr}{x:String}{v:D}[h:HasC P x v]{n:Nat}:(callN P n).con x=some v:=by
 cases n<;>exact h.eq
theorem okOld_app (s t:Sto):okOld s (s++t)=true:=by
 unfold okOld
 rw[aN]
 intro i hi
 rw[aZ]at hi
 rw[aF hi]
 simp
theorem okOld_set (s t:Sto)(r:Nat)(o:O)(h:o.bnd s.length=true):okOld s (s.set r o++t)=true:=by
 unfold okOld
 rw[aN]
 intro i hi
 rw[aZ]at hi
 rw[aF (by rw[bG];exact hi)]
 by_cases e:r=i
 ·subst e;rw[aU hi];simp[h]
 ·rw[a7 e];simp
theorem zX {s t:Sto}{d:D}(h:∀ n,d.bnd n=true)(hr:∀ r,d≠.ref r):zJ s d (s++t)=.ok d s:=by
 unfold zJ
 rw[okOld_app,if_pos rfl]
 cases d with
 | ref r=>exact absurd rfl (hr r)
 | _=>simp[h]
theorem zn {s:Sto}{d:D}(h:∀ n,d.bnd n=true)(hr:∀ r,d≠.ref r):zJ s d s=.ok d s:=by
 have:=zX (s:=s) (t:=[]) h hr
 rwa [bF]at this
theorem canon_set {s t:Sto}{d:D}{r:Nat}{o:O}(h:∀ n,d.bnd n=true)(hr:∀ r,d≠.ref r)(ho:o.bnd s.length=true):zJ s d (s.set r o++t)=.ok d (s.set r o):=by
 unfold zJ
 rw[okOld_set s t r o ho,if_pos rfl]
 have e:(s.set r o++t).take s.length=s.set r o:=by rw[d5 (by simp),List.take_of_length_le (by simp)]
 cases d with
 | ref r=>exact absurd rfl (hr r)
 | _=>simp only[h,if_true,e]
theorem canon_set0 {s:Sto}{d:D}{r:Nat}{o:O}(h:∀ n,d.bnd n=true)(hr:∀ r,d≠.ref r)(ho:o.bnd s.length=true):zJ s d (s.set r o)=.ok d (s.set r o):=by
 have:=canon_set (s:=s) (t:=[]) (r:=r) h hr ho
 rwa [bF]at this
theorem canon_new {s t u:Sto}{o:O}(ho:o.bnd s.length=true):zJ s (.ref (s.length+t.length)) (s++(t++o::u))=.ok (.ref s.length) (s++[o]):=by
 unfold zJ
 rw[okOld_app,if_pos rfl]
 simp[ho,ak]
@[simp] theorem zL {s:Sto} {i:Int}:zJ s (.int i) s=.ok (.int i) s:=zn (λ _=>rfl) (by nofun)
@[simp] theorem zR {s:Sto} {i:Bool}:zJ s (.bl i) s=.ok (.bl i) s:=zn (λ _=>rfl) (by nofun)
@[simp] theorem canon_non {s:Sto}:zJ s .non s=.ok .non s:=zn (λ _=>rfl) (by nofun)
@[simp] theorem canon_str {s:Sto} {x:List Nat}:zJ s (.str x) s=.ok (.str x) s:=zn (λ _=>rfl) (by nofun)
theorem for_inv {ok:Sto->Bool}{g:D->Env->Sto->R Ct}(P:Nat->Env->Sto->Prop):∀(l:List D) (k:Nat) (ρ:Env) (s:Sto),
  P k ρ s->(∀(j:Nat) (ρ:Env) (s:Sto),j<=l.length->P (k+j) ρ s->ok s=true)->(∀(j:Nat) (d:D) (ρ:Env) (s:Sto),l[j]?=some d->P (k+j) ρ s->∃ ρ' s',(g d ρ s=.ok (.next ρ') s'\/g d ρ s=.ok (.cont ρ') s')/\P (k+j+1) ρ' s') ->
  ∃ ρ' s',forL ok g l ρ s=.ok (.next ρ') s'/\P (k+l.length) ρ' s'
 | [],k,ρ,s,h,o,_=>⟨ρ,s,by show(if ok s then _ else _)=_;rw[if_pos (o 0 ρ s (aj _) h)],h⟩
 | d::l,k,ρ,s,h,o,t=>by
  have ho:=o 0 ρ s (cX _) h
  obtain⟨ρ1,s1,hg,h1⟩:=t 0 d ρ s rfl h
  obtain⟨ρ2,s2,e,h2⟩:=for_inv P l (k+1) ρ1 s1 h1 (λ j ρ' s' hj hp=>o (j+1) ρ' s' (by simpa using hj) (by rwa [show k+(j+1)=k+1+j by omega])) λ j d' ρ' s' hj hp=>by
   have:=t (j+1) d' ρ' s' (by simpa using hj) (by rwa [show k+(j+1)=k+1+j by omega])
   rwa [show k+(j+1)+1=k+1+j+1 by omega]at this
  refine⟨ρ2,s2,?_,by rwa [aR,show k+(l.length+1)=k+1+l.length by omega]⟩
  show(if ok s then _ else _)=_
  rw[if_pos ho]
  rcases hg with hg|hg<;>(rw[hg];exact e)
noncomputable def Nx (Q:Env->Sto->Prop):R Ct->Prop
 | .ok (.next ρ) s=>Q ρ s
 | .ok (.cont ρ) s=>Q ρ s
 | _=>False
@[simp] theorem Nx_next (Q:Env->Sto->Prop) (ρ:Env) (s:Sto):Nx Q (.ok (.next ρ) s)=Q ρ s:=rfl
@[simp] theorem Nx_cont (Q:Env->Sto->Prop) (ρ:Env) (s:Sto):Nx Q (.ok (.cont ρ) s)=Q ρ s:=rfl
theorem Nx_of {Q:Env->Sto->Prop}{r:R Ct}{ρ:Env}{s:Sto}(e:r=.ok (.next ρ) s)(h:Q ρ s):Nx Q r:=by rw[e];exact h
theorem Nx.out {Q:Env->Sto->Prop}:∀ {r:R Ct},Nx Q r->∃ ρ s,(r=.ok (.next ρ) s\/r=.ok (.cont ρ) s)/\Q ρ s
 | .ok (.next ρ) s,h=>⟨ρ,s,.inl rfl,h⟩
 | .ok (.cont ρ) s,h=>⟨ρ,s,.inr rfl,h⟩
 | .ok (.ret _) _,h=>h.elim
 | .ok (.brk _) _,h=>h.elim
 | .exc _ _,h=>h.elim
 | .bad,h=>h.elim
noncomputable def Tst (A B:Sto->Prop):R D->Prop
 | .ok (.bl false) s=>A s
 | .ok (.bl true) s=>B s
 | _=>False
@[simp] theorem Tst_bl (A B:Sto->Prop) (b:Bool) (s:Sto):Tst A B (.ok (.bl b) s)=if b then B s else A s:=by cases b<;>rfl
theorem qB {ok:Sto->Bool}{g:D->Env->Sto->R Ct}{l:List D}{ρ:Env}{s:Sto}{α:Type}{f:Ct->Sto->R α}{W:R α->Prop}(P:Nat->Env->Sto->Prop)(h:P 0 ρ s)
  (o:∀(j:Nat) (ρ:Env) (s:Sto),j<=l.length->P j ρ s->ok s=true) (step:∀(j:Nat) (d:D) (ρ:Env) (s:Sto),l[j]?=some d->P j ρ s->Nx (P (j+1)) (g d ρ s))
  (hf:∀ ρ' s',P l.length ρ' s'->W (f (.next ρ') s')):W ((forL ok g l ρ s).bind f):=by
 obtain⟨ρ',s',e,q⟩:=for_inv P l 0 ρ s h (λ j ρ s hj hp=>o j ρ s hj (by rwa [cz]at hp)) (λ j d ρ s hj hp=>by
  rw[cz]at hp ⊢
  exact(step j d ρ s hj hp).out)
 rw[e]
 rw[cz]at q
 exact hf ρ' s' q
theorem for_bind {ok:Sto->Bool}{g:D->Env->Sto->R Ct}{l:List D}{ρ:Env}{s:Sto}{α:Type}{f:Ct->Sto->R α}{x:R α}(P:Nat->Env->Sto->Prop)(h:P 0 ρ s)
  (o:∀(j:Nat) (ρ:Env) (s:Sto),j<=l.length->P j ρ s->ok s=true) (step:∀(j:Nat) (d:D) (ρ:Env) (s:Sto),l[j]?=some d->P j ρ s->Nx (P (j+1)) (g d ρ s))
  (hf:∀ ρ' s',P l.length ρ' s'->f (.next ρ') s'=x):(forL ok g l ρ s).bind f=x:=qB (W:=(·=x)) P h o step hf
section
variable {F:Fns} {ρ:Env} {s:Sto}
@[simp] theorem zq (i:Nat):ev F (.var i) ρ s=getV ρ i s:=rfl
@[simp] theorem z8 (c:Cn):ev F (.cst c) ρ s=.ok c.d s:=rfl
@[simp] theorem ev_bin (op:BOp) (a b:E):ev F (.bin op a b) ρ s=(ev F a ρ s).bind λ x s=>(ev F b ρ s).bind λ y s=>binop op x y s:=rfl
@[simp] theorem ev_not (a:E):ev F (.not a) ρ s=tru (ev F a ρ s) λ b s=>.ok (.bl (!b)) s:=rfl
@[simp] theorem qp (op:COp) (a b:E):ev F (.cmp op a b) ρ s=(ev F a ρ s).bind λ x s=>(ev F b ρ s).bind λ y s=>qd op x y s:=rfl
@[simp] theorem ev_chain (o p:COp) (a b c:E):ev F (.chain o p a b c) ρ s=(ev F a ρ s).bind λ x s=>(ev F b ρ s).bind λ y s=>tru (qd o x y s) λ k s=>if k then(ev F c ρ s).bind λ z s=>qd p y z s else .ok (.bl false) s:=rfl
@[simp] theorem ev_isN (a:E):ev F (.isN a) ρ s=(ev F a ρ s).bind λ x s=>.ok (.bl (decide (x=.non))) s:=rfl
@[simp] theorem ev_notN (a:E):ev F (.notN a) ρ s=(ev F a ρ s).bind λ x s=>.ok (.bl (!decide (x=.non))) s:=rfl
@[simp] theorem ev_and (a b:E):ev F (.and a b) ρ s=tru (ev F a ρ s) λ c s=>if c then tru (ev F b ρ s) λ c s=>.ok (.bl c) s else .ok (.bl false) s:=rfl
@[simp] theorem ev_or (a b:E):ev F (.or a b) ρ s=tru (ev F a ρ s) λ c s=>if c then .ok (.bl true) s else tru (ev F b ρ s) λ c s=>.ok (.bl c) s:=rfl
@[simp] theorem ev_ite (c a b:E):ev F (.ite c a b) ρ s=tru (ev F c ρ s) λ k s=>if k then ev F a ρ s else ev F b ρ s:=rfl
@[simp] theorem ev_tup (es:Es):ev F (.tup es) ρ s=(evs F es ρ s).bind λ l s=>.ok (.tup l) s:=rfl
@[simp] theorem ev_lst (es:Es):ev F (.lst es) ρ s=(evs F es ρ s).bind λ l s=>alloc (.lst l) s:=rfl
@[simp] theorem ev_ix (a b:E):ev F (.ix a b) ρ s=(ev F a ρ s).bind λ x s=>(ev F b ρ s).bind λ y s=>ixM x y s:=rfl
@[simp] theorem zZ (f:String) (as:As):ev F (.call f as) ρ s=(evas F as ρ s).bind λ l s=>F.call f l s:=rfl
@[simp] theorem qX (f:String) (as:As):ev F (.callC f as) ρ s=(evas F as ρ s).bind λ l s=>(F.call f l s).bind λ d s'=>if(d.ncl&&s'.all O.ncl)=true then .ok d s' else .bad:=rfl
@[simp] theorem ev_bi (b:Bi) (es:Es):ev F (.bi b es) ρ s=(evs F es ρ s).bind λ l s=>bi b l s:=rfl
@[simp] theorem ev_mk (k:Mk) (it:L):ev F (.mk k it) ρ s=(evL F it ρ s).bind λ q s=>mk k q s:=rfl
@[simp] theorem ev_mkD (k:Mk) (it:L) (d:E):ev F (.mkD k it d) ρ s=(evL F it ρ s).bind λ q s=>(ev F d ρ s).bind λ d s=>mkD k q d s:=rfl
@[simp] theorem ev_mks (k:Mk) (e:E):ev F (.mks k e) ρ s=(ev F e ρ s).bind λ x s=>(lstR x s).bind λ q s=>mk k q s:=rfl
@[simp] theorem ev_mkDs (k:Mk) (e d:E):ev F (.mkDs k e d) ρ s=(ev F e ρ s).bind λ x s=>(ev F d ρ s).bind λ z s=>(lstR x s).bind λ q s=>mkD k q z s:=rfl
@[simp] theorem qR (m:Mt) (o:E) (es:Es):ev F (.meth m o es) ρ s=(ev F o ρ s).bind λ x s=>(evs F es ρ s).bind λ l s=>meth m x l s:=rfl
@[simp] theorem ev_extS (o e:E):ev F (.extS o e) ρ s=(ev F o ρ s).bind λ x s=>(ev F e ρ s).bind λ y s=>extS x y s:=rfl
@[simp] theorem ev_rev (a:E):ev F (.rev a) ρ s=(ev F a ρ s).bind λ x s=>revM x s:=rfl
@[simp] theorem ev_ext (o:E) (it:L):ev F (.ext o it) ρ s=(ev F o ρ s).bind λ x s=>(evL F it ρ s).bind λ q s=>extM x q s:=rfl
@[simp] theorem zA:evs F .nil ρ s=.ok [] s:=rfl
@[simp] theorem zz (e:E) (es:Es):evs F (.cons e es) ρ s=(ev F e ρ s).bind λ d s=>(evs F es ρ s).bind λ l s=>.ok (d::l) s:=rfl
@[simp] theorem zH:evas F .nil ρ s=.ok [] s:=rfl
@[simp] theorem zV (e:E) (as:As):evas F (.ex e as) ρ s=(ev F e ρ s).bind λ d s=>(evas F as ρ s).bind λ l s=>.ok (d::l) s:=rfl
@[simp] theorem evas_fn (f:String) (as:As):evas F (.fn f as) ρ s=(evas F as ρ s).bind λ l s=>.ok (.fn f::l) s:=rfl
@[simp] theorem evI_seq (e:E):evI F (.seq e) ρ s=(ev F e ρ s).bind λ d s=>seqM d s:=rfl
@[simp] theorem evL_disp (es:Es):evL F (.disp es) ρ s=evs F es ρ s:=rfl
@[simp] theorem evL_seq (e:E):evL F (.seq e) ρ s=(ev F e ρ s).bind λ d s=>lstM d s:=rfl
noncomputable def rng1M (x:D):M Sq:=λ s=>match x with|.int i=>if -W62<=i/\i<W62 then .ok ⟨jh 0 i,[]⟩ s else .bad|_=>.bad
@[simp] theorem z6 (a:E):evI F (.rng1 a) ρ s=(ev F a ρ s).bind λ x s=>rng1M x s:=rfl
theorem zF {i:Int}(h0:-W62<=i)(h:i<W62):rng1M (.int i) s=.ok ⟨jh 0 i,[]⟩ s:=by unfold rng1M;simp only[h0,h,and_self,if_true]
noncomputable def nxt (F:Fns)(ss:Ss)(c:Ct)(s:Sto):R Ct:=match c with|.next ρ=>exs F ss ρ s|c=>.ok c s
@[simp] theorem zg (ss:Ss) (ρ:Env) (s:Sto):nxt F ss (.next ρ) s=exs F ss ρ s:=rfl
@[simp] theorem qx (ss:Ss) (d:D) (s:Sto):nxt F ss (.ret d) s=.ok (.ret d) s:=rfl
@[simp] theorem nxt_cont (ss:Ss) (ρ:Env) (s:Sto):nxt F ss (.cont ρ) s=.ok (.cont ρ) s:=rfl
@[simp] theorem zu:exs F .nil ρ s=.ok (.next ρ) s:=rfl
@[simp] theorem zd (st:S) (ss:Ss):exs F (.cons st ss) ρ s=(ex F st ρ s).bind (nxt F ss):=rfl
noncomputable def setC (ρ:Option Env)(s:Sto):R Ct:=match ρ with|some ρ=>.ok (.next ρ) s|none=>.bad
@[simp] theorem zy (ρ:Env) (s:Sto):setC (some ρ) s=.ok (.next ρ) s:=rfl
@[simp] theorem qz (tg:Tg) (e:E):ex F (.asg tg e) ρ s=(ev F e ρ s).bind λ d s=>setC (bindT ρ tg d) s:=rfl
@[simp] theorem ex_setIx (o i e:E):ex F (.setIx o i e) ρ s=(ev F e ρ s).bind λ d s=>(ev F o ρ s).bind λ x s=>(ev F i ρ s).bind λ y s=>(setIx x y d s).bind λ _ s=>.ok (.next ρ) s:=rfl
@[simp] theorem ex_ex (e:E):ex F (.ex e) ρ s=(ev F e ρ s).bind λ _ s=>.ok (.next ρ) s:=rfl
@[simp] theorem jb (e:E):ex F (.ret e) ρ s=(ev F e ρ s).bind λ d s=>.ok (.ret d) s:=rfl
@[simp] theorem ex_retN:ex F .retN ρ s=.ok (.ret .non) s:=rfl
@[simp] theorem qH (c:E) (a b:Ss):ex F (.ite c a b) ρ s=tru (ev F c ρ s) λ k s=>if k then exs F a ρ s else exs F b ρ s:=rfl
@[simp] theorem ex_whl (c:E) (b:Ss):ex F (.whl c b) ρ s=whl (ev F c) (exs F b) ρ s:=rfl
noncomputable def turn (F:Fns)(tg:Tg)(b:Ss)(d:D)(ρ:Env)(s:Sto):R Ct:=match bindT ρ tg d with
 | some ρ=>exs F b ρ s
 | none=>.bad
@[simp] theorem ex_for (tg:Tg) (it:I) (b:Ss):ex F (.for_ tg it b) ρ s=(evI F it ρ s).bind λ q s0=>forL (λ s=>chk s0 s q.src) (turn F tg b) q.its ρ s0:=rfl
@[simp] theorem ex_cont:ex F .cont ρ s=.ok (.cont ρ) s:=rfl
@[simp] theorem ex_und (i:Nat):ex F (.und i) ρ s=setC (unsetV ρ i) s:=rfl
@[simp] theorem ex_pass:ex F .pass ρ s=.ok (.next ρ) s:=rfl
@[simp] theorem zl (i:Nat) (d:D):bindT ρ (.one i) d=setV ρ i d:=rfl
@[simp] theorem bindT_tup (is:List Nat) (l:List D):bindT ρ (.tup is) (.tup l)=setVs ρ is l:=rfl
@[simp] theorem setVs_nil:setVs ρ [] []=some ρ:=rfl
@[simp] theorem setVs_cons (i:Nat) (is:List Nat) (d:D) (l:List D):setVs ρ (i::is) (d::l)=(setV ρ i d).bind λ ρ=>setVs ρ is l:=rfl
@[simp] theorem zr (d:D) (ρ:Env):getV (some d::ρ) 0 s=.ok d s:=rfl
@[simp] theorem zv (x:Option D) (ρ:Env) (i:Nat):getV (x::ρ) (i+1) s=getV ρ i s:=by unfold getV;rw[List.getElem?_cons_succ]
@[simp] theorem zD (d:D) (x:Option D) (ρ:Env):setV (x::ρ) 0 d=some (some d::ρ):=rfl
@[simp] theorem zO (d:D) (x:Option D) (ρ:Env) (i:Nat):setV (x::ρ) (i+1) d=(setV ρ i d).map (x::·):=by
 unfold setV
 by_cases h:i < ρ.length
 ·rw[if_pos (by simpa using h),if_pos h];rfl
 ·rw[if_neg (by simpa using h),if_neg h];rfl
@[simp] theorem unsetV_0 (x:Option D) (ρ:Env):unsetV (x::ρ) 0=some (none::ρ):=rfl
@[simp] theorem unsetV_s (x:Option D) (ρ:Env) (i:Nat):unsetV (x::ρ) (i+1)=(unsetV ρ i).map (x::·):=by
 unfold unsetV
 by_cases h:i < ρ.length
 ·rw[if_pos (by simpa using h),if_pos h];rfl
 ·rw[if_neg (by simpa using h),if_neg h];rfl
@[simp] theorem qo (i:Int):(Cn.int i).d=.int i:=rfl
@[simp] theorem Cn_bl (i:Bool):(Cn.bl i).d=.bl i:=rfl
@[simp] theorem Cn_str (i:List Nat):(Cn.str i).d=.str i:=rfl
@[simp] theorem Cn_non:Cn.non.d=.non:=rfl
@[simp] theorem add_int (a b:Int):binop .add (.int a) (.int b) s=.ok (.int (a+b)) s:=rfl
@[simp] theorem sub_int (a b:Int):binop .sub (.int a) (.int b) s=.ok (.int (a - b)) s:=rfl
theorem mul_int {a b:Int}(h:mulOk a b=true):binop .mul (.int a) (.int b) s=.ok (.int (a*b)) s:=by show(if mulOk a b then _ else _:M D) s=_;rw[if_pos h];rfl
theorem mulOk_l {a b:Int}(h:a.natAbs<2^64):mulOk a b=true:=by unfold mulOk;simp[h]
theorem mulOk_r {a b:Int}(h:b.natAbs<2^64):mulOk a b=true:=by unfold mulOk;simp[h]
theorem mod_int {a b:Int}(h:0<b):binop .mod (.int a) (.int b) s=.ok (.int (a % b)) s:=by show(if 0<b then _ else _:M D) s=_;rw[if_pos h];rfl
theorem DIVL_ge:(10:Int)^200<=(DIVL:Int):=by unfold DIVL;decide +kernel
theorem fdiv_int {a b:Int}(h:0<b)(h2:b<10^200):binop .fdiv (.int a) (.int b) s=.ok (.int (a / b)) s:=by show(if 0<b/\b<(DIVL:Int)then _ else _:M D) s=_;rw[if_pos ⟨h,Int.lt_of_lt_of_le h2 DIVL_ge⟩];rfl
theorem pow_int {a b:Int}(h:0<=b/\b<=1000000/\a.natAbs<2^64):binop .pow (.int a) (.int b) s=.ok (.int (a^b.toNat)) s:=by show(if _ then _ else _:M D) s=_;rw[if_pos h];rfl
@[simp] theorem lt_int (a b:Int):qd .lt (.int a) (.int b) s=.ok (.bl (decide (a<b))) s:=rfl
@[simp] theorem le_int (a b:Int):qd .le (.int a) (.int b) s=.ok (.bl (decide (a<=b))) s:=rfl
@[simp] theorem gt_int (a b:Int):qd .gt (.int a) (.int b) s=.ok (.bl (decide (b<a))) s:=rfl
@[simp] theorem ge_int (a b:Int):qd .ge (.int a) (.int b) s=.ok (.bl (decide (b<=a))) s:=rfl
@[simp] theorem eq_int (a b:Int):qd .eq (.int a) (.int b) s=.ok (.bl (decide (a=b))) s:=rfl
@[simp] theorem ne_int (a b:Int):qd .ne (.int a) (.int b) s=.ok (.bl (!decide (a=b))) s:=rfl
@[simp] theorem alloc_eq (o:O):alloc o s=.ok (.ref s.length) (s++[o]):=rfl
@[simp] theorem len_tup (l:List D):bi .len [.tup l] s=.ok (.int l.length) s:=rfl
@[simp] theorem len_str (l:List Nat):bi .len [.str l] s=.ok (.int l.length) s:=rfl
theorem len_lst {r:Nat}{l:List D}(h:s[r]?=some (.lst l)):bi .len [.ref r] s=.ok (.int l.length) s:=by simp only[bi,bi1,lenM,h]
theorem len_ro {r:Nat}{l:List D}(h:s[r]?=some (.ro l)):bi .len [.ref r] s=.ok (.int l.length) s:=by simp only[bi,bi1,lenM,h]
@[simp] theorem abs_int (i:Int):bi .abs [.int i] s=.ok (.int (if i<0 then -i else i)) s:=rfl
@[simp] theorem min2_int (a b:Int):bi .min2 [.int a,.int b] s=.ok (.int (if b<a then b else a)) s:=rfl
@[simp] theorem max2_int (a b:Int):bi .max2 [.int a,.int b] s=.ok (.int (if b > a then b else a)) s:=rfl
@[simp] theorem isInt_int (a:Int):bi .isInt [.int a] s=.ok (.bl true) s:=rfl
@[simp] theorem isBool_int (a:Int):bi .isBool [.int a] s=.ok (.bl false) s:=rfl
@[simp] theorem isTup_tup (l:List D):bi .isTup [.tup l] s=.ok (.bl true) s:=rfl
theorem ix_ro {r:Nat}{l:List D}{j:Nat}{d:D}(h:s[r]?=some (.ro l))(hj:l[j]?=some d):ixM (.ref r) (.int (j:Int)) s=.ok d s:=by
 have hl:j<l.length:=(ac.mp hj).1
 have e:l[j]=d:=(ac.mp hj).2
 simp[ixM,h,ixn,hl,e]
theorem qa {r:Nat}{l:List D}{j:Nat}{d:D}(h:s[r]?=some (.lst l))(hj:l[j]?=some d):ixM (.ref r) (.int (j:Int)) s=.ok d s:=by
 have hl:j<l.length:=(ac.mp hj).1
 have e:l[j]=d:=(ac.mp hj).2
 simp[ixM,h,ixn,hl,e]
theorem ix_tup {l:List D}{j:Nat}{d:D}(hj:l[j]?=some d):ixM (.tup l) (.int (j:Int)) s=.ok d s:=by
 have hl:j<l.length:=(ac.mp hj).1
 have e:l[j]=d:=(ac.mp hj).2
 simp[ixM,ixn,hl,e]
theorem set_lst {r:Nat}{l:List D}{j:Nat}{v:D}(h:s[r]?=some (.lst l))(hl:j<l.length):setIx (.ref r) (.int (j:Int)) v s=.ok () (s.set r (.lst (l.set j v))):=by
 simp[setIx,h,ixn,hl]
theorem qj {r:Nat}{l:List D}{v:D}(h:s[r]?=some (.lst l))(hl:l.length<LIM):meth .append (.ref r) [v] s=.ok .non (s.set r (.lst (l++[v]))):=by
 simp[meth,h,hl]
end
theorem canon_bl_ex (s t:Sto)(b:Bool):∃ s',zJ s (.bl b) t=.ok (.bl b) s':=by
 unfold zJ
 by_cases h:okOld s t=true
 ·rw[if_pos h];exact⟨_,rfl⟩
 ·rw[if_neg h];exact⟨_,rfl⟩
noncomputable def Yes (r:R D):Prop:=∃ s',r=.ok (.bl true) s'
theorem Yes_canon (s t:Sto):Yes (zJ s (.bl true) t):=canon_bl_ex s t true
theorem rngL_get {a b:Int}{j:Nat}{d:D}(h:(jh a b)[j]?=some d):(j:Int)<b - a/\d=.int (a+j):=by
 have hj:=(ac.mp h).1
 simp only[jh,aG,eZ]at hj
 unfold jh at h
 rw[aB,bv hj]at h
 exact⟨by omega,(au h).symm⟩
noncomputable def LawOk (P:Pr)(k:Nat):Prop:=∀ ns:List Int,ns.length<=63->Yes ((callN P k).call "law" [.ref 0] [.ro (ns.map D.int)])
noncomputable def qF:Option Int->D
 | none=>.non
 | some i=>.int i
@[simp] theorem encO_none:qF none=.non:=rfl
@[simp] theorem qU (i:Int):qF (some i)=.int i:=rfl
@[simp] theorem qI (p:Option Int) (n:Nat):(qF p).bnd n=true:=by cases p<;>rfl
theorem encO_ref (p:Option Int)(r:Nat):qF p≠.ref r:=by cases p<;>nofun
@[simp] theorem canon_encO {s:Sto} {p:Option Int}:zJ s (qF p) s=.ok (qF p) s:=zn (qI p) (encO_ref p)
noncomputable def bagO (b:Nat×Nat):O:=.lst [.int b.1,.int b.2]
@[simp] theorem bagO_bnd (b:Nat×Nat) (n:Nat):(bagO b).bnd n=true:=rfl
noncomputable def tkW (many:Nat):Nat->Nat->Nat->Nat->Nat×Nat
 | 0,mix,num,_=>(num,mix)
 | n+1,mix,num,room=>if room<many then tkW many n ((mix*48271+7919) % 2147483647) (num*1073741789+(mix*48271+7919) % 2147483647 / 8*69621 % 1073741789) (room*1073741789)else(num,mix)
noncomputable def tk (b:Nat×Nat)(many:Nat):Nat×(Nat×Nat) :=
 if 0<b.1 then(b.1 % many,(b.1 / many,b.2))else let r:=tkW many 12 b.2 0 1;(r.1 % many,(b.1,r.2))
theorem set_app {s t:Sto}{r:Nat}{o:O}(h:r<s.length):(s++t).set r o=s.set r o++t:=by rw[List.set_append,if_pos h]
theorem qM {s t:Sto}{r:Nat}{o:O}(h:s[r]?=some o):(s++t)[r]?=some o:=by
 rw[aF (ac.mp h).1];exact h
theorem get_set {s:Sto}{r:Nat}{o:O}(h:r<s.length):(s.set r o)[r]?=some o:=aU h
noncomputable def bd (b:Nat×Nat):Nat×(Nat×Nat) :=
 let x0:=tk b 3
 let x1:=tk x0.2 13
 let x2:=tk x1.2 1000000000
 let x3:=tk x2.2 1000000000000000000000000000000
 let i:=tk x3.2 4
 ([x0.1,x1.1,x2.1,x3.1].getD i.1 0,i.2)
section
variable {F:Fns} {ρ:Env} {s:Sto}
noncomputable def qg (F:Fns)(tg:Tg)(e:E)(d:D)(ρ:Env)(s:Sto):R (Option D×Env):=match bindT ρ tg d with
 | some ρ=>(ev F e ρ s).bind λ v s=>.ok (some v,ρ) s
 | none=>.bad
noncomputable def turnI (F:Fns)(tg:Tg)(c e:E)(d:D)(ρ:Env)(s:Sto):R (Option D×Env):=match bindT ρ tg d with
 | some ρ=>tru (ev F c ρ s) λ k s=>if k then(ev F e ρ s).bind λ v s=>.ok (some v,ρ) s else .ok (none,ρ) s
 | none=>.bad
@[simp] theorem qV (tg:Tg) (it:I) (e:E) (caps:List (Option Nat)):evL F (.comp tg it e caps) ρ s=(evI F it ρ s).bind λ q s0=>if q.its.length<=LIM then qN (λ s=>chk s0 s q.src) (qg F tg e) q.its (zK ρ caps) s0 else .bad:=rfl
@[simp] theorem qZ (tg:Tg) (it:I) (c e:E) (caps:List (Option Nat)):evL F (.compIf tg it c e caps) ρ s=(evI F it ρ s).bind λ q s0=>if q.its.length<=LIM then qN (λ s=>chk s0 s q.src) (turnI F tg c e) q.its (zK ρ caps) s0 else .bad:=rfl
@[simp] theorem ev_slU (a hi:E):ev F (.slU a hi) ρ s=(ev F a ρ s).bind λ x s=>(ev F hi ρ s).bind λ y s=>match y with|.int i=>slM x none (some i) s|_=>.bad:=rfl
@[simp] theorem ev_slL (a hi:E):ev F (.slL a hi) ρ s=(ev F a ρ s).bind λ x s=>(ev F hi ρ s).bind λ y s=>match y with|.int i=>slM x (some i) none s|_=>.bad:=rfl
end
theorem comp_inv {ok:Sto->Bool}{g:D->Env->Sto->R (Option D×Env)}(P:Env->Sto->Prop)(f:D->Option D):∀(l:List D) (ρ:Env) (s:Sto),P ρ s ->
  (∀ ρ s,P ρ s->ok s=true)->(∀ d∈l,∀ ρ s,P ρ s->∃ ρ' s',g d ρ s=.ok (f d,ρ') s'/\P ρ' s')->∃ ρ' s',qN ok g l ρ s=.ok (l.filterMap f) s'/\P ρ' s'
 | [],ρ,s,h,o,_=>⟨ρ,s,by unfold qN;rw[if_pos (o ρ s h)];rfl,h⟩
 | d::l,ρ,s,h,o,st=>by
  obtain⟨ρ1,s1,e1,h1⟩:=st d (aC ..) ρ s h
  obtain⟨ρ2,s2,e2,h2⟩:=comp_inv P f l ρ1 s1 h1 o λ x hx=>st x (aw _ hx)
  refine⟨ρ2,s2,?_,h2⟩
  unfold qN
  rw[if_pos (o ρ s h),e1]
  simp only[R.bind_ok]
  rw[e2,bq]
  cases f d<;>rfl
theorem qD {k:Int}(h:k<=1000):k<=10^90:=fS h (by decide)
theorem shl_one {k:Int}{s:Sto}(h:0<=k/\k<=1000000):binop .shl (.int 1) (.int k) s=.ok (.int (1*2^k.toNat)) s:=by
 show(if 0<=k/\k<=1000000/\(1:Int).natAbs<2^64 then _ else _:M D) s=_
 rw[if_pos ⟨h.1,h.2,by decide⟩];rfl
theorem z7 {l:List D}(h:∀ d∈l,∀ n,d.bnd n=true)(n:Nat):D.bndL n l=true:=by
 induction l with
 | nil=>rfl
 | cons d l ih=>unfold D.bndL;rw[h d (aC ..),ih λ x hx=>h x (aw _ hx)];rfl
noncomputable def roomF (bits:Nat):D->Option D
 | .int i=>if(bits:Int) / (1*2^i.toNat) % 2=1 then some (.int i)else none
 | _=>none
theorem abc_ix {k:Nat}(h:k<3)(s:Sto):ixM (.str [97,98,99]) (.int (k:Int)) s=.ok (.str [97+k]) s:=by
 match k,h with
 | 0,_=>rfl
 | 1,_=>rfl
 | 2,_=>rfl
theorem add_str {a b:List Nat}{s:Sto}(h:a.length+b.length<=LIM):binop .add (.str a) (.str b) s=.ok (.str (a++b)) s:=by
 show(if a.length+b.length<=LIM then _ else _:M D) s=_;rw[if_pos h];rfl
noncomputable def Lts (L:Nat)(w:List Nat):Prop:=∀ c∈w,97<=c/\c<97+L
theorem rep_len (l:List Nat):∀ n,(rep n l).length=l.length*n
 | 0=>by simp[rep]
 | n+1=>by simp[rep,rep_len l n,iJ];omega
noncomputable def goodW (L:Nat)(d:D):Bool:=match d with
 | .str w=>decide (w.length<=200)&&w.all λ c=>decide (97<=c/\c<97+L)
 | _=>false
theorem ev_glob {P:Pr}{x:String}{v:D}[HasC P x v]{n:Nat}{ρ:Env}{s:Sto}:ev (callN P n) (.glob x) ρ s=.ok v s:=by
 show(match(callN P n).con x with|some d=>R.ok d s|none=>.bad)=_
 rw[con_def (v:=v)]
noncomputable abbrev abcD:List D:=[.str [97],.str [98],.str [99]]
theorem slU_abc {L:Nat}(h:L<=3)(s:Sto):slM (.tup abcD) none (some (L:Int)) s=.ok (.tup (abcD.take L)) s:=by
 match L,h with
 | 0,_=>rfl
 | 1,_=>rfl
 | 2,_=>rfl
 | 3,_=>rfl
theorem letters_ok {P:Pr}[Has P d_letters_of][HasC P "LETTERS" (.tup abcD)](n:Nat){L:Nat}(h:L<=3)(l:List D)(s:Sto):(callN P (n+1)).call "letters_of" [.tup (.int L::l)] s=.ok (.tup (abcD.take L)) s:=by
 refine(zb d_letters_of rfl).trans ?_
 have hix:ixM (.tup (.int L::l)) (.int ((0:Nat):Int)) s=.ok (.int L) s:=ix_tup rfl
 simp -implicitDefEqProofs [d_letters_of,ev_glob (v:=.tup abcD)]
 rw[show(0:Int)=((0:Nat):Int)from rfl,hix]
 simp only[R.bind_ok]
 rw[slU_abc h]
 simp -implicitDefEqProofs
 match L,h with
 | 0,_=>exact zn (λ _=>rfl) (by nofun)
 | 1,_=>exact zn (λ _=>rfl) (by nofun)
 | 2,_=>exact zn (λ _=>rfl) (by nofun)
 | 3,_=>exact zn (λ _=>rfl) (by nofun)
theorem isin_ok {a b:D}{s:Sto}:qd .isin a b s=(inM a b s).bind λ r s=>.ok (.bl r) s:=rfl
@[simp] theorem ev_neg {F:Fns} {ρ:Env} {s:Sto} (a:E):ev F (.neg a) ρ s=(ev F a ρ s).bind λ x s=>match x with|.int i=>.ok (.int (-i)) s|_=>.bad:=rfl
structure Dr where
 a:Nat
 l:Nat
 b:Nat
 t:Nat
noncomputable def Dr.d (x:Dr):D:=.tup [.int x.a,.str [x.l],.int x.b,.int x.t]
structure Mc where
 L:Nat
 R:Nat
 bg:List Nat
 en:List Nat
 ds:List Dr
noncomputable def qi (l:List Nat):List D:=l.map λ(k:Nat)=>D.int (k:Int)
noncomputable def sg (w:List Nat):List D:=w.map λ c=>.str [c]
noncomputable def Mc.ps (m:Mc):List D:=[.int m.L,.int m.R,.tup (qi m.bg),.tup (qi m.en),.tup (m.ds.map Dr.d)]
noncomputable def Mc.d (m:Mc):D:=.tup m.ps
structure Dr.Ok (m:Mc)(x:Dr):Prop where
 a:x.a<m.R
 l:97<=x.l/\x.l<97+m.L
 b:x.b<m.R
 t:x.t<4
structure Mc.Ok (m:Mc):Prop where
 L1:1<=m.L
 L3:m.L<=3
 R1:1<=m.R
 R5:m.R<=5
 bg:(∀ k∈m.bg,k<m.R)/\m.bg.Pairwise (· < ·)
 en:(∀ k∈m.en,k<m.R)/\m.en.Pairwise (· < ·)
 ds:(∀ x∈m.ds,x.Ok m)/\m.ds.length<=75
theorem nats_bnd {l:List Nat}:∀ d∈qi l,∀ n,d.bnd n=true:=λ d hd n=>by
 obtain⟨c,_,rfl⟩:=ax.mp hd;rfl
theorem drs_bnd {l:List Dr}:∀ d∈l.map Dr.d,∀ n,d.bnd n=true:=λ d hd n=>by
 obtain⟨c,_,rfl⟩:=ax.mp hd;rfl
theorem mps_bnd {m:Mc}:∀ d∈m.ps,∀ n,d.bnd n=true:=λ d hd n=>by
 simp only[Mc.ps,aD,bA,or_false]at hd
 rcases hd with rfl|rfl|rfl|rfl|rfl
 ·rfl
 ·rfl
 ·unfold D.bnd;exact z7 nats_bnd n
 ·unfold D.bnd;exact z7 nats_bnd n
 ·unfold D.bnd;exact z7 drs_bnd n
theorem mc_bnd (m:Mc)(n:Nat):m.d.bnd n=true:=by unfold Mc.d D.bnd;exact z7 mps_bnd n
noncomputable def roomsN (bits k:Nat):List Nat:=(ah k).filter λ i=>decide (bits / 2^i % 2=1)
theorem roomsN_ok (bits k:Nat):(∀ i∈roomsN bits k,i<k)/\(roomsN bits k).Pairwise (· < ·) :=
 ⟨λ i hi=>aZ.mp (fX.mp hi).1,jH _ List.pairwise_lt_range⟩
theorem roomF_eq (bits:Nat)(k:Nat):(jh 0 (k:Int)).filterMap (roomF bits)=qi (roomsN bits k):=by
 unfold jh roomsN qi
 simp only[jx,dL]
 rw[dr]
 induction (ah k)with
 | nil=>rfl
 | cons i l ih =>
  rw[bq,List.filter_cons]
  have e:((bits:Int) / (1*2^((0:Int)+(i:Int)).toNat) % 2=1)↔(bits / 2^i % 2=1):=by
   rw[Int.one_mul,show((0:Int)+(i:Int)).toNat=i by omega]
   have:((bits:Int) / 2^i % 2)=((bits / 2^i % 2:Nat):Int):=by simp
   rw[this];omega
  simp only[gS,roomF]
  by_cases h:bits / 2^i % 2=1
  ·rw[if_pos (e.mpr h)]
   simp only[h,decide_true,if_true,aK]
   rw[<-ih,fV]
  ·rw[if_neg λ z=>h (e.mp z)]
   simp only[h,decide_false]
   exact ih
section
variable {P:Pr}
theorem ix_ps {l:List D}{s:Sto}(j:Nat){d:D}(h:l[j]?=some d):ixM (.tup l) (.int (j:Int)) s=.ok d s:=ix_tup h
theorem ixL (m:Mc)(s:Sto):ixM m.d (.int 0) s=.ok (.int m.L) s:=ix_ps 0 rfl
theorem ixR (m:Mc)(s:Sto):ixM m.d (.int 1) s=.ok (.int m.R) s:=ix_ps 1 rfl
theorem ixD (m:Mc)(s:Sto):ixM m.d (.int 4) s=.ok (.tup (m.ds.map Dr.d)) s:=ix_ps 4 rfl
theorem rooms_of_ok [Has P d_rooms_of](n:Nat)(m:Mc)(s:Sto):(callN P (n+1)).call "rooms_of" [m.d] s=.ok (.int m.R) s:=by
 refine(zb d_rooms_of rfl).trans ?_
 simp -implicitDefEqProofs [d_rooms_of,ixR]
theorem canon_tup {s:Sto}{l:List D}(h:∀ d∈l,∀ n,d.bnd n=true):zJ s (.tup l) s=.ok (.tup l) s:=zn (λ n=>by unfold D.bnd;exact z7 h n) (by nofun)
theorem doors_of_ok [Has P d_doors_of](n:Nat)(m:Mc)(s:Sto):(callN P (n+1)).call "doors_of" [m.d] s=.ok (.tup (m.ds.map Dr.d)) s:=by
 refine(zb d_doors_of rfl).trans ?_
 simp -implicitDefEqProofs [d_doors_of,ixD,canon_tup drs_bnd]
theorem rngL_cons {a b:Int}(h:a<b):jh a b=.int a::jh (a+1) b:=by
 unfold jh
 obtain⟨n,hn⟩:∃ n:Nat,(b - a).toNat=n+1:=⟨(b - a).toNat - 1,by omega⟩
 rw[hn,show(b - (a+1)).toNat=n by omega,dN,aK,c9]
 congr 1
 ·simp
 ·apply cC
  intro k _
  simp only[gS]
  congr 1;omega
@[simp] theorem ne_str1 (a b:Nat) (s:Sto):qd .ne (.str [a]) (.str [b]) s=.ok (.bl (!decide (a=b))) s:=by
 show(match eqv s DEEP (.str [a]) (.str [b])with|some r=>R.ok (D.bl (!r)) s|none=>.bad)=_
 have:eqv s DEEP (.str [a]) (.str [b])=some ([a]==[b]):=rfl
 rw[this]
 have e:([a]==[b])=decide (a=b):=by rw[ee];simp
 rw[e]
@[simp] theorem eq_str1 (a b:Nat) (s:Sto):qd .eq (.str [a]) (.str [b]) s=.ok (.bl (decide (a=b))) s:=by
 show(match eqv s DEEP (.str [a]) (.str [b])with|some r=>R.ok (D.bl r) s|none=>.bad)=_
 have:eqv s DEEP (.str [a]) (.str [b])=some ([a]==[b]):=rfl
 rw[this]
 have e:([a]==[b])=decide (a=b):=by rw[ee];simp
 rw[e]
end
theorem good_of {L:Nat}{w:List Nat}(h:w.length<=200)(hw:Lts L w):goodW L (.str w)=true:=by
 unfold goodW
 simp only[h,decide_true,dX,aN,decide_eq_true_eq]
 exact hw
@[simp] theorem ev_slLU {F:Fns} {ρ:Env} {s:Sto} (a lo hi:E):ev F (.slLU a lo hi) ρ s=(ev F a ρ s).bind λ x s=>(ev F lo ρ s).bind λ y s=>match y with|.int i=>(ev F hi ρ s).bind (λ z s=>match z with|.int j=>slM x (some i) (some j) s|_=>.bad)|_=>.bad:=rfl
noncomputable def qE (N:Int):O:=.lst [.int N]
theorem box_lt {s:Sto}{r:Nat}(h:∃ N,s[r]?=some (qE N)):r<s.length:=by obtain⟨b,hb⟩:=h;exact(ac.mp hb).1
theorem box_set {s:Sto}{r:Nat}{b:Int}(h:r<s.length):∃ b',(s.set r (qE b))[r]?=some (qE b'):=⟨b,get_set h⟩
theorem draw_ex {P:Pr}[Has P w_draw](n:Nat){s:Sto}{r:Nat}(hs:∃ N,s[r]?=some (qE N))(many:Int)(h0:0<many)(h:many<=10^90) :
  ∃(k:Nat) (N:Int),(k:Int)<many/\(callN P (n+1)).call "_law_draw" [.ref r,.int many] s=.ok (.int k) (s.set r (qE N)):=by
 obtain⟨N,hN⟩:=hs
 have e0:(callN P (n+1)).call "_law_draw" [.ref r,.int many] s=_:=zb w_draw (n:=n) rfl
 have hm3:many<10^200:=by
  have:(10:Int)^90<10^200:=by decide +kernel
  omega
 have h1:=iP N (show many≠0 by omega)
 have h2:=hZ N h0
 refine⟨(N % many).toNat,N / many,by omega,?_⟩
 rw[e0]
 have hs':s[r]?=some (.lst [.int N]):=hN
 simp -implicitDefEqProofs [w_draw,ixM,hs',ixn,mod_int h0,fdiv_int h0 hm3,setIx]
 rw[show max (N % many) 0=N % many by omega]
 exact canon_set0 (λ _=>rfl) (by nofun) rfl
noncomputable def BoxR (s:Sto)(x:R D):Prop:=∃ N:Int,x=.ok (.ref s.length) (s++[qE N])
theorem box_ex {P:Pr}[Has P w_box](n:Nat)(ns:List Int)(k:Nat){s:Sto}{r:Nat}(hs:s[r]?=some (.ro (ns.map D.int))) :
  ∃ N:Int,(callN P (n+1)).call "_law_box" [.ref r,.int k] s=.ok (.ref s.length) (s++[qE N]):=by
 have e0:(callN P (n+1)).call "_law_box" [.ref r,.int k] s=_:=zb w_box (n:=n) rfl
 have hlen:bi .len [.ref r] s=.ok (.int ns.length) s:=by rw[len_ro hs,aG]
 have m1:∀ a:Int,mulOk 7919 a=true:=λ a=>mulOk_l (by decide)
 have m2:∀ a:Int,mulOk a 48271=true:=λ a=>mulOk_r (by decide)
 have m3:∀ a:Int,mulOk 104729 a=true:=λ a=>mulOk_l (by decide)
 have m4:∀ a:Int,mulOk a 2147483647=true:=λ a=>mulOk_r (by decide)
 have m5:∀ a:Int,mulOk 31 a=true:=λ a=>mulOk_l (by decide)
 have m6:∀ a:Int,mulOk (a % 2147483647) (a % 2147483647)=true:=λ a=>mulOk_l (by
  have h1:=iP a (show(2147483647:Int)≠0 by decide)
  have h2:=hZ a (show(0:Int)<2147483647 by decide)
  omega)
 have cn:∀ N:Int,zJ s (.ref s.length) (s++[.lst [.int N]])=.ok (.ref s.length) (s++[qE N]):=λ N=>by
  have:=canon_new (s:=s) (t:=[]) (u:=[]) (o:=qE N) rfl
  simp only[dm,jA,d7]at this
  exact this
 have tail:∀ c:Int,BoxR s ((exs (callN P n) (.cons (.ite (.cmp .ge (.var 2) (.bin .pow (.cst (.int 10)) (.cst (.int 18)))) (.cons (.ret (.lst (.cons (.var 2) .nil))) .nil) .nil) (.cons (.asg (.one 3) (.cst (.int 0))) (.cons (.for_ (.one 4) (.rng1 (.cst (.int 128))) (.cons (.asg (.one 5) (.bin .mod (.bin .mul (.bin .add (.bin .add (.bin .add (.bin .mod (.var 2) (.cst (.int 2147483647))) (.bin .mul (.cst (.int 7919)) (.var 1))) (.bin .mul (.cst (.int 104729)) (.var 4))) (.cst (.int 97))) (.cst (.int 48271))) (.cst (.int 2147483647)))) (.cons (.asg (.one 3) (.bin .add (.bin .mul (.var 3) (.cst (.int 2147483647))) (.bin .mod (.bin .add (.bin .add (.bin .mul (.var 5) (.var 5)) (.bin .mul (.cst (.int 31)) (.var 4))) (.bin .fdiv (.var 2) (.cst (.int 2147483647)))) (.cst (.int 2147483647))))) .nil))) (.cons (.ret (.lst (.cons (.var 3) .nil))) .nil))))
   [some (.ref r),some (.int k),some (.int c),none,none,none] s).bind (fin s)):=by
  intro c
  by_cases hc:(10:Int)^18<=c
  ·have hc':(1000000000000000000:Int)<=c:=hc
   exact⟨c,by simp -implicitDefEqProofs [pow_int,hc',cn]⟩
  ·have hc':¬(1000000000000000000:Int)<=c:=hc
   simp -implicitDefEqProofs [pow_int,hc']
   rw[zF (by decide) (by decide)]
   simp only[R.bind_ok]
   refine qB (W:=BoxR s) (λ j ρ t=>t=s/\∃(N:Int) (x y:Option D),ρ=[some (.ref r),some (.int k),some (.int c),some (.int N),x,y]) ⟨rfl,0,_,_,rfl⟩ (λ _ _ _ _ _=>rfl) ?_ ?_
   ·rintro j d ρ t hj ⟨rfl,N,x,y,rfl⟩
    obtain⟨_,rfl⟩:=rngL_get hj
    conv=>arg 2;simp -implicitDefEqProofs [turn,mul_int (m1 _),mul_int (m2 _),mul_int (m3 _),mul_int (m4 _),mul_int (m5 _),mul_int (m6 _),mod_int,fdiv_int]
    exact⟨rfl,_,_,_,rfl⟩
   ·rintro ρ t ⟨rfl,N,x,y,rfl⟩
    exact⟨N,by simp -implicitDefEqProofs [cn]⟩
 rw[e0]
 by_cases hk:k<ns.length
 ·have hx:ixM (.ref r) (.int k) s=.ok (.int (ns.getD k 0)) s:=ix_ro hs (by simp[hk])
  obtain⟨N,e⟩:=tail (if ns.getD k 0<0 then -ns.getD k 0 else ns.getD k 0)
  refine⟨N,?_⟩
  rw[<-e]
  simp -implicitDefEqProofs [w_box,hlen,hk,hx]
 ·obtain⟨N,e⟩:=tail 0
  refine⟨N,?_⟩
  rw[<-e]
  simp -implicitDefEqProofs [w_box,hlen,hk]
@[simp] theorem evI_enum {F:Fns} {ρ:Env} {s:Sto} (e:E):evI F (.enum (.seq e)) ρ s=(ev F e ρ s).bind λ d s=>(enumM d s).bind λ q s=>.ok ⟨enumL 0 q.its,q.src⟩ s:=rfl
theorem qQ {P:Pr}[Has P w_draw](n:Nat){s t:Sto}{r:Nat}(hr:r<s.length)(b:Int)(many:Int)(h0:0<many)(h:many<=10^90) :
  ∃(k:Nat) (b':Int),(k:Int)<many/\(callN P (n+1)).call "_law_draw" [.ref r,.int many] (s.set r (qE b)++t)=.ok (.int k) (s.set r (qE b')++t):=by
 obtain⟨k,b',h1,h2⟩:=draw_ex (P:=P) n (s:=s.set r (qE b)++t) (r:=r) ⟨b,qM (get_set hr)⟩ many h0 h
 refine⟨k,b',h1,?_⟩
 rw[h2,set_app (by rw[bG];exact hr),eD]
noncomputable def row (m:Nat)(f:Nat->Int):List D:=(ah m).map λ j=>.int (f j)
noncomputable def gd (m:Nat)(f:Nat->Nat->Int):D:=.tup ((ah m).map λ i=>.tup (row m (f i)))
theorem jg {m:Nat}{f:Nat->Int}{j:Nat}(h:j<m):(row m f)[j]?=some (.int (f j)):=by
 unfold row;rw[aB,bv h];rfl
@[simp] theorem row_len {m:Nat} {f:Nat->Int}:(row m f).length=m:=by unfold row;simp
theorem row_inv {m:Nat}{f:Nat->Int}{j:Nat}{d:D}(h:(row m f)[j]?=some d):j<m/\d=.int (f j):=by
 have hj:=(ac.mp h).1
 rw[row_len]at hj
 rw[jg hj]at h
 exact⟨hj,(au h).symm⟩
theorem row_bnd {m:Nat}{f:Nat->Int}(n:Nat):D.bndL n (row m f)=true:=z7 (λ d hd n=>by
 obtain⟨j,_,rfl⟩:=ax.mp hd;rfl) n
theorem row_congr {m:Nat}{f g:Nat->Int}(h:∀ j,j<m->f j=g j):row m f=row m g:=by
 unfold row;exact cC λ j hj=>by rw[h j (aZ.mp hj)]
theorem qT {m:Nat}{f:Nat->Nat->Int}(n:Nat):(gd m f).bnd n=true:=by
 unfold gd D.bnd
 exact z7 (λ d hd n=>by
  obtain⟨j,_,rfl⟩:=ax.mp hd
  unfold D.bnd;exact row_bnd n) n
theorem gd_ix {m:Nat}{f:Nat->Nat->Int}{i:Nat}(h:i<m)(s:Sto):ixM (gd m f) (.int (i:Int)) s=.ok (.tup (row m (f i))) s :=
 ix_tup (by rw[aB,bv h];rfl)
theorem qG {m:Nat}{f:Nat->Int}{j:Nat}(h:j<m)(s:Sto):ixM (.tup (row m f)) (.int (j:Int)) s=.ok (.int (f j)) s:=ix_tup (jg h)
theorem gd_seq {m:Nat}{f:Nat->Nat->Int}(s:Sto):seqM (gd m f) s=.ok ⟨(ah m).map λ i=>.tup (row m (f i)),[]⟩ s:=rfl
theorem tup_seq {l:List D}(s:Sto):seqM (.tup l) s=.ok ⟨l,[]⟩ s:=rfl
theorem gd_congr {m:Nat}{f g:Nat->Nat->Int}(h:∀ i j,i<m->j<m->f i j=g i j):gd m f=gd m g:=by
 unfold gd
 congr 1
 exact cC λ i hi=>by rw[row_congr λ j hj=>h i j (aZ.mp hi) hj]
theorem comp_map {ok:Sto->Bool}{g:D->Env->Sto->R (Option D×Env)}(P:Env->Sto->Prop)(f:D->D)(l:List D)(ρ:Env)(s:Sto)(h:P ρ s)
  (o:∀ ρ s,P ρ s->ok s=true) (st:∀ d∈l,∀ ρ s,P ρ s->∃ ρ' s',g d ρ s=.ok (some (f d),ρ') s'/\P ρ' s'):∃ ρ' s',qN ok g l ρ s=.ok (l.map f) s'/\P ρ' s':=by
 obtain⟨ρ',s',e,p⟩:=comp_inv P (λ d=>some (f d)) l ρ s h o st
 refine⟨ρ',s',?_,p⟩
 rw[e];congr 1;induction l<;>simp_all
theorem qK {ok:Sto->Bool}{g:D->Env->Sto->R (Option D×Env)}(P:Env->Sto->Prop)(f:Nat->D)(n:Nat)(ρ:Env)(s:Sto)(h:P ρ s)
  (o:∀ ρ s,P ρ s->ok s=true) (st:∀ j,j<n->∀ ρ s,P ρ s->∃ ρ' s',g (.int (j:Int)) ρ s=.ok (some (f j),ρ') s'/\P ρ' s'):∃ ρ' s',qN ok g (jh 0 (n:Int)) ρ s=.ok ((ah n).map f) s'/\P ρ' s':=by
 obtain⟨ρ',s',e,p⟩:=comp_map (g:=g) P (λ d=>match d with|.int i=>f i.toNat|d=>d) (jh 0 (n:Int)) ρ s h o λ d hd ρ s hp=>by
  obtain⟨j,hj⟩:=gA hd
  obtain⟨h2,rfl⟩:=rngL_get hj
  obtain⟨ρ',s',e,p⟩:=st j (by omega) ρ s hp
  refine⟨ρ',s',?_,p⟩
  rw[fV,e];rfl
 refine⟨ρ',s',?_,p⟩
 rw[e]
 congr 1
 unfold jh
 rw[c9,show((n:Int) - 0).toNat=n by omega]
 exact cC λ j _=>by
  show f ((0:Int)+(j:Int)).toNat=f j
  congr 1;omega
theorem zE (n:Nat):(jh 0 (n:Int)).length=n:=by simp[jh]
theorem qw {n j:Nat}{d:D}(h:(jh 0 (n:Int))[j]?=some d):j<n/\d=.int (j:Int):=by
 obtain⟨h1,rfl⟩:=rngL_get h
 exact⟨by omega,by rw[fV]⟩
theorem row_const {m:Nat}{f:Nat->Int}{i:Int}:(row m f).map (λ _=>D.int i)=row m λ _=>i:=by
 unfold row;rw[c9];rfl
theorem app_mid {s t:Sto}{l:List D}{v:D}(h:l.length<LIM):meth .append (.ref s.length) [v] (s++.lst l::t)=.ok .non (s++.lst (l++[v])::t):=by
 rw[qj (l:=l) (by rw[ak (aj _)];simp) h,bu _ _ (aj _)]
 simp
theorem get_last {s t:Sto}{o:O}{x:O}:(s++x::(t++[o]))[s.length+(t.length+1)]?=some o:=by
 rw[show(s++x::(t++[o]))=(s++x::t)++[o]by simp,ak (by simp)]
 simp
noncomputable def prN (f g:Nat->Nat->Int)(i j:Nat):Nat->Int
 | 0=>3
 | k+1=>if f i k<3 then(let b:=(if g k j > f i k then g k j else f i k);if b<prN f g i j k then b else prN f g i j k)else prN f g i j k
noncomputable def pr (m:Nat)(f g:Nat->Nat->Int)(i j:Nat):Int:=prN f g i j m
theorem product_ok {P:Pr}[Has P w_product_2](n:Nat){m:Nat}(hR:m<=5)(f g:Nat->Nat->Int)(s:Sto) :
  (callN P (n+1)).call "_law_product" [gd m f,gd m g] s=.ok (gd m (pr m f g)) s:=by
 have e0:(callN P (n+1)).call "_law_product" [gd m f,gd m g] s=_:=zb w_product_2 (n:=n) rfl
 rw[e0]
 conv=>lhs;simp only[w_product_2]
 simp -implicitDefEqProofs [gd_seq]
 refine for_bind (λ i ρ t=>∃(T:Sto) (x y z:Option D),ρ=[some (gd m f),some (gd m g),some (.ref s.length),x,y,z]/\t=s++.lst ((ah i).map λ i=>.tup (row m (pr m f g i)))::T) ⟨[],none,none,none,rfl,rfl⟩ (λ _ _ _ _ _=>rfl) ?_ ?_
 ·rintro i d ρ t hi ⟨T,x,y,z,rfl,rfl⟩
  have hi5:i<m:=by have:=(ac.mp hi).1;simpa using this
  have hd:d=.tup (row m (f i)):=by rw[aB,bv hi5]at hi;exact(au hi).symm
  subst hd
  conv=>arg 2;simp -implicitDefEqProofs [turn,tup_seq]
  rw[if_pos (by unfold LIM;omega)]
  obtain⟨ρ1,s1,e1,h1⟩:=comp_map (ok:=λ s1=>chk (s++.lst ((ah i).map λ i=>.tup (row m (pr m f g i)))::T) s1 []) (g:=qg (callN P n) (.one 0) (.cst (.int 3))) (λ ρ u=>u=s++.lst ((ah i).map λ i=>.tup (row m (pr m f g i)))::T/\∃ x,ρ=[x]) (λ _=>.int 3) (row m (f i)) (zK [some (gd m f),some (gd m g),some (.ref s.length),some (.tup (row m (f i))),y,z] [none]) _ ⟨rfl,none,rfl⟩ (λ _ _ _=>rfl) (by
   rintro d _ ρ u ⟨rfl,x,rfl⟩
   exact⟨_,_,rfl,rfl,_,rfl⟩)
  obtain⟨rfl,_⟩:=h1
  rw[row_const]at e1
  rw[e1]
  simp -implicitDefEqProofs [mk]
  rw[zF (by unfold W62;omega) (by unfold W62;omega)]
  simp only[R.bind_ok]
  refine qB (W:=Nx _) (λ k ρ t=>∃(T:Sto) (p:Nat) (z:Option D),ρ=[some (gd m f),some (gd m g),some (.ref s.length),some (.tup (row m (f i))),some (.ref p),z]/\t=s++.lst ((ah i).map λ i=>.tup (row m (pr m f g i)))::T/\t[p]?=some (.lst (row m λ j=>prN f g i j k))) ⟨T++[.lst (row m λ _=>3)],s.length+(T.length+1),z,rfl,rfl,get_last⟩ (λ _ _ _ _ _=>rfl) ?_ ?_
  ·rintro k d ρ t hk ⟨T,p,z,rfl,rfl,hp⟩
   obtain⟨hk5,rfl⟩:=qw hk
   by_cases h3:f i k<3
   ·conv=>arg 2;simp -implicitDefEqProofs [turn,qG hk5,h3]
    rw[zF (by unfold W62;omega) (by unfold W62;omega)]
    simp only[R.bind_ok]
    rw[if_pos (by rw[zE];unfold LIM;omega)]
    obtain⟨ρ1,s1,e1,h1⟩:=qK (ok:=λ s1=>chk (s++.lst ((ah i).map λ i=>.tup (row m (pr m f g i)))::T) s1 []) (g:=qg (callN P n) (.one 0) (.bi .min2 (.cons (.ix (.var 1) (.var 0)) (.cons (.bi .max2 (.cons (.ix (.var 2) (.var 3)) (.cons (.ix (.ix (.var 4) (.var 3)) (.var 0)) .nil))) .nil)))) (λ ρ u=>u=s++.lst ((ah i).map λ i=>.tup (row m (pr m f g i)))::T/\∃ x,ρ=[x,some (.ref p),some (.tup (row m (f i))),some (.int k),some (gd m g)]) (λ j=>.int (prN f g i j (k+1))) m (zK [some (gd m f),some (gd m g),some (.ref s.length),some (.tup (row m (f i))),some (.ref p),some (.int (k:Int))] [none,some 4,some 3,some 5,some 1]) _ ⟨rfl,none,rfl⟩ (λ _ _ _=>rfl) (by
     rintro j hj ρ u ⟨rfl,x,rfl⟩
     refine⟨[some (.int j),some (.ref p),some (.tup (row m (f i))),some (.int k),some (gd m g)],_,?_,rfl,_,rfl⟩
     simp -implicitDefEqProofs [qg,qG hk5,gd_ix hk5,qG hj,qa hp (jg hj),prN,h3])
    obtain⟨rfl,_⟩:=h1
    rw[e1]
    simp -implicitDefEqProofs [mk]
    rfl
   ·refine Nx_of (ρ:=[some (gd m f),some (gd m g),some (.ref s.length),some (.tup (row m (f i))),some (.ref p),some (.int k)]) ?_ ⟨T,p,_,rfl,rfl,?_⟩
    ·simp -implicitDefEqProofs [turn,qG hk5,h3]
    ·rw[hp];simp[prN,h3]
  ·rintro ρ t ⟨T,p,z,rfl,rfl,hp⟩
   rw[zE]at hp
   simp -implicitDefEqProofs [lstM,hp,mk]
   rw[app_mid (by unfold LIM;simp;omega)]
   simp -implicitDefEqProofs
   rw[cN,b9];rfl
 ·rintro ρ t ⟨T,x,y,z,rfl,rfl⟩
  have h0:(s++.lst ((ah m).map λ i=>D.tup (row m (pr m f g i)))::T:Sto)[s.length]?=some (.lst ((ah m).map λ i=>D.tup (row m (pr m f g i)))):=by rw[ak (aj _)];simp
  simp -implicitDefEqProofs [lstM,h0,mk]
  exact zX (d:=gd m (pr m f g)) qT (by nofun)
theorem shr_int {a b:Int}{s:Sto}(h:0<=b):binop .shr (.int a) (.int b) s=.ok (.int (a / 2^b.toNat)) s:=by
 show(if 0<=b then _ else _:M D) s=_
 rw[if_pos h];rfl
theorem bits_ok {P:Pr}{n c bits:Nat}(hR:c<=5){s:Sto}{ρ:Env}(hρ:zK ρ [none,some 10]=[none,some (.int bits)]) :
  qN (λ s_1=>chk s s_1 []) (turnI (callN P n) (.one 0) (.cmp .eq (.bin .mod (.bin .shr (.var 1) (.var 0)) (.cst (.int 2))) (.cst (.int 1))) (.var 0)) (jh 0 (c:Int)) (zK ρ [none,some 10]) s=.ok (qi (roomsN bits c)) s:=by
 have key:∃(ρ':Env) (s':Sto),qN (λ s_1=>chk s s_1 []) (turnI (callN P n) (.one 0) (.cmp .eq (.bin .mod (.bin .shr (.var 1) (.var 0)) (.cst (.int 2))) (.cst (.int 1))) (.var 0)) (jh 0 (c:Int)) (zK ρ [none,some 10]) s=.ok ((jh 0 (c:Int)).filterMap (roomF bits)) s'/\(s'=s/\∃ x,ρ'=[x,some (D.int bits)]):=by
  refine comp_inv (λ ρ u=>u=s/\∃ x,ρ=[x,some (.int bits)]) (roomF bits) (jh 0 (c:Int)) _ _ ⟨rfl,none,hρ⟩ (λ _ _ _=>rfl) ?_
  rintro d hd ρ u ⟨rfl,x,rfl⟩
  obtain⟨j,hj⟩:=gA hd
  obtain⟨h2,rfl⟩:=rngL_get hj
  refine⟨[some (.int (0+j)),some (.int bits)],_,?_,rfl,_,rfl⟩
  unfold turnI
  simp only[zl,zD,qp,ev_bin,zq,z8,qo,zr,zv,R.bind_ok]
  rw[shr_int (by omega)]
  simp only[R.bind_ok]
  rw[mod_int (by decide)]
  simp only[R.bind_ok,eq_int,zW]
  simp[roomF]
  split<;>rfl
 obtain⟨_,_,e,rfl,_⟩:=key
 rw[e,roomF_eq]
theorem app_two {s:Sto}{r:Nat}{b:Int}{o:O}{l:List D}{v:D}(h:l.length<LIM):meth .append (.ref (s.length+1)) [v] (s.set r (qE b)++[o,.lst l])=.ok .non (s.set r (qE b)++[o,.lst (l++[v])]):=by
 rw[qj (l:=l) (by rw[ak (by simp)];simp) h,bu _ _ (by simp)]
 simp
theorem pow5 {k:Nat}(h:k<=5):(0:Int)<1*2^((k:Int)).toNat/\(1:Int)*2^((k:Int)).toNat<=32:=by
 have h2:(2:Nat)^k<=2^5:=Nat.pow_le_pow_right (by decide) h
 have h3:((2^k:Nat):Int)<=32:=by exact_mod_cast h2
 have h4:0<(2:Nat)^k:=Nat.pow_pos (by decide)
 have h5:(0:Int)<((2^k:Nat):Int):=by exact_mod_cast h4
 rw[dL,Int.one_mul]
 push_cast at h3 h5
 exact⟨h5,h3⟩
noncomputable def McB (s:Sto)(r:Nat)(x:R D):Prop:=∃(m:Mc) (b:Int),m.Ok/\x=.ok m.d (s.set r (qE b))
theorem machine3_mc {P : Pr} [Has P w_draw] [Has P w_machine_3] (n : Nat) {s : Sto} {r : Nat} (hs : ∃ b, s[r]? = some (qE b)) : McB s r ((callN P (n + 2)).call "_law_machine" [.ref r] s) := by
  have e0 : (callN P (n + 2)).call "_law_machine" [.ref r] s = _ := zb w_machine_3 (n := n + 1) rfl
  have hr := box_lt hs
  obtain⟨a, b1, ha, e1⟩ := draw_ex (P := P) n hs 3 (by decide) (by decide)
  obtain⟨c, b2, hc, e2⟩ := draw_ex (P := P) n (box_set (b := b1) hr) 5 (by decide) (by decide)
  rw[eD]at e2
  obtain⟨m1, b3, hm1, e3⟩ := draw_ex (P := P) n (box_set (b := b2) hr) (3 * (1 + (c : Int)) + 2) (by omega) (qD (by omega))
  rw[eD]at e3
  obtain⟨m2, b4, hm2, e4⟩ := draw_ex (P := P) n (box_set (b := b3) hr) 8 (by decide) (by decide)
  rw[eD]at e4
  obtain⟨m3, b5, hm3, e5⟩ := draw_ex (P := P) n (box_set (b := b4) hr) 76 (by decide) (by decide)
  rw[eD]at e5
  rw[e0]
  have mo : ∀ x : Int, mulOk 3 x = true := λ x => mulOk_l (by decide)
  simp -implicitDefEqProofs [w_machine_3, e1, e2, mul_int (mo _), e3, e4]
  obtain ⟨many, bb, hmany, hif⟩ : ∃ (many : Nat) (bb : Int), many <= 75 /\ (if (m2 : Int) = 5 then
                      ((callN P (n + 1)).call "_law_draw" [D.ref r, D.int 76] (List.set s r (qE b4))).bind λ d s =>
                        R.ok
                          (Ct.next [some (D.ref r), some (D.int (1 + ↑a)), some (D.int (1 + ↑c)), some d, none, none, none, none, none, none, none, none, none]) s
                    else
                      R.ok
                        (Ct.next
                          [some (D.ref r), some (D.int (1 + ↑a)), some (D.int (1 + ↑c)), some (D.int ↑m1), none, none, none, none, none, none, none, none, none])
                        (List.set s r (qE b4))) = .ok (.next [some (.ref r), some (.int (1 + a)), some (.int (1 + c)), some (.int many), none, none, none, none, none, none, none, none, none]) (s.set r (qE bb)) := by
    by_cases h7 : (m2 : Int) = 5
    · exact⟨m3, b5, by omega, by rw[if_pos h7, e5]; rfl⟩
    · exact⟨m1, b4, by omega, by rw[if_neg h7]⟩
  rw[hif]
  simp -implicitDefEqProofs
  obtain⟨h4, b6, hh4, e6⟩ := qQ (P := P) n (t := [.lst [.int 2, .int 2, .int 4, .int 1]]) hr bb 4 (by decide) (by decide)
  rw[e6]
  have hx : ∃ hi : Nat, 1 <= hi /\ hi <= 4 /\ ixM (.ref s.length) (.int h4) (s.set r (qE b6) ++ [.lst [.int 2, .int 2, .int 4, .int 1]]) = .ok (.int hi) (s.set r (qE b6) ++ [.lst [.int 2, .int 2, .int 4, .int 1]]) := by
    have hg : (s.set r (qE b6) ++ [O.lst [.int 2, .int 2, .int 4, .int 1]])[s.length]? = some (.lst [.int 2, .int 2, .int 4, .int 1]) := by rw[ak (by simp)]; simp
    match h4, hh4 with
    | 0, _ => exact⟨2, by decide, by decide, qa (j := 0) hg rfl⟩
    | 1, _ => exact⟨2, by decide, by decide, qa (j := 1) hg rfl⟩
    | 2, _ => exact⟨4, by decide, by decide, qa (j := 2) hg rfl⟩
    | 3, _ => exact⟨1, by decide, by decide, qa (j := 3) hg rfl⟩
    | k + 4, h => omega
  obtain⟨hi, hi1, hi4, hx⟩ := hx
  simp -implicitDefEqProofs [hx]
  rw[zF (by unfold W62; omega) (by unfold W62; omega)]
  simp -implicitDefEqProofs only[R.bind_ok]
  have hc1 : ((1 : Int) + (c : Int)) = ((c + 1 : Nat) : Int) := by omega
  have ha1 : ((1 : Int) + (a : Int)) = ((a + 1 : Nat) : Int) := by omega
  rw[hc1, ha1]
  generalize hH : O.lst [D.int 2, D.int 2, D.int 4, D.int 1] = H
  have hHb : ∀ b : Int, okOld s (s.set r (qE b) ++ [H]) = true := λ b => okOld_set s [H] r (qE b) rfl
  refine qB (W := McB s r) (λ j ρ u => ∃(b : Int) (l : List Dr) (x y z v : Option D), (∀ d ∈ l, d.Ok ⟨a + 1, c + 1, [], [], []⟩) /\ l.length = j /\ ρ = [some (.ref r), some (.int (a + 1 : Nat)), some (.int (c + 1 : Nat)), some (.int many), some (.int hi), some (.ref (s.length + 1)), x, y, z, v, none, none, none] /\ u = s.set r (qE b) ++ [H, .lst (l.map Dr.d)]) ⟨b6, [], none, none, none, none, by simp, rfl, rfl, rfl⟩ (λ _ _ _ _ _ => rfl) ?_ ?_
  · rintro j d ρ u hj ⟨b, l, x, y, z, v, hl, hlen, rfl, rfl⟩
    obtain⟨hj2, rfl⟩ := rngL_get hj
    obtain⟨k1, c1, hk1, f1⟩ := qQ (P := P) n (t := [H, .lst (l.map Dr.d)]) hr b (c + 1 : Nat) (by omega) (qD (by omega))
    obtain⟨k3, c2, hk3, f2⟩ := qQ (P := P) n (t := [H, .lst (l.map Dr.d)]) hr c1 (c + 1 : Nat) (by omega) (qD (by omega))
    obtain⟨k2, c3, hk2, f3⟩ := qQ (P := P) n (t := [H, .lst (l.map Dr.d)]) hr c2 (a + 1 : Nat) (by omega) (qD (by omega))
    obtain⟨k4, c4, hk4, f4⟩ := qQ (P := P) n (t := [H, .lst (l.map Dr.d)]) hr c3 hi (by omega) (qD (by omega))
    refine Nx_of (ρ := [some (.ref r), some (.int (a + 1 : Nat)), some (.int (c + 1 : Nat)), some (.int many), some (.int hi), some (.ref (s.length + 1)), some (.int j), some (.int k1), some (.int k3), some (.str [97 + k2]), none, none, none]) (s := s.set r (qE c4) ++ [H, .lst ((l ++ [(⟨k1, 97 + k2, k3, k4⟩ : Dr)]).map Dr.d)]) ?_ ⟨c4, l ++ [(⟨k1, 97 + k2, k3, k4⟩ : Dr)], _, _, _, _, ?_, ?_, rfl, rfl⟩
    · simp -implicitDefEqProofs only[turn, fV, zl, zO, zD, aO, zd, zu, qz, ex_ex, zZ, zq, ev_ix, z8, qR, ev_tup, zz, zA, zV, zH, zr, zv, R.bind_ok, Cn_str, f1, f2, f3, f4, abc_ix (show k2 < 3 by omega), zy, zg]
      rw[app_two (by unfold LIM; simp; omega)]
      simp -implicitDefEqProofs
      rfl
    · intro d hd
      rcases bw.mp hd with h|h
      · exact hl d h
      · rw[bj.mp h]; constructor <;> simp only <;> omega
    · simp[hlen]
  · rintro ρ u ⟨b, l, x, y, z, v, hl, hlen, rfl, rfl⟩
    have p5 := pow5 (k := c + 1) (by omega)
    obtain⟨k1, c1, hk1, f1⟩ := qQ (P := P) n (t := [H, .lst (l.map Dr.d)]) hr b _ p5.1 (qD (by omega))
    obtain⟨k2, c2, hk2, f2⟩ := qQ (P := P) n (t := [H, .lst (l.map Dr.d)]) hr c1 _ p5.1 (qD (by omega))
    have hl3 : (s.set r (qE c2) ++ [H, O.lst (l.map Dr.d)])[s.length + 1]? = some (.lst (l.map Dr.d)) := by rw[ak (by simp)]; simp
    have hll : l.length <= 75 := by
      rw[hlen]; simp[jh]; omega
    have hrl : (jh 0 ((c + 1 : Nat) : Int)).length <= LIM := by rw[zE]; unfold LIM; omega
    simp -implicitDefEqProofs only[zg, zd, zu, qz, zZ, zV, zH, zq, ev_bin, z8, qo, zr, zv, R.bind_ok, shl_one ⟨show(0 : Int) <= ((c + 1 : Nat) : Int)by omega, by omega⟩, f1, zl, zO, zD, aO, zy, ev_mk, qZ, z6]
    rw[zF (by unfold W62; omega) (by unfold W62; omega)]
    simp -implicitDefEqProofs only[R.bind_ok, if_pos hrl]
    rw[bits_ok (by omega) rfl]
    simp -implicitDefEqProofs only[R.bind_ok, mk, f2, zy, zg, zl, zO, zD, aO, zd, zZ, zV, zH, zq, ev_bin, z8, qo, zr, zv, qz, shl_one ⟨show(0 : Int) <= ((c + 1 : Nat) : Int)by omega, by omega⟩, ev_mk, qZ, z6]
    rw[zF (by unfold W62; omega) (by unfold W62; omega)]
    simp -implicitDefEqProofs only[R.bind_ok, if_pos hrl]
    rw[bits_ok (by omega) rfl]
    simp -implicitDefEqProofs only[R.bind_ok, mk, zy, zg, qx, zl, zO, zD, aO, zd, zu, jb, ev_tup, zz, zA, zq, zr, zv, ev_mk, evL_seq, lstM, hl3, qv]
    refine⟨⟨a + 1, c + 1, roomsN k1 (c + 1), roomsN k2 (c + 1), l⟩, c2, ⟨by simp, by simp; omega, by simp, by simp; omega, roomsN_ok _ _, roomsN_ok _ _, λ x hx => ?_, hll⟩, ?_⟩
    · have := hl x hx
      exact⟨this.a, this.l, this.b, this.t⟩
    · exact canon_set (mc_bnd ⟨a + 1, c + 1, roomsN k1 (c + 1), roomsN k2 (c + 1), l⟩) (by nofun) rfl
noncomputable def lines (m:Nat)(f:Nat->Nat->Int):Sto:=(ah m).map λ i=>.lst (row m (f i))
@[simp] theorem lines_len {m:Nat} {f:Nat->Nat->Int}:(lines m f).length=m:=by unfold lines;simp
theorem lines_get {m i:Nat}{f:Nat->Nat->Int}(h:i<m):(lines m f)[i]?=some (.lst (row m (f i))):=by
 unfold lines;rw[aB,bv h];rfl
theorem row_set {m b:Nat}{f:Nat->Int}{v:Int}:(row m f).set b (.int v)=row m λ j=>if j=b then v else f j:=by
 apply ir
 intro j
 by_cases hj:j<m
 ·rw[jg hj]
  by_cases e:j=b
  ·subst e;rw[aU (by rw[row_len];exact hj),if_pos rfl]
  ·rw[a7 (λ z=>e z.symm),jg hj,if_neg e]
 ·rw[bN (by simp;omega),bN (by simp;omega)]
theorem lines_set {m a b:Nat}{f:Nat->Nat->Int}{v:Int}:(lines m f).set a (.lst ((row m (f a)).set b (.int v)))=lines m λ i j=>if i=a/\j=b then v else f i j:=by
 apply ir
 intro i
 by_cases hi:i<m
 ·rw[lines_get hi]
  by_cases e:i=a
  ·subst e;rw[aU (by rw[lines_len];exact hi),row_set]
   simp
  ·rw[a7 (λ z=>e z.symm),lines_get hi]
   simp[e]
 ·rw[bN (by simp;omega),bN (by simp;omega)]
noncomputable def refs (p m:Nat):List D:=(ah m).map λ i=>.ref (p+i)
theorem refs_get {p m i:Nat}(h:i<m):(refs p m)[i]?=some (.ref (p+i)):=by
 unfold refs;rw[aB,bv h];rfl
theorem comp_rngI {ok:Sto->Bool}{g:D->Env->Sto->R (Option D×Env)}(P:Nat->Env->Sto->Prop)(f:Nat->D)(n:Nat)
  (o:∀ k ρ s,P k ρ s->ok s=true) (st:∀ j,j<n->∀ ρ s,P j ρ s->∃ ρ' s',g (.int (j:Int)) ρ s=.ok (some (f j),ρ') s'/\P (j+1) ρ' s') :
  ∀(k:Nat) (ρ:Env) (s:Sto),k<=n->P k ρ s->∃ ρ' s',qN ok g (jh (k:Int) (n:Int)) ρ s=.ok ((List.range' k (n - k)).map f) s'/\P n ρ' s':=by
 intro k
 induction h:n - k generalizing k with
 | zero =>
  intro ρ s hk hp
  have e:k=n:=by omega
  subst e
  refine⟨ρ,s,?_,hp⟩
  rw[show jh (k:Int) (k:Int)=[]by simp[jh]]
  unfold qN
  rw[if_pos (o _ _ _ hp)];rfl
 | succ d ih =>
  intro ρ s hk hp
  obtain⟨ρ1,s1,e1,h1⟩:=st k (by omega) ρ s hp
  obtain⟨ρ2,s2,e2,h2⟩:=ih (k+1) (by omega) ρ1 s1 (by omega) h1
  refine⟨ρ2,s2,?_,h2⟩
  rw[rngL_cons (by omega),List.range'_succ,aK]
  unfold qN
  rw[if_pos (o _ _ _ hp),e1]
  simp only[R.bind_ok]
  rw[show((k:Int)+1)=((k+1:Nat):Int)by omega,e2]
  rfl
noncomputable def sgF (ds:List Dr)(c i j:Nat):Nat->Int
 | 0=>3
 | k+1=>match ds[k]? with
  | some x=>if x.l=c/\i=x.a/\j=x.b then(if(if 0<x.t then(1:Int)else 0)<sgF ds c i j k then(if 0<x.t then(1:Int)else 0)else sgF ds c i j k)else sgF ds c i j k
  | none=>sgF ds c i j k
theorem sgF_in (ds:List Dr)(c i j:Nat):∀ k,0<=sgF ds c i j k/\sgF ds c i j k<=3
 | 0=>by unfold sgF;decide
 | k+1=>by
  have:=sgF_in ds c i j k
  unfold sgF
  split
  ·repeat' split
   all_goals omega
  ·exact this
noncomputable def sgM (m:Mc)(c i j:Nat):Int:=sgF m.ds c i j m.ds.length
theorem int_bl {b:Bool}{s:Sto}:bi .int [.bl b] s=.ok (.int (if b then 1 else 0)) s:=rfl
theorem letter_signs_ok {P:Pr}[Has P w_letter_signs](n:Nat){m:Mc}(hm:m.Ok)(c:Nat)(s:Sto) :
  (callN P (n+1)).call "_law_letter_signs" [m.d,.str [c]] s=.ok (gd m.R (sgM m c)) s:=by
 have e0:(callN P (n+1)).call "_law_letter_signs" [m.d,.str [c]] s=_:=zb w_letter_signs (n:=n) rfl
 have hR:=hm.R5
 rw[e0]
 simp -implicitDefEqProofs [w_letter_signs,ixR]
 rw[zF (by unfold W62;omega) (by unfold W62;omega)]
 simp only[R.bind_ok]
 rw[if_pos (by rw[zE];unfold LIM;omega)]
 obtain⟨ρ1,s1,e1,h1⟩:=comp_rngI (ok:=λ s1=>chk s s1 []) (g:=qg (callN P n) (.one 0) (.mk .list (.comp (.one 0) (.rng1 (.var 1)) (.cst (.int 3)) [none]))) (λ k ρ u=>u=s++(ah k).map (λ _=>O.lst (row m.R λ _=>3))/\∃ x,ρ=[x,some (.int m.R)]) (λ i=>.ref (s.length+i)) m.R (λ _ _ _ _=>rfl) (by
  rintro j hj ρ u ⟨rfl,x,rfl⟩
  refine⟨[some (.int j),some (.int m.R)],_,?_,rfl,_,rfl⟩
  simp -implicitDefEqProofs [qg]
  rw[zF (by unfold W62;omega) (by unfold W62;omega)]
  simp only[R.bind_ok]
  rw[if_pos (by rw[zE];unfold LIM;omega)]
  obtain⟨ρ1,s1,e1,h1⟩:=qK (ok:=λ s1=>chk (s++(ah j).map (λ _=>O.lst (row m.R λ _=>3))) s1 []) (g:=qg (callN P n) (.one 0) (.cst (.int 3))) (λ ρ u=>u=s++(ah j).map (λ _=>O.lst (row m.R λ _=>3))/\∃ x,ρ=[x]) (λ _=>.int 3) m.R (zK [some (.int (j:Int)),some (.int m.R)] [none]) _ ⟨rfl,none,rfl⟩ (λ _ _ _=>rfl) (by
   rintro i _ ρ u ⟨rfl,x,rfl⟩
   exact⟨_,_,rfl,rfl,_,rfl⟩)
  obtain⟨rfl,_⟩:=h1
  rw[e1]
  simp -implicitDefEqProofs [mk,cN]
  rfl) 0 (zK [some m.d,some (.str [c]),some (.int m.R),none,none,none,none,none] [none,some 2]) s (cX _) ⟨by simp,none,rfl⟩
 obtain⟨rfl,_⟩:=h1
 rw[show((0:Nat):Int)=0 from rfl]at e1
 rw[e1]
 have el:(ah m.R).map (λ _=>O.lst (row m.R λ _=>3))=lines m.R (λ i j=>sgF m.ds c i j 0):=rfl
 rw[el,Nat.sub_zero,<-List.range_eq_range']
 simp -implicitDefEqProofs [mk,ixD,tup_seq]
 refine for_bind (λ k ρ t=>∃(x y z w:Option D),ρ=[some m.d,some (.str [c]),some (.int m.R),some (.ref (s.length+m.R)),x,y,z,w]/\t=s++(lines m.R (λ i j=>sgF m.ds c i j k)++[.lst (refs s.length m.R)])) ⟨none,none,none,none,rfl,rfl⟩ (λ _ _ _ _ _=>rfl) ?_ ?_
 ·rintro k d ρ t hk ⟨x,y,z,w,rfl,rfl⟩
  rw[aB]at hk
  obtain⟨v,hv,rfl⟩:∃ v,m.ds[k]?=some v/\Dr.d v=d:=by
   cases e:m.ds[k]? with
   | none=>rw[e]at hk;cases hk
   | some v=>rw[e]at hk;exact⟨v,rfl,au hk⟩
  have hvo:=hm.ds.1 v (aJ hv)
  have ha:=hvo.a
  have hb:=hvo.b
  refine Nx_of (ρ:=[some m.d,some (.str [c]),some (.int m.R),some (.ref (s.length+m.R)),some (.int v.a),some (.str [v.l]),some (.int v.b),some (.int v.t)]) (s:=s++(lines m.R (λ i j=>sgF m.ds c i j (k+1))++[.lst (refs s.length m.R)])) ?_ ⟨_,_,_,_,rfl,rfl⟩
  have e3:(s++(lines m.R (λ i j=>sgF m.ds c i j k)++[.lst (refs s.length m.R)]))[s.length+m.R]?=some (.lst (refs s.length m.R)):=by
   rw[ak (by omega),bS,ak (by simp)];simp
  have e4:(s++(lines m.R (λ i j=>sgF m.ds c i j k)++[.lst (refs s.length m.R)]))[s.length+v.a]?=some (.lst (row m.R λ j=>sgF m.ds c v.a j k)):=by
   rw[ak (by omega),bS,aF (by simpa using ha),lines_get ha]
  have e5:=qa e3 (refs_get ha)
  have e6:=qa e4 (jg hb)
  by_cases hl:v.l=c
  ·simp -implicitDefEqProofs only[turn,Dr.d,bindT_tup,setVs_cons,setVs_nil,zO,zD,aO,fD,zd,zu,qH,qp,zq,zr,zv,R.bind_ok,eq_str1,hl,decide_true,zW,if_true,ex_setIx,ev_bi,zz,zA,ev_ix,e5,e6,z8,qo,gt_int,int_bl,min2_int]
   rw[set_lst e4 (by rw[row_len];exact hb)]
   simp -implicitDefEqProofs only[R.bind_ok,zg,zu]
   congr 1
   rw[bu _ _ (by omega),bS,List.set_append_left _ _ (by simpa using ha)]
   congr 2
   rw[lines_set (f:=λ i j=>sgF m.ds c i j k)]
   congr 1
   funext i j
   rw[sgF,hv]
   by_cases h2:i=v.a/\j=v.b
   ·obtain⟨rfl,rfl⟩:=h2
    simp[hl]
   ·simp[hl,h2]
  ·simp -implicitDefEqProofs only[turn,Dr.d,bindT_tup,setVs_cons,setVs_nil,zO,zD,aO,fD,zd,zu,qH,qp,zq,zr,zv,R.bind_ok,eq_str1,hl,decide_false,zW,if_false,aQ,zg]
   congr 3
   congr 1
   funext i j
   rw[sgF,hv]
   simp[hl]
 ·rintro ρ t ⟨x,y,z,w,rfl,rfl⟩
  rw[aG]
  have e3:(s++(lines m.R (sgM m c)++[.lst (refs s.length m.R)]))[s.length+m.R]?=some (.lst (refs s.length m.R)):=by
   rw[ak (by omega),bS,ak (by simp)];simp
  show(nxt _ _ _ (s++(lines m.R (sgM m c)++[.lst (refs s.length m.R)]))).bind _=_
  simp -implicitDefEqProofs [seqM,e3]
  rw[if_pos (by unfold refs LIM;simp;omega)]
  generalize hS:s++(lines m.R (sgM m c)++[.lst (refs s.length m.R)])=S
  obtain⟨ρ1,s1,e1,h1⟩:=comp_map (ok:=λ s1=>chk S s1 [s.length+m.R]) (g:=qg (callN P n) (.one 0) (.mk .tuple (.seq (.var 0)))) (λ ρ u=>u=S/\∃ x,ρ=[x]) (λ d=>match d with|.ref p=>.tup (row m.R (sgM m c (p - s.length)))|d=>d) (refs s.length m.R) (zK [some m.d,some (.str [c]),some (.int m.R),some (.ref (s.length+m.R)),x,y,z,w] [none]) S ⟨rfl,none,rfl⟩ (λ _ u h=>by obtain⟨rfl,_⟩:=h;simp[chk]) (by
   rintro d hd ρ u ⟨rfl,x,rfl⟩
   obtain⟨i,hi,rfl⟩:=ax.mp hd
   have hi':=aZ.mp hi
   have e4:u[s.length+i]?=some (.lst (row m.R (sgM m c i))):=by
    rw[<-hS,ak (by omega),bS,aF (by simpa using hi'),lines_get hi']
   refine⟨[some (.ref (s.length+i))],u,?_,rfl,_,rfl⟩
   simp -implicitDefEqProofs [qg,lstM,e4,mk])
  obtain⟨rfl,_⟩:=h1
  rw[e1]
  simp -implicitDefEqProofs [mk]
  rw[<-hS]
  have:(refs s.length m.R).map (λ d=>match d with|.ref p=>D.tup (row m.R (sgM m c (p - s.length)))|d=>d)=(ah m.R).map λ i=>.tup (row m.R (sgM m c i)):=by
   unfold refs
   rw[c9]
   exact cC λ i _=>by simp
  rw[this]
  exact zX (d:=gd m.R (sgM m c)) qT (by nofun)
@[simp] theorem evI_zip {F:Fns} {ρ:Env} {s:Sto} (a b:E):evI F (.zip (.seq a) (.seq b)) ρ s=(ev F a ρ s).bind λ x s=>(ev F b ρ s).bind λ y s=>(drawM x s).bind λ p s=>(drawM y s).bind λ q s=>.ok ⟨zipL p.its q.its,p.src++q.src⟩ s:=rfl
theorem ix_str {l:List Nat}{j c:Nat}{s:Sto}(hj:l[j]?=some c):ixM (.str l) (.int (j:Int)) s=.ok (.str [c]) s:=by
 have hl:j<l.length:=(ac.mp hj).1
 have e:l[j]=c:=(ac.mp hj).2
 simp[ixM,ixn,hl,e]
theorem eqv_int (s:Sto)(n:Nat)(a b:Int):eqv s n (.int a) (.int b)=some (a==b):=by cases n<;>rfl
noncomputable def shN (f:Nat->Nat->Int)(i j:Nat):Nat->Int
 | 0=>3
 | k+1=>let b:=max (max (f i k) (if f k k=1 then 2 else f k k)) (f k j);if b<shN f i j k then b else shN f i j k
noncomputable def sh (m:Nat)(f:Nat->Nat->Int)(i j:Nat):Int:=shN f i j m
theorem max3_int {a b c:Int}{s:Sto}:bi .max3 [.int a,.int b,.int c] s=.ok (.int (max (max a b) c)) s:=rfl
theorem len_gd {m:Nat}{f:Nat->Nat->Int}{s:Sto}:bi .len [gd m f] s=.ok (.int m) s:=by
 show R.ok (D.int ((ah m).map λ i=>D.tup (row m (f i))).length) s=_
 simp
theorem app_tail {s:Sto}{l:List D}{v:D}(h:l.length<LIM):meth .append (.ref s.length) [v] (s++[.lst l])=.ok .non (s++[.lst (l++[v])]):=app_mid (t:=[]) h
theorem sharp_ok {P:Pr}[Has P w_sharp_2](n:Nat){m:Nat}(hR:m<=5)(f:Nat->Nat->Int)(s:Sto) :
  (callN P (n+1)).call "_law_sharp" [gd m f] s=.ok (gd m (sh m f)) s:=by
 have e0:(callN P (n+1)).call "_law_sharp" [gd m f] s=_:=zb w_sharp_2 (n:=n) rfl
 rw[e0]
 simp -implicitDefEqProofs [w_sharp_2,len_gd]
 rw[zF (by unfold W62;omega) (by unfold W62;omega)]
 simp only[R.bind_ok]
 refine for_bind (λ i ρ t=>∃(T:Sto) (x y z u v w:Option D),ρ=[some (gd m f),some (.int m),some (.ref s.length),x,y,z,u,v,w]/\t=s++.lst ((ah i).map λ i=>.tup (row m (sh m f i)))::T) ⟨[],none,none,none,none,none,none,rfl,rfl⟩ (λ _ _ _ _ _=>rfl) ?_ ?_
 ·rintro i d ρ t hi ⟨T,x,y,z,u,v,w,rfl,rfl⟩
  have qq:=qw hi
  have hi5:=qq.1
  have hd:=qq.2
  rw[hd]
  simp -implicitDefEqProofs only[turn,zl,zO,zD,aO,zd,qz,ev_lst,zA,R.bind_ok,alloc_eq,zy,zg,ex_for,z6,zq,zr,zv,dE,c7,aW,aR]
  rw[zF (by unfold W62;omega) (by unfold W62;omega)]
  simp only[R.bind_ok]
  generalize hX:(ah i).map (λ i=>D.tup (row m (sh m f i)))=X
  have hXl:X.length=i:=by rw[<-hX];simp
  refine qB (W:=Nx _) (λ j ρ t=>∃(z u v w:Option D),ρ=[some (gd m f),some (.int m),some (.ref s.length),some (.int i),some (.ref (s.length+(T.length+1))),z,u,v,w]/\t=s++.lst X::(T++[.lst ((ah j).map λ j=>.int (sh m f i j))])) ⟨z,u,v,w,rfl,rfl⟩ (λ _ _ _ _ _=>rfl) ?_ ?_
  ·rintro j d ρ t hj ⟨z,u,v,w,rfl,rfl⟩
   have hj5:=(qw hj).1
   rw[(qw hj).2]
   simp -implicitDefEqProofs only[turn,zl,zO,zD,aO,zd,qz,z8,qo,R.bind_ok,zy,zg,ex_for,z6,zq,zr,zv]
   rw[zF (by unfold W62;omega) (by unfold W62;omega)]
   simp only[R.bind_ok]
   refine qB (W:=Nx _) (λ k ρ t=>∃(v w:Option D),ρ=[some (gd m f),some (.int m),some (.ref s.length),some (.int i),some (.ref (s.length+(T.length+1))),some (.int j),some (.int (shN f i j k)),v,w]/\t=s++.lst X::(T++[.lst ((ah j).map λ j=>.int (sh m f i j))])) ⟨v,w,rfl,rfl⟩ (λ _ _ _ _ _=>rfl) ?_ ?_
   ·rintro k d ρ t hk ⟨v,w,rfl,rfl⟩
    have hk5:=(qw hk).1
    rw[(qw hk).2]
    refine Nx_of (ρ:=[some (gd m f),some (.int m),some (.ref s.length),some (.int i),some (.ref (s.length+(T.length+1))),some (.int j),some (.int (shN f i j (k+1))),some (.int k),some (.int (if f k k=1 then 2 else f k k))]) (s:=s++.lst X::(T++[.lst ((ah j).map λ j=>.int (sh m f i j))])) ?_ ⟨_,_,rfl,rfl⟩
    by_cases h1:f k k=1
    ·simp -implicitDefEqProofs [turn,gd_ix hk5,gd_ix hi5,qG hk5,qG hj5,h1,max3_int,shN]
    ·simp -implicitDefEqProofs [turn,gd_ix hk5,gd_ix hi5,qG hk5,qG hj5,h1,max3_int,shN]
   ·rintro ρ t ⟨v,w,rfl,rfl⟩
    rw[zE]
    have e4:(s++.lst X::(T++[O.lst ((ah j).map λ j=>D.int (sh m f i j))]))[s.length+(T.length+1)]?=some (.lst ((ah j).map λ j=>.int (sh m f i j))):=get_last
    simp -implicitDefEqProofs only[zg,zd,zu,ex_ex,qR,zz,zA,zq,zr,zv,R.bind_ok]
    rw[qj e4 (by unfold LIM;simp;omega)]
    simp -implicitDefEqProofs only[R.bind_ok,zg,zu,Nx_next]
    refine⟨_,_,_,_,rfl,?_⟩
    rw[bu _ _ (by omega),bS,List.set_cons_succ,bu _ _ (aj _),jB,List.set_cons_zero,cN,b9]
    rfl
  ·rintro ρ t ⟨z,u,v,w,rfl,rfl⟩
   rw[zE]
   have e4:(s++.lst X::(T++[O.lst ((ah m).map λ j=>D.int (sh m f i j))]))[s.length+(T.length+1)]?=some (.lst ((ah m).map λ j=>.int (sh m f i j))):=get_last
   simp -implicitDefEqProofs only[zg,zd,zu,ex_ex,qR,zz,zA,zq,zr,zv,R.bind_ok,ev_mk,evL_seq,lstM,e4,mk]
   rw[app_mid (by unfold LIM;omega)]
   simp -implicitDefEqProofs only[R.bind_ok,zg,zu,Nx_next]
   refine⟨T++[O.lst (bD (λ j=>D.int (sh m f i j)) (ah m))],_,_,_,_,_,_,rfl,?_⟩
   rw[cN,b9,hX]
   rfl
 ·rintro ρ t ⟨T,x,y,z,u,v,w,rfl,rfl⟩
  rw[zE]
  have h0:(s++.lst ((ah m).map λ i=>D.tup (row m (sh m f i)))::T:Sto)[s.length]?=some (.lst ((ah m).map λ i=>D.tup (row m (sh m f i)))):=by rw[ak (aj _)];simp
  simp -implicitDefEqProofs [lstM,h0,mk]
  exact zX (d:=gd m (sh m f)) qT (by nofun)
theorem eqL_row {s:Sto}{n m:Nat}{f g:Nat->Int}:∀ l:List Nat,eqL (eqv s n) (l.map λ j=>.int (f j)) (l.map λ j=>.int (g j))=some (l.all λ j=>f j==g j)
 | []=>rfl
 | a::l=>by
  rw[aK,aK]
  unfold eqL
  rw[eqv_int,eqL_row (m:=m) l]
  simp
theorem eqL_gd {s:Sto}{n m:Nat}{f g:Nat->Nat->Int}:∀ l:List Nat,eqL (eqv s (n+1)) (l.map λ i=>.tup (row m (f i))) (l.map λ i=>.tup (row m (g i)))=some (l.all λ i=>(ah m).all λ j=>f i j==g i j)
 | []=>rfl
 | a::l=>by
  rw[aK,aK]
  unfold eqL
  rw[show eqv s (n+1) (.tup (row m (f a))) (.tup (row m (g a)))=eqL (eqv s n) (row m (f a)) (row m (g a))from rfl,row,row,eqL_row (m:=m),eqL_gd l]
  simp
noncomputable def EqG (m:Nat)(f g:Nat->Nat->Int):Prop:=∀ i j,i<m->j<m->f i j=g i j
theorem eqv_gd {s:Sto}{m:Nat}{f g:Nat->Nat->Int}:∃ b:Bool,eqv s DEEP (gd m f) (gd m g)=some b/\(b=true↔EqG m f g):=by
 refine⟨_,eqL_gd (n:=28) (ah m),?_⟩
 simp[EqG,aN]
 exact⟨λ h i j hi hj=>h i hi j hj,λ h i hi j hj=>h i j hi hj⟩
theorem eq_gd {s:Sto}{m:Nat}{f g:Nat->Nat->Int}:∃ b:Bool,qd .eq (gd m f) (gd m g) s=.ok (.bl b) s/\(b=true↔EqG m f g):=by
 obtain⟨b,e,h⟩:=eqv_gd (s:=s) (m:=m) (f:=f) (g:=g)
 exact⟨b,by show(match eqv s DEEP (gd m f) (gd m g)with|some r=>R.ok (D.bl r) s|none=>.bad)=_;rw[e],h⟩
inductive Stp where
 | let_ (c:Nat)|pair (i j:Nat)|sharp (i:Nat)
noncomputable def Stp.d:Stp->D
 | .let_ c=>.tup [.str [108,101,116,116,101,114],.str [c]]
 | .pair i j=>.tup [.str [112,97,105,114],.int i,.int j]
 | .sharp i=>.tup [.str [115,104,97,114,112],.int i]
theorem zC {l:List D}(h:∀ d∈l,d.ncl=true):D.nclL l=true:=by
 induction l with
 | nil=>rfl
 | cons d l ih=>unfold D.nclL;rw[h d (aC ..),ih λ x hx=>h x (aw _ hx)];rfl
theorem Stp.ncl (x:Stp):x.d.ncl=true:=by cases x<;>rfl
theorem stps_ncl {l:List Stp}:D.nclL (l.map Stp.d)=true:=zC λ d hd=>by obtain⟨x,_,rfl⟩:=ax.mp hd;exact x.ncl
theorem nats_ncl {l:List Nat}:D.nclL (qi l)=true:=zC λ d hd=>by obtain⟨x,_,rfl⟩:=ax.mp hd;rfl
theorem ints_ncl {l:List Int}:D.nclL (l.map D.int)=true:=zC λ d hd=>by obtain⟨x,_,rfl⟩:=ax.mp hd;rfl
theorem row_ncl {m:Nat}{f:Nat->Int}:D.nclL (row m f)=true:=zC λ d hd=>by obtain⟨x,_,rfl⟩:=ax.mp hd;rfl
theorem gd_ncl {m:Nat}{f:Nat->Nat->Int}:(gd m f).ncl=true:=by
 unfold gd D.ncl
 exact zC λ d hd=>by obtain⟨x,_,rfl⟩:=ax.mp hd;unfold D.ncl;exact row_ncl
theorem all_set {s:Sto}{r:Nat}{o:O}(h:s.all O.ncl=true)(ho:o.ncl=true):(s.set r o).all O.ncl=true:=by
 rw[aN]at h ⊢
 intro x hx
 rcases db hx with h1|h1
 ·exact h x h1
 ·rw[h1];exact ho
inductive Mks (m:Mc):List Stp->List (Nat->Nat->Int)->Prop where
 | nil:Mks m [] []
 | let_ {l fs} (c:Nat):Mks m l fs->97<=c->c<97+m.L->Mks m (l++[.let_ c]) (fs++[sgM m c])
 | pair {l fs} (i j:Nat) (f g:Nat->Nat->Int):Mks m l fs->fs[i]?=some f->fs[j]?=some g->Mks m (l++[.pair i j]) (fs++[pr m.R f g])
 | sharp {l fs} (i:Nat) (f:Nat->Nat->Int):Mks m l fs->fs[i]?=some f->EqG m.R (pr m.R f f) f->Mks m (l++[.sharp i]) (fs++[sh m.R f])
theorem Mks.len {m:Mc}{l:List Stp}{fs:List (Nat->Nat->Int)}(h:Mks m l fs):l.length=fs.length:=by
 induction h<;>simp_all
noncomputable def stM (s:Sto)(r:Nat)(b:Int)(A B C:List D)(T:Sto):Sto:=s.set r (qE b)++(.lst A::.lst B::.lst C::T)
section
variable {s:Sto} {r:Nat} {b:Int} {A B C:List D} {T:Sto}
theorem stM_0:(stM s r b A B C T)[s.length]?=some (.lst A):=by unfold stM;rw[ak (by simp)];simp
theorem stM_1:(stM s r b A B C T)[s.length+1]?=some (.lst B):=by unfold stM;rw[ak (by simp)];simp
theorem stM_2:(stM s r b A B C T)[s.length+2]?=some (.lst C):=by unfold stM;rw[ak (by simp)];simp
theorem stM_a0 {v:D}(h:A.length<LIM):meth .append (.ref s.length) [v] (stM s r b A B C T)=.ok .non (stM s r b (A++[v]) B C T):=by
 rw[qj stM_0 h];unfold stM;rw[bu _ _ (by simp)];simp
theorem stM_a1 {v:D}(h:B.length<LIM):meth .append (.ref (s.length+1)) [v] (stM s r b A B C T)=.ok .non (stM s r b A (B++[v]) C T):=by
 rw[qj stM_1 h];unfold stM;rw[bu _ _ (by simp)];simp
theorem stM_a2 {v:D}(h:C.length<LIM):meth .append (.ref (s.length+2)) [v] (stM s r b A B C T)=.ok .non (stM s r b A B (C++[v]) T):=by
 rw[qj stM_2 h];unfold stM;rw[bu _ _ (by simp)];simp
theorem stM_more {o:O}:stM s r b A B C T++[o]=stM s r b A B C (T++[o]):=by unfold stM;simp
theorem stM_len:(stM s r b A B C T).length=s.length+(T.length+3):=by unfold stM;simp
theorem stM_last {o:O}:(stM s r b A B C (T++[o]))[s.length+(T.length+3)]?=some o:=by
 rw[<-stM_more,ak (by rw[stM_len];omega),stM_len];simp
theorem stM_draw {P:Pr}[Has P w_draw](n:Nat)(hr:r<s.length)(many:Int)(h0:0<many)(h:many<=10^90) :
  ∃(k:Nat) (b':Int),(k:Int)<many/\(callN P (n+1)).call "_law_draw" [.ref r,.int many] (stM s r b A B C T)=.ok (.int k) (stM s r b' A B C T):=qQ n hr b many h0 h
end
theorem ne_empty {s:Sto}{r:Nat}{b:Int}{A B C:List D}{T:Sto}:qd .ne (.ref (s.length+2)) (.ref (s.length+(T.length+3))) (stM s r b A B C (T++[O.lst []]))=.ok (.bl (!decide (C=[]))) (stM s r b A B C (T++[O.lst []])):=by
 show(match eqv (stM s r b A B C (T++[O.lst []])) DEEP (.ref (s.length+2)) (.ref (s.length+(T.length+3)))with|some r=>R.ok (D.bl (!r)) _|none=>.bad)=_
 have:eqv (stM s r b A B C (T++[O.lst []])) DEEP (.ref (s.length+2)) (.ref (s.length+(T.length+3)))=some (decide (C=[])):=by
  show(match(stM s r b A B C (T++[O.lst []]))[s.length+2]?,(stM s r b A B C (T++[O.lst []]))[s.length+(T.length+3)]? with
   | some (O.lst l),some (O.lst m)=>if l.length=m.length then eqL (eqv (stM s r b A B C (T++[O.lst []])) 29) l m else some false
   | _,_=>none)=_
  rw[stM_2,stM_last]
  cases C<;>rfl
 rw[this]
noncomputable def zh (m:Nat)(fs:List (Nat->Nat->Int)):List D:=fs.map (gd m)
theorem tabs_ncl {m:Nat}{fs:List (Nat->Nat->Int)}:D.nclL (zh m fs)=true:=zC λ d hd=>by obtain⟨x,_,rfl⟩:=ax.mp hd;exact gd_ncl
theorem qJ {m i:Nat}{fs:List (Nat->Nat->Int)}{f:Nat->Nat->Int}(h:fs[i]?=some f):(zh m fs)[i]?=some (gd m f):=by
 unfold zh;rw[aB,h];rfl
noncomputable def mkC:E:=.and (.cmp .lt (.var 8) (.cst (.int 4))) (.and (.cmp .gt (.var 3) (.cst (.int 0))) (.and (.cmp .ne (.var 6) (.lst .nil)) (.cmp .gt (.var 8) (.cst (.int 0)))))
noncomputable def mkA:Ss:=(.cons (.asg (.one 9) (.ix (.var 6) (.bin .mod (.var 10) (.bi .len (.cons (.var 6) .nil))))) (.cons (.ex (.meth .append (.var 4) (.cons (.tup (.cons (.cst (.str [115,104,97,114,112])) (.cons (.var 9) .nil))) .nil))) (.cons (.ex (.meth .append (.var 5) (.cons (.call "_law_sharp" (.ex (.ix (.var 5) (.var 9)) .nil)) .nil))) (.cons (.asg (.one 3) (.bin .sub (.var 3) (.cst (.int 1)))) .nil))))
noncomputable def mkB:Ss:=(.cons (.asg (.one 9) (.bi .min2 (.cons (.var 9) (.cons (.bin .sub (.var 7) (.cst (.int 1))) .nil)))) (.cons (.asg (.one 10) (.ite (.cmp .gt (.var 8) (.cst (.int 1))) (.bi .min2 (.cons (.var 10) (.cons (.bin .sub (.var 7) (.cst (.int 1))) .nil))) (.var 9))) (.cons (.ex (.meth .append (.var 4) (.cons (.tup (.cons (.cst (.str [112,97,105,114])) (.cons (.var 9) (.cons (.var 10) .nil)))) .nil))) (.cons (.ex (.meth .append (.var 5) (.cons (.call "_law_product" (.ex (.ix (.var 5) (.var 9)) (.ex (.ix (.var 5) (.var 10)) .nil))) .nil))) .nil))))
noncomputable def mkL:Ss:=(.cons (.asg (.one 11) (.ix (.cst (.str [97,98,99])) (.bin .mod (.var 9) (.ix (.var 1) (.cst (.int 0)))))) (.cons (.ex (.meth .append (.var 4) (.cons (.tup (.cons (.cst (.str [108,101,116,116,101,114])) (.cons (.var 11) .nil))) .nil))) (.cons (.ex (.meth .append (.var 5) (.cons (.call "_law_letter_signs" (.ex (.var 1) (.ex (.var 11) .nil))) .nil))) .nil)))
noncomputable def mkI:S:=.ite mkC mkA (.cons (.ite (.and (.cmp .gt (.var 7) (.cst (.int 0))) (.cmp .lt (.var 8) (.cst (.int 5)))) mkB mkL) .nil)
noncomputable def mkE:S:=.ite (.cmp .eq (.call "_law_product" (.ex (.ix (.var 5) (.var 7)) (.ex (.ix (.var 5) (.var 7)) .nil))) (.ix (.var 5) (.var 7))) (.cons (.ex (.meth .append (.var 6) (.cons (.var 7) .nil))) .nil) .nil
noncomputable def Steady (m:Nat)(fs:List (Nat->Nat->Int))(C:List Nat):Prop:=∀ i∈C,∃ f,fs[i]?=some f/\EqG m (pr m f f) f
theorem Steady.app {m:Nat}{fs:List (Nat->Nat->Int)}{C:List Nat}{g:Nat->Nat->Int}(h:Steady m fs C):Steady m (fs++[g]) C:=λ i hi=>by
 obtain⟨f,e,q⟩:=h i hi
 exact⟨f,by rw[aF (ac.mp e).1];exact e,q⟩
noncomputable def envM (s:Sto)(r:Nat)(m:Mc)(most z:Int)(k:Option D)(x8 x9 x10 x11:Option D):Env:=[some (.ref r),some m.d,some (.int most),some (.int z),some (.ref s.length),some (.ref (s.length+1)),some (.ref (s.length+2)),k,x8,x9,x10,x11]
theorem mkC_ok {F:Fns}{s:Sto}{r:Nat}{m:Mc}{most z:Int}{k way one other:Nat}{x11:Option D}{b:Int}{A B C:List D}{T:Sto} :
  ∃(c:Bool) (T':Sto),ev F mkC (envM s r m most z (some (.int k)) (some (.int way)) (some (.int one)) (some (.int other)) x11) (stM s r b A B C T)=.ok (.bl c) (stM s r b A B C T')/\(c=true->C≠[])/\(T.all O.ncl=true->T'.all O.ncl=true):=by
 unfold mkC envM
 by_cases h1:(way:Int)<4
 ·by_cases h2:0<z
  ·by_cases h3:C=[]
   ·refine⟨false,T++[.lst []],?_,nofun,λ h=>by rw[ef,h];rfl⟩
    simp -implicitDefEqProofs [h1,h2,stM_more,stM_len]
    rw[ne_empty]
    simp -implicitDefEqProofs [h3]
   ·refine⟨decide (0<(way:Int)),T++[.lst []],?_,λ _=>h3,λ h=>by rw[ef,h];rfl⟩
    simp -implicitDefEqProofs [h1,h2,stM_more,stM_len]
    rw[ne_empty]
    simp -implicitDefEqProofs [h3]
  ·exact⟨false,T,by simp -implicitDefEqProofs [h1,h2],nofun,id⟩
 ·exact⟨false,T,by simp -implicitDefEqProofs [h1],nofun,id⟩
theorem ixm {l:List D}{s:Sto}{r:Nat}{i:Int}{j:Nat}{d:D}(h:s[r]?=some (.lst l))(e:i=(j:Int))(hj:l[j]?=some d):ixM (.ref r) (.int i) s=.ok d s:=by rw[e];exact qa h hj
theorem mkI_ok {P:Pr}[Has P w_product_2][Has P w_letter_signs][Has P w_sharp_2]{n:Nat}{s:Sto}{r:Nat}{m:Mc}(hm:m.Ok){most z:Int}{k way one other:Nat}{x11:Option D}{b:Int}{l:List Stp}{fs:List (Nat->Nat->Int)}{C:List Nat}{T:Sto}
  (hM:Mks m l fs) (hk:l.length=k) (hk2:k<1000) (hone:one<k+1) (hoth:other<k+1) (hC:Steady m.R fs C) :
  ∃(x:Stp) (f:Nat->Nat->Int) (z':Int) (x9 x10 x11':Option D) (T':Sto),Mks m (l++[x]) (fs++[f])/\(T.all O.ncl=true->T'.all O.ncl=true) /\
   ex (callN P (n+1)) mkI (envM s r m most z (some (.int k)) (some (.int way)) (some (.int one)) (some (.int other)) x11) (stM s r b (l.map Stp.d) (zh m.R fs) (qi C) T)
    = .ok (.next (envM s r m most z' (some (.int k)) (some (.int way)) x9 x10 x11')) (stM s r b ((l++[x]).map Stp.d) (zh m.R (fs++[f])) (qi C) T'):=by
 have hlen:=hM.len
 have hL0:(l.map Stp.d).length<LIM:=by unfold LIM;simp;omega
 have hL1:(zh m.R fs).length<LIM:=by unfold LIM zh;simp;omega
 obtain⟨c,T',ec,hc,hT⟩:=mkC_ok (F:=callN P (n+1)) (s:=s) (r:=r) (m:=m) (most:=most) (z:=z) (k:=k) (way:=way) (one:=one) (other:=other) (x11:=x11) (b:=b) (A:=l.map Stp.d) (B:=zh m.R fs) (C:=qi C) (T:=T)
 unfold mkI
 rw[qH,ec,zW]
 cases c with
 | true =>
  have hne:=hc rfl
  have hCl:0<C.length:=by
   cases C with
   | nil=>exact absurd rfl hne
   | cons _ _=>simp
  rw[if_pos rfl]
  have hq:other % C.length<C.length:=Nat.mod_lt _ hCl
  obtain⟨i,hi⟩:∃ i,C[other % C.length]?=some i:=⟨_,af hq⟩
  obtain⟨f,hf,hst⟩:=hC i (aJ hi)
  refine⟨.sharp i,sh m.R f,z - 1,some (.int i),some (.int other),x11,T',.sharp i f hM hf hst,hT,?_⟩
  have i1:∀ T,ixM (.ref (s.length+2)) (.int ((other:Int) % (C.length:Int))) (stM s r b (l.map Stp.d) (zh m.R fs) (qi C) T)=.ok (.int i) (stM s r b (l.map Stp.d) (zh m.R fs) (qi C) T):=λ T=>ixm stM_2 (j:=other % C.length) (by simp) (by unfold qi;rw[aB,hi];rfl)
  have i2:∀ A T,ixM (.ref (s.length+1)) (.int (i:Int)) (stM s r b A (zh m.R fs) (qi C) T)=.ok (gd m.R f) (stM s r b A (zh m.R fs) (qi C) T):=λ A T=>qa stM_1 (qJ hf)
  have l2:bi .len [.ref (s.length+2)] (stM s r b (l.map Stp.d) (zh m.R fs) (qi C) T')=.ok (.int C.length) (stM s r b (l.map Stp.d) (zh m.R fs) (qi C) T'):=by rw[len_lst stM_2];simp[qi]
  unfold mkA envM
  simp -implicitDefEqProofs only[zd,zu,qz,ex_ex,ev_ix,zq,ev_bin,ev_bi,zz,zA,zr,zv,R.bind_ok,l2,mod_int (show(0:Int)<(C.length:Int)by omega),i1,zl,zO,zD,aO,zy,zg,qR,ev_tup,z8,Cn_str,qo,stM_a0 hL0,zZ,zV,zH,i2,sharp_ok n hm.R5,stM_a1 hL1,sub_int]
  unfold zh;simp[Stp.d]
 | false =>
  rw[if_neg aP]
  by_cases hk0:0<k/\way<5
  ·obtain⟨h1,h2⟩:=hk0
   have hmin:∀ a:Nat,(if(k:Int) - 1<(a:Int)then(k:Int) - 1 else(a:Int))=((min a (k - 1):Nat):Int):=λ a=>by omega
   obtain⟨j,hj,hoj⟩:∃ j:Nat,j<k/\(if(1:Int)<(way:Int)then((min other (k - 1):Nat):Int)else((min one (k - 1):Nat):Int))=(j:Int):=by
    by_cases h:(1:Int)<(way:Int)
    ·exact⟨min other (k - 1),by omega,if_pos h⟩
    ·exact⟨min one (k - 1),by omega,if_neg h⟩
   have hi:min one (k - 1)<fs.length:=by omega
   have hj':j<fs.length:=by omega
   refine⟨.pair (min one (k - 1)) j,pr m.R fs[min one (k - 1)] fs[j],z,some (.int (min one (k - 1):Nat)),some (.int j),x11,T',.pair _ _ _ _ hM (af hi) (af hj'),hT,?_⟩
   have i1:∀ A T,ixM (.ref (s.length+1)) (.int ((min one (k - 1):Nat):Int)) (stM s r b A (zh m.R fs) (qi C) T)=.ok (gd m.R fs[min one (k - 1)]) (stM s r b A (zh m.R fs) (qi C) T):=λ A T=>qa stM_1 (qJ (af hi))
   have i2:∀ A T,ixM (.ref (s.length+1)) (.int (j:Int)) (stM s r b A (zh m.R fs) (qi C) T)=.ok (gd m.R fs[j]) (stM s r b A (zh m.R fs) (qi C) T):=λ A T=>qa stM_1 (qJ (af hj'))
   have h1':(0:Int)<(k:Int):=by omega
   have h2':(way:Int)<5:=by omega
   have eo:ev (callN P (n+1)) (.ite (.cmp .gt (.var 8) (.cst (.int 1))) (.bi .min2 (.cons (.var 10) (.cons (.bin .sub (.var 7) (.cst (.int 1))) .nil))) (.var 9)) (envM s r m most z (some (.int k)) (some (.int way)) (some (.int (min one (k - 1):Nat))) (some (.int other)) x11) (stM s r b (l.map Stp.d) (zh m.R fs) (qi C) T')=.ok (.int j) (stM s r b (l.map Stp.d) (zh m.R fs) (qi C) T'):=by
    rw[<-hoj]
    unfold envM
    by_cases h:(1:Int)<(way:Int)
    ·simp -implicitDefEqProofs only[ev_ite,qp,zq,z8,qo,zr,zv,R.bind_ok,gt_int,zW,h,decide_true,if_true,ev_bi,zz,zA,ev_bin,sub_int,min2_int,hmin]
    ·simp -implicitDefEqProofs only[ev_ite,qp,zq,z8,qo,zr,zv,R.bind_ok,gt_int,zW,h,decide_false,if_false,aQ]
   unfold mkB
   unfold envM at eo ⊢
   simp -implicitDefEqProofs only[zd,zu,qH,ev_and,qp,zq,z8,qo,Cn_str,zr,zv,R.bind_ok,gt_int,lt_int,h1',h2',decide_true,zW,if_true,qz,ev_bi,zz,zA,ev_bin,sub_int,min2_int,hmin,zl,zO,zD,aO,zy,zg,eo,ex_ex,qR,ev_tup,stM_a0 hL0,zZ,zV,zH,ev_ix,i1,i2,product_ok n hm.R5,stM_a1 hL1]
   unfold zh;simp[Stp.d]
  ·have hcond:ev (callN P (n+1)) (.and (.cmp .gt (.var 7) (.cst (.int 0))) (.cmp .lt (.var 8) (.cst (.int 5)))) (envM s r m most z (some (.int k)) (some (.int way)) (some (.int one)) (some (.int other)) x11) (stM s r b (l.map Stp.d) (zh m.R fs) (qi C) T')=.ok (.bl false) (stM s r b (l.map Stp.d) (zh m.R fs) (qi C) T'):=by
    unfold envM
    by_cases h1:(0:Int)<(k:Int)
    ·have h2:¬(way:Int)<5:=λ h=>hk0 ⟨by omega,by omega⟩
     simp -implicitDefEqProofs only[ev_and,qp,zq,z8,qo,zr,zv,R.bind_ok,gt_int,lt_int,h1,h2,decide_true,decide_false,zW,if_true]
    ·simp -implicitDefEqProofs only[ev_and,qp,zq,z8,qo,zr,zv,R.bind_ok,gt_int,lt_int,h1,decide_false,zW,if_false,aQ]
   have hL:=hm.L1
   have hL3:=hm.L3
   have hq:one % m.L<m.L:=Nat.mod_lt _ hL
   refine⟨.let_ (97+one % m.L),sgM m (97+one % m.L),z,some (.int one),some (.int other),some (.str [97+one % m.L]),T',.let_ _ hM (by omega) (by omega),hT,?_⟩
   have em:((one:Int) % (m.L:Int))=((one % m.L:Nat):Int):=by simp
   rw[zd,qH,hcond]
   unfold mkL envM
   simp -implicitDefEqProofs only[zW,if_false,aQ,zd,zu,qz,ev_ix,z8,Cn_str,qo,ev_bin,zq,zr,zv,R.bind_ok,ixL,mod_int (show(0:Int)<(m.L:Int)by omega),em,abc_ix (show one % m.L<3 by omega),zl,zO,zD,aO,zy,zg,ex_ex,qR,ev_tup,zz,zA,stM_a0 hL0,zZ,zV,zH,letter_signs_ok n hm,stM_a1 hL1]
   unfold zh;simp[Stp.d]
theorem mkE_ok {P:Pr}[Has P w_product_2]{n:Nat}{s:Sto}{r:Nat}{m:Mc}(hm:m.Ok){most z:Int}{k:Nat}{x8 x9 x10 x11:Option D}{b:Int}{A:List D}{fs:List (Nat->Nat->Int)}{C:List Nat}{T:Sto}
  (hk:fs.length=k+1) (hk2:C.length<1000) (hC:Steady m.R fs C) :
  ∃(C':List Nat),C'.length<=C.length+1/\Steady m.R fs C' /\
   ex (callN P (n+1)) mkE (envM s r m most z (some (.int k)) x8 x9 x10 x11) (stM s r b A (zh m.R fs) (qi C) T)
    = .ok (.next (envM s r m most z (some (.int k)) x8 x9 x10 x11)) (stM s r b A (zh m.R fs) (qi C') T):=by
 obtain⟨f,hf⟩:∃ f,fs[k]?=some f:=⟨_,af (by omega)⟩
 have i1:ixM (.ref (s.length+1)) (.int (k:Int)) (stM s r b A (zh m.R fs) (qi C) T)=.ok (gd m.R f) (stM s r b A (zh m.R fs) (qi C) T):=qa stM_1 (qJ hf)
 obtain⟨c,ec,hc⟩:=eq_gd (s:=stM s r b A (zh m.R fs) (qi C) T) (m:=m.R) (f:=pr m.R f f) (g:=f)
 have ev1:ev (callN P (n+1)) (.cmp .eq (.call "_law_product" (.ex (.ix (.var 5) (.var 7)) (.ex (.ix (.var 5) (.var 7)) .nil))) (.ix (.var 5) (.var 7))) (envM s r m most z (some (.int k)) x8 x9 x10 x11) (stM s r b A (zh m.R fs) (qi C) T)=.ok (.bl c) (stM s r b A (zh m.R fs) (qi C) T):=by
  unfold envM
  simp -implicitDefEqProofs only[qp,zZ,zV,zH,ev_ix,zq,zr,zv,R.bind_ok,i1,product_ok n hm.R5,ec]
 unfold mkE
 rw[qH,ev1,zW]
 cases c with
 | false=>exact⟨C,by omega,hC,rfl⟩
 | true =>
  refine⟨C++[k],by simp,λ i hi=>?_,?_⟩
  ·rcases bw.mp hi with h|h
   ·exact hC i h
   ·rw[bj.mp h];exact⟨f,hf,hc.mp rfl⟩
  ·rw[if_pos rfl]
   unfold envM
   simp -implicitDefEqProofs only[zd,zu,ex_ex,qR,zq,zz,zA,zr,zv,R.bind_ok,stM_a2 (show(qi C).length<LIM by unfold qi LIM;simp;omega),zg]
   unfold qi;simp
noncomputable def MkR (s:Sto)(r:Nat)(m:Mc)(most:Nat)(x:R D):Prop:=∃(l:List Stp) (fs:List (Nat->Nat->Int)) (b:Int) (T:Sto) (p:Nat),Mks m l fs/\1<=l.length/\l.length<=most/\(s.set r (qE b)++T)[p]?=some (.lst (zh m.R fs))/\T.all O.ncl=true/\x=.ok (.tup [.tup (l.map Stp.d),.ref p]) (s.set r (qE b)++T)
theorem makings_ok {P:Pr}[Has P w_draw][Has P w_product_2][Has P w_letter_signs][Has P w_sharp_2][Has P w_makings](n:Nat){s:Sto}{r:Nat}(hs:∃ b,s[r]?=some (qE b)){m:Mc}(hm:m.Ok)(most:Nat)(h0:1<=most)(h1:most<=500)(z:Int) :
  MkR s r m most ((callN P (n+2)).call "_law_makings" [.ref r,m.d,.int most,.int z] s):=by
 have e0:(callN P (n+2)).call "_law_makings" [.ref r,m.d,.int most,.int z] s=_:=zb w_makings (n:=n+1) rfl
 have hr:=box_lt hs
 obtain⟨b0,hb0⟩:=hs
 have es:s=s.set r (qE b0):=by
  rw[show qE b0=s[r]from((ac.mp hb0).2).symm,List.set_getElem_self]
 have eS:s++[O.lst [],O.lst [],O.lst []]=stM s r b0 [] [] [] []:=by unfold stM;rw[<-es]
 obtain⟨d,b1,hd,ed⟩:=stM_draw (P:=P) n (s:=s) (b:=b0) (A:=[]) (B:=[]) (C:=[]) (T:=[]) hr most (by omega) (qD (by omega))
 rw[e0]
 have body:w_makings.body=.cons (.asg (.one 4) (.lst .nil)) (.cons (.asg (.one 5) (.lst .nil)) (.cons (.asg (.one 6) (.lst .nil)) (.cons (.for_ (.one 7) (.rng1 (.bin .add (.cst (.int 1)) (.call "_law_draw" (.ex (.var 0) (.ex (.var 2) .nil))))) (.cons (.asg (.one 8) (.call "_law_draw" (.ex (.var 0) (.ex (.cst (.int 6)) .nil)))) (.cons (.asg (.one 9) (.call "_law_draw" (.ex (.var 0) (.ex (.bin .add (.var 7) (.cst (.int 1))) .nil)))) (.cons (.asg (.one 10) (.call "_law_draw" (.ex (.var 0) (.ex (.bin .add (.var 7) (.cst (.int 1))) .nil)))) (.cons mkI (.cons mkE .nil)))))) (.cons (.ret (.tup (.cons (.mk .tuple (.seq (.var 4))) (.cons (.var 5) .nil)))) .nil)))):=rfl
 rw[body,show(bD some [D.ref r,m.d,.int most,.int z]++ar w_makings.vs none)=[some (D.ref r),some m.d,some (.int most),some (.int z),none,none,none,none,none,none,none,none]from rfl]
 simp -implicitDefEqProofs only[zd,zu,qz,ev_lst,zA,R.bind_ok,alloc_eq,zl,zO,zD,aO,zy,zg,dE,c7,d7,aW,aR,dm,ex_for,z6,ev_bin,z8,qo,zZ,zV,zH,zq,zr,zv,eS,ed,add_int,cz]
 rw[zF (by unfold W62;omega) (by unfold W62;omega),show((1:Int)+(d:Int))=((d+1:Nat):Int)by omega]
 simp only[R.bind_ok,R.bind_assoc]
 refine qB (W:=MkR s r m most) (λ k ρ t=>∃(l:List Stp) (fs:List (Nat->Nat->Int)) (C:List Nat) (b:Int) (T:Sto) (z:Int) (x7 x8 x9 x10 x11:Option D),Mks m l fs/\l.length=k/\C.length<=k/\Steady m.R fs C/\T.all O.ncl=true/\ρ=envM s r m most z x7 x8 x9 x10 x11/\t=stM s r b (l.map Stp.d) (zh m.R fs) (qi C) T) ⟨[],[],[],b1,[],z,none,none,none,none,none,.nil,rfl,aj _,λ _ h=>(by cases h),rfl,rfl,rfl⟩ (λ _ _ _ _ _=>rfl) ?_ ?_
 ·rintro k dd ρ t hk ⟨l,fs,C,b,T,z,x7,x8,x9,x10,x11,hM,hl,hCl,hC,hT,rfl,rfl⟩
  have hk5:=(qw hk).1
  rw[(qw hk).2]
  obtain⟨way,c1,_,f1⟩:=stM_draw (P:=P) n (s:=s) (b:=b) (A:=l.map Stp.d) (B:=zh m.R fs) (C:=qi C) (T:=T) hr 6 (by decide) (by decide)
  obtain⟨one,c2,ho,f2⟩:=stM_draw (P:=P) n (s:=s) (b:=c1) (A:=l.map Stp.d) (B:=zh m.R fs) (C:=qi C) (T:=T) hr ((k:Int)+1) (by omega) (qD (by omega))
  obtain⟨other,c3,hot,f3⟩:=stM_draw (P:=P) n (s:=s) (b:=c2) (A:=l.map Stp.d) (B:=zh m.R fs) (C:=qi C) (T:=T) hr ((k:Int)+1) (by omega) (qD (by omega))
  obtain⟨x,f,z',y9,y10,y11,T',hM',hT',eI⟩:=mkI_ok (P:=P) (n:=n) (s:=s) (r:=r) hm (most:=most) (z:=z) (k:=k) (way:=way) (one:=one) (other:=other) (x11:=x11) (b:=c3) (T:=T) hM hl (by omega) (by omega) (by omega) hC
  obtain⟨C',hC1,hC2,eE⟩:=mkE_ok (P:=P) (n:=n) (s:=s) (r:=r) hm (most:=most) (z:=z') (k:=k) (x8:=some (.int way)) (x9:=y9) (x10:=y10) (x11:=y11) (b:=c3) (A:=(l++[x]).map Stp.d) (T:=T') (C:=C) (fs:=fs++[f]) (by have:=hM.len;simp;omega) (by omega) hC.app
  refine Nx_of (ρ:=envM s r m most z' (some (.int k)) (some (.int way)) y9 y10 y11) (s:=stM s r c3 ((l++[x]).map Stp.d) (zh m.R (fs++[f])) (qi C') T') ?_ ⟨l++[x],fs++[f],C',c3,T',z',_,_,_,_,_,hM',by simp;omega,by omega,hC2,hT' hT,rfl,rfl⟩
  have st:turn (callN P (n+1)) (.one 7) (.cons (.asg (.one 8) (.call "_law_draw" (.ex (.var 0) (.ex (.cst (.int 6)) .nil)))) (.cons (.asg (.one 9) (.call "_law_draw" (.ex (.var 0) (.ex (.bin .add (.var 7) (.cst (.int 1))) .nil)))) (.cons (.asg (.one 10) (.call "_law_draw" (.ex (.var 0) (.ex (.bin .add (.var 7) (.cst (.int 1))) .nil)))) (.cons mkI (.cons mkE .nil))))) (.int k) (envM s r m most z x7 x8 x9 x10 x11) (stM s r b (l.map Stp.d) (zh m.R fs) (qi C) T)
    = exs (callN P (n+1)) (.cons mkI (.cons mkE .nil)) (envM s r m most z (some (.int k)) (some (.int way)) (some (.int one)) (some (.int other)) x11) (stM s r c3 (l.map Stp.d) (zh m.R fs) (qi C) T):=by
   unfold turn envM
   simp -implicitDefEqProofs only[zl,zO,zD,aO,zd (.asg _ _),qz,zZ,zV,zH,zq,ev_bin,z8,qo,add_int,zr,zv,R.bind_ok,f1,f2,f3,zy,zg]
  rw[st,zd,eI,R.bind_ok,zg,zd,eE,R.bind_ok,zg,zu]
 ·rintro ρ t ⟨l,fs,C,b,T,z,x7,x8,x9,x10,x11,hM,hl,hCl,hC,hT,rfl,rfl⟩
  rw[zE]at hl
  unfold envM
  simp -implicitDefEqProofs only[zg,zd,zu,jb,ev_tup,zz,zA,ev_mk,evL_seq,zq,zr,zv,R.bind_ok,lstM,stM_0,mk,qx,qv]
  refine⟨l,fs,b,.lst (l.map Stp.d)::.lst (zh m.R fs)::.lst (qi C)::T,s.length+1,hM,by omega,by omega,stM_1,by simp only[dU,O.ncl,stps_ncl,tabs_ncl,nats_ncl,hT,Bool.and_self],?_⟩
  unfold zJ
  rw[show stM s r b (l.map Stp.d) (zh m.R fs) (qi C) T=s.set r (qE b)++(.lst (l.map Stp.d)::.lst (zh m.R fs)::.lst (qi C)::T)from rfl,if_pos (okOld_set s _ r (qE b) rfl)]
  have:(D.tup [.tup (l.map Stp.d),.ref (s.length+1)]).bnd s.length=false:=by
   unfold D.bnd D.bndL D.bndL D.bndL
   simp[D.bnd]
  simp only[this,if_false,aQ]
theorem prN_le {f g:Nat->Nat->Int}{i j:Nat}{x:Int}:∀ k,prN f g i j k<=x↔3<=x\/∃ l,l<k/\f i l<3/\f i l<=x/\g l j<=x
 | 0=>by unfold prN;exact⟨.inl,λ h=>h.elim id λ⟨l,hl,_⟩=>absurd hl (iQ _)⟩
 | k+1=>by
  have ih:=prN_le (f:=f) (g:=g) (i:=i) (j:=j) (x:=x) k
  have key:prN f g i j (k+1)<=x↔prN f g i j k<=x\/(f i k<3/\f i k<=x/\g k j<=x):=by
   conv=>lhs;unfold prN
   simp only
   repeat' split
   all_goals omega
  rw[key,ih]
  constructor
  ·rintro((h|⟨l,h1,h2⟩)|h)
   ·exact .inl h
   ·exact .inr ⟨l,by omega,h2⟩
   ·exact .inr ⟨k,by omega,h⟩
  ·rintro(h|⟨l,h1,h2⟩)
   ·exact .inl (.inl h)
   ·by_cases e:l=k
    ·subst e;exact .inr h2
    ·exact .inl (.inr ⟨l,by omega,h2⟩)
theorem pr_le {m:Nat}{f g:Nat->Nat->Int}{i j:Nat}{x:Int}(hx:x<3):pr m f g i j<=x↔∃ l,l<m/\f i l<=x/\g l j<=x:=by
 unfold pr
 rw[prN_le]
 constructor
 ·rintro(h|⟨l,h1,_,h2,h3⟩)
  ·omega
  ·exact⟨l,h1,h2,h3⟩
 ·rintro⟨l,h1,h2,h3⟩
  exact .inr ⟨l,h1,by omega,h2,h3⟩
theorem pr_3 {m:Nat}{f g:Nat->Nat->Int}{i j:Nat}:pr m f g i j<=3:=by
 unfold pr;exact(prN_le _).mpr (.inl (cx _))
section
variable {m:Nat} {f:Nat->Nat->Int} {x:Int}
end
noncomputable def valOf (a c:Int)(vs:List Int):Stp->Int
 | .let_ _=>a
 | .pair i j=>vs.getD i 0+vs.getD j 0
 | .sharp i=>vs.getD i 0*c
noncomputable def vl (a c:Int)(l:List Stp):List Int:=l.foldl (λ vs x=>vs++[valOf a c vs x]) []
theorem take_snoc {α:Type}{l:List α}{k:Nat}{x:α}(h:l[k]?=some x):l.take (k+1)=l.take k++[x]:=by
 rw[List.take_succ,h];rfl
theorem dl1 {c:Nat}{s:Sto}:ixM (Stp.let_ c).d (.int 1) s=.ok (.str [c]) s:=rfl
theorem dp1 {i j:Nat}{s:Sto}:ixM (Stp.pair i j).d (.int 1) s=.ok (.int i) s:=rfl
theorem dp2 {i j:Nat}{s:Sto}:ixM (Stp.pair i j).d (.int 2) s=.ok (.int j) s:=rfl
theorem ds1 {i:Nat}{s:Sto}:ixM (Stp.sharp i).d (.int 1) s=.ok (.int i) s:=rfl
section
variable {F:Fns} {ρ:Env} {s:Sto}
noncomputable def apV (F:Fns)(d:D)(l:List D)(s:Sto):R D:=match d with
 | .fn f=>F.call f l s
 | .clo id cs=>F.lam id cs l s
 | _=>.bad
theorem ev_callV {i:Nat}{d:D}(es:Es)(h:ρ[i]?=some (some d)):ev F (.callV i es) ρ s=(evs F es ρ s).bind λ l s=>apV F d l s:=by
 show(evs F es ρ s).bind (λ l s=>match ρ[i]? with
  | some (some (.fn f))=>F.call f l s
  | some (some (.clo id cs))=>F.lam id cs l s
  | _=>.bad)=_
 rw[h]
 cases d<;>rfl
theorem qW {id:String}{caps:List Nat}{cs:List D}(as:As)(h:getVs ρ caps=some cs):evas F (.lam id caps as) ρ s=(evas F as ρ s).bind λ l s=>.ok (.clo id cs::l) s:=by
 show(match getVs ρ caps with
  | some cs=>(evas F as ρ s).bind λ l s=>R.ok (D.clo id cs::l) s
  | none=>.bad)=_
 rw[h]
end
theorem qA {s:Sto}{o:O}(h:s.all O.ncl=true)(ho:o.ncl=true):(s++[o]).all O.ncl=true:=by rw[ef,h];simp[ho]
noncomputable def Stp.t (c:Int):Stp->D
 | .sharp i=>.tup [.str [116,105,109,101,115],.int i,.int c]
 | x=>x.d
theorem canon_one {s:Sto}{o:O}(ho:o.bnd s.length=true):zJ s (.ref s.length) (s++[o])=.ok (.ref s.length) (s++[o]):=by
 have:=canon_new (s:=s) (t:=[]) (u:=[]) ho
 simpa using this
noncomputable def gdD (m:Nat)(W:Nat->Nat->D):D:=.tup ((ah m).map λ i=>.tup ((ah m).map λ j=>W i j))
theorem gdD_bnd {m:Nat}{W:Nat->Nat->D}(hW:∀ i j n,(W i j).bnd n=true)(n:Nat):(gdD m W).bnd n=true:=by
 unfold gdD D.bnd
 refine z7 (λ d hd n=>?_) n
 obtain⟨i,_,rfl⟩:=ax.mp hd
 unfold D.bnd
 refine z7 (λ d hd n=>?_) n
 obtain⟨j,_,rfl⟩:=ax.mp hd
 exact hW i j n
theorem grid_ok {P : Pr} [Has P d_grid] (n : Nat) {m : Nat} (hm : m <= 1000) {d : D} {s : Sto} {W : Nat -> Nat -> D} (hW : ∀ i j n, (W i j).bnd n = true)
    (h : ∀ i j, i < m -> j < m -> apV (callN P n) d [.int i, .int j] (s ++ [.lst ((ah i).map λ i => .tup ((ah m).map λ j => W i j))]) = .ok (W i j) (s ++ [.lst ((ah i).map λ i => .tup ((ah m).map λ j => W i j))])) :
    (callN P (n + 1)).call "grid" [.int m, d] s = .ok (gdD m W) s := by
  have e0 : (callN P (n + 1)).call "grid" [.int m, d] s = _ := zb d_grid (n := n) rfl
  rw[e0, show(bD some [D.int m, d] ++ ar d_grid.vs none) = [some (D.int m), some d, none, none]from rfl]
  simp -implicitDefEqProofs only[d_grid]
  simp -implicitDefEqProofs only[zd, zu, qz, ev_lst, zA, R.bind_ok, alloc_eq, zl, zO, zD, aO, zy, zg, ex_for, z6, zq, zr, zv]
  rw[zF (by unfold W62; omega) (by unfold W62; omega)]
  simp only[R.bind_ok]
  rw[R.bind_assoc]
  refine for_bind (λ i ρ t => ∃(x : Option D), ρ = [some (D.int m), some d, some (.ref s.length), x] /\ t = s ++ [.lst ((ah i).map λ i => .tup ((ah m).map λ j => W i j))]) ⟨none, rfl, rfl⟩ (λ _ _ _ _ _ => rfl) ?_ ?_
  · rintro i dd ρ t hi ⟨x, rfl, rfl⟩
    have hi5 := (qw hi).1
    rw[(qw hi).2]
    generalize hS : s ++ [O.lst ((ah i).map λ i => D.tup ((ah m).map λ j => W i j))] = S
    have e1 : qN (λ s1 => chk S s1 []) (qg (callN P n) (.one 0) (.callV 1 (.cons (.var 2) (.cons (.var 0) .nil)))) (jh 0 (m : Int)) (zK [some (D.int m), some d, some (.ref s.length), some (.int (i : Int))] [none, some 1, some 3]) S = .ok ((ah m).map λ j => W i j) S := by
     obtain⟨ρ1, s1, e1, h1⟩ := qK (ok := λ s1 => chk S s1 []) (g := qg (callN P n) (.one 0) (.callV 1 (.cons (.var 2) (.cons (.var 0) .nil)))) (λ ρ u => u = S /\ ∃ x, ρ = [x, some d, some (.int i)]) (λ j => W i j) m (zK [some (D.int m), some d, some (.ref s.length), some (.int (i : Int))] [none, some 1, some 3]) S ⟨rfl, none, rfl⟩ (λ _ _ _ => rfl) (by
      rintro j hj ρ u ⟨rfl, x, rfl⟩
      refine⟨[some (.int j), some d, some (.int i)], u, ?_, rfl, _, rfl⟩
      have hc := h i j hi5 hj
      rw[hS]at hc
      unfold qg
      simp -implicitDefEqProofs only[zl, zD]
      rw[ev_callV (d := d) _ rfl]
      simp -implicitDefEqProofs only[zz, zA, zq, zr, zv, R.bind_ok, hc])
     obtain⟨rfl, _⟩ := h1
     exact e1
    have e2 : turn (callN P n) (.one 3) (.cons (.ex (.meth .append (.var 2) (.cons (.mk .tuple (.comp (.one 0) (.rng1 (.var 0)) (.callV 1 (.cons (.var 2) (.cons (.var 0) .nil))) [none, some 1, some 3])) .nil))) .nil) (.int i) [some (D.int m), some d, some (.ref s.length), x] S = .ok (.next [some (D.int m), some d, some (.ref s.length), some (.int i)]) (s ++ [.lst ((ah (i + 1)).map λ i => .tup ((ah m).map λ j => W i j))]) := by
      unfold turn
      simp -implicitDefEqProofs only[zl, zO, zD, aO, zd, zu, ex_ex, qR, zz, zA, ev_mk, qV, z6, zq, zr, zv, R.bind_ok]
      rw[zF (by unfold W62; omega) (by unfold W62; omega)]
      simp only[R.bind_ok]
      rw[if_pos (by rw[zE]; unfold LIM; omega), e1, <- hS]
      simp -implicitDefEqProofs only[R.bind_ok, mk]
      rw[app_tail (by unfold LIM; simp; omega), cN, b9]
      rfl
    rw[e2]
    show ∃ x, _
    exact⟨some (.int i), rfl, rfl⟩
  · rintro ρ t ⟨x, rfl, rfl⟩
    rw[zE]
    have h0 : (s ++ [O.lst ((ah m).map λ i => D.tup ((ah m).map λ j => W i j))])[s.length]? = some (.lst ((ah m).map λ i => D.tup ((ah m).map λ j => W i j))) := by rw[ak (aj _)]; simp
    simp -implicitDefEqProofs only[zg, zd, zu, jb, ev_mk, evL_seq, zq, zr, zv, R.bind_ok, lstM, h0, mk, qx, qv]
    exact zX (d := gdD m W) (gdD_bnd hW) (by nofun)
noncomputable def InG (m:Nat)(f:Nat->Nat->Int):Prop:=∀ i j,i<m->j<m->0<=f i j/\f i j<=3
theorem pr_leA {m:Nat}(hm:1<=m){f g:Nat->Nat->Int}(hf:InG m f)(hg:InG m g){i j:Nat}(hi:i<m)(hj:j<m){x:Int}:pr m f g i j<=x↔∃ l,l<m/\f i l<=x/\g l j<=x:=by
 by_cases hx:x<3
 ·exact pr_le hx
 ·refine⟨λ _=>⟨0,by omega,?_,?_⟩,λ _=>fS pr_3 (by omega)⟩
  ·have:=hf i 0 hi (by omega);omega
  ·have:=hg 0 j (by omega) hj;omega
theorem pr_sprod {m:Nat}(hm:1<=m){f g:Nat->Nat->Int}(hf:InG m f)(hg:InG m g):EqG m (pr m f g) (L2.sprod m f g):=λ i j hi hj=>L2.eq_of_le λ x=>by
 rw[pr_leA hm hf hg hi hj,L2.sprod_le hm]
theorem shN_le {f:Nat->Nat->Int}{i j:Nat}{x:Int}:∀ k,shN f i j k<=x↔3<=x\/∃ l,l<k/\f i l<=x/\(if f l l=1 then 2 else f l l)<=x/\f l j<=x
 | 0=>by unfold shN;exact⟨.inl,λ h=>h.elim id λ⟨l,hl,_⟩=>absurd hl (iQ _)⟩
 | k+1=>by
  have ih:=shN_le (f:=f) (i:=i) (j:=j) (x:=x) k
  have key:shN f i j (k+1)<=x↔shN f i j k<=x\/(f i k<=x/\(if f k k=1 then 2 else f k k)<=x/\f k j<=x):=by
   conv=>lhs;unfold shN
   simp only
   generalize (if f k k=1 then(2:Int)else f k k)=z
   split<;>omega
  rw[key,ih]
  constructor
  ·rintro((h|⟨l,h1,h2⟩)|h)
   ·exact .inl h
   ·exact .inr ⟨l,by omega,h2⟩
   ·exact .inr ⟨k,by omega,h⟩
  ·rintro(h|⟨l,h1,h2⟩)
   ·exact .inl (.inl h)
   ·by_cases e:l=k
    ·subst e;exact .inr h2
    ·exact .inl (.inr ⟨l,by omega,h2⟩)
theorem rnd_if {y:Int}(h:0<=y)(h3:y<=3):(if y=1 then 2 else y)=L2.rnd y:=by
 unfold L2.rnd
 repeat' split
 all_goals omega
theorem sh_sharp {m:Nat}(hm:1<=m){f:Nat->Nat->Int}(hf:InG m f):EqG m (sh m f) (L2.sharp m f):=λ i j hi hj=>L2.eq_of_le λ x=>by
 unfold sh
 rw[shN_le,L2.sharp_le hm]
 constructor
 ·rintro(h|⟨l,hl,h1,h2,h3⟩)
  ·refine⟨0,by omega,?_,?_,?_⟩
   ·have:=hf i 0 hi (by omega);omega
   ·have:=hf 0 0 (by omega) (by omega)
    have:=(L2.rnd_in this.1 this.2).2;omega
   ·have:=hf 0 j (by omega) hj;omega
  ·exact⟨l,hl,h1,by rw[<-rnd_if (hf l l hl hl).1 (hf l l hl hl).2];exact h2,h3⟩
 ·rintro⟨l,hl,h1,h2,h3⟩
  exact .inr ⟨l,hl,h1,by rw[rnd_if (hf l l hl hl).1 (hf l l hl hl).2];exact h2,h3⟩
theorem pr_in {m:Nat}(hm:1<=m){f g:Nat->Nat->Int}(hf:InG m f)(hg:InG m g):InG m (pr m f g):=λ i j hi hj=>by
 rw[pr_sprod hm hf hg i j hi hj];exact L2.sprod_in hm hf hg hi hj
theorem sh_in {m:Nat}(hm:1<=m){f:Nat->Nat->Int}(hf:InG m f):InG m (sh m f):=λ i j hi hj=>by
 rw[sh_sharp hm hf i j hi hj];exact L2.sharp_in hm hf i j hi hj
theorem foldl_min_le {x:Int}:∀(l:List Int) (a:Int),l.foldl min a<=x↔∃ y∈a::l,y<=x
 | [],a=>by simp
 | b::l,a=>by
  rw[cu,foldl_min_le l]
  constructor
  ·rintro⟨y,hy,hx⟩
   rcases aD.mp hy with rfl|hy
   ·by_cases h:a<=b
    ·exact⟨a,by simp,by omega⟩
    ·exact⟨b,by simp,by omega⟩
   ·exact⟨y,by simp[hy],hx⟩
  ·rintro⟨y,hy,hx⟩
   simp only[aD]at hy
   rcases hy with rfl|rfl|hy
   ·exact⟨min y b,by simp,by omega⟩
   ·exact⟨min a y,by simp,by omega⟩
   ·exact⟨y,by simp[hy],hx⟩
theorem minI_le {l:List Int}{m x:Int}(h:minI l=some m):m<=x↔∃ y∈l,y<=x:=by
 cases l with
 | nil=>cases h
 | cons a l=>rw[<-au (show some (l.foldl min a)=some m from h)];exact foldl_min_le l a
theorem intsOf_map {l:List Nat}{f:Nat->Int}:qe (l.map λ k=>D.int (f k))=some (l.map f):=by
 induction l with
 | nil=>rfl
 | cons a l ih=>rw[aK];unfold qe;rw[ih];rfl
theorem mk_min {m:Nat}(hm:1<=m){f:Nat->Int}{v:Int}(hv:∀ x,v<=x↔∃ k,k<m/\f k<=x)(s:Sto):mk .min ((ah m).map λ k=>D.int (f k)) s=.ok (.int v) s:=by
 obtain⟨w,hw⟩:∃ w,minI ((ah m).map f)=some w:=by
  obtain⟨m',rfl⟩:∃ m',m=m'+1:=⟨m - 1,by omega⟩
  rw[dN]
  exact⟨_,rfl⟩
 show(match(qe ((ah m).map λ k=>D.int (f k))).bind minI with|some m=>R.ok (D.int m) s|none=>.bad)=_
 rw[intsOf_map]
 show(match minI ((ah m).map f)with|some m=>R.ok (D.int m) s|none=>.bad)=_
 rw[hw]
 have:w=v:=L2.eq_of_le λ x=>by
  rw[minI_le hw,hv]
  constructor
  ·rintro⟨y,hy,hx⟩
   obtain⟨k,hk,rfl⟩:=ax.mp hy
   exact⟨k,aZ.mp hk,hx⟩
  ·rintro⟨k,hk,hx⟩
   exact⟨_,ax.mpr ⟨k,aZ.mpr hk,rfl⟩,hx⟩
 rw[this]
section
variable {P:Pr} [Has P d_grid] [Has P d_sign_product] [HasL P d_sign_product_l0]
theorem qS (n:Nat){m:Nat}(hm:1<=m)(hm5:m<=5){f g:Nat->Nat->Int}(hf:InG m f)(hg:InG m g){s:Sto}(hs:s.all O.ncl=true) :
  (callN P (n+3)).call "sign_product" [gd m f,gd m g] s=.ok (gd m (pr m f g)) s:=by
 have e0:(callN P (n+3)).call "sign_product" [gd m f,gd m g] s=_:=zb d_sign_product (n:=n+2) rfl
 have hg0:=grid_ok (P:=P) (n+1) (m:=m) (by omega) (d:=.clo "sign_product.0" [.int m,gd m f,gd m g]) (s:=s) (W:=λ i j=>.int (pr m f g i j)) (λ _ _ _=>rfl) (λ i j hi hj=>by
  generalize hS:s++[O.lst ((ah i).map λ i=>D.tup ((ah m).map λ j=>D.int (pr m f g i j)))]=S
  have nS:S.all O.ncl=true:=by
   rw[<-hS]
   refine qA hs (zC λ d hd=>?_)
   obtain⟨x,_,rfl⟩:=ax.mp hd
   unfold D.ncl
   exact zC λ d hd=>by obtain⟨x,_,rfl⟩:=ax.mp hd;rfl
  refine(lam_def d_sign_product_l0 (n:=n) rfl rfl (by rw[nS];simp[D.nclL,D.ncl,gd_ncl])).trans ?_
  show(ev (callN P n) d_sign_product_l0.body [some (.int i),some (.int j),some (.int m),some (gd m f),some (gd m g)] S).bind (zJ S)=_
  simp -implicitDefEqProofs only[d_sign_product_l0,ev_mk,qV,z6,zq,zr,zv,R.bind_ok]
  rw[zF (by unfold W62;omega) (by unfold W62;omega)]
  simp only[R.bind_ok]
  rw[if_pos (by rw[zE];unfold LIM;omega)]
  obtain⟨ρ1,s1,e1,h1⟩:=qK (ok:=λ s1=>chk S s1 []) (g:=qg (callN P n) (.one 0) (.bi .max2 (.cons (.ix (.ix (.var 1) (.var 2)) (.var 0)) (.cons (.ix (.ix (.var 3) (.var 0)) (.var 4)) .nil)))) (λ ρ u=>u=S/\∃ x,ρ=[x,some (gd m f),some (.int i),some (gd m g),some (.int j)]) (λ k=>.int (if g k j > f i k then g k j else f i k)) m (zK [some (.int i),some (.int j),some (.int m),some (gd m f),some (gd m g)] [none,some 3,some 0,some 4,some 1]) S ⟨rfl,none,rfl⟩ (λ _ _ _=>rfl) (by
   rintro k hk ρ u ⟨rfl,x,rfl⟩
   refine⟨[some (.int k),some (gd m f),some (.int i),some (gd m g),some (.int j)],u,?_,rfl,_,rfl⟩
   unfold qg
   simp -implicitDefEqProofs only[zl,zD,ev_bi,zz,zA,ev_ix,zq,zr,zv,R.bind_ok,gd_ix hi,gd_ix hk,qG hk,qG hj,max2_int])
  obtain⟨rfl,_⟩:=h1
  rw[e1]
  simp only[R.bind_ok]
  rw[mk_min (v:=pr m f g i j) hm (λ x=>by
   rw[pr_leA hm hf hg hi hj]
   constructor
   ·rintro⟨l,hl,h1,h2⟩;exact⟨l,hl,by split<;>omega⟩
   ·rintro⟨l,hl,h1⟩;exact⟨l,hl,by split at h1<;>omega,by split at h1<;>omega⟩)]
  exact zL)
 rw[e0,show(bD some [gd m f,gd m g]++ar d_sign_product.vs none)=[some (gd m f),some (gd m g),none]from rfl]
 simp -implicitDefEqProofs only[d_sign_product,zd,zu,qz,ev_bi,zz,zA,zq,zr,zv,R.bind_ok,len_gd,zl,zO,zD,aO,zy,zg,jb,qX,zV]
 rw[qW (cs:=[.int m,gd m f,gd m g]) _ rfl]
 simp -implicitDefEqProofs only[zH,R.bind_ok,hg0]
 have e:gdD m (λ i j=>.int (pr m f g i j))=gd m (pr m f g):=rfl
 rw[e,if_pos (by rw[gd_ncl,hs];rfl)]
 simp -implicitDefEqProofs only[R.bind_ok,qx,qv]
 exact zn qT (by nofun)
end
noncomputable def Least (S:Int->Prop):Option Int->Prop
 | none=>∀ c,¬ S c
 | some c=>S c/\∀ c',S c'->c<=c'
theorem Least.congr {S S':Int->Prop}{o:Option Int}(h:Least S o)(e:∀ c,S c↔S' c):Least S' o:=by
 cases o with
 | none=>exact λ c hc=>h c ((e c).mpr hc)
 | some c=>exact⟨(e c).mp h.1,λ c' hc=>h.2 c' ((e c').mpr hc)⟩
noncomputable def minO:Option Int->Option Int->Option Int
 | none,x=>x
 | some a,none=>some a
 | some a,some b=>if b<a then some b else some a
noncomputable def Wk (ds:List Dr):List Nat->Nat->Nat->Int->Prop
 | [],p,q,c=>p=q/\c=0
 | x::w,p,q,c=>∃ d∈ds,d.a=p/\d.l=x/\∃ c':Int,Wk ds w d.b q c'/\c=(d.t:Int)+c'
noncomputable def Dr.turn (x:Dr):Dr:=⟨x.b,x.l,x.a,x.t⟩
noncomputable def Mc.Wk (m:Mc)(w:List Nat)(c:Int):Prop:=∃ p∈m.bg,∃ q∈m.en,DV.Wk m.ds w p q c
noncomputable def Mc.turn (m:Mc):Mc:=⟨m.L,m.R,m.en,m.bg,m.ds.map Dr.turn⟩
noncomputable def rowD (row:List (Option Int)):List D:=row.map qF
theorem rowD_len (row:List (Option Int)):(rowD row).length=row.length:=aG ..
theorem intsOf_enc:∀ l:List Int,qe (l.map D.int)=some l
 | []=>rfl
 | a::l=>by rw[aK];unfold qe;rw[intsOf_enc l];rfl
theorem foldl_min:∀(l:List Int) (a:Int),(l.foldl min a=a\/l.foldl min a∈l)/\l.foldl min a<=a/\∀ y∈l,l.foldl min a<=y
 | [],a=>⟨.inl rfl,cx _,λ y hy=>by cases hy⟩
 | b::l,a=>by
  obtain⟨h1,h2,h3⟩:=foldl_min l (min a b)
  rw[cu]
  refine⟨?_,by omega,λ y hy=>?_⟩
  ·rcases h1 with h|h
   ·rw[h]
    rcases jz a b with z|z
    ·left;omega
    ·right;rw[show min a b=b by omega];exact aC ..
   ·exact .inr (aw _ h)
  ·rcases aD.mp hy with z|z
   ·rw[z];omega
   ·exact h3 y z
theorem minI_least (l:List Int):Least (λ c=>c∈l) (minI l):=by
 cases l with
 | nil=>exact λ c hc=>by cases hc
 | cons a l =>
  obtain⟨h1,h2,h3⟩:=foldl_min l a
  refine⟨?_,λ y hy=>?_⟩
  ·rcases h1 with h|h
   ·rw[h];exact aC ..
   ·exact aw _ h
  ·rcases aD.mp hy with z|z
   ·rw[z];exact h2
   ·exact h3 y z
theorem mkD_min (l:List Int)(s:Sto):mkD .min (l.map D.int) .non s=.ok (qF (minI l)) s:=by
 unfold mkD
 simp only[intsOf_enc]
 cases minI l<;>rfl
theorem filterMap_cg {α β:Type}{f g:α->Option β}:∀ {l:List α},(∀ x∈l,f x=g x)->l.filterMap f=l.filterMap g
 | [],_=>rfl
 | a::l,h=>by rw[bq,bq,h a (aC ..),filterMap_cg λ x hx=>h x (aw _ hx)]
end DV
end
local macro_rules | `(tactic| tbr_iter [$xs,*]) => `(tactic| simp -implicitDefEqProofs only [DV.zd, DV.zu, DV.qz, DV.qH, DV.jb, DV.ex_ex, DV.ex_for, DV.ex_whl, DV.ex_setIx, DV.ex_cont, DV.ex_pass, DV.ex_und, DV.zq, DV.z8, DV.ev_bin, DV.ev_not, DV.qp, DV.ev_and, DV.ev_or, DV.ev_ite, DV.ev_tup, DV.ev_lst, DV.ev_ix, DV.zZ, DV.ev_bi, DV.ev_mk, DV.ev_mkD, DV.ev_mks, DV.ev_mkDs, DV.qR, DV.ev_isN, DV.ev_notN, DV.zA, DV.zz, DV.zH, DV.zV, DV.evI_seq, DV.z6, DV.evL_seq, DV.Cn_bl, DV.qo, DV.Cn_non, DV.Cn_str, DV.R.bind_ok, DV.zl, DV.bindT_tup, DV.setVs_nil, DV.setVs_cons, DV.zO, DV.zD, DV.unsetV_s, DV.unsetV_0, DV.zr, DV.zv, Option.map_some, Option.bind_some, DV.zy, DV.zg, DV.qx, DV.nxt_cont, DV.qv, DV.fin_next, DV.add_int, DV.sub_int, DV.lt_int, DV.le_int, DV.gt_int, DV.ge_int, DV.eq_int, DV.ne_int, DV.alloc_eq, DV.zW, if_true, if_false, Bool.false_eq_true, decide_true, decide_false, Bool.not_true, Bool.not_false, $[$xs:term],*])
noncomputable section
namespace DV
noncomputable def gdO (m:Nat)(f:Nat->Nat->Option Int):D:=gdD m λ i j=>qF (f i j)
theorem encO_ncl (o:Option Int):(qF o).ncl=true:=by cases o<;>rfl
theorem gdO_bnd {m:Nat}{f:Nat->Nat->Option Int}(n:Nat):(gdO m f).bnd n=true:=gdD_bnd (λ i j n=>qI _ n) n
theorem gdO_ncl {m:Nat}{f:Nat->Nat->Option Int}:(gdO m f).ncl=true:=by
 unfold gdO gdD D.ncl
 refine zC λ d hd=>?_
 obtain⟨i,_,rfl⟩:=ax.mp hd
 unfold D.ncl
 refine zC λ d hd=>?_
 obtain⟨j,_,rfl⟩:=ax.mp hd
 exact encO_ncl _
noncomputable def rowO (m:Nat)(f:Nat->Option Int):List D:=(ah m).map λ j=>qF (f j)
theorem rowO_get {m j:Nat}{f:Nat->Option Int}(h:j<m):(rowO m f)[j]?=some (qF (f j)):=by unfold rowO;rw[aB,bv h];rfl
theorem gdO_ix {m i:Nat}{f:Nat->Nat->Option Int}(h:i<m)(s:Sto):ixM (gdO m f) (.int (i:Int)) s=.ok (.tup (rowO m (f i))) s:=ix_tup (by rw[aB,bv h];rfl)
theorem rowO_ix {m j:Nat}{f:Nat->Option Int}(h:j<m)(s:Sto):ixM (.tup (rowO m f)) (.int (j:Int)) s=.ok (qF (f j)) s:=ix_tup (rowO_get h)
theorem gdO_len {m:Nat}{f:Nat->Nat->Option Int}{s:Sto}:bi .len [gdO m f] s=.ok (.int m) s:=by unfold gdO gdD;rw[len_tup];simp
noncomputable def addO:Option Int->Option Int->Option Int
 | some a,some b=>some (a+b)
 | _,_=>none
theorem rowD_filter:∀ l:List (Option Int),(rowD l).filterMap (λ d=>if d=D.non then none else some d)=(l.filterMap id).map D.int
 | []=>rfl
 | o::l=>by
  have ih:=rowD_filter l
  unfold rowD at ih ⊢
  cases o with
  | none=>rw[aK,bq,bq];simpa using ih
  | some i=>rw[aK,bq,bq];simpa using ih
theorem least_ok {P:Pr}[Has P d_least](n:Nat){s:Sto}{q:Nat}{l:List (Option Int)}(hq:s[q]?=some (.lst (rowD l)))(hl:l.length<=1000):(callN P (n+1)).call "least" [.ref q] s=.ok (qF (minI (l.filterMap id))) s:=by
 have e0:(callN P (n+1)).call "least" [.ref q] s=_:=zb d_least (n:=n) rfl
 rw[e0,show(bD some [D.ref q]++ar d_least.vs none)=[some (D.ref q)]from rfl]
 have h2:seqM (.ref q) s=.ok ⟨rowD l,[q]⟩ s:=by simp only[seqM,hq]
 obtain⟨ρ1,s1,e1,rfl,_⟩:=comp_inv (ok:=λ s1=>chk s s1 [q]) (g:=turnI (callN P n) (.one 0) (.notN (.var 0)) (.var 0)) (λ ρ u=>u=s/\∃ x,ρ=[x]) (λ d=>if d=D.non then none else some d) (rowD l) [none] s ⟨rfl,none,rfl⟩ (λ _ u h=>by obtain⟨rfl,_⟩:=h;simp[chk]) (by
  rintro d hd ρ u ⟨rfl,x,rfl⟩
  refine⟨[some d],u,?_,rfl,_,rfl⟩
  unfold turnI
  by_cases hn:d=.non
  ·tbr_iter [hn]
  ·tbr_iter [hn])
 rw[rowD_filter]at e1
 simp -implicitDefEqProofs only[d_least]
 tbr_iter [qZ,h2,if_pos (show(rowD l).length<=LIM by rw[rowD_len];unfold LIM;omega),show zK [some (D.ref q)] [none]=[none]from rfl,e1,mkD_min]
 exact canon_encO
theorem added_ok {P:Pr}[Has P d_added](n:Nat)(a b:Option Int)(s:Sto):(callN P (n+1)).call "added" [qF a,qF b] s=.ok (qF (addO a b)) s:=by
 have e0:(callN P (n+1)).call "added" [qF a,qF b] s=_:=zb d_added (n:=n) rfl
 rw[e0,show(bD some [qF a,qF b]++ar d_added.vs none)=[some (qF a),some (qF b)]from rfl]
 simp -implicitDefEqProofs only[d_added]
 cases a with
 | none=>tbr_iter [encO_none,show(D.non=D.non)=True from eq_self _];exact canon_non
 | some a=>cases b with
  | none=>tbr_iter [encO_none,qU,show(D.non=D.non)=True from eq_self _,show(D.int a=D.non)=False from eq_false (by nofun)];exact canon_non
  | some b=>tbr_iter [qU,show(D.int a=D.non)=False from eq_false (by nofun),show(D.int b=D.non)=False from eq_false (by nofun)];exact zL
noncomputable def prO (m:Nat)(f g:Nat->Nat->Option Int)(i j:Nat):Option Int:=minI (((ah m).map λ k=>addO (f i k) (g k j)).filterMap id)
theorem rows_ncl {s:Sto}(hs:s.all O.ncl=true){m i:Nat}{W:Nat->Nat->D}(hW:∀ i j,(W i j).ncl=true):(s++[O.lst ((ah i).map λ i=>D.tup ((ah m).map λ j=>W i j))]).all O.ncl=true:=by
 refine qA hs (zC λ d hd=>?_)
 obtain⟨x,_,rfl⟩:=ax.mp hd
 unfold D.ncl
 exact zC λ d hd=>by obtain⟨x,_,rfl⟩:=ax.mp hd;exact hW _ _
section
variable {P:Pr} [Has P d_grid]
theorem plain_ok [Has P d_plain][HasL P d_plain_l0](n:Nat){m:Nat}(hm:m<=5){s:Sto}(hs:s.all O.ncl=true) :
  (callN P (n+3)).call "plain" [.int m] s=.ok (gdO m λ i j=>if i=j then some 0 else none) s:=by
 have e0:(callN P (n+3)).call "plain" [.int m] s=_:=zb d_plain (n:=n+2) rfl
 have hg:=grid_ok (P:=P) (n+1) (m:=m) (by omega) (d:=.clo "plain.0" []) (s:=s) (W:=λ i j=>qF (if i=j then some 0 else none)) (λ _ _ n=>qI _ n) (λ i j hi hj=>by
  generalize hS:s++[O.lst ((ah i).map λ i=>D.tup ((ah m).map λ j=>qF (if i=j then some 0 else none)))]=S
  have nS:S.all O.ncl=true:=by rw[<-hS];exact rows_ncl hs (W:=λ i j=>qF (if i=j then some 0 else none)) (λ _ _=>encO_ncl _)
  refine(lam_def d_plain_l0 (n:=n) rfl rfl (by rw[nS];rfl)).trans ?_
  show(ev (callN P n) d_plain_l0.body [some (.int i),some (.int j)] S).bind (zJ S)=_
  simp -implicitDefEqProofs only[d_plain_l0]
  by_cases h:i=j
  ·tbr_iter [show((i:Int)=(j:Int))=True from eq_true (by omega),if_pos h,qU];exact zL
  ·tbr_iter [show((i:Int)=(j:Int))=False from eq_false (by omega),if_neg h,encO_none];exact canon_non)
 rw[e0,show(bD some [D.int m]++ar d_plain.vs none)=[some (D.int m)]from rfl]
 simp -implicitDefEqProofs only[d_plain]
 tbr_iter [qX]
 rw[qW (cs:=[]) _ rfl]
 have e:gdD m (λ i j=>qF (if i=j then some 0 else none))=gdO m (λ i j=>if i=j then some 0 else none):=rfl
 tbr_iter [hg,e,if_pos (show((gdO m λ i j=>if i=j then some 0 else none).ncl&&s.all O.ncl)=true by rw[gdO_ncl,hs];rfl)]
 exact zn gdO_bnd (by nofun)
theorem productO_ok [Has P d_least][Has P d_added][Has P d_product][HasL P d_product_l0](n:Nat){m:Nat}(hm:m<=5)(f g:Nat->Nat->Option Int){s:Sto}(hs:s.all O.ncl=true) :
  (callN P (n+4)).call "product" [gdO m f,gdO m g] s=.ok (gdO m (prO m f g)) s:=by
 have e0:(callN P (n+4)).call "product" [gdO m f,gdO m g] s=_:=zb d_product (n:=n+3) rfl
 have hg:=grid_ok (P:=P) (n+2) (m:=m) (by omega) (d:=.clo "product.0" [.int m,gdO m f,gdO m g]) (s:=s) (W:=λ i j=>qF (prO m f g i j)) (λ _ _ n=>qI _ n) (λ i j hi hj=>by
  generalize hS:s++[O.lst ((ah i).map λ i=>D.tup ((ah m).map λ j=>qF (prO m f g i j)))]=S
  have nS:S.all O.ncl=true:=by rw[<-hS];exact rows_ncl hs (W:=λ i j=>qF (prO m f g i j)) (λ _ _=>encO_ncl _)
  refine(lam_def d_product_l0 (n:=n+1) rfl rfl (by rw[nS];simp[D.nclL,D.ncl,gdO_ncl])).trans ?_
  show(ev (callN P (n+1)) d_product_l0.body [some (.int i),some (.int j),some (.int m),some (gdO m f),some (gdO m g)] S).bind (zJ S)=_
  obtain⟨ρ1,s1,e1,rfl,_⟩:=qK (ok:=λ s1=>chk S s1 []) (g:=qg (callN P (n+1)) (.one 0) (.call "added" (.ex (.ix (.ix (.var 1) (.var 2)) (.var 0)) (.ex (.ix (.ix (.var 3) (.var 0)) (.var 4)) .nil)))) (λ ρ u=>u=S/\∃ x,ρ=[x,some (gdO m f),some (.int i),some (gdO m g),some (.int j)]) (λ k=>qF (addO (f i k) (g k j))) m [none,some (gdO m f),some (.int i),some (gdO m g),some (.int j)] S ⟨rfl,none,rfl⟩ (λ _ _ _=>rfl) (by
   rintro k hk ρ u ⟨rfl,x,rfl⟩
   refine⟨[some (.int k),some (gdO m f),some (.int i),some (gdO m g),some (.int j)],u,?_,rfl,_,rfl⟩
   unfold qg
   tbr_iter [gdO_ix hi,gdO_ix hk,rowO_ix hk,rowO_ix hj,added_ok n])
  have er:((ah m).map λ k=>qF (addO (f i k) (g k j)))=rowD ((ah m).map λ k=>addO (f i k) (g k j)):=by unfold rowD;rw[c9];rfl
  rw[er]at e1
  have mkl:∀ q (s:Sto),mk .list q s=.ok (.ref s.length) (s++[.lst q]):=λ _ _=>rfl
  have el:=least_ok (P:=P) n (s:=s1++[O.lst (rowD ((ah m).map λ k=>addO (f i k) (g k j)))]) (q:=s1.length) (l:=(ah m).map λ k=>addO (f i k) (g k j)) (by rw[ak (aj _)];simp) (by simp;omega)
  simp -implicitDefEqProofs only[d_product_l0]
  tbr_iter [qV,zF (s:=s1) (i:=(m:Int)) (by unfold W62;omega) (by unfold W62;omega),if_pos (show(jh 0 (m:Int)).length<=LIM by rw[zE];unfold LIM;omega),show zK [some (D.int (i:Int)),some (D.int (j:Int)),some (D.int (m:Int)),some (gdO m f),some (gdO m g)] [none,some 3,some 0,some 4,some 1]=[none,some (gdO m f),some (.int i),some (gdO m g),some (.int j)]from rfl,e1,mkl,el]
  exact zX (qI _) (encO_ref _))
 rw[e0,show(bD some [gdO m f,gdO m g]++ar d_product.vs none)=[some (gdO m f),some (gdO m g),none]from rfl]
 simp -implicitDefEqProofs only[d_product]
 tbr_iter [gdO_len,qX]
 rw[qW (cs:=[.int m,gdO m f,gdO m g]) _ rfl]
 have e:gdD m (λ i j=>qF (prO m f g i j))=gdO m (prO m f g):=rfl
 tbr_iter [hg,e,if_pos (show((gdO m (prO m f g)).ncl&&s.all O.ncl)=true by rw[gdO_ncl,hs];rfl)]
 exact zn gdO_bnd (by nofun)
end
theorem Least.low {S:Int->Prop}{l:List Int}(h1:∀ x∈l,S x)(h2:∀ c,S c->∃ x∈l,x<=c):Least S (minI l):=by
 have h:=minI_least l
 cases e:minI l with
 | none =>
  rw[e]at h
  exact λ c hc=>by obtain⟨x,hx,_⟩:=h2 c hc;exact h x hx
 | some i =>
  rw[e]at h
  refine⟨h1 i h.1,λ c hc=>?_⟩
  obtain⟨x,hx,hle⟩:=h2 c hc
  exact fS (h.2 x hx) hle
theorem prO_least {m:Nat}{A B:Nat->Nat->Int->Prop}{f g:Nat->Nat->Option Int}(hf:∀ i j,i<m->j<m->Least (A i j) (f i j))(hg:∀ i j,i<m->j<m->Least (B i j) (g i j)){i j:Nat}(hi:i<m)(hj:j<m) :
  Least (λ c=>∃ k,k<m/\∃ a b,A i k a/\B k j b/\c=a+b) (prO m f g i j):=by
 unfold prO
 refine Least.low (λ x hx=>?_) λ c hc=>?_
 ·obtain⟨o,ho,e⟩:=bW.mp hx
  obtain⟨k,hk,rfl⟩:=ax.mp ho
  have hk:=aZ.mp hk
  have h1:=hf i k hi hk
  have h2:=hg k j hk hj
  cases e1:f i k with
  | none=>rw[e1]at e;cases e
  | some a =>
   cases e2:g k j with
   | none=>rw[e1,e2]at e;cases e
   | some b =>
    rw[e1]at h1;rw[e2]at h2
    rw[e1,e2]at e
    cases e
    exact⟨k,hk,a,b,h1.1,h2.1,rfl⟩
 ·obtain⟨k,hk,a,b,ha,hb,rfl⟩:=hc
  have h1:=hf i k hi hk
  have h2:=hg k j hk hj
  cases e1:f i k with
  | none=>rw[e1]at h1;exact absurd ha (h1 a)
  | some a' =>
   cases e2:g k j with
   | none=>rw[e2]at h2;exact absurd hb (h2 b)
   | some b' =>
    rw[e1]at h1;rw[e2]at h2
    refine⟨a'+b',bW.mpr ⟨some (a'+b'),ax.mpr ⟨k,aZ.mpr hk,by rw[e1,e2];rfl⟩,rfl⟩,?_⟩
    have:=h1.2 a ha
    have:=h2.2 b hb
    omega
noncomputable def TabW (m:Mc)(w:List Nat)(f:Nat->Nat->Option Int):Prop:=∀ i j,i<m.R->j<m.R->Least (Wk m.ds w i j) (f i j)
theorem Wk_app {ds:List Dr}:∀ {v w:List Nat} {p q:Nat} {c:Int},Wk ds (v++w) p q c↔∃ k a b,Wk ds v p k a/\Wk ds w k q b/\c=a+b
 | [],w,p,q,c=>by
  constructor
  ·intro h;exact⟨p,0,c,⟨rfl,rfl⟩,h,by omega⟩
  ·rintro⟨k,a,b,⟨rfl,rfl⟩,h,e⟩
   have:c=b:=by omega
   rw[this];exact h
 | x::v,w,p,q,c=>by
  show(∃ d∈ds,_)↔_
  constructor
  ·rintro⟨d,hd,h1,h2,c',h3,e⟩
   obtain⟨k,a,b,h4,h5,e2⟩:=Wk_app.mp h3
   exact⟨k,a+d.t,b,⟨d,hd,h1,h2,a,h4,by omega⟩,h5,by omega⟩
  ·rintro⟨k,a,b,⟨d,hd,h1,h2,a',h4,e⟩,h5,e2⟩
   exact⟨d,hd,h1,h2,a'+b,Wk_app.mpr ⟨k,a',b,h4,h5,rfl⟩,by omega⟩
theorem Wk_lt {m:Mc}(hm:m.Ok):∀ {w:List Nat} {p q:Nat} {c:Int},p<m.R->Wk m.ds w p q c->q<m.R
 | [],p,q,c,hp,h=>by obtain⟨rfl,_⟩:=h;exact hp
 | x::w,p,q,c,hp,h=>by
  obtain⟨d,hd,_,_,c',h3,_⟩:=h
  exact Wk_lt hm (hm.ds.1 d hd).b h3
theorem TabW.nil {m:Mc}:TabW m [] λ i j=>if i=j then some 0 else none:=λ i j hi hj=>by
 show Least (Wk m.ds [] i j) (if i=j then some 0 else none)
 by_cases h:i=j
 ·rw[if_pos h];exact⟨⟨h,rfl⟩,λ c hc=>by have:=hc.2;omega⟩
 ·rw[if_neg h];exact λ c hc=>h hc.1
theorem TabW.mul {m:Mc}(hm:m.Ok){v w:List Nat}{f g:Nat->Nat->Option Int}(h:TabW m v f)(h':TabW m w g):TabW m (v++w) (prO m.R f g):=λ i j hi hj=>(prO_least h h' hi hj).congr λ c=>by
 rw[Wk_app]
 constructor
 ·rintro⟨k,_,a,b,h1,h2,e⟩;exact⟨k,a,b,h1,h2,e⟩
 ·rintro⟨k,a,b,h1,h2,e⟩;exact⟨k,Wk_lt hm hi h1,a,b,h1,h2,e⟩
noncomputable def ltF (ds:List Dr)(c i j:Nat):Option Int:=minI (ds.filterMap λ d=>if d.a=i/\d.l=c/\d.b=j then some (d.t:Int)else none)
theorem Wk_one {ds:List Dr}{x p q:Nat}{c:Int}:Wk ds [x] p q c↔∃ d∈ds,d.l=x/\d.a=p/\d.b=q/\c=d.t:=by
 constructor
 ·rintro⟨d,hd,h1,h2,c',⟨h3,h4⟩,e⟩;exact⟨d,hd,h2,h1,h3,by omega⟩
 ·rintro⟨d,hd,h1,h2,h3,e⟩;exact⟨d,hd,h2,h1,0,⟨h3,rfl⟩,by omega⟩
theorem TabW.letter {m:Mc}(c:Nat):TabW m [c] (ltF m.ds c):=λ i j hi hj=>by
 unfold ltF
 refine Least.low (λ x hx=>?_) λ x hx=>?_
 ·obtain⟨d,hd,e⟩:=bW.mp hx
  split at e
  ·rename_i h;cases e;exact Wk_one.mpr ⟨d,hd,h.2.1,h.1,h.2.2,rfl⟩
  ·cases e
 ·obtain⟨d,hd,h1,h2,h3,e⟩:=Wk_one.mp hx
  exact⟨x,bW.mpr ⟨d,hd,by rw[if_pos ⟨h2,h1,h3⟩,e]⟩,cx _⟩
theorem eq_trip {a b i j l c:Nat}{s:Sto}:qd .eq (.tup [.int (a:Int),.str [l],.int (b:Int)]) (.tup [.int (i:Int),.str [c],.int (j:Int)]) s=.ok (.bl (decide (a=i/\l=c/\b=j))) s:=by
 have:eqv s DEEP (.tup [.int (a:Int),.str [l],.int (b:Int)]) (.tup [.int (i:Int),.str [c],.int (j:Int)])=some (((a:Int)==(i:Int))&&(([l]==[c])&&(((b:Int)==(j:Int))&&true))):=rfl
 show(match eqv s DEEP (.tup [.int (a:Int),.str [l],.int (b:Int)]) (.tup [.int (i:Int),.str [c],.int (j:Int)])with|some r=>R.ok (D.bl r) s|none=>.bad)=_
 rw[this]
 show R.ok (D.bl _) s=_
 congr 2
 rw[ee]
 simp
 omega
section
variable {P:Pr} [Has P d_grid] [Has P d_least] [Has P d_rooms_of] [Has P d_doors_of] [Has P d_letter_table] [HasL P d_letter_table_l0]
theorem mc_ncl {m:Mc}:m.d.ncl=true:=by
 unfold Mc.d Mc.ps D.ncl
 simp only[D.nclL,D.ncl,nats_ncl,dX,dW]
 exact zC λ d hd=>by obtain⟨x,_,rfl⟩:=ax.mp hd;rfl
theorem letter_table_ok (n:Nat){m:Mc}(hm:m.Ok)(c:Nat){s:Sto}(hs:s.all O.ncl=true) :
  (callN P (n+4)).call "letter_table" [m.d,.str [c]] s=.ok (gdO m.R (ltF m.ds c)) s:=by
 have e0:(callN P (n+4)).call "letter_table" [m.d,.str [c]] s=_:=zb d_letter_table (n:=n+3) rfl
 have hR:=hm.R5
 have hD:=hm.ds.2
 have hg:=grid_ok (P:=P) (n+2) (m:=m.R) (by omega) (d:=.clo "letter_table.least_fee" [m.d,.str [c]]) (s:=s) (W:=λ i j=>qF (ltF m.ds c i j)) (λ _ _ n=>qI _ n) (λ i j hi hj=>by
  generalize hS:s++[O.lst ((ah i).map λ i=>D.tup ((ah m.R).map λ j=>qF (ltF m.ds c i j)))]=S
  have nS:S.all O.ncl=true:=by rw[<-hS];exact rows_ncl hs (W:=λ i j=>qF (ltF m.ds c i j)) (λ _ _=>encO_ncl _)
  refine(lam_def d_letter_table_l0 (n:=n+1) rfl rfl (by rw[nS];simp[D.nclL,D.ncl,mc_ncl])).trans ?_
  show(ev (callN P (n+1)) d_letter_table_l0.body [some (.int i),some (.int j),some m.d,some (.str [c])] S).bind (zJ S)=_
  obtain⟨ρ1,s1,e1,rfl,_⟩:=comp_inv (ok:=λ s1=>chk S s1 []) (g:=turnI (callN P (n+1)) (.tup [0,1,2,3]) (.cmp .eq (.tup (.cons (.var 0) (.cons (.var 1) (.cons (.var 2) .nil)))) (.tup (.cons (.var 4) (.cons (.var 5) (.cons (.var 6) .nil))))) (.var 3)) (λ ρ u=>u=S/\∃ x0 x1 x2 x3,ρ=[x0,x1,x2,x3,some (.int (i:Int)),some (.str [c]),some (.int (j:Int))]) (λ d=>match d with|.tup [.int a,.str [l],.int b,.int t]=>if a=i/\l=c/\b=j then some (.int t)else none|_=>none) (m.ds.map Dr.d) [none,none,none,none,some (.int (i:Int)),some (.str [c]),some (.int (j:Int))] S ⟨rfl,none,none,none,none,rfl⟩ (λ _ _ _=>rfl) (by
   rintro d hd ρ u ⟨rfl,x0,x1,x2,x3,rfl⟩
   obtain⟨x,_,rfl⟩:=ax.mp hd
   refine⟨[some (.int x.a),some (.str [x.l]),some (.int x.b),some (.int x.t),some (.int i),some (.str [c]),some (.int j)],u,?_,rfl,_,_,_,_,rfl⟩
   unfold turnI Dr.d
   by_cases h:x.a=i/\x.l=c/\x.b=j
   ·tbr_iter [eq_trip,h]
    simp
   ·have h2:¬((x.a:Int)=(i:Int)/\x.l=c/\(x.b:Int)=(j:Int)):=by omega
    tbr_iter [eq_trip,h,if_neg h2])
  have er:(m.ds.map Dr.d).filterMap (λ d=>match d with|.tup [.int a,.str [l],.int b,.int t]=>if a=i/\l=c/\b=j then some (D.int t)else none|_=>none)=rowD ((m.ds.filterMap λ d=>if d.a=i/\d.l=c/\d.b=j then some (d.t:Int)else none).map some):=by
   unfold rowD
   rw[c9,dr,List.map_filterMap]
   refine filterMap_cg λ x _=>?_
   unfold Dr.d
   simp only[gS]
   by_cases h:x.a=i/\x.l=c/\x.b=j
   ·rw[if_pos h,if_pos (by omega)];rfl
   ·rw[if_neg h,if_neg (by omega)];rfl
  rw[er]at e1
  generalize hL:(m.ds.filterMap λ d=>if d.a=i/\d.l=c/\d.b=j then some (d.t:Int)else none)=L at e1
  have hLl:L.length<=75:=by rw[<-hL];exact am (fq _ _) hD
  have mkl:∀ q (s:Sto),mk .list q s=.ok (.ref s.length) (s++[.lst q]):=λ _ _=>rfl
  have el:=least_ok (P:=P) n (s:=s1++[O.lst (rowD (L.map some))]) (q:=s1.length) (l:=L.map some) (by rw[ak (aj _)];simp) (by simp;omega)
  have eL:(L.map some).filterMap id=L:=by rw[dr];exact List.filterMap_some
  rw[eL]at el
  simp -implicitDefEqProofs only[d_letter_table_l0]
  tbr_iter [doors_of_ok n,tup_seq,qZ,if_pos (show(m.ds.map Dr.d).length<=LIM by rw[aG];unfold LIM;omega),show zK [some (D.int (i:Int)),some (D.int (j:Int)),some m.d,some (D.str [c])] [none,none,none,none,some 0,some 3,some 1]=[none,none,none,none,some (.int (i:Int)),some (.str [c]),some (.int (j:Int))]from rfl,e1,mkl,el]
  rw[<-hL]
  exact zX (qI _) (encO_ref _))
 rw[e0,show(bD some [m.d,D.str [c]]++ar d_letter_table.vs none)=[some m.d,some (D.str [c]),none]from rfl]
 simp -implicitDefEqProofs only[d_letter_table]
 tbr_iter [qX,rooms_of_ok (n+2)]
 rw[qW (cs:=[m.d,.str [c]]) _ rfl]
 have e:gdD m.R (λ i j=>qF (ltF m.ds c i j))=gdO m.R (ltF m.ds c):=rfl
 tbr_iter [hg,e,if_pos (show((gdO m.R (ltF m.ds c)).ncl&&s.all O.ncl)=true by rw[gdO_ncl,hs];rfl)]
 exact zn gdO_bnd (by nofun)
end
theorem getL {s:Sto}{o:O}:(s++[o])[s.length]?=some o:=by rw[ak (aj _)];simp
theorem sg_len (a:List Nat):(sg a).length=a.length:=by unfold sg;exact aG _
theorem look_app (k a v:D):∀ l:List (D×D),look k (l++[(a,v)])=match look k l with|some x=>some x|none=>if a=k then some v else none
 | []=>by unfold look;rfl
 | (b,u)::l=>by
  rw[c7]
  unfold look
  by_cases h:b=k
  ·rw[if_pos h,if_pos h]
  ·rw[if_neg h,if_neg h];exact look_app k a v l
theorem notin_dic {s:Sto}{r:Nat}{l:List (D×D)}{k:D}(h:s[r]?=some (.dic l))(hk:k.key=true):qd .notin k (.ref r) s=.ok (.bl (!(look k l).isSome)) s:=by
 show(inM k (.ref r) s).bind (λ r s=>R.ok (D.bl (!r)) s)=_
 simp only[inM,h,hk,if_true,R.bind_ok]
theorem ix_dic {s:Sto}{r:Nat}{l:List (D×D)}{k v:D}(h:s[r]?=some (.dic l))(hk:k.key=true)(hv:look k l=some v):ixM (.ref r) k s=.ok v s:=by
 simp only[ixM,h,hk,if_true,hv]
theorem set_dic {s:Sto}{r:Nat}{l:List (D×D)}{k v:D}(h:s[r]?=some (.dic l))(hk:k.key=true)(hl:l.length<LIM):setIx (.ref r) k v s=.ok () (s.set r (.dic (putD k v l))):=by
 simp[setIx,h,hk,hl]
theorem ev_dic0 {F:Fns}{ρ:Env}{s:Sto}:ev F (.dic .nil .nil) ρ s=.ok (.ref s.length) (s++[.dic []]):=rfl
theorem put_new {k v:D}{l:List (D×D)}(h:look k l=none):putD k v l=l++[(k,v)]:=by unfold putD;rw[h];rfl
theorem set_tail {s:Sto}{o p:O}:(s++[o]).set s.length p=s++[p]:=by rw[bu _ _ (aj _)];simp
section
variable {P:Pr} [Has P d_grid] [Has P d_least] [Has P d_added] [Has P d_rooms_of] [Has P d_doors_of] [Has P d_letter_table] [HasL P d_letter_table_l0] [Has P d_plain] [HasL P d_plain_l0] [Has P d_product] [HasL P d_product_l0] [Has P d_word_table]
noncomputable def DicW (m:Mc)(l:List (D×D)):Prop:=(∀ c v,look (.str [c]) l=some v->v=gdO m.R (ltF m.ds c))/\∀ p∈l,p.2.ncl=true
theorem DicW.nil {m:Mc}:DicW m []:=⟨λ c v h=>(by cases h),λ p hp=>(by cases hp)⟩
theorem word_table_ok (n:Nat){m:Mc}(hm:m.Ok)(w:List Nat)(hw:w.length<=5000){s:Sto}(hs:s.all O.ncl=true) :
  ∃ f,TabW m w f/\(callN P (n+5)).call "word_table" [m.d,.str w] s=.ok (gdO m.R f) s:=by
 have e0:(callN P (n+5)).call "word_table" [m.d,.str w] s=_:=zb d_word_table (n:=n+4) rfl
 have hR:=hm.R5
 have nd:∀ l:List (D×D),DicW m l->(s++[O.dic l]).all O.ncl=true:=λ l h=>qA hs (zC λ d hd=>by
  obtain⟨p,hp,rfl⟩:=ax.mp hd;exact h.2 p hp)
 have key:=for_inv (ok:=λ s1=>chk (s++[O.dic []]) s1 []) (g:=turn (callN P (n+4)) (.one 4) (.cons (.ite (.cmp .notin (.var 4) (.var 2)) (.cons (.setIx (.var 2) (.var 4) (.call "letter_table" (.ex (.var 0) (.ex (.var 4) .nil)))) .nil) .nil) (.cons (.asg (.one 3) (.call "product" (.ex (.var 3) (.ex (.ix (.var 2) (.var 4)) .nil)))) .nil)))
  (λ k ρ t=>∃ f l x,TabW m (w.take k) f/\DicW m l/\l.length<=k/\ρ=[some m.d,some (.str w),some (.ref s.length),some (gdO m.R f),x]/\t=s++[.dic l]) (sg w) 0 [some m.d,some (.str w),some (.ref s.length),some (gdO m.R λ i j=>if i=j then some 0 else none),none] (s++[O.dic []])
  ⟨_,[],none,by rw[jj];exact TabW.nil,DicW.nil,aj _,rfl,rfl⟩ (λ _ _ _ _ _=>rfl) (by
  rintro k d ρ t hk ⟨f,l,x,hf,hl,hll,rfl,rfl⟩
  rw[cz]at hf hll ⊢
  unfold sg at hk
  rw[aB]at hk
  obtain⟨c,hc,rfl⟩:=cJ.mp hk
  have hkl:=(ac.mp hc).1
  have hg:∀ l:List (D×D),(s++[O.dic l])[s.length]?=some (.dic l):=λ l=>by rw[ak (aj _)];simp
  have e1:=letter_table_ok (P:=P) n hm c (nd l hl)
  have hT:TabW m (w.take (k+1)) (prO m.R f (ltF m.ds c)):=by
   rw[take_snoc hc];exact TabW.mul hm hf (TabW.letter c)
  cases hlk:look (.str [c]) l with
  | none =>
   have hl2:DicW m (l++[(.str [c],gdO m.R (ltF m.ds c))]):=by
    refine⟨λ c' v hv=>?_,λ p hp=>?_⟩
    ·rw[look_app]at hv
     cases q:look (.str [c']) l with
     | none =>
      rw[q]at hv
      simp only at hv
      split at hv
      ·rename_i e;cases e;cases hv;rfl
      ·cases hv
     | some v'=>rw[q]at hv;cases hv;exact hl.1 c' v q
    ·rcases bw.mp hp with h|h
     ·exact hl.2 p h
     ·rw[bj.mp h];exact gdO_ncl
   have e2:=productO_ok (P:=P) n hR f (ltF m.ds c) (nd _ hl2)
   have e3:=ix_dic (hg (l++[(.str [c],gdO m.R (ltF m.ds c))])) (k:=.str [c]) rfl (v:=gdO m.R (ltF m.ds c)) (by rw[look_app,hlk];simp)
   have e4:=set_dic (v:=gdO m.R (ltF m.ds c)) (hg l) (k:=.str [c]) rfl (by unfold LIM;omega)
   rw[put_new hlk,set_tail]at e4
   refine⟨_,_,.inl ?_,_,_,some (.str [c]),hT,hl2,by simp;omega,rfl,rfl⟩
   unfold turn
   tbr_iter [notin_dic (hg l) (k:=.str [c]) rfl,hlk,hG,e1,e4,e3,e2]
  | some v =>
   have hv:=hl.1 c v hlk
   have e2:=productO_ok (P:=P) n hR f (ltF m.ds c) (nd _ hl)
   have e3:=ix_dic (hg l) (k:=.str [c]) rfl hlk
   rw[hv]at e3
   refine⟨_,_,.inl ?_,_,_,some (.str [c]),hT,hl,by omega,rfl,rfl⟩
   unfold turn
   tbr_iter [notin_dic (hg l) (k:=.str [c]) rfl,hlk,eN,e3,e2])
 obtain⟨ρ',s',ek,f,l,x,hf,hl,_,rfl,rfl⟩:=key
 rw[cz,sg_len,fF]at hf
 refine⟨f,hf,?_⟩
 have e1:=plain_ok (P:=P) (n+1) hR (nd [] DicW.nil)
 have h2:∀ t,seqM (.str w) t=.ok ⟨sg w,[]⟩ t:=λ _=>rfl
 rw[e0,show(bD some [m.d,D.str w]++ar d_word_table.vs none)=[some m.d,some (D.str w),none,none,none]from rfl]
 simp -implicitDefEqProofs only[d_word_table]
 tbr_iter [ev_dic0,rooms_of_ok (n+3),e1,h2]
 rw[ek]
 tbr_iter []
 exact zX gdO_bnd (by nofun)
end
section
variable {P:Pr} [Has P d_grid] [Has P d_least] [Has P d_added] [Has P d_rooms_of] [Has P d_doors_of] [Has P d_letter_table] [HasL P d_letter_table_l0] [Has P d_plain] [HasL P d_plain_l0] [Has P d_product] [HasL P d_product_l0] [Has P d_word_table]
 [Has P w_bag] [Has P w_take] [Has P w_rooms] [Has P w_machine] [Has P w_word] [Has P w_same_2] [Has P w_from_room] [Has P w_law_k10]
end
section
variable {P:Pr} [Has P ji] [Has P d_ends_of] [Has P zP]
variable [Has P d_grid] [Has P d_least] [Has P d_added] [Has P d_rooms_of] [Has P d_doors_of] [Has P d_letter_table] [HasL P d_letter_table_l0] [Has P d_plain] [HasL P d_plain_l0] [Has P d_product] [HasL P d_product_l0] [Has P d_word_table] [Has P d_price]
end
noncomputable def Stdy (m:Nat)(f:Nat->Nat->Int):Prop:=EqG m (pr m f f) f
section
variable {P:Pr} [Has P d_grid] [Has P d_sign_product] [HasL P d_sign_product_l0] [Has P d_is_steady]
theorem is_steady_ok (n:Nat){m:Nat}(hm:1<=m)(hm5:m<=5){f:Nat->Nat->Int}(hf:InG m f){s:Sto}(hs:s.all O.ncl=true) :
  ∃ b:Bool,(callN P (n+4)).call "is_steady" [gd m f] s=.ok (.bl b) s/\(b=true↔Stdy m f):=by
 have e0:(callN P (n+4)).call "is_steady" [gd m f] s=_:=zb d_is_steady (n:=n+3) rfl
 obtain⟨b,e,h⟩:=eq_gd (s:=s) (m:=m) (f:=pr m f f) (g:=f)
 refine⟨b,?_,h⟩
 rw[e0,show(bD some [gd m f]++ar d_is_steady.vs none)=[some (gd m f)]from rfl]
 simp -implicitDefEqProofs only[d_is_steady,zd,zu,jb,qp,zZ,zV,zH,zq,zr,R.bind_ok,qS n hm hm5 hf hf hs,e,qx,qv]
 exact zR
variable [Has P d_round_of] [Has P d_sharpened] [HasL P d_sharpened_l0] [HasC P "FREE" (.int 0)] [HasC P "UNBOUND" (.int 2)] [HasC P "NONE" (.int 3)]
theorem glob_ev {n:Nat}{x:String}{d:D}[HasC P x d](ρ:Env)(s:Sto):ev (callN P n) (.glob x) ρ s=.ok d s:=by
 show(match(callN P n).con x with|some d=>R.ok d s|none=>.bad)=_
 rw[con_def (v:=d)]
theorem round_of_ok (n:Nat)(x:Int)(s:Sto):(callN P (n+1)).call "round_of" [.int x] s=.ok (.int (L2.rnd x)) s:=by
 have e0:(callN P (n+1)).call "round_of" [.int x] s=_:=zb d_round_of (n:=n) rfl
 rw[e0,show(bD some [D.int x]++ar d_round_of.vs none)=[some (D.int x)]from rfl]
 have g1:=λ ρ s=>glob_ev (P:=P) (n:=n) (x := "FREE") (d:=.int 0) ρ s
 have g2:=λ ρ s=>glob_ev (P:=P) (n:=n) (x := "NONE") (d:=.int 3) ρ s
 have g3:=λ ρ s=>glob_ev (P:=P) (n:=n) (x := "UNBOUND") (d:=.int 2) ρ s
 by_cases h0:x=0
 ·have e:L2.rnd x=x:=by unfold L2.rnd;rw[if_pos (.inl h0)]
  simp -implicitDefEqProofs only[d_round_of,zd,zu,qH,ev_or,qp,zq,zr,R.bind_ok,g1,eq_int,h0,decide_true,zW,if_true,jb,qx,qv]
  rw[<-h0,e];exact zL
 ·by_cases h3:x=3
  ·have e:L2.rnd x=x:=by unfold L2.rnd;rw[if_pos (.inr h3)]
   simp -implicitDefEqProofs only[d_round_of,zd,zu,qH,ev_or,qp,zq,zr,R.bind_ok,g1,g2,eq_int,h0,h3,decide_true,decide_false,aQ,if_false,zW,if_true,jb,qx,qv]
   rw[<-h3,e]
   simp -implicitDefEqProofs only[show ¬((3:Int)=0)by decide,h3,decide_false,decide_true,aQ,if_false,if_true,zW,R.bind_ok,qx,qv]
   exact zL
  ·have e:L2.rnd x=2:=by unfold L2.rnd;rw[if_neg (by omega)]
   simp -implicitDefEqProofs only[d_round_of,zd,zu,qH,ev_or,qp,zq,zr,R.bind_ok,g1,g2,g3,eq_int,h0,h3,decide_false,aQ,if_false,zW,zg,jb,qx,qv]
   rw[e];exact zL
theorem sharpened_ok (n:Nat){m:Nat}(hm:1<=m)(hm5:m<=5){f:Nat->Nat->Int}(hf:InG m f)(hst:Stdy m f){s:Sto}(hs:s.all O.ncl=true) :
  (callN P (n+5)).call "sharpened" [gd m f] s=.ok (gd m (sh m f)) s:=by
 have e0:(callN P (n+5)).call "sharpened" [gd m f] s=_:=zb d_sharpened (n:=n+4) rfl
 obtain⟨b,eb,hb⟩:=is_steady_ok (P:=P) n hm hm5 hf hs
 have hbt:b=true:=hb.mpr hst
 subst hbt
 have nL:(O.lst (row m λ k=>L2.rnd (f k k))).ncl=true:=row_ncl
 have hs1:(s++[O.lst (row m λ k=>L2.rnd (f k k))]).all O.ncl=true:=qA hs nL
 have gL:∀ t:Sto,(s++[O.lst (row m λ k=>L2.rnd (f k k))]++t)[s.length]?=some (.lst (row m λ k=>L2.rnd (f k k))):=λ t=>by rw[dE,ak (aj _)];simp
 have hg0:=grid_ok (P:=P) (n+3) (m:=m) (by omega) (d:=.clo "sharpened.0" [.int m,gd m f,.ref s.length]) (s:=s++[O.lst (row m λ k=>L2.rnd (f k k))]) (W:=λ i j=>.int (sh m f i j)) (λ _ _ _=>rfl) (λ i j hi hj=>by
  have g0:=gL [O.lst ((ah i).map λ i=>D.tup ((ah m).map λ j=>D.int (sh m f i j)))]
  generalize hS:s++[O.lst (row m λ k=>L2.rnd (f k k))]++[O.lst ((ah i).map λ i=>D.tup ((ah m).map λ j=>D.int (sh m f i j)))]=S at g0
  have nS:S.all O.ncl=true:=by
   rw[<-hS]
   refine qA hs1 (zC λ d hd=>?_)
   obtain⟨x,_,rfl⟩:=ax.mp hd
   unfold D.ncl
   exact zC λ d hd=>by obtain⟨x,_,rfl⟩:=ax.mp hd;rfl
  refine(lam_def d_sharpened_l0 (n:=n+2) rfl rfl (by rw[nS];simp[D.nclL,D.ncl,gd_ncl])).trans ?_
  show(ev (callN P (n+2)) d_sharpened_l0.body [some (.int i),some (.int j),some (.int m),some (gd m f),some (.ref s.length)] S).bind (zJ S)=_
  simp -implicitDefEqProofs only[d_sharpened_l0,ev_mk,qV,z6,zq,zr,zv,R.bind_ok]
  rw[zF (by unfold W62;omega) (by unfold W62;omega)]
  simp only[R.bind_ok]
  rw[if_pos (by rw[zE];unfold LIM;omega)]
  have e1:qN (λ s1=>chk S s1 []) (qg (callN P (n+2)) (.one 0) (.bi .max3 (.cons (.ix (.ix (.var 1) (.var 2)) (.var 0)) (.cons (.ix (.var 3) (.var 0)) (.cons (.ix (.ix (.var 1) (.var 0)) (.var 4)) .nil))))) (jh 0 (m:Int)) (zK [some (.int i),some (.int j),some (.int m),some (gd m f),some (.ref s.length)] [none,some 3,some 0,some 4,some 1]) S=.ok ((ah m).map λ k=>.int (max (max (f i k) (L2.rnd (f k k))) (f k j))) S:=by
   obtain⟨ρ1,s1,e1,h1⟩:=qK (ok:=λ s1=>chk S s1 []) (g:=qg (callN P (n+2)) (.one 0) (.bi .max3 (.cons (.ix (.ix (.var 1) (.var 2)) (.var 0)) (.cons (.ix (.var 3) (.var 0)) (.cons (.ix (.ix (.var 1) (.var 0)) (.var 4)) .nil))))) (λ ρ u=>u=S/\∃ x,ρ=[x,some (gd m f),some (.int i),some (.ref s.length),some (.int j)]) (λ k=>.int (max (max (f i k) (L2.rnd (f k k))) (f k j))) m (zK [some (.int i),some (.int j),some (.int m),some (gd m f),some (.ref s.length)] [none,some 3,some 0,some 4,some 1]) S ⟨rfl,none,rfl⟩ (λ _ _ _=>rfl) (by
    rintro k hk ρ u ⟨rfl,x,rfl⟩
    refine⟨[some (.int k),some (gd m f),some (.int i),some (.ref s.length),some (.int j)],u,?_,rfl,_,rfl⟩
    unfold qg
    simp -implicitDefEqProofs only[zl,zD,ev_bi,zz,zA,ev_ix,zq,zr,zv,R.bind_ok,gd_ix hi,gd_ix hk,qG hk,qG hj,qa g0 (jg hk),max3_int])
   obtain⟨rfl,_⟩:=h1
   exact e1
  rw[e1]
  simp only[R.bind_ok]
  rw[mk_min (v:=sh m f i j) hm (λ x=>by
   rw[sh_sharp hm hf i j hi hj,L2.sharp_le hm]
   constructor
   ·rintro⟨l,hl,h1,h2,h3⟩;exact⟨l,hl,by omega⟩
   ·rintro⟨l,hl,h1⟩;exact⟨l,hl,by omega,by omega,by omega⟩)]
  exact zL)
 have er:qN (λ s1=>chk s s1 []) (qg (callN P (n+4)) (.one 0) (.call "round_of" (.ex (.ix (.ix (.var 1) (.var 0)) (.var 0)) .nil))) (jh 0 (m:Int)) (zK [some (gd m f),some (.int m),none] [none,some 0]) s=.ok (row m λ k=>L2.rnd (f k k)) s:=by
  obtain⟨ρ1,s1,e1,h1⟩:=qK (ok:=λ s1=>chk s s1 []) (g:=qg (callN P (n+4)) (.one 0) (.call "round_of" (.ex (.ix (.ix (.var 1) (.var 0)) (.var 0)) .nil))) (λ ρ u=>u=s/\∃ x,ρ=[x,some (gd m f)]) (λ k=>.int (L2.rnd (f k k))) m (zK [some (gd m f),some (.int m),none] [none,some 0]) s ⟨rfl,none,rfl⟩ (λ _ _ _=>rfl) (by
   rintro k hk ρ u ⟨rfl,x,rfl⟩
   refine⟨[some (.int k),some (gd m f)],u,?_,rfl,_,rfl⟩
   unfold qg
   simp -implicitDefEqProofs only[zl,zD,zZ,zV,zH,ev_ix,zq,zr,zv,R.bind_ok,gd_ix hk,qG hk,round_of_ok (n+3)])
  obtain⟨rfl,_⟩:=h1
  exact e1
 rw[e0,show(bD some [gd m f]++ar d_sharpened.vs none)=[some (gd m f),none,none]from rfl]
 simp -implicitDefEqProofs only[d_sharpened,zd,zu,qH,ev_not,zZ,zV,zH,zq,zr,zv,R.bind_ok,eb,zW,dR,if_false,aQ,zg,qz,ev_bi,zz,zA,len_gd,zl,zO,zD,aO,zy,ev_mk,qV,z6]
 rw[zF (by unfold W62;omega) (by unfold W62;omega)]
 simp only[R.bind_ok]
 rw[if_pos (by rw[zE];unfold LIM;omega),er]
 simp -implicitDefEqProofs only[R.bind_ok,mk,alloc_eq,zy,zg,zl,zO,zD,aO,zd,zu,jb,qX,zV,zq,zr,zv]
 rw[qW (cs:=[.int m,gd m f,.ref s.length]) _ rfl]
 simp -implicitDefEqProofs only[zH,R.bind_ok,hg0]
 have e:gdD m (λ i j=>.int (sh m f i j))=gd m (sh m f):=rfl
 rw[e,if_pos (by rw[gd_ncl,hs1];rfl)]
 simp -implicitDefEqProofs only[R.bind_ok,qx,qv]
 exact zX qT (by nofun)
end
section
variable {P:Pr} [Has P d_grid] [Has P d_sign_product] [HasL P d_sign_product_l0] [Has P d_is_steady] [Has P jc]
end
section
variable {P:Pr} [Has P w_draw]
variable [Has P w_signs]
end
section
variable {m:Nat} (hm:1<=m) {g:Nat->Nat->Int} (hg:InG m g) (hst:Stdy m g)
include hm hg hst
end
theorem range_inv {m j:Nat}{f:Nat->D}{d:D}(h:((ah m).map f)[j]?=some d):j<m/\d=f j:=by
 have hj:=(ac.mp h).1
 simp at hj
 rw[aB,bv hj]at h
 exact⟨hj,(au h).symm⟩
section
variable {P:Pr} [Has P w_draw] [Has P d_grid] [Has P d_sign_product] [HasL P d_sign_product_l0] [Has P d_is_steady] [Has P d_round_of] [Has P d_sharpened] [HasL P d_sharpened_l0] [HasC P "FREE" (.int 0)] [HasC P "UNBOUND" (.int 2)] [HasC P "NONE" (.int 3)] [Has P jc] [Has P w_goes_with] [Has P w_right]
variable [Has P w_box] [Has P w_signs] [Has P w_law_k25]
end
noncomputable def un (i j:Nat):Int:=if i=j then 0 else 3
section
variable {m:Nat} (hm:1<=m)
end
section
variable {P:Pr} [Has P d_grid] [Has P d_plain_signs] [HasL P qO] [HasC P "FREE" (.int 0)] [HasC P "NONE" (.int 3)]
variable [Has P d_raised] [Has P d_sign_product] [HasL P d_sign_product_l0]
variable [Has P d_sign_power] [HasC P "sign_product" (.fn "sign_product")]
end
section
variable {P:Pr} [Has P w_product_2] [Has P w_unit] [Has P w_round]
end
noncomputable def fi22:Ss:=(.cons (.ite (.or (.not (.bi .isInt (.cons (.var 3) .nil))) (.bi .isBool (.cons (.var 3) .nil))) (.cons (.ret (.cst (.bl false))) .nil) .nil) .nil)
noncomputable def ft22:Ss:=(.cons (.ite (.or (.not (.bi .isTup (.cons (.var 2) .nil))) (.cmp .ne (.bi .len (.cons (.var 2) .nil)) (.var 1))) (.cons (.ret (.cst (.bl false))) .nil) .nil) (.cons (.for_ (.one 3) (.seq (.var 2)) fi22) .nil))
theorem form_ok {P:Pr}[Has P w_form](n:Nat){m:Nat}(f:Nat->Nat->Int)(s:Sto):(callN P (n+1)).call "_law_form" [gd m f,.int m] s=.ok (.bl true) s:=by
 have e0:(callN P (n+1)).call "_law_form" [gd m f,.int m] s=_:=zb w_form (n:=n) rfl
 have body:w_form.body=.cons (.ite (.or (.not (.bi .isTup (.cons (.var 0) .nil))) (.cmp .ne (.bi .len (.cons (.var 0) .nil)) (.var 1))) (.cons (.ret (.cst (.bl false))) .nil) .nil) (.cons (.for_ (.one 2) (.seq (.var 0)) ft22) (.cons (.ret (.cst (.bl true))) .nil)):=rfl
 have it:∀(l:List D) (s:Sto),bi .isTup [.tup l] s=.ok (.bl true) s:=λ _ _=>rfl
 have it2:bi .isTup [gd m f] s=.ok (.bl true) s:=rfl
 have inner:∀ i,i<m->∀ x2 x3,∃ ρ' s',forL (λ s1=>chk s s1 []) (turn (callN P n) (.one 3) fi22) (row m (f i)) [some (gd m f),some (.int m),x2,x3] s=.ok (.next ρ') s'/\∃ x3,ρ'=[some (gd m f),some (.int m),x2,x3]/\s'=s:=λ i hi x2 x3=>by
  refine for_inv (λ _ ρ t=>∃ x3,ρ=[some (gd m f),some (.int m),x2,x3]/\t=s) _ 0 _ _ ⟨x3,rfl,rfl⟩ (λ _ _ _ _ _=>rfl) ?_
  rintro j d ρ t hj ⟨x3,rfl,rfl⟩
  obtain⟨hj5,rfl⟩:=row_inv hj
  refine⟨[some (gd m f),some (.int m),x2,some (.int (f i j))],t,.inl ?_,_,rfl,rfl⟩
  unfold turn fi22
  simp -implicitDefEqProofs only[zl,zO,zD,aO,zd,zu,qH,ev_or,ev_not,ev_bi,zz,zA,zq,zr,zv,R.bind_ok,isInt_int,isBool_int,zW,dR,if_false,aQ,zg]
 have outer:=for_inv (ok:=λ s1=>chk s s1 []) (g:=turn (callN P n) (.one 2) ft22) (λ _ ρ t=>∃ x2 x3,ρ=[some (gd m f),some (.int m),x2,x3]/\t=s) ((ah m).map λ i=>.tup (row m (f i))) 0 [some (gd m f),some (.int m),none,none] s ⟨none,none,rfl,rfl⟩ (λ _ _ _ _ _=>rfl) (by
  rintro i d ρ t hi ⟨x2,x3,rfl,rfl⟩
  obtain⟨hi5,rfl⟩:=range_inv hi
  obtain⟨ρ',s',e,y3,rfl,rfl⟩:=inner i hi5 (some (.tup (row m (f i)))) x3
  refine⟨[some (gd m f),some (.int m),some (.tup (row m (f i))),y3],s',.inl ?_,_,_,rfl,rfl⟩
  unfold turn ft22
  simp -implicitDefEqProofs only[zl,zO,zD,aO,zd,zu,qH,ev_or,ev_not,ev_bi,zz,zA,zq,zr,zv,R.bind_ok,it,zW,dR,if_false,aQ,qp,len_tup,row_len,ne_int,decide_true,zg,ex_for,evI_seq,tup_seq]
  rw[e]
  rfl)
 obtain⟨ρ',s',e,x2,x3,rfl,rfl⟩:=outer
 rw[e0,body,show(bD some [gd m f,D.int m]++ar w_form.vs none)=[some (gd m f),some (.int m),none,none]from rfl]
 simp -implicitDefEqProofs only[zd,zu,qH,ev_or,ev_not,ev_bi,zz,zA,zq,zr,zv,R.bind_ok,it2,zW,dR,if_false,aQ,qp,len_gd,ne_int,decide_true,zg,ex_for,evI_seq,gd_seq]
 rw[e]
 simp -implicitDefEqProofs only[R.bind_ok,zg,zd,zu,jb,z8,Cn_bl,qx,qv]
 exact zR
section
variable {P:Pr} [Has P w_box] [Has P w_draw] [Has P w_signs] [Has P w_form] [Has P w_product_2] [Has P w_unit] [Has P w_round] [Has P w_due_2] [Has P w_law_k22] [Has P d_grid] [Has P d_raised] [Has P d_plain_signs] [HasL P qO] [Has P d_sign_product] [HasL P d_sign_product_l0] [Has P d_sign_power] [HasC P "FREE" (.int 0)] [HasC P "NONE" (.int 3)] [HasC P "sign_product" (.fn "sign_product")]
end
noncomputable def sgn:Option Int->Int
 | none=>3
 | some i=>if i=0 then 0 else 1
theorem sgn_in (o:Option Int):0<=sgn o/\sgn o<=3/\sgn o≠2:=by
 cases o with
 | none=>exact⟨by decide,by decide,by decide⟩
 | some i=>unfold sgn;simp only;split<;>exact⟨by decide,by decide,by decide⟩
theorem Wk_nn {ds:List Dr}:∀ {w:List Nat} {p q:Nat} {c:Int},Wk ds w p q c->0<=c
 | [],p,q,c,h=>by have:=h.2;omega
 | x::w,p,q,c,h=>by
  obtain⟨d,hd,_,_,c',h3,e⟩:=h
  have:=Wk_nn h3
  omega
structure SgW1 (S:Int->Prop)(x:Int):Prop where
 lo:0<=x
 hi:x<=3
 n2:x≠2
 z:x=0↔S 0
 t:x=3↔∀ c,¬ S c
theorem SgW1.eq {S:Int->Prop}{x y:Int}(h:SgW1 S x)(g:SgW1 S y):x=y:=by
 have h1:=h.z.trans g.z.symm
 have h2:=h.t.trans g.t.symm
 have:=h.lo;have:=h.hi;have:=h.n2;have:=g.lo;have:=g.hi;have:=g.n2
 by_cases a:x=0
 ·rw[a,h1.mp a]
 ·by_cases b:x=3
  ·rw[b,h2.mp b]
  ·have a':¬ y=0:=λ z=>a (h1.mpr z)
   have b':¬ y=3:=λ z=>b (h2.mpr z)
   omega
theorem sgn_least {S:Int->Prop}{o:Option Int}(h:Least S o)(nn:∀ c,S c->0<=c):SgW1 S (sgn o):=by
 obtain⟨h0,h3,h2⟩:=sgn_in o
 refine⟨h0,h3,h2,?_,?_⟩
 ·cases o with
  | none=>exact⟨λ z=>(by cases z),λ z=>absurd z (h 0)⟩
  | some i =>
   show(if i=0 then(0:Int)else 1)=0↔_
   constructor
   ·intro z
    split at z
    ·rename_i e;rw[<-e];exact h.1
    ·cases z
   ·intro z
    have h1:=h.2 0 z
    have h2:=nn i h.1
    rw[if_pos (by omega)]
 ·cases o with
  | none=>exact⟨λ _=>h,λ _=>rfl⟩
  | some i =>
   show(if i=0 then(0:Int)else 1)=3↔_
   constructor
   ·intro z;split at z<;>cases z
   ·intro z;exact absurd h.1 (z i)
noncomputable def SgW (m:Mc)(w:List Nat)(g:Nat->Nat->Int):Prop:=∀ i j,i<m.R->j<m.R->SgW1 (Wk m.ds w i j) (g i j)
theorem TabW.sg {m:Mc}{w:List Nat}{f:Nat->Nat->Option Int}(h:TabW m w f):SgW m w λ i j=>sgn (f i j):=λ i j hi hj=>sgn_least (h i j hi hj) λ c hc=>Wk_nn hc
theorem SgW.eqG {m:Mc}{w:List Nat}{f g:Nat->Nat->Int}(h:SgW m w f)(h':SgW m w g):EqG m.R f g:=λ i j hi hj=>(h i j hi hj).eq (h' i j hi hj)
theorem sgF_spec (ds:List Dr)(c i j:Nat):∀ k,k<=ds.length->(sgF ds c i j k=3/\∀ d∈ds.take k,¬(d.l=c/\d.a=i/\d.b=j))\/(sgF ds c i j k=1/\(∃ d∈ds.take k,d.l=c/\d.a=i/\d.b=j)/\∀ d∈ds.take k,d.l=c/\d.a=i/\d.b=j->d.t≠0)\/(sgF ds c i j k=0/\∃ d∈ds.take k,(d.l=c/\d.a=i/\d.b=j)/\d.t=0)
 | 0,_=>.inl ⟨rfl,λ d hd=>by rw[jj]at hd;cases hd⟩
 | k+1,hk=>by
  have ih:=sgF_spec ds c i j k (by omega)
  have hx:=af (show k<ds.length by omega)
  have hkeep:∀ d,d∈ds.take (k+1)↔d∈ds.take k\/d=ds[k]:=λ d=>by rw[take_snoc hx,bw,bj]
  have key:sgF ds c i j (k+1)=if ds[k].l=c/\i=ds[k].a/\j=ds[k].b then(if(if 0<ds[k].t then(1:Int)else 0)<sgF ds c i j k then(if 0<ds[k].t then(1:Int)else 0)else sgF ds c i j k)else sgF ds c i j k:=by
   conv=>lhs;unfold sgF
   rw[hx]
  rw[key]
  generalize hx':ds[k]=x at *
  by_cases hc:x.l=c/\i=x.a/\j=x.b
  ·rw[if_pos hc]
   have hc':x.l=c/\x.a=i/\x.b=j:=⟨hc.1,hc.2.1.symm,hc.2.2.symm⟩
   by_cases ht:0<x.t
   ·rw[if_pos ht]
    rcases ih with⟨e,h⟩|⟨e,h1,h2⟩|⟨e,d,hd,h1⟩
    ·rw[e,if_pos (by decide)]
     refine .inr (.inl ⟨rfl,⟨x,(hkeep x).mpr (.inr rfl),hc'⟩,λ d hd hh=>?_⟩)
     rcases(hkeep d).mp hd with z|z
     ·exact absurd hh (h d z)
     ·rw[z];omega
    ·rw[e,if_neg (by decide)]
     refine .inr (.inl ⟨rfl,⟨x,(hkeep x).mpr (.inr rfl),hc'⟩,λ d hd hh=>?_⟩)
     rcases(hkeep d).mp hd with z|z
     ·exact h2 d z hh
     ·rw[z];omega
    ·rw[e,if_neg (by decide)]
     exact .inr (.inr ⟨rfl,d,(hkeep d).mpr (.inl hd),h1⟩)
   ·rw[if_neg ht]
    have hz:x.t=0:=by omega
    rcases ih with⟨e,h⟩|⟨e,h1,h2⟩|⟨e,d,hd,h1⟩
    ·rw[e,if_pos (by decide)];exact .inr (.inr ⟨rfl,x,(hkeep x).mpr (.inr rfl),hc',hz⟩)
    ·rw[e,if_pos (by decide)];exact .inr (.inr ⟨rfl,x,(hkeep x).mpr (.inr rfl),hc',hz⟩)
    ·rw[e,if_neg (by decide)];exact .inr (.inr ⟨rfl,x,(hkeep x).mpr (.inr rfl),hc',hz⟩)
  ·rw[if_neg hc]
   have hc':¬(x.l=c/\x.a=i/\x.b=j):=λ z=>hc ⟨z.1,z.2.1.symm,z.2.2.symm⟩
   rcases ih with⟨e,h⟩|⟨e,⟨d,hd,h1⟩,h2⟩|⟨e,d,hd,h1⟩
   ·refine .inl ⟨e,λ d hd hh=>?_⟩
    rcases(hkeep d).mp hd with z|z
    ·exact h d z hh
    ·rw[z]at hh;exact hc' hh
   ·refine .inr (.inl ⟨e,⟨d,(hkeep d).mpr (.inl hd),h1⟩,λ d hd hh=>?_⟩)
    rcases(hkeep d).mp hd with z|z
    ·exact h2 d z hh
    ·rw[z]at hh;exact absurd hh hc'
   ·exact .inr (.inr ⟨e,d,(hkeep d).mpr (.inl hd),h1⟩)
theorem SgW.letter (m:Mc)(c:Nat):SgW m [c] (sgM m c):=λ i j hi hj=>by
 have h:=sgF_spec m.ds c i j m.ds.length (aj _)
 rw[fF]at h
 unfold sgM
 rcases h with⟨e,h⟩|⟨e,⟨d,hd,h1⟩,h2⟩|⟨e,d,hd,h1,h3⟩
 ·rw[e]
  refine⟨by decide,by decide,by decide,⟨λ z=>(by cases z),λ z=>?_⟩,⟨λ _ x hx=>?_,λ _=>rfl⟩⟩
  ·obtain⟨d,hd,a,b,c',_⟩:=Wk_one.mp z;exact absurd ⟨a,b,c'⟩ (h d hd)
  ·obtain⟨d,hd,a,b,c',_⟩:=Wk_one.mp hx;exact h d hd ⟨a,b,c'⟩
 ·rw[e]
  refine⟨by decide,by decide,by decide,⟨λ z=>(by cases z),λ z=>?_⟩,⟨λ z=>(by cases z),λ z=>?_⟩⟩
  ·obtain⟨d,hd,a,b,c',e2⟩:=Wk_one.mp z;have:=h2 d hd ⟨a,b,c'⟩;omega
  ·exact absurd (Wk_one.mpr ⟨d,hd,h1.1,h1.2.1,h1.2.2,rfl⟩) (z _)
 ·rw[e]
  refine⟨by decide,by decide,by decide,⟨λ _=>Wk_one.mpr ⟨d,hd,h1.1,h1.2.1,h1.2.2,by rw[h3];rfl⟩,λ _=>rfl⟩,⟨λ z=>(by cases z),λ z=>?_⟩⟩
  exact absurd (Wk_one.mpr ⟨d,hd,h1.1,h1.2.1,h1.2.2,rfl⟩) (z _)
section
variable {P:Pr} [HasC P "FREE" (.int 0)] [HasC P "SOME" (.int 1)] [HasC P "NONE" (.int 3)] [Has P d_sign_of]
theorem sign_of_ok (n:Nat)(o:Option Int)(s:Sto):(callN P (n+1)).call "sign_of" [qF o] s=.ok (.int (sgn o)) s:=by
 have e0:(callN P (n+1)).call "sign_of" [qF o] s=_:=zb d_sign_of (n:=n) rfl
 have g3:=λ ρ s=>(ev_glob (P:=P) (n:=n) (x := "NONE") (v:=.int 3) (ρ:=ρ) (s:=s))
 have g0:=λ ρ s=>(ev_glob (P:=P) (n:=n) (x := "FREE") (v:=.int 0) (ρ:=ρ) (s:=s))
 have g1:=λ ρ s=>(ev_glob (P:=P) (n:=n) (x := "SOME") (v:=.int 1) (ρ:=ρ) (s:=s))
 rw[e0,show(bD some [qF o]++ar d_sign_of.vs none)=[some (qF o)]from rfl]
 simp -implicitDefEqProofs only[d_sign_of]
 cases o with
 | none=>tbr_iter [encO_none,g3];exact zL
 | some i =>
  by_cases h:i=0
  ·subst h;tbr_iter [qU,show(D.int 0=D.non)=False from eq_false (by nofun),g0,sgn];exact zL
  ·tbr_iter [qU,show(D.int i=D.non)=False from eq_false (by nofun),h,g1,sgn];exact zL
variable [Has P d_grid] [Has P d_reading] [HasL P d_reading_l0]
theorem reading_ok (n:Nat){m:Nat}(hm:m<=5)(f:Nat->Nat->Option Int){s:Sto}(hs:s.all O.ncl=true) :
  (callN P (n+4)).call "reading" [gdO m f] s=.ok (gd m λ i j=>sgn (f i j)) s:=by
 have e0:(callN P (n+4)).call "reading" [gdO m f] s=_:=zb d_reading (n:=n+3) rfl
 have hg:=grid_ok (P:=P) (n+2) (m:=m) (by omega) (d:=.clo "reading.0" [gdO m f]) (s:=s) (W:=λ i j=>.int (sgn (f i j))) (λ _ _ n=>rfl) (λ i j hi hj=>by
  generalize hS:s++[O.lst ((ah i).map λ i=>D.tup ((ah m).map λ j=>.int (sgn (f i j))))]=S
  have nS:S.all O.ncl=true:=by rw[<-hS];exact rows_ncl hs (W:=λ i j=>.int (sgn (f i j))) (λ _ _=>rfl)
  refine(lam_def d_reading_l0 (n:=n+1) rfl rfl (by rw[nS];simp[D.nclL,D.ncl,gdO_ncl])).trans ?_
  show(ev (callN P (n+1)) d_reading_l0.body [some (.int i),some (.int j),some (gdO m f)] S).bind (zJ S)=_
  simp -implicitDefEqProofs only[d_reading_l0]
  tbr_iter [gdO_ix hi,rowO_ix hj,sign_of_ok n]
  exact zL)
 rw[e0,show(bD some [gdO m f]++ar d_reading.vs none)=[some (gdO m f)]from rfl]
 simp -implicitDefEqProofs only[d_reading]
 tbr_iter [qX,gdO_len]
 rw[qW (cs:=[gdO m f]) _ rfl]
 have e:gdD m (λ i j=>.int (sgn (f i j)))=gd m (λ i j=>sgn (f i j)):=rfl
 tbr_iter [hg,e,if_pos (show((gd m λ i j=>sgn (f i j)).ncl&&s.all O.ncl)=true by rw[gd_ncl,hs];rfl)]
 exact zn qT (by nofun)
variable [Has P d_least] [Has P d_added] [Has P d_rooms_of] [Has P d_doors_of] [Has P d_letter_table] [HasL P d_letter_table_l0] [Has P d_plain] [HasL P d_plain_l0] [Has P d_product] [HasL P d_product_l0] [Has P d_word_table] [Has P d_word_signs]
theorem word_signs_ok (n:Nat){m:Mc}(hm:m.Ok)(w:List Nat)(hw:w.length<=5000){s:Sto}(hs:s.all O.ncl=true) :
  ∃ g,SgW m w g/\(callN P (n+6)).call "word_signs" [m.d,.str w] s=.ok (gd m.R g) s:=by
 have e0:(callN P (n+6)).call "word_signs" [m.d,.str w] s=_:=zb d_word_signs (n:=n+5) rfl
 obtain⟨f,hf,e1⟩:=word_table_ok (P:=P) n hm w hw hs
 refine⟨_,hf.sg,?_⟩
 rw[e0,show(bD some [m.d,D.str w]++ar d_word_signs.vs none)=[some m.d,some (D.str w)]from rfl]
 simp -implicitDefEqProofs only[d_word_signs]
 tbr_iter [e1,reading_ok (P:=P) (n+1) hm.R5 f hs]
 exact zn qT (by nofun)
variable [Has P ji] [Has P d_ends_of] [Has P zP] [Has P d_end_sign]
end
structure Gx (ns:List Int)(r:Nat)(u:Sto):Prop where
 scr:u[0]?=some (.ro (ns.map D.int))
 ncl:u.all O.ncl=true
 box:∃ b,u[r]?=some (qE b)
 r0:r≠0
theorem Gx.put {ns:List Int}{r:Nat}{u:Sto}(h:Gx ns r u)(b:Int):Gx ns r (u.set r (qE b)):=⟨by rw[a7 h.r0];exact h.scr,all_set h.ncl rfl,box_set (box_lt h.box),h.r0⟩
theorem Gx.snoc {ns:List Int}{r:Nat}{u:Sto}(h:Gx ns r u){o:O}(ho:o.ncl=true):Gx ns r (u++[o]):=⟨qM h.scr,qA h.ncl ho,by obtain⟨b,hb⟩:=h.box;exact⟨b,qM hb⟩,h.r0⟩
section
variable {P:Pr} [HasC P "FREE" (.int 0)] [HasC P "SOME" (.int 1)] [HasC P "NONE" (.int 3)] [Has P d_sign_of] [Has P d_grid] [Has P d_reading] [HasL P d_reading_l0] [Has P d_least] [Has P d_added] [Has P d_rooms_of] [Has P d_doors_of] [Has P d_letter_table] [HasL P d_letter_table_l0] [Has P d_plain] [HasL P d_plain_l0] [Has P d_product] [HasL P d_product_l0] [Has P d_word_table] [Has P d_word_signs] [Has P ji] [Has P d_ends_of] [Has P zP] [Has P d_end_sign] [Has P d_price] [Has P d_sign_product] [HasL P d_sign_product_l0]
 [Has P w_box] [Has P w_draw] [Has P w_form] [Has P w_product_2] [Has P w_unit] [Has P w_machine_3] [Has P w_letter_signs] [Has P w_law_k26]
end
section
variable {P:Pr} [Has P d_is_whole] [Has P d_is_tuple_of] [Has P d_is_letter] [HasC P "LETTERS" (.tup abcD)] [Has P d_letters_of] [Has P d_is_ahead] [Has P d_is_letter_step] [Has P d_is_pair_step] [Has P d_is_sharp_step]
theorem z4 (n:Nat)(l:List D)(k:Nat)(s:Sto):(callN P (n+1)).call "is_tuple_of" [.tup l,.int (k:Int)] s=.ok (.bl (decide (l.length=k))) s:=by
 have e0:(callN P (n+1)).call "is_tuple_of" [.tup l,.int (k:Int)] s=_:=zb d_is_tuple_of (n:=n) rfl
 rw[e0,show(bD some [D.tup l,.int (k:Int)]++ar d_is_tuple_of.vs none)=[some (.tup l),some (.int (k:Int))]from rfl]
 simp -implicitDefEqProofs only[d_is_tuple_of]
 tbr_iter [isTup_tup,len_tup,show((l.length:Int)=(k:Int))=(l.length=k)from propext (by omega)]
 exact zR
theorem ahead_ok (n:Nat){i k:Nat}(h:i<k)(s:Sto):(callN P (n+2)).call "is_ahead" [.int (i:Int),.int (k:Int)] s=.ok (.bl true) s:=by
 have e0:(callN P (n+2)).call "is_ahead" [.int (i:Int),.int (k:Int)] s=_:=zb d_is_ahead (n:=n+1) rfl
 have e1:(callN P (n+1)).call "is_whole" [.int (i:Int),.int 0,.int ((k:Int) - 1)] s=.ok (.bl true) s:=by
  have e1:(callN P (n+1)).call "is_whole" [.int (i:Int),.int 0,.int ((k:Int) - 1)] s=_:=zb d_is_whole (n:=n) rfl
  rw[e1,show(bD some [D.int (i:Int),.int 0,.int ((k:Int) - 1)]++ar d_is_whole.vs none)=[some (.int (i:Int)),some (.int 0),some (.int ((k:Int) - 1))]from rfl]
  simp -implicitDefEqProofs only[d_is_whole]
  tbr_iter [isInt_int,isBool_int,ev_chain,show((0:Int)<=(i:Int))=True from eq_true (by omega),show((i:Int)<=(k:Int) - 1)=True from eq_true (by omega)]
  exact zR
 rw[e0,show(bD some [D.int (i:Int),.int (k:Int)]++ar d_is_ahead.vs none)=[some (.int (i:Int)),some (.int (k:Int))]from rfl]
 simp -implicitDefEqProofs only[d_is_ahead]
 tbr_iter [e1]
 exact zR
noncomputable def isLet:Stp->Bool|.let_ _=>true|_=>false
noncomputable def isPr:Stp->Bool|.pair _ _=>true|_=>false
theorem inM_abc {L c:Nat}(h3:L<=3)(hc:97<=c)(hL:c<97+L)(s:Sto):inM (.str [c]) (.tup (abcD.take L)) s=.ok true s:=by
 rcases(by omega:L=1/\c=97\/L=2/\c=97\/L=2/\c=98\/L=3/\c=97\/L=3/\c=98\/L=3/\c=99)with⟨rfl,rfl⟩|⟨rfl,rfl⟩|⟨rfl,rfl⟩|⟨rfl,rfl⟩|⟨rfl,rfl⟩|⟨rfl,rfl⟩<;>rfl
theorem letter_step_ok (n:Nat){x:Stp}{L:Nat}(h3:L<=3)(hx:∀ c,x=.let_ c->97<=c/\c<97+L)(s:Sto):(callN P (n+2)).call "is_letter_step" [x.d,.int (L:Int)] s=.ok (.bl (isLet x)) s:=by
 have e0:(callN P (n+2)).call "is_letter_step" [x.d,.int (L:Int)] s=_:=zb d_is_letter_step (n:=n+1) rfl
 rw[e0,show(bD some [x.d,D.int (L:Int)]++ar d_is_letter_step.vs none)=[some x.d,some (.int (L:Int))]from rfl]
 simp -implicitDefEqProofs only[d_is_letter_step]
 cases x with
 | let_ c =>
  obtain⟨hc,hL⟩:=hx c rfl
  have e1:(callN P (n+1)).call "is_letter" [.str [c],.int (L:Int)] s=.ok (.bl true) s:=by
   have e1:(callN P (n+1)).call "is_letter" [.str [c],.int (L:Int)] s=_:=zb d_is_letter (n:=n) rfl
   rw[e1,show(bD some [D.str [c],D.int (L:Int)]++ar d_is_letter.vs none)=[some (.str [c]),some (.int (L:Int))]from rfl]
   simp -implicitDefEqProofs only[d_is_letter]
   tbr_iter [ev_slU,ev_glob (v:=.tup abcD),slU_abc h3,isin_ok,inM_abc h3 hc hL]
   exact zR
  have e2:=z4 (P:=P) n [.str [108,101,116,116,101,114],.str [c]] 2 s
  tbr_iter [show(Stp.let_ c).d=.tup [.str [108,101,116,116,101,114],.str [c]]from rfl]
  rw[show((2:Int))=((2:Nat):Int)from rfl,e2]
  tbr_iter [show decide ([D.str [108,101,116,116,101,114],.str [c]].length=2)=true from rfl,show ∀ s,ixM (.tup [.str [108,101,116,116,101,114],.str [c]]) (.int 0) s=.ok (.str [108,101,116,116,101,114]) s from λ _=>rfl,show ∀ s,ixM (.tup [.str [108,101,116,116,101,114],.str [c]]) (.int 1) s=.ok (.str [c]) s from λ _=>rfl,show ∀ s,qd .eq (.str [108,101,116,116,101,114]) (.str [108,101,116,116,101,114]) s=.ok (.bl true) s from λ _=>rfl,e1]
  exact zR
 | pair i j =>
  have e2:=z4 (P:=P) n [.str [112,97,105,114],.int (i:Int),.int (j:Int)] 2 s
  tbr_iter [show(Stp.pair i j).d=.tup [.str [112,97,105,114],.int (i:Int),.int (j:Int)]from rfl]
  rw[show((2:Int))=((2:Nat):Int)from rfl,e2]
  tbr_iter [show decide ([D.str [112,97,105,114],.int (i:Int),.int (j:Int)].length=2)=false from rfl]
  exact zR
 | sharp i =>
  have e2:=z4 (P:=P) n [.str [115,104,97,114,112],.int (i:Int)] 2 s
  tbr_iter [show(Stp.sharp i).d=.tup [.str [115,104,97,114,112],.int (i:Int)]from rfl]
  rw[show((2:Int))=((2:Nat):Int)from rfl,e2]
  tbr_iter [show decide ([D.str [115,104,97,114,112],.int (i:Int)].length=2)=true from rfl,show ∀ s,ixM (.tup [.str [115,104,97,114,112],.int (i:Int)]) (.int 0) s=.ok (.str [115,104,97,114,112]) s from λ _=>rfl,show ∀ s,qd .eq (.str [115,104,97,114,112]) (.str [108,101,116,116,101,114]) s=.ok (.bl false) s from λ _=>rfl]
  exact zR
theorem pair_step_ok (n:Nat){x:Stp}{k:Nat}(hx:∀ i j,x=.pair i j->i<k/\j<k)(hl:isLet x=false)(s:Sto):(callN P (n+3)).call "is_pair_step" [x.d,.int (k:Int)] s=.ok (.bl (isPr x)) s:=by
 have e0:(callN P (n+3)).call "is_pair_step" [x.d,.int (k:Int)] s=_:=zb d_is_pair_step (n:=n+2) rfl
 rw[e0,show(bD some [x.d,D.int (k:Int)]++ar d_is_pair_step.vs none)=[some x.d,some (.int (k:Int))]from rfl]
 simp -implicitDefEqProofs only[d_is_pair_step]
 cases x with
 | let_ c=>cases hl
 | pair i j =>
  obtain⟨hi,hj⟩:=hx i j rfl
  have e2:=z4 (P:=P) (n+1) [.str [112,97,105,114],.int (i:Int),.int (j:Int)] 3 s
  tbr_iter [show(Stp.pair i j).d=.tup [.str [112,97,105,114],.int (i:Int),.int (j:Int)]from rfl]
  rw[show((3:Int))=((3:Nat):Int)from rfl,e2]
  tbr_iter [show decide ([D.str [112,97,105,114],.int (i:Int),.int (j:Int)].length=3)=true from rfl,show ∀ s,ixM (.tup [.str [112,97,105,114],.int (i:Int),.int (j:Int)]) (.int 0) s=.ok (.str [112,97,105,114]) s from λ _=>rfl,show ∀ s,ixM (.tup [.str [112,97,105,114],.int (i:Int),.int (j:Int)]) (.int 1) s=.ok (.int (i:Int)) s from λ _=>rfl,show ∀ s,ixM (.tup [.str [112,97,105,114],.int (i:Int),.int (j:Int)]) (.int 2) s=.ok (.int (j:Int)) s from λ _=>rfl,show ∀ s,qd .eq (.str [112,97,105,114]) (.str [112,97,105,114]) s=.ok (.bl true) s from λ _=>rfl,ahead_ok (P:=P) n hi,ahead_ok (P:=P) n hj]
  exact zR
 | sharp i =>
  have e2:=z4 (P:=P) (n+1) [.str [115,104,97,114,112],.int (i:Int)] 3 s
  tbr_iter [show(Stp.sharp i).d=.tup [.str [115,104,97,114,112],.int (i:Int)]from rfl]
  rw[show((3:Int))=((3:Nat):Int)from rfl,e2]
  tbr_iter [show decide ([D.str [115,104,97,114,112],.int (i:Int)].length=3)=false from rfl]
  exact zR
theorem sharp_step_ok (n:Nat){i k:Nat}(hi:i<k)(s:Sto):(callN P (n+3)).call "is_sharp_step" [(Stp.sharp i).d,.int (k:Int)] s=.ok (.bl true) s:=by
 have e0:(callN P (n+3)).call "is_sharp_step" [(Stp.sharp i).d,.int (k:Int)] s=_:=zb d_is_sharp_step (n:=n+2) rfl
 rw[e0,show(bD some [(Stp.sharp i).d,D.int (k:Int)]++ar d_is_sharp_step.vs none)=[some (Stp.sharp i).d,some (.int (k:Int))]from rfl]
 simp -implicitDefEqProofs only[d_is_sharp_step]
 have e2:=z4 (P:=P) (n+1) [.str [115,104,97,114,112],.int (i:Int)] 2 s
 tbr_iter [show(Stp.sharp i).d=.tup [.str [115,104,97,114,112],.int (i:Int)]from rfl]
 rw[show((2:Int))=((2:Nat):Int)from rfl,e2]
 tbr_iter [show decide ([D.str [115,104,97,114,112],.int (i:Int)].length=2)=true from rfl,show ∀ s,ixM (.tup [.str [115,104,97,114,112],.int (i:Int)]) (.int 0) s=.ok (.str [115,104,97,114,112]) s from λ _=>rfl,show ∀ s,ixM (.tup [.str [115,104,97,114,112],.int (i:Int)]) (.int 1) s=.ok (.int (i:Int)) s from λ _=>rfl,show ∀ s,qd .eq (.str [115,104,97,114,112]) (.str [115,104,97,114,112]) s=.ok (.bl true) s from λ _=>rfl,ahead_ok (P:=P) n hi]
 exact zR
theorem lets_ok (n:Nat){m:Mc}(hm:m.Ok)(s:Sto):(callN P (n+1)).call "letters_of" [m.d] s=.ok (.tup (abcD.take m.L)) s:=letters_ok (P:=P) n (L:=m.L) hm.L3 [.int m.R,.tup (qi m.bg),.tup (qi m.en),.tup (m.ds.map Dr.d)] s
theorem len_abc {L:Nat}(h:L<=3)(s:Sto):bi .len [.tup (abcD.take L)] s=.ok (.int (L:Int)) s:=by
 rw[len_tup,bR,show min L abcD.length=L from Nat.min_eq_left h]
end
noncomputable def StepR (m:Mc)(fs:List (Nat->Nat->Int))(f:Nat->Nat->Int):Stp->Prop
 | .let_ c=>97<=c/\c<97+m.L/\f=sgM m c
 | .pair i j=>∃ a b,fs[i]?=some a/\fs[j]?=some b/\f=pr m.R a b
 | .sharp i=>∃ a,fs[i]?=some a/\Stdy m.R a/\f=sh m.R a
theorem Mks.inG {m:Mc}(hm:m.Ok){l:List Stp}{fs:List (Nat->Nat->Int)}(h:Mks m l fs):∀ f∈fs,InG m.R f:=by
 induction h with
 | nil=>intro f hf;cases hf
 | let_ c _ _ _ ih=>intro f hf;rcases bw.mp hf with h|h;exact ih f h;rw[bj.mp h];exact λ i j _ _=>sgF_in _ _ _ _ _
 | pair i j a b _ h1 h2 ih=>intro f hf;rcases bw.mp hf with h|h;exact ih f h;rw[bj.mp h];exact pr_in hm.R1 (ih _ (aJ h1)) (ih _ (aJ h2))
 | sharp i a _ h1 _ ih=>intro f hf;rcases bw.mp hf with h|h;exact ih f h;rw[bj.mp h];exact sh_in hm.R1 (ih _ (aJ h1))
theorem StepR.last {m:Mc}{l:List Stp}{fs:List (Nat->Nat->Int)}{f:Nat->Nat->Int}{y:Stp}(hl:l.length=fs.length)(hy:StepR m fs f y)
  (ih:∀ k x,l[k]?=some x->∃ f,fs[k]?=some f/\StepR m (fs.take k) f x) (k:Nat) (x:Stp) (hx:(l++[y])[k]?=some x):∃ g,(fs++[f])[k]?=some g/\StepR m ((fs++[f]).take k) g x:=by
 by_cases hk:k<l.length
 ·rw[aF hk]at hx
  obtain⟨g,hg,hs⟩:=ih k x hx
  exact⟨g,by rw[aF (by omega)];exact hg,by rw[d5 (by omega)];exact hs⟩
 ·have hk2:k=l.length:=by
   have:=(ac.mp hx).1
   simp at this;omega
  subst hk2
  rw[ak (aj _)]at hx
  simp at hx
  subst hx
  exact⟨f,by rw[hl];simp,by rw[hl,List.take_left'];exact hy;rfl⟩
theorem Mks.at {m:Mc}{l:List Stp}{fs:List (Nat->Nat->Int)}(h:Mks m l fs):∀ k x,l[k]?=some x->∃ f,fs[k]?=some f/\StepR m (fs.take k) f x:=by
 induction h with
 | nil=>intro k x hx;simp at hx
 | let_ c h h1 h2 ih=>exact StepR.last h.len ⟨h1,h2,rfl⟩ ih
 | pair i j a b h h1 h2 ih=>exact StepR.last h.len ⟨a,b,h1,h2,rfl⟩ ih
 | sharp i a h h1 h2 ih=>exact StepR.last h.len ⟨a,h1,h2,rfl⟩ ih
theorem tabs_snoc {m k:Nat}{fs:List (Nat->Nat->Int)}{f:Nat->Nat->Int}(h:fs[k]?=some f):zh m (fs.take k)++[gd m f]=zh m (fs.take (k+1)):=by
 rw[take_snoc h];unfold zh;rw[b9];rfl
theorem tabs_bnd {m:Nat}{fs:List (Nat->Nat->Int)}(n:Nat):(O.lst (zh m fs)).bnd n=true:=z7 (λ d hd n=>by obtain⟨x,_,rfl⟩:=ax.mp hd;exact qT n) n
section
variable {P:Pr} [HasC P "FREE" (.int 0)] [HasC P "SOME" (.int 1)] [HasC P "UNBOUND" (.int 2)] [HasC P "NONE" (.int 3)] [HasC P "LETTERS" (.tup abcD)] [Has P d_sign_of] [Has P d_grid] [Has P d_reading] [HasL P d_reading_l0] [Has P d_least] [Has P d_added] [Has P d_rooms_of] [Has P d_doors_of] [Has P d_letter_table] [HasL P d_letter_table_l0] [Has P d_plain] [HasL P d_plain_l0] [Has P d_product] [HasL P d_product_l0] [Has P d_word_table] [Has P d_word_signs] [Has P d_sign_product] [HasL P d_sign_product_l0] [Has P d_is_steady] [Has P d_round_of] [Has P d_sharpened] [HasL P d_sharpened_l0]
 [Has P d_is_whole] [Has P d_is_tuple_of] [Has P d_is_letter] [Has P d_letters_of] [Has P d_is_ahead] [Has P d_is_letter_step] [Has P d_is_pair_step] [Has P d_is_sharp_step] [Has P d_signs_of_step]
theorem step_ok (n:Nat){m:Mc}(hm:m.Ok){fs:List (Nat->Nat->Int)}(hin:∀ f∈fs,InG m.R f){x:Stp}{f:Nat->Nat->Int}(h:StepR m fs f x){s:Sto}{p:Nat}(hp:s[p]?=some (.lst (zh m.R fs)))(hs:s.all O.ncl=true) :
  (callN P (n+7)).call "signs_of_step" [m.d,x.d,.ref p] s=.ok (gd m.R f) s:=by
 have e0:(callN P (n+7)).call "signs_of_step" [m.d,x.d,.ref p] s=_:=zb d_signs_of_step (n:=n+6) rfl
 have hlen:bi .len [.ref p] s=.ok (.int (fs.length:Int)) s:=by rw[len_lst hp];unfold zh;rw[aG]
 have lt:∀ {i:Nat} {a:Nat->Nat->Int},fs[i]?=some a->i<fs.length:=λ h=>(ac.mp h).1
 have e1:=lets_ok (P:=P) (n+5) hm s
 have e1':=len_abc hm.L3 s
 have e2:=letter_step_ok (P:=P) (n+4) (x:=x) (L:=m.L) hm.L3 (by rintro c rfl;exact⟨h.1,h.2.1⟩) s
 rw[e0,show(bD some [m.d,x.d,D.ref p]++ar d_signs_of_step.vs none)=[some m.d,some x.d,some (.ref p),none]from rfl]
 simp -implicitDefEqProofs only[d_signs_of_step]
 cases x with
 | let_ c =>
  obtain⟨g,hg,e3⟩:=word_signs_ok (P:=P) n hm [c] (by simp) hs
  obtain⟨_,_,rfl⟩:=h
  rw[gd_congr (hg.eqG (SgW.letter m c))]at e3
  tbr_iter [hlen,e1,e1',e2,isLet,dl1,e3]
  exact zn (λ _=>qT _) (by nofun)
 | pair i j =>
  obtain⟨a,b,ha,hb,rfl⟩:=h
  have e3:=pair_step_ok (P:=P) (n+3) (x:=.pair i j) (k:=fs.length) (by rintro i' j' e;cases e;exact⟨lt ha,lt hb⟩) rfl s
  have e4:=qS (P:=P) (n+3) hm.R1 hm.R5 (hin _ (aJ ha)) (hin _ (aJ hb)) hs
  tbr_iter [hlen,e1,e1',e2,isLet,e3,isPr,dp1,dp2,qa hp (qJ ha),qa hp (qJ hb),e4]
  exact zn (λ _=>qT _) (by nofun)
 | sharp i =>
  obtain⟨a,ha,hst,rfl⟩:=h
  have e3:=pair_step_ok (P:=P) (n+3) (x:=.sharp i) (k:=fs.length) (by rintro i' j' e;cases e) rfl s
  have e4:=sharp_step_ok (P:=P) (n+3) (i:=i) (k:=fs.length) (lt ha) s
  have hia:=hin _ (aJ ha)
  obtain⟨b,e5,hb⟩:=is_steady_ok (P:=P) (n+2) hm.R1 hm.R5 hia hs
  have hbt:b=true:=hb.mpr hst
  subst hbt
  have e6:=sharpened_ok (P:=P) (n+1) hm.R1 hm.R5 hia hst hs
  tbr_iter [hlen,e1,e1',e2,isLet,e3,isPr,ds1,e4,qa hp (qJ ha),e5,e6]
  exact zn (λ _=>qT _) (by nofun)
variable [HasC P "MOST_STEPS" (.int 100)] [Has P d_signs_made]
theorem signs_made_ok (n:Nat){m:Mc}(hm:m.Ok){l:List Stp}{fs:List (Nat->Nat->Int)}(h:Mks m l fs)(h1:1<=l.length)(h2:l.length<=100){s:Sto}(hs:s.all O.ncl=true) :
  (callN P (n+8)).call "signs_made" [m.d,.tup (l.map Stp.d)] s=.ok (.ref s.length) (s++[.lst (zh m.R fs)]):=by
 have e0:(callN P (n+8)).call "signs_made" [m.d,.tup (l.map Stp.d)] s=_:=zb d_signs_made (n:=n+7) rfl
 rw[e0,show(bD some [m.d,D.tup (l.map Stp.d)]++ar d_signs_made.vs none)=[some m.d,some (.tup (l.map Stp.d)),none,none]from rfl]
 simp -implicitDefEqProofs only[d_signs_made]
 tbr_iter [isTup_tup,len_tup,aG,ev_chain,ev_glob (v:=.int 100),show((1:Int)<=(l.length:Int))=True from eq_true (by omega),show((l.length:Int)<=100)=True from eq_true (by omega),tup_seq]
 have key:=for_inv (ok:=λ s1=>chk (s++[O.lst []]) s1 []) (g:=turn (callN P (n+7)) (.one 3) (.cons (.ex (.meth .append (.var 2) (.cons (.call "signs_of_step" (.ex (.var 0) (.ex (.var 3) (.ex (.var 2) .nil)))) .nil))) .nil)) (λ k ρ t=>t=s++[.lst (zh m.R (fs.take k))]/\∃ x,ρ=[some m.d,some (.tup (l.map Stp.d)),some (.ref s.length),x]) (l.map Stp.d) 0 [some m.d,some (.tup (l.map Stp.d)),some (.ref s.length),none] (s++[O.lst []]) ⟨rfl,_,rfl⟩ (λ _ _ _ _ _=>rfl) (by
  rintro k d ρ t hk ⟨rfl,x,rfl⟩
  rw[cz]at *
  rw[aB,cJ]at hk
  obtain⟨y,hy,rfl⟩:=hk
  obtain⟨f,hf,hst⟩:=h.at k y hy
  have e1:=step_ok (P:=P) n hm (λ f hf=>h.inG hm f (gy hf)) hst (s:=s++[.lst (zh m.R (fs.take k))]) (p:=s.length) getL (qA hs (show(O.lst _).ncl=true from tabs_ncl))
  have ha:meth .append (.ref s.length) [gd m.R f] (s++[.lst (zh m.R (fs.take k))])=.ok .non (s++[.lst (zh m.R (fs.take (k+1)))]):=by
   rw[app_tail (by unfold zh LIM;rw[aG,bR];have:=h.len;omega),tabs_snoc hf]
  refine⟨_,_,.inl ?_,rfl,some y.d,rfl⟩
  unfold turn
  tbr_iter [e1,ha])
 obtain⟨ρ',t',ek,rfl,x,rfl⟩:=key
 rw[cz,aG,h.len,fF]at ek
 rw[ek]
 tbr_iter []
 exact canon_one (tabs_bnd _)
end
theorem eqL_selfD {s:Sto}{n:Nat}:∀ {l:List D},(∀ d∈l,eqv s n d d=some true)->eqL (eqv s n) l l=some true
 | [],_=>rfl
 | d::l,h=>by
  have ih:=eqL_selfD (s:=s) (n:=n) (l:=l) λ x hx=>h x (aw _ hx)
  unfold eqL
  rw[h d (aC ..),ih]
  rfl
theorem ne_tabs {s:Sto}{p q m:Nat}{fs:List (Nat->Nat->Int)}(hp:s[p]?=some (.lst (zh m fs)))(hq:s[q]?=some (.lst (zh m fs))):qd .ne (.ref p) (.ref q) s=.ok (.bl false) s:=by
 have:eqv s DEEP (.ref p) (.ref q)=some true:=by
  show(match s[p]?,s[q]? with
   | some (O.lst l),some (O.lst m)=>if l.length=m.length then eqL (eqv s 29) l m else some false
   | _,_=>none)=_
  rw[hp,hq]
  show(if _=_ then _ else _)=_
  rw[if_pos rfl]
  exact eqL_selfD λ d hd=>by
   obtain⟨f,_,rfl⟩:=ax.mp hd
   rw[show eqv s 29 (gd m f) (gd m f)=_ from eqL_gd (n:=27) (ah m)]
   simp
 show(match eqv s DEEP (.ref p) (.ref q)with|some r=>R.ok (D.bl (!r)) s|none=>.bad)=_
 rw[this];rfl
section
variable {P:Pr} [HasC P "FREE" (.int 0)] [HasC P "SOME" (.int 1)] [HasC P "UNBOUND" (.int 2)] [HasC P "NONE" (.int 3)] [HasC P "LETTERS" (.tup abcD)] [Has P d_sign_of] [Has P d_grid] [Has P d_reading] [HasL P d_reading_l0] [Has P d_least] [Has P d_added] [Has P d_rooms_of] [Has P d_doors_of] [Has P d_letter_table] [HasL P d_letter_table_l0] [Has P d_plain] [HasL P d_plain_l0] [Has P d_product] [HasL P d_product_l0] [Has P d_word_table] [Has P d_word_signs] [Has P d_sign_product] [HasL P d_sign_product_l0] [Has P d_is_steady] [Has P d_round_of] [Has P d_sharpened] [HasL P d_sharpened_l0]
 [Has P d_is_whole] [Has P d_is_tuple_of] [Has P d_is_letter] [Has P d_letters_of] [Has P d_is_ahead] [Has P d_is_letter_step] [Has P d_is_pair_step] [Has P d_is_sharp_step] [Has P d_signs_of_step] [HasC P "MOST_STEPS" (.int 100)] [Has P d_signs_made]
 [Has P w_box] [Has P w_draw] [Has P w_form] [Has P w_product_2] [Has P w_machine_3] [Has P w_letter_signs] [Has P w_sharp_2] [Has P w_makings] [Has P w_law_k29]
noncomputable def all29:E:=(.mk .all (.comp (.one 0) (.seq (.var 6)) (.call "_law_form" (.ex (.var 0) (.ex (.ix (.var 1) (.cst (.int 1))) .nil))) [none,some 3]))
noncomputable def tl29:Ss:=(.cons (.asg (.one 6) (.call "signs_made" (.ex (.var 3) (.ex (.var 4) .nil)))) (.cons (.ite (.or (.not (.bi .isList (.cons (.var 6) .nil))) (.cmp .ne (.var 6) (.var 5))) (.cons (.ret (.cst (.bl false))) .nil) .nil) (.cons (.ite (.not all29) (.cons (.ret (.cst (.bl false))) .nil) .nil) (.cons (.ex (.meth .append (.var 6) (.cons (.ix (.var 6) (.cst (.int 0))) .nil))) (.cons (.setIx (.var 6) (.cst (.int 0)) (.cst .non)) (.cons (.ite (.cmp .ne (.call "signs_made" (.ex (.var 3) (.ex (.var 4) .nil))) (.var 5)) (.cons (.ret (.cst (.bl false))) .nil) .nil) .nil))))))
theorem body29:w_law_k29.body=(.cons (.for_ (.one 1) (.rng1 (.bin .add (.bi .min2 (.cons (.cst (.int 6)) (.cons (.bi .len (.cons (.var 0) .nil)) .nil))) (.cst (.int 1)))) (.cons (.asg (.one 2) (.call "_law_box" (.ex (.var 0) (.ex (.var 1) .nil)))) (.cons (.asg (.one 3) (.call "_law_machine" (.ex (.var 2) .nil))) (.cons (.asg (.tup [4,5]) (.call "_law_makings" (.ex (.var 2) (.ex (.var 3) (.ex (.cst (.int 20)) (.ex (.cst (.int 6)) .nil)))))) tl29)))) (.cons (.ret (.cst (.bl true))) .nil)):=rfl
theorem all29_ok (n:Nat){m:Mc}{fs:List (Nat->Nat->Int)}(hl:fs.length<=100){s:Sto}{q:Nat}(hq:s[q]?=some (.lst (zh m.R fs)))(x0 x1 x2 x4 x5:Option D) :
  ev (callN P (n+1)) all29 [x0,x1,x2,some m.d,x4,x5,some (.ref q)] s=.ok (.bl true) s:=by
 obtain⟨ρ1,s1,e1,rfl,_⟩:=comp_map (ok:=λ s1=>chk s s1 [q]) (g:=qg (callN P (n+1)) (.one 0) (.call "_law_form" (.ex (.var 0) (.ex (.ix (.var 1) (.cst (.int 1))) .nil)))) (λ ρ u=>u=s/\∃ x,ρ=[x,some m.d]) (λ _=>.bl true) (zh m.R fs) [none,some m.d] s ⟨rfl,none,rfl⟩ (by rintro _ _ ⟨rfl,_⟩;unfold chk;simp) (by
  rintro d hd ρ u ⟨rfl,x,rfl⟩
  obtain⟨f,_,rfl⟩:=ax.mp hd
  refine⟨[some (gd m.R f),some m.d],u,?_,rfl,_,rfl⟩
  unfold qg
  tbr_iter [ixR,form_ok (P:=P) n])
 have hsq:seqM (.ref q) s1=.ok ⟨zh m.R fs,[q]⟩ s1:=by simp only[seqM,hq]
 have hall:∀ l:List D,mk .all (l.map λ _=>D.bl true) s1=.ok (.bl true) s1:=λ l=>by
  have:blsOf (l.map λ _=>D.bl true)=some (l.map λ _=>true):=by
   induction l with
   | nil=>rfl
   | cons a l ih=>rw[aK,blsOf,ih];rfl
  show(match blsOf (l.map λ _=>D.bl true)with|some bs=>R.ok (D.bl (bs.all id)) s1|none=>.bad)=_
  rw[this]
  simp
 unfold all29
 tbr_iter [qV,hsq,if_pos (show(zh m.R fs).length<=LIM by unfold zh LIM;rw[aG];omega),show zK [x0,x1,x2,some m.d,x4,x5,some (.ref q)] [none,some 3]=[none,some m.d]from rfl,e1,hall]
theorem tl29_ok (n:Nat){ns:List Int}{r:Nat}{u:Sto}(h:Gx ns r u){m:Mc}(hm:m.Ok){l:List Stp}{fs:List (Nat->Nat->Int)}(hk:Mks m l fs)(h1:1<=l.length)(h2:l.length<=100){p:Nat}(hp:u[p]?=some (.lst (zh m.R fs)))(x0 x1 x6:Option D) :
  ∃(u':Sto) (y6:Option D),Gx ns r u'/\exs (callN P (n+8)) tl29 [x0,x1,some (.ref r),some m.d,some (.tup (l.map Stp.d)),some (.ref p),x6] u=.ok (.next [x0,x1,some (.ref r),some m.d,some (.tup (l.map Stp.d)),some (.ref p),y6]) u':=by
 have e1:=signs_made_ok (P:=P) n hm hk h1 h2 h.ncl
 have h3:=h.snoc (show(O.lst (zh m.R fs)).ncl=true from tabs_ncl)
 have hpl:p<u.length:=(ac.mp hp).1
 have hp2:(u++[O.lst (zh m.R fs)])[p]?=some (.lst (zh m.R fs)):=qM hp
 have n1:=ne_tabs (getL (s:=u) (o:=.lst (zh m.R fs))) hp2
 have hl:=hk.len
 have e2:=all29_ok (P:=P) (n+7) (fs:=fs) (m:=m) (by omega) (getL (s:=u) (o:=.lst (zh m.R fs))) x0 x1 (some (.ref r)) (some (.tup (l.map Stp.d))) (some (.ref p))
 obtain⟨f0,fs',hfs⟩:∃ f0 fs',fs=f0::fs':=by
  cases fs with
  | nil=>rw[hl]at h1;exact absurd h1 (by decide)
  | cons a b=>exact⟨a,b,rfl⟩
 have e3:=qa (getL (s:=u) (o:=.lst (zh m.R fs))) (j:=0) (d:=gd m.R f0) (by rw[hfs];rfl)
 have e4:meth .append (.ref u.length) [gd m.R f0] (u++[.lst (zh m.R fs)])=.ok .non (u++[.lst (zh m.R fs++[gd m.R f0])]):=app_tail (by unfold zh LIM;rw[aG];omega)
 have e5:setIx (.ref u.length) (.int ((0:Nat):Int)) .non (u++[.lst (zh m.R fs++[gd m.R f0])])=.ok () (u++[.lst ((zh m.R fs++[gd m.R f0]).set 0 .non)]):=by
  rw[set_lst getL (by simp)]
  simp
 have hn:(O.lst ((zh m.R fs++[gd m.R f0]).set 0 .non)).ncl=true:=zC λ d hd=>by
  rcases db hd with h|h
  ·rcases bw.mp h with h|h
   ·obtain⟨f,_,rfl⟩:=ax.mp h;exact gd_ncl
   ·rw[bj.mp h];exact gd_ncl
  ·rw[h];rfl
 have h4:=h.snoc hn
 have e6:=signs_made_ok (P:=P) n hm hk h1 h2 h4.ncl
 have h5:=h4.snoc (show(O.lst (zh m.R fs)).ncl=true from tabs_ncl)
 have n2:=ne_tabs (getL (s:=u++[O.lst ((zh m.R fs++[gd m.R f0]).set 0 .non)]) (o:=.lst (zh m.R fs))) (qM (qM hp))
 have il:bi .isList [.ref u.length] (u++[.lst (zh m.R fs)])=.ok (.bl true) (u++[.lst (zh m.R fs)]):=by
  show isK 5 (.ref u.length) _=_
  simp only[isK,getL]
  rfl
 refine⟨_,some (.ref u.length),h5,?_⟩
 unfold tl29
 rw[show((0:Nat):Int)=(0:Int)from rfl]at e3 e5
 tbr_iter [e1,il,n1,e2,e3,e4,e5,e6,n2]
theorem law29 (n:Nat):LawOk P (n+9):=by
 intro ns hl
 have e0:(callN P (n+9)).call "law" [.ref 0] [.ro (ns.map D.int)]=_:=zb w_law_k29 (n:=n+8) rfl
 rw[e0,body29,show(bD some [D.ref 0]++ar w_law_k29.vs none)=[some (.ref 0),none,none,none,none,none,none]from rfl]
 have hs0:([.ro (ns.map D.int)]:Sto)[0]?=some (.ro (ns.map D.int)):=rfl
 have hlen:bi .len [.ref 0] [.ro (ns.map D.int)]=.ok (.int ns.length) [.ro (ns.map D.int)]:=by rw[len_ro hs0,aG]
 have hk:(if(ns.length:Int)<6 then(ns.length:Int)else 6)+1=((min ns.length 6+1:Nat):Int):=by omega
 tbr_iter [hlen,min2_int,hk]
 rw[zF (by unfold W62;omega) (by unfold W62;omega)]
 simp only[R.bind_ok]
 rw[R.bind_assoc]
 refine qB (W:=Yes) (λ j ρ t=>t[0]?=some (.ro (ns.map D.int))/\t.all O.ncl=true/\∃ x1 x2 x3 x4 x5 x6,ρ=[some (.ref 0),x1,x2,x3,x4,x5,x6]) ⟨rfl,by
   simp only[dU,jw,dW];exact ints_ncl,_,_,_,_,_,_,rfl⟩ (λ _ _ _ _ _=>rfl) ?_ ?_
 ·rintro j d ρ t hj ⟨ht,hn,x1,x2,x3,x4,x5,x6,rfl⟩
  have hd:=(qw hj).2
  subst hd
  have ht0:0<t.length:=(ac.mp ht).1
  obtain⟨N0,hbox⟩:=box_ex (P:=P) (n+7) ns j ht
  have G0:Gx ns t.length (t++[qE N0]):=⟨qM ht,qA hn rfl,⟨_,getL⟩,by omega⟩
  generalize t++[qE N0]=S at hbox G0
  generalize t.length=r at hbox G0
  obtain⟨m,b1,hm,em⟩:=machine3_mc (P:=P) (n+6) G0.box
  have G1:=G0.put b1
  obtain⟨l,fs,b2,T,p,hk,h1,h2,hp,hT,emk⟩:=makings_ok (P:=P) (n+6) G1.box hm 20 (by decide) (by decide) 6
  have G2:=G1.put b2
  have G3:Gx ns r ((S.set r (qE b1)).set r (qE b2)++T):=⟨qM G2.scr,by rw[ef,G2.ncl,hT];rfl,by obtain⟨b,hb⟩:=G2.box;exact⟨b,qM hb⟩,G2.r0⟩
  obtain⟨u7,y6,G7,e7⟩:=tl29_ok (P:=P) n G3 hm hk h1 (by omega) hp (some (.ref 0)) (some (.int (j:Int))) x6
  refine Nx_of (ρ:=[some (.ref 0),some (.int (j:Int)),some (.ref r),some m.d,some (.tup (l.map Stp.d)),some (.ref p),y6]) (s:=u7) ?_ ⟨G7.scr,G7.ncl,_,_,_,_,_,_,rfl⟩
  unfold turn
  simp -implicitDefEqProofs only[zl,zO,zD,aO,zd,qz,zZ,zV,zH,zq,zr,zv,R.bind_ok,hbox,em,zy,zg,z8,qo]
  rw[show((20:Int))=((20:Nat):Int)from rfl,emk]
  simp -implicitDefEqProofs only[R.bind_ok,bindT_tup,setVs_nil,setVs_cons,zO,zD,aO,fD,zy,zg]
  exact e7
 ·rintro ρ t ⟨ht,hn,x1,x2,x3,x4,x5,x6,rfl⟩
  tbr_iter []
  exact Yes_canon _ _
end
end DV
end
local macro_rules | `(tactic| walk_at "sc") => `(tactic| exact ⟨rfl, rfl, rfl, by decide +kernel, rfl, by decide +kernel, by decide +kernel⟩)
local macro_rules | `(tactic| walk_at "df") => `(tactic| (dsimp only; exact ⟨_, _, _, _, _, _, _, _, _, _, by k_is, by k_is, by k_is, by k_is⟩))
noncomputable section
namespace My
open PySem L2
noncomputable def top (i:Nat):Stmt:=PySem.Challenge.pw_leasttolls_k29_tables_made.main.body.getD i (.Pass ⟨0,0,0,0⟩)
theorem bd_0:BindG ["i", "j"]:=λ params h _ _ _ _ _ _ _ _ us hl=>by
 obtain⟨args,rfl,ha⟩:=lamArgs_inv h
 revert us
 refine bd2 ?_
 intro u0 u1
 rcases args with _|⟨⟨a0,_,_⟩,_|⟨⟨a1,_,_⟩,_|⟨_,_⟩⟩⟩
 all_goals simp only[aK,dF,List.cons.injEq,and_true,and_false,reduceCtorEq]at ha
 obtain⟨rfl,rfl⟩:=ha
 exact⟨rfl,λ _ _=>rfl⟩
noncomputable def tabN:List Str:=["plain", "product", "letter_table", "reading", "sign_product", "sharpened"]
noncomputable abbrev s_letters_of:Stmt:=top 6
noncomputable abbrev s_rooms_of:Stmt:=top 7
noncomputable abbrev s_doors_of:Stmt:=top 8
noncomputable abbrev s_is_whole:Stmt:=top 9
noncomputable abbrev s_is_tuple_of:Stmt:=top 10
noncomputable abbrev s_is_letter:Stmt:=top 11
noncomputable abbrev s_grid:Stmt:=top 13
noncomputable abbrev s_least:Stmt:=top 15
noncomputable abbrev s_added:Stmt:=top 16
noncomputable abbrev s_plain:Stmt:=top 17
noncomputable abbrev s_product:Stmt:=top 18
noncomputable abbrev s_letter_table:Stmt:=top 19
noncomputable abbrev s_word_table:Stmt:=top 20
noncomputable abbrev s_sign_of:Stmt:=top 26
noncomputable abbrev s_reading:Stmt:=top 27
noncomputable abbrev s_sign_product:Stmt:=top 28
noncomputable abbrev s_word_signs:Stmt:=top 29
noncomputable abbrev s_is_steady:Stmt:=top 31
noncomputable abbrev s_round_of:Stmt:=top 32
noncomputable abbrev s_sharpened:Stmt:=top 33
noncomputable abbrev s_is_ahead:Stmt:=top 36
noncomputable abbrev s_is_letter_step:Stmt:=top 37
noncomputable abbrev s_is_pair_step:Stmt:=top 38
noncomputable abbrev s_is_sharp_step:Stmt:=top 39
noncomputable abbrev s_signs_made:Stmt:=top 40
noncomputable abbrev s_signs_of_step:Stmt:=top 41
noncomputable abbrev s__law_box:Stmt:=top 43
noncomputable abbrev s__law_draw:Stmt:=top 44
noncomputable abbrev s__law_form:Stmt:=top 45
noncomputable abbrev s__law_product:Stmt:=top 46
noncomputable abbrev s__law_machine:Stmt:=top 47
noncomputable abbrev s__law_letter_signs:Stmt:=top 48
noncomputable abbrev s__law_sharp:Stmt:=top 49
noncomputable abbrev s__law_makings:Stmt:=top 50
noncomputable abbrev s_law:Stmt:=top 51
noncomputable def tb:List (String×kL×Stmt):=[("letters_of",DV.d_letters_of,s_letters_of),("rooms_of",DV.d_rooms_of,s_rooms_of),("doors_of",DV.d_doors_of,s_doors_of),("is_whole",DV.d_is_whole,s_is_whole),("is_tuple_of",DV.d_is_tuple_of,s_is_tuple_of),("is_letter",DV.d_is_letter,s_is_letter),("grid",DV.d_grid,s_grid),("least",DV.d_least,s_least),("added",DV.d_added,s_added),("plain",DV.d_plain,s_plain),("product",DV.d_product,s_product),("letter_table",DV.d_letter_table,s_letter_table),("word_table",DV.d_word_table,s_word_table),("sign_of",DV.d_sign_of,s_sign_of),("reading",DV.d_reading,s_reading),("sign_product",DV.d_sign_product,s_sign_product),("word_signs",DV.d_word_signs,s_word_signs),("is_steady",DV.d_is_steady,s_is_steady),("round_of",DV.d_round_of,s_round_of),("sharpened",DV.d_sharpened,s_sharpened),("is_ahead",DV.d_is_ahead,s_is_ahead),("is_letter_step",DV.d_is_letter_step,s_is_letter_step),("is_pair_step",DV.d_is_pair_step,s_is_pair_step),("is_sharp_step",DV.d_is_sharp_step,s_is_sharp_step),("signs_made",DV.d_signs_made,s_signs_made),("signs_of_step",DV.d_signs_of_step,s_signs_of_step),("_law_box",DV.w_box,s__law_box),("_law_draw",DV.w_draw,s__law_draw),("_law_form",DV.w_form,s__law_form),("_law_product",DV.w_product_2,s__law_product),("_law_machine",DV.w_machine_3,s__law_machine),("_law_letter_signs",DV.w_letter_signs,s__law_letter_signs),("_law_sharp",DV.w_sharp_2,s__law_sharp),("_law_makings",DV.w_makings,s__law_makings),("law",DV.w_law_k29,s_law)]
noncomputable def ctbl:List (String×jL):=[("LETTERS",.tup [.str [97],.str [98],.str [99]]),("FREE",.int (0)),("SOME",.int (1)),("UNBOUND",.int (2)),("NONE",.int (3)),("MOST_STEPS",.int (100))]
noncomputable def ltbl:List (String×kK):=[("plain.0",DV.d_plain_l0),("product.0",DV.d_product_l0),("letter_table.least_fee",DV.d_letter_table_l0),("reading.0",DV.d_reading_l0),("sign_product.0",DV.d_sign_product_l0),("sharpened.0",DV.d_sharpened_l0)]
noncomputable def tbl:List (String×kL):=tb.map λ p=>(p.1,p.2.1)
noncomputable def P:j3:=⟨λ f=>tbl.lookup f,λ f=>ltbl.lookup f,λ x=>ctbl.lookup x⟩
instance:DV.HasL P DV.d_plain_l0:=⟨rfl⟩
instance:DV.HasL P DV.d_product_l0:=⟨rfl⟩
instance:DV.HasL P DV.d_letter_table_l0:=⟨rfl⟩
instance:DV.HasL P DV.d_reading_l0:=⟨rfl⟩
instance:DV.HasL P DV.d_sign_product_l0:=⟨rfl⟩
instance:DV.HasL P DV.d_sharpened_l0:=⟨rfl⟩
instance:DV.HasC P "LETTERS" (.tup [.str [97],.str [98],.str [99]]):=⟨rfl⟩
instance:DV.HasC P "FREE" (.int (0)):=⟨rfl⟩
instance:DV.HasC P "SOME" (.int (1)):=⟨rfl⟩
instance:DV.HasC P "UNBOUND" (.int (2)):=⟨rfl⟩
instance:DV.HasC P "NONE" (.int (3)):=⟨rfl⟩
instance:DV.HasC P "MOST_STEPS" (.int (100)):=⟨rfl⟩
instance:DV.Has P DV.d_letters_of:=⟨rfl⟩
instance:DV.Has P DV.d_rooms_of:=⟨rfl⟩
instance:DV.Has P DV.d_doors_of:=⟨rfl⟩
instance:DV.Has P DV.d_is_whole:=⟨rfl⟩
instance:DV.Has P DV.d_is_tuple_of:=⟨rfl⟩
instance:DV.Has P DV.d_is_letter:=⟨rfl⟩
instance:DV.Has P DV.d_grid:=⟨rfl⟩
instance:DV.Has P DV.d_least:=⟨rfl⟩
instance:DV.Has P DV.d_added:=⟨rfl⟩
instance:DV.Has P DV.d_plain:=⟨rfl⟩
instance:DV.Has P DV.d_product:=⟨rfl⟩
instance:DV.Has P DV.d_letter_table:=⟨rfl⟩
instance:DV.Has P DV.d_word_table:=⟨rfl⟩
instance:DV.Has P DV.d_sign_of:=⟨rfl⟩
instance:DV.Has P DV.d_reading:=⟨rfl⟩
instance:DV.Has P DV.d_sign_product:=⟨rfl⟩
instance:DV.Has P DV.d_word_signs:=⟨rfl⟩
instance:DV.Has P DV.d_is_steady:=⟨rfl⟩
instance:DV.Has P DV.d_round_of:=⟨rfl⟩
instance:DV.Has P DV.d_sharpened:=⟨rfl⟩
instance:DV.Has P DV.d_is_ahead:=⟨rfl⟩
instance:DV.Has P DV.d_is_letter_step:=⟨rfl⟩
instance:DV.Has P DV.d_is_pair_step:=⟨rfl⟩
instance:DV.Has P DV.d_is_sharp_step:=⟨rfl⟩
instance:DV.Has P DV.d_signs_made:=⟨rfl⟩
instance:DV.Has P DV.d_signs_of_step:=⟨rfl⟩
instance:DV.Has P DV.w_box:=⟨rfl⟩
instance:DV.Has P DV.w_draw:=⟨rfl⟩
instance:DV.Has P DV.w_form:=⟨rfl⟩
instance:DV.Has P DV.w_product_2:=⟨rfl⟩
instance:DV.Has P DV.w_machine_3:=⟨rfl⟩
instance:DV.Has P DV.w_letter_signs:=⟨rfl⟩
instance:DV.Has P DV.w_sharp_2:=⟨rfl⟩
instance:DV.Has P DV.w_makings:=⟨rfl⟩
instance:DV.Has P DV.w_law_k29:=⟨rfl⟩
theorem t_letters_of:DT tabN P "letters_of" DV.d_letters_of s_letters_of:=⟨["machine"],["machine"],by walk_at "sc",rfl,rfl,λ _ _ _ _ _ _=>bd1 (λ _=>rfl),.inl (by decide +kernel)⟩
theorem t_rooms_of:DT tabN P "rooms_of" DV.d_rooms_of s_rooms_of:=⟨["machine"],["machine"],by walk_at "sc",rfl,rfl,λ _ _ _ _ _ _=>bd1 (λ _=>rfl),.inl (by decide +kernel)⟩
theorem t_doors_of:DT tabN P "doors_of" DV.d_doors_of s_doors_of:=⟨["machine"],["machine"],by walk_at "sc",rfl,rfl,λ _ _ _ _ _ _=>bd1 (λ _=>rfl),.inl (by decide +kernel)⟩
theorem t_is_whole:DT tabN P "is_whole" DV.d_is_whole s_is_whole:=⟨["thing", "low", "high"],["thing", "low", "high"],by walk_at "sc",rfl,rfl,λ _ _ _ _ _ _=>bd3 (λ _ _ _=>rfl),.inl (by decide +kernel)⟩
theorem t_is_tuple_of:DT tabN P "is_tuple_of" DV.d_is_tuple_of s_is_tuple_of:=⟨["thing", "many"],["thing", "many"],by walk_at "sc",rfl,rfl,λ _ _ _ _ _ _=>bd2 (λ _ _=>rfl),.inl (by decide +kernel)⟩
theorem t_is_letter:DT tabN P "is_letter" DV.d_is_letter s_is_letter:=⟨["thing", "letters"],["thing", "letters"],by walk_at "sc",rfl,rfl,λ _ _ _ _ _ _=>bd2 (λ _ _=>rfl),.inl (by decide +kernel)⟩
theorem t_grid:DT tabN P "grid" DV.d_grid s_grid:=⟨["size", "entry", "rows", "i"],["size", "entry"],by walk_at "sc",rfl,rfl,λ _ _ _ _ _ _=>bd2 (λ _ _=>rfl),.inl (by decide +kernel)⟩
theorem t_least:DT tabN P "least" DV.d_least s_least:=⟨["prices"],["prices"],by walk_at "sc",rfl,rfl,λ _ _ _ _ _ _=>bd1 (λ _=>rfl),.inl (by decide +kernel)⟩
theorem t_added:DT tabN P "added" DV.d_added s_added:=⟨["one", "other"],["one", "other"],by walk_at "sc",rfl,rfl,λ _ _ _ _ _ _=>bd2 (λ _ _=>rfl),.inl (by decide +kernel)⟩
theorem t_plain:DT tabN P "plain" DV.d_plain s_plain:=⟨["n"],["n"],by walk_at "sc",rfl,rfl,λ _ _ _ _ _ _=>bd1 (λ _=>rfl),.inr ⟨by decide,[("plain.0",DV.d_plain_l0,["i", "j"],[])],by decide +kernel,by decide +kernel,λ p hp=>by
 simp only[aD,bA,or_false]at hp
 rcases hp with rfl
 ·exact⟨rfl,bd_0⟩⟩⟩
theorem t_product:DT tabN P "product" DV.d_product s_product:=⟨["one", "other", "size"],["one", "other"],by walk_at "sc",rfl,rfl,λ _ _ _ _ _ _=>bd2 (λ _ _=>rfl),.inr ⟨by decide,[("product.0",DV.d_product_l0,["i", "j"],["size", "one", "other"])],by decide +kernel,by decide +kernel,λ p hp=>by
 simp only[aD,bA,or_false]at hp
 rcases hp with rfl
 ·exact⟨rfl,bd_0⟩⟩⟩
theorem t_letter_table:DT tabN P "letter_table" DV.d_letter_table s_letter_table:=⟨["machine", "letter", "least_fee"],["machine", "letter"],by walk_at "sc",rfl,rfl,λ _ _ _ _ _ _=>bd2 (λ _ _=>rfl),.inr ⟨by decide,[("letter_table.least_fee",DV.d_letter_table_l0,["i", "j"],["machine", "letter"])],by decide +kernel,by decide +kernel,λ p hp=>by
 simp only[aD,bA,or_false]at hp
 rcases hp with rfl
 ·exact⟨rfl,bd_0⟩⟩⟩
theorem t_word_table:DT tabN P "word_table" DV.d_word_table s_word_table:=⟨["machine", "word", "made", "table", "letter"],["machine", "word"],by walk_at "sc",rfl,rfl,λ _ _ _ _ _ _=>bd2 (λ _ _=>rfl),.inl (by decide +kernel)⟩
theorem t_sign_of:DT tabN P "sign_of" DV.d_sign_of s_sign_of:=⟨["price"],["price"],by walk_at "sc",rfl,rfl,λ _ _ _ _ _ _=>bd1 (λ _=>rfl),.inl (by decide +kernel)⟩
theorem t_reading:DT tabN P "reading" DV.d_reading s_reading:=⟨["table"],["table"],by walk_at "sc",rfl,rfl,λ _ _ _ _ _ _=>bd1 (λ _=>rfl),.inr ⟨by decide,[("reading.0",DV.d_reading_l0,["i", "j"],["table"])],by decide +kernel,by decide +kernel,λ p hp=>by
 simp only[aD,bA,or_false]at hp
 rcases hp with rfl
 ·exact⟨rfl,bd_0⟩⟩⟩
theorem t_sign_product:DT tabN P "sign_product" DV.d_sign_product s_sign_product:=⟨["one", "other", "size"],["one", "other"],by walk_at "sc",rfl,rfl,λ _ _ _ _ _ _=>bd2 (λ _ _=>rfl),.inr ⟨by decide,[("sign_product.0",DV.d_sign_product_l0,["i", "j"],["size", "one", "other"])],by decide +kernel,by decide +kernel,λ p hp=>by
 simp only[aD,bA,or_false]at hp
 rcases hp with rfl
 ·exact⟨rfl,bd_0⟩⟩⟩
theorem t_word_signs:DT tabN P "word_signs" DV.d_word_signs s_word_signs:=⟨["machine", "word"],["machine", "word"],by walk_at "sc",rfl,rfl,λ _ _ _ _ _ _=>bd2 (λ _ _=>rfl),.inl (by decide +kernel)⟩
theorem t_is_steady:DT tabN P "is_steady" DV.d_is_steady s_is_steady:=⟨["signs"],["signs"],by walk_at "sc",rfl,rfl,λ _ _ _ _ _ _=>bd1 (λ _=>rfl),.inl (by decide +kernel)⟩
theorem t_round_of:DT tabN P "round_of" DV.d_round_of s_round_of:=⟨["sign"],["sign"],by walk_at "sc",rfl,rfl,λ _ _ _ _ _ _=>bd1 (λ _=>rfl),.inl (by decide +kernel)⟩
theorem t_sharpened:DT tabN P "sharpened" DV.d_sharpened s_sharpened:=⟨["signs", "size", "rounds"],["signs"],by walk_at "sc",rfl,rfl,λ _ _ _ _ _ _=>bd1 (λ _=>rfl),.inr ⟨by decide,[("sharpened.0",DV.d_sharpened_l0,["i", "j"],["size", "signs", "rounds"])],by decide +kernel,by decide +kernel,λ p hp=>by
 simp only[aD,bA,or_false]at hp
 rcases hp with rfl
 ·exact⟨rfl,bd_0⟩⟩⟩
theorem t_is_ahead:DT tabN P "is_ahead" DV.d_is_ahead s_is_ahead:=⟨["thing", "at"],["thing", "at"],by walk_at "sc",rfl,rfl,λ _ _ _ _ _ _=>bd2 (λ _ _=>rfl),.inl (by decide +kernel)⟩
theorem t_is_letter_step:DT tabN P "is_letter_step" DV.d_is_letter_step s_is_letter_step:=⟨["thing", "letters"],["thing", "letters"],by walk_at "sc",rfl,rfl,λ _ _ _ _ _ _=>bd2 (λ _ _=>rfl),.inl (by decide +kernel)⟩
theorem t_is_pair_step:DT tabN P "is_pair_step" DV.d_is_pair_step s_is_pair_step:=⟨["thing", "at"],["thing", "at"],by walk_at "sc",rfl,rfl,λ _ _ _ _ _ _=>bd2 (λ _ _=>rfl),.inl (by decide +kernel)⟩
theorem t_is_sharp_step:DT tabN P "is_sharp_step" DV.d_is_sharp_step s_is_sharp_step:=⟨["thing", "at"],["thing", "at"],by walk_at "sc",rfl,rfl,λ _ _ _ _ _ _=>bd2 (λ _ _=>rfl),.inl (by decide +kernel)⟩
theorem t_signs_made:DT tabN P "signs_made" DV.d_signs_made s_signs_made:=⟨["machine", "makings", "made", "step"],["machine", "makings"],by walk_at "sc",rfl,rfl,λ _ _ _ _ _ _=>bd2 (λ _ _=>rfl),.inl (by decide +kernel)⟩
theorem t_signs_of_step:DT tabN P "signs_of_step" DV.d_signs_of_step s_signs_of_step:=⟨["machine", "step", "made", "at"],["machine", "step", "made"],by walk_at "sc",rfl,rfl,λ _ _ _ _ _ _=>bd3 (λ _ _ _=>rfl),.inl (by decide +kernel)⟩
theorem t__law_box:DT tabN P "_law_box" DV.w_box s__law_box:=⟨["_law_script", "_law_at", "_law_cell", "_law_number", "_law_j", "_law_part"],["_law_script", "_law_at"],by walk_at "sc",rfl,rfl,λ _ _ _ _ _ _=>bd2 (λ _ _=>rfl),.inl (by decide +kernel)⟩
theorem t__law_draw:DT tabN P "_law_draw" DV.w_draw s__law_draw:=⟨["_law_box_here", "_law_many", "_law_found"],["_law_box_here", "_law_many"],by walk_at "sc",rfl,rfl,λ _ _ _ _ _ _=>bd2 (λ _ _=>rfl),.inl (by decide +kernel)⟩
theorem t__law_form:DT tabN P "_law_form" DV.w_form s__law_form:=⟨["_law_found", "_law_size", "_law_line", "_law_sign"],["_law_found", "_law_size"],by walk_at "sc",rfl,rfl,λ _ _ _ _ _ _=>bd2 (λ _ _=>rfl),.inl (by decide +kernel)⟩
theorem t__law_product:DT tabN P "_law_product" DV.w_product_2 s__law_product:=⟨["_law_one", "_law_other", "_law_found", "_law_line", "_law_new", "_law_k"],["_law_one", "_law_other"],by walk_at "sc",rfl,rfl,λ _ _ _ _ _ _=>bd2 (λ _ _=>rfl),.inl (by decide +kernel)⟩
theorem t__law_machine:DT tabN P "_law_machine" DV.w_machine_3 s__law_machine:=⟨["_law_box_here", "_law_letters", "_law_rooms", "_law_many", "_law_high", "_law_doors", "_law_k", "_law_start", "_law_goal", "_law_letter", "_law_bits", "_law_begins", "_law_ends"],["_law_box_here"],by walk_at "sc",rfl,rfl,λ _ _ _ _ _ _=>bd1 (λ _=>rfl),.inl (by decide +kernel)⟩
theorem jd:DT tabN P "_law_letter_signs" DV.w_letter_signs s__law_letter_signs:=⟨["_law_machine_here", "_law_letter", "_law_rooms", "_law_lines", "_law_start", "_law_sign", "_law_goal", "_law_cost"],["_law_machine_here", "_law_letter"],by walk_at "sc",rfl,rfl,λ _ _ _ _ _ _=>bd2 (λ _ _=>rfl),.inl (by decide +kernel)⟩
theorem t__law_sharp:DT tabN P "_law_sharp" DV.w_sharp_2 s__law_sharp:=⟨["_law_signs", "_law_size", "_law_found", "_law_i", "_law_line", "_law_j", "_law_best", "_law_k", "_law_here"],["_law_signs"],by walk_at "sc",rfl,rfl,λ _ _ _ _ _ _=>bd1 (λ _=>rfl),.inl (by decide +kernel)⟩
theorem t__law_makings:DT tabN P "_law_makings" DV.w_makings s__law_makings:=⟨["_law_box_here", "_law_machine_here", "_law_most", "_law_sharps", "_law_steps", "_law_tables", "_law_steady", "_law_k", "_law_way", "_law_one", "_law_other", "_law_letter"],["_law_box_here", "_law_machine_here", "_law_most", "_law_sharps"],by walk_at "sc",rfl,rfl,λ _ _ _ _ _ _=>bd4 (λ _ _ _ _=>rfl),.inl (by decide +kernel)⟩
theorem sc_law:FnScope ["_law_script", "_law_k", "_law_box_here", "_law_machine_here", "_law_makings_here", "_law_due", "_law_found"] ["_law_script"] (defScope s_law):=by walk_at "sc"
theorem m_law:mSs ⟨["_law_script", "_law_k", "_law_box_here", "_law_machine_here", "_law_makings_here", "_law_due", "_law_found"],defScope s_law,λ _ _ _=>false⟩ DV.w_law_k29.body (zU s_law)=true:=by decide +kernel
theorem b_law:BdOk "law" s_law ["_law_script"]:=λ _ _ _ _ _ _=>bd1 λ _=>rfl
theorem t_law:DT tabN P "law" DV.w_law_k29 s_law:=⟨_,_,sc_law,rfl,rfl,b_law,.inl m_law⟩
theorem t_all:∀ p∈tb,DT tabN P p.1 p.2.1 p.2.2:=by
 intro p hp
 unfold tb at hp
 simp only[aD,bA,or_false]at hp
 rcases hp with rfl|rfl|rfl|rfl|rfl|rfl|rfl|rfl|rfl|rfl|rfl|rfl|rfl|rfl|rfl|rfl|rfl|rfl|rfl|rfl|rfl|rfl|rfl|rfl|rfl|rfl|rfl|rfl|rfl|rfl|rfl|rfl|rfl|rfl|rfl
 ·exact t_letters_of
 ·exact t_rooms_of
 ·exact t_doors_of
 ·exact t_is_whole
 ·exact t_is_tuple_of
 ·exact t_is_letter
 ·exact t_grid
 ·exact t_least
 ·exact t_added
 ·exact t_plain
 ·exact t_product
 ·exact t_letter_table
 ·exact t_word_table
 ·exact t_sign_of
 ·exact t_reading
 ·exact t_sign_product
 ·exact t_word_signs
 ·exact t_is_steady
 ·exact t_round_of
 ·exact t_sharpened
 ·exact t_is_ahead
 ·exact t_is_letter_step
 ·exact t_is_pair_step
 ·exact t_is_sharp_step
 ·exact t_signs_made
 ·exact t_signs_of_step
 ·exact t__law_box
 ·exact t__law_draw
 ·exact t__law_form
 ·exact t__law_product
 ·exact t__law_machine
 ·exact jd
 ·exact t__law_sharp
 ·exact t__law_makings
 ·exact t_law
theorem all_mk {l:f7}{w:World}{K:ab}{h:Heap}{mg:Str->Option Value}{fa:Addr}(X:K.In h)(G:h.Ns aV mg)(hfa:mg "law"=some (.ref fa))(hD:∀ p∈tb,DfIn K p.1 p.2.2)(hz:∀ x∈bNames,cb K aV x=some none)
  {ad_LETTERS:Addr} {od_LETTERS:Option Addr} {n_LETTERS:Nat} {sl_LETTERS:Array (Option Value)} {tk0_LETTERS tk1_LETTERS tk2_LETTERS:Tok} (gc_LETTERS:cb K aV "LETTERS"=some (some (.ref ad_LETTERS))) (gl_LETTERS:K.lookup ad_LETTERS=some ⟨.type "tuple",od_LETTERS,.seq #[.str ⟨#[97]⟩ tk0_LETTERS,.str ⟨#[98]⟩ tk1_LETTERS,.str ⟨#[99]⟩ tk2_LETTERS] n_LETTERS,sl_LETTERS⟩)
  {tk_FREE:Tok} (gc_FREE:cb K aV "FREE"=some (some (.int (0) tk_FREE)))
  {tk_SOME:Tok} (gc_SOME:cb K aV "SOME"=some (some (.int (1) tk_SOME)))
  {tk_UNBOUND:Tok} (gc_UNBOUND:cb K aV "UNBOUND"=some (some (.int (2) tk_UNBOUND)))
  {tk_NONE:Tok} (gc_NONE:cb K aV "NONE"=some (some (.int (3) tk_NONE)))
  {tk_MOST_STEPS:Tok} (gc_MOST_STEPS:cb K aV "MOST_STEPS"=some (some (.int (100) tk_MOST_STEPS)))
  (hT:∀ x∈tabN,(be K x).isSome=true) (tnd:decide (((tabsT tabN K).map (·.1)).Nodup)=true)
  : ∃ fd:bI,(∀(s:ae) (v:Value),iR s fd ⟨[v],[]⟩ [("_law_script",v)])/\∀ base:Heap,K.In base->base.Ns aV mg->BM mg base->Codes K tabN base->FnOk l.prog w K mg base CX0 47 fa fd ["_law_script"] (spB tabN K):=by
 have hP:PrOk (gmOf tabN P K) (cdsT tabN K) P mg:=by
  refine⟨λ f d h=>good_tbl (tbl:=tbl) (λ p hp=>?_) f d h,λ x d h=>con_tbl (tbl:=ctbl) ?_ x d h,λ x hx=>PySem.W.mg_none_of X G (hz x hx),fa_ok X G,lg_ok,of_decide_eq_true tnd⟩
  ·obtain⟨r,hr,rfl⟩:=ax.mp hp
   exact good_of X G hT (hD r hr) (t_all r hr)
  ·intro p hp
   unfold ctbl at hp
   simp only[aD,bA,or_false]at hp
   rcases hp with rfl|rfl|rfl|rfl|rfl|rfl
   ·exact con_tup (bT X G gc_LETTERS) gl_LETTERS rfl rfl (show 3<=1000 by decide) (.cons (.str _ _ (by decide)) (.cons (.str _ _ (by decide)) (.cons (.str _ _ (by decide)) (.nil))))
   ·exact con_int (bT X G gc_FREE)
   ·exact con_int (bT X G gc_SOME)
   ·exact con_int (bT X G gc_UNBOUND)
   ·exact con_int (bT X G gc_NONE)
   ·exact con_int (bT X G gc_MOST_STEPS)
 obtain⟨f,od,an,sl,oc,kV,dc,pm,cd,ct,a,l0,c,k⟩:=hD ("law",DV.w_law_k29,s_law) (by unfold tb;simp)
 have e:=hfa.symm.trans (bT X G a)
 cases e
 have F:=fun_mk (st:=s_law) l0 c k
 refine⟨_,λ s v=>.of_eq rfl,λ base _ _ bm hk=>(fn_ok hP (cds_ok hT bm hk) 15 (call_ok hP (cds_ok hT bm hk) 15) (d:=DV.w_law_k29) (f := "law") rfl ⟨F,bT X G a,F.binds b_law⟩ sc_law rfl rfl m_law lkOk_no).imp (λ vs H Q E q=>spT_of (λ ns h=>DV.law29 (P:=P) 7 ns h) vs H Q E (spT_of_B hT q))⟩
noncomputable def nmS:Stmt->Bool
 | .Assign [.Name x _] _ _=>decide (x=("__name__":Str))
 | _=>false
noncomputable def vq:aL:={ PySem.Challenge.pw_leasttolls_k29_tables_made with main:={ (PySem.Challenge.pw_leasttolls_k29_tables_made).main with body:=(PySem.Challenge.pw_leasttolls_k29_tables_made).main.body.filter λ s=>!nmS s } }
end My
end
open PySem PySem.W PyProof.Rows
local macro_rules | `(tactic| o_head $H) => `(tactic| refine L2.head_of (q := My.vq) (loose := ["NoMaking"]) (H := $H) (N := 4000) (λ w => by kernel_rfl) (by rfl) (by rfl) (by rfl) rfl (by assumption) (by decide +kernel) ⟨rfl, rfl, rfl, rfl, rfl, by decide +kernel⟩ ?_ ?_)
set_option maxRecDepth 100000 in
set_option maxHeartbeats 0 in
theorem PySem.Challenge.cw_leasttolls_k29_tables_made_holds : PySem.Challenge.rw_leasttolls_k29_tables_made.Holds := by
 w_on;o_law;k_head;(focus w_witness2)
 k_fill
 refine L2.walk_ofT2 (l:=PySem.Challenge.rw_leasttolls_k29_tables_made) (n:=63) (k:=47) (x := "_law_script") (sp:=L2.spB My.tabN) My.tabN rfl (by decide) rfl ⟨rfl,by decide,by decide⟩ (λ w h Y=>⟨PySem.W.km_in_of Y,PySem.W.km_tabs_of Y⟩) (λ w=>?R) (λ w=>?NT) ?F (λ K H a ns hl hB hS hF=>L2.spB_mk hl hB hS hF)
 case R=>kernel_rfl
 case NT=>kernel_rfl
 case F =>
  intro w mg fa h KX G hmg
  refine' My.all_mk KX G hmg ?hD ?hz ?gc_LETTERS ?gl_LETTERS ?gc_FREE ?gc_SOME ?gc_UNBOUND ?gc_NONE ?gc_MOST_STEPS ?hT ?tnd
  case hD =>
   intro p hp
   unfold My.tb at hp
   simp only[aD,bA,or_false]at hp
   rcases hp with rfl|rfl|rfl|rfl|rfl|rfl|rfl|rfl|rfl|rfl|rfl|rfl|rfl|rfl|rfl|rfl|rfl|rfl|rfl|rfl|rfl|rfl|rfl|rfl|rfl|rfl|rfl|rfl|rfl|rfl|rfl|rfl|rfl|rfl|rfl
   ·walk_at "df"
   ·walk_at "df"
   ·walk_at "df"
   ·walk_at "df"
   ·walk_at "df"
   ·walk_at "df"
   ·walk_at "df"
   ·walk_at "df"
   ·walk_at "df"
   ·walk_at "df"
   ·walk_at "df"
   ·walk_at "df"
   ·walk_at "df"
   ·walk_at "df"
   ·walk_at "df"
   ·walk_at "df"
   ·walk_at "df"
   ·walk_at "df"
   ·walk_at "df"
   ·walk_at "df"
   ·walk_at "df"
   ·walk_at "df"
   ·walk_at "df"
   ·walk_at "df"
   ·walk_at "df"
   ·walk_at "df"
   ·walk_at "df"
   ·walk_at "df"
   ·walk_at "df"
   ·walk_at "df"
   ·walk_at "df"
   ·walk_at "df"
   ·walk_at "df"
   ·walk_at "df"
   ·walk_at "df"
  case hz =>
   intro x hx
   unfold L2.bNames at hx
   simp only[aD,bA,or_false]at hx
   rcases hx with rfl|rfl|rfl|rfl|rfl|rfl|rfl|rfl|rfl|rfl|rfl|rfl|rfl|rfl|rfl|rfl|rfl|rfl<;>k_is
  (case gc_LETTERS=>k_is)
  (case gl_LETTERS=>k_is)
  (case gc_FREE=>k_is)
  (case gc_SOME=>k_is)
  (case gc_UNBOUND=>k_is)
  (case gc_NONE=>k_is)
  (case gc_MOST_STEPS=>k_is)
  case hT =>
   intro x hx
   simp only[My.tabN,aD,bA,or_false]at hx
   rcases hx with rfl|rfl|rfl|rfl|rfl|rfl<;>kernel_rfl
  (case tnd=>kernel_rfl)
